import PyProof.Rows.All
import Wide.All
import OpenK.AllK
import Wide.FinOn
import Lean
import PyProof.EqAt
import PyProof.EqKinds
import PyProof.TupleCall
import PyProof.NeKinds
import KE.KDictSum
import KE.KListLetter
import KE.KIsAll
import KE.KTryMore
import PySem.Challenge.RW_stonebreath_k18_passes_and_ends
set_option Elab.async false
set_option linter.all false
set_option maxHeartbeats 0
set_option maxRecDepth 100000
open PyProof.Rows (boot_isinstance boot_int boot_bool boot_sorted boot_tuple boot_all)
open PySem.F (excBase_ValueError slot_list_pop type_list_pop)
open PySem.Paired (length)
open PySem (sizeLine boot_len)
open PySem.W.Looks (here)
open PySem.EqMixed (eq_bool_str eq_int_str eq_str_bool eq_str_int)
open PySem.EqNone (eq_none_int eq_none_str eq_int_none eq_str_none)
open PySem.W (instObj methodObj hideAll hideAll_get of_hideAll hideAll_none Frag lookIn plainGet hasDictIn findIn handedIn plainGet_of isFn plainOver takerIn set_plain any_some looks_clsIn makesIn typeIn emptyDict bind_fn keepIn mroIn kitOne kia_one kitx_list kitx_dict callWith_K methodCall_KW cellsFrom_some fnOf codeIn kdl_dict excIn tail_of_in kitAny nsIn mg_of mg_none_of)
open List (length_map map_cons length_cons length_append getD_eq_getElem?_getD mem_filter size_toArray mem_range getElem?_eq_getElem mem_append length_nil getElem?_set_ne mem_map mem_singleton all_eq_true getElem?_append_left length_range getElem?_map mem_cons_of_mem mem_cons mem_cons_self mem_append_right mem_append_left map_nil append_nil map_map length_set map_append append_assoc getElem?_append_right lookup_cons getElem?_eq_none length_filter_le getElem?_set_self any_eq_true length_take length_drop nodup_append find?_cons map_congr_left forIn_cons nodup_cons nil_append filter_congr cons_append nodup_range mem_filterMap any_cons take_of_length_le mem_of_getElem? map_drop getElem_mem getElem?_cons_zero filter_nil filter_append set_append_left map_id getElem?_range forIn_nil filter_cons_of_neg contains_cons all_cons take_left of_mem_zip mem_of_find?_eq_some length_singleton filter_cons_of_pos filterMap_cons ext_getElem? take_zero take_sublist set_append_right range_succ_eq_map pairwise_lt_range pairwise_cons not_mem_nil mem_of_mem_drop map_set length_pos_of_mem getElem?_take_of_lt getElem?_replicate getElem?_of_mem getElem?_cons_succ find?_some find?_eq_none exists_mem_of_ne_nil drop_length drop_eq_getElem_cons dropLast_eq_take contains_iff_mem all_map take_range take_append_of_le_length set_cons_succ replicate_succ range_eq_range' range'_succ perm_iff_count pairwise_mergeSort pairwise_map pairwise_iff_getElem nodup_nil nil_perm mergeSort_perm mem_of_mem_take mem_iff_getElem map_take length_replicate length_pos_iff_exists_mem length_erase_of_mem length_eq_zero_iff length_dropLast getElem_of_mem getElem_inj getElem?_zip_eq_some getElem?_set find?_eq_some_iff_append filter_eq_self filterMap_append ext_getElem eraseIdx_cons_succ eraseIdxIfInBounds_toArray eq_nil_or_concat eq_nil_iff_forall_not_mem drop_zero concat_eq_append append_inj_right' any_eq_false all_nil)
open Nat (le_refl ne_of_lt lt_of_lt_of_le le_trans zero_le lt_irrefl le_succ lt_of_le_of_lt sub_self lt_succ_self le_of_lt not_lt_zero ne_of_gt min_eq_left le_add_right mul_le_mul lt_of_succ_lt le_of_eq add_sub_cancel_left add_assoc zero_add not_lt mul_pos mul_le_mul_right mod_lt min_self lt_trichotomy lt_trans lt_succ_of_lt log2_lt le_of_not_lt le_mul_of_pos_right exists_eq_add_of_le add_mul)
open Option (map_some map_eq_some_iff bind_some bind_eq_some_iff getD_some isSome_map isSome_iff_exists getD_none isSome_some)
open Bool (and_eq_true false_eq_true not_eq_true' or_eq_true or_eq_false_iff eq_false_iff not_not not_eq_false' and_eq_false_iff)
open Array (length_toList toArray_toList getElem?_toList forIn_toList mem_toList_iff find?_toList)
open Int (natCast_mul toNat_natCast mul_one sub_zero ofNat_inj fmod_eq_emod_of_nonneg fdiv_eq_ediv_of_nonneg emod_nonneg emod_lt_of_pos)
noncomputable section
namespace L2
open PySem PySem.Spec PyProof.Rows
abbrev Key:=Sum Int Str
def lF:Key->Value->Bool
 | .inl k,v=>Value.isInt k v
 | .inr x,v=>Value.isStrOf x v
def zS(w:World):Key->Int
 | .inl k=>hashInt k
 | .inr x=>hashStr w x
theorem iV:∀{k:Key} {v:Value},lF k v=true->(∃i t,k=Sum.inl i/\v=Value.int i t)\/(∃x t,k=Sum.inr x/\v=Value.str x t)
 | .inl i,v,h=>by
  obtain⟨t,e⟩:=Value.isInt_shape (k:=i) (v:=v) h;exact .inl ⟨i,t,rfl,e⟩
 | .inr x,v,h=>by
  obtain⟨t,e⟩:=Value.isStrOf_shape (x:=x) (v:=v) h;exact .inr ⟨x,t,rfl,e⟩
theorem Gb(i:Int)(t:Tok):lF (.inl i) (.int i t)=true:=by simp[lF,Value.isInt]
theorem F_(x:Str)(t:Tok):lF (.inr x) (.str x t)=true:=by simp[lF,Value.isStrOf]
theorem Ct(a b:Int):decide ((Sum.inl a:Key)=Sum.inl b)=(a==b):=by
 by_cases e:a=b
 ·subst e;simp
 ·have h:¬(Sum.inl a:Key)=Sum.inl b:=fun q=>e (Sum.inl.inj q);rw[decide_eq_false h];exact(beq_eq_false_iff_ne.mpr e).symm
theorem Cs(a b:Str):decide ((Sum.inr a:Key)=Sum.inr b)=decide (a=b):=by
 by_cases e:a=b
 ·subst e;simp
 ·have h:¬(Sum.inr a:Key)=Sum.inr b:=fun q=>e (Sum.inr.inj q);rw[decide_eq_false h,decide_eq_false e]
theorem Cr(a:Int)(b:Str):decide ((Sum.inl a:Key)=Sum.inr b)=false:=decide_eq_false (fun q=>nomatch q)
theorem Cq(a:Str)(b:Int):decide ((Sum.inr a:Key)=Sum.inl b)=false:=decide_eq_false (fun q=>nomatch q)
def e7(prog:Program)(w:World):PySem.KeyKind prog w Key where
 is:=lF
 hash:=zS w
 inj:=fun v a b ha hb=>by
  rcases iV ha with ⟨i,t,rfl,rfl⟩|⟨x,t,rfl,rfl⟩
  ·rcases iV hb with ⟨j,u,rfl,e⟩|⟨y,u,rfl,e⟩
   ·injection e with e1 _;rw[e1]
   ·exact nomatch e
  ·rcases iV hb with ⟨j,u,rfl,e⟩|⟨y,u,rfl,e⟩
   ·exact nomatch e
   ·injection e with e1 _;rw[e1]
 byValue:=fun k v h=>by
  rcases iV h with ⟨i,t,rfl,rfl⟩|⟨x,t,rfl,rfl⟩<;>rfl
 pyHash:=fun hv h=>by
  rcases iV hv with ⟨i,t,rfl,rfl⟩|⟨x,t,rfl,rfl⟩
  ·exact wpAny_pyHash_int h
  ·exact wpAny_pyHash_str h
 eqBool:=fun hu hv h=>by
  rcases iV hu with ⟨i,t,rfl,rfl⟩|⟨x,t,rfl,rfl⟩
  ·rcases iV hv with ⟨j,u,rfl,rfl⟩|⟨y,u,rfl,rfl⟩
   ·rw[Ct] at h;exact wpAny_eqBool_int h
   ·rw[Cr] at h;exact SeqAt.EqAt.int_str i t y u _ _ _ _ h
  ·rcases iV hv with ⟨j,u,rfl,rfl⟩|⟨y,u,rfl,rfl⟩
   ·rw[Cq] at h;exact SeqAt.EqAt.str_int x t j u _ _ _ _ h
   ·rw[Cs] at h;exact wpAny_eqBool_str h
 «strs»:=fun k x t v h=>by
  rcases iV h with ⟨i,u,rfl,e⟩|⟨y,u,rfl,e⟩
  ·exact nomatch e
  ·injection e with e1 _;subst e1;cases v<;>rfl
theorem Hi(prog:Program)(w:World)(i:Int)(t:Tok):(e7 prog w).is (.inl i) (.int i t)=true:=Gb i t
theorem Hh(prog:Program)(w:World)(x:Str)(t:Tok):(e7 prog w).is (.inr x) (.str x t)=true:=F_ x t
inductive V where
 | non|bl (b:Bool)|int (i:Int)|str (x:Str)|byt (b:Array UInt8)|flt (b:UInt64)|ref (a:Addr)|ty (n:String)
 deriving DecidableEq
def RelV:V->Value->Prop
 | .non,u=>u=Value.none
 | .bl b,u=>u=Value.bool b
 | .int i,u=>∃t,u=Value.int i t
 | .str x,u=>∃t,u=Value.str x t
 | .byt b,u=>∃t,u=Value.bytes b t
 | .flt b,u=>∃t,u=Value.float b t
 | .ref a,u=>u=Value.ref a
 | .ty n,u=>u=Value.type n
abbrev Vals:List V->List Value->Prop:=Paired RelV
theorem Vals.length{xs:List V}{us:List Value}(r:Vals xs us):xs.length=us.length:=Paired.length r
theorem Vals.get:∀{xs:List V} {us:List Value} {i:Nat} {x:V},Vals xs us->xs[i]?=some x->∃u,us[i]?=some u/\RelV x u
 | _,_,_,_,.nil,e=>by simp at e
 | _,_,0,_,.cons r _,e=>by simp at e;subst e;exact⟨_,rfl,r⟩
 | _,_,i+1,x,.cons _ t,e=>by
  obtain⟨u,h1,h2⟩:=Vals.get (i:=i) (x:=x) t (by simpa using e);exact⟨u,by simpa using h1,h2⟩
theorem Vals.set{x:V}{u:Value}(r:RelV x u):∀{xs:List V} {us:List Value} (i:Nat),Vals xs us->Vals (xs.set i x) (us.set i u)
 | _,_,_,.nil=>.nil
 | _,_,0,.cons _ t=>.cons r t
 | _,_,i+1,.cons q t=>.cons q (Vals.set r i t)
theorem Vals.append:∀{xs ys:List V} {us ws:List Value},Vals xs us->Vals ys ws->Vals (xs++ys) (us++ws)
 | _,_,_,_,.nil,s=>s
 | _,_,_,_,.cons r t,s=>.cons r (Vals.append t s)
theorem Vals.take:∀{xs:List V} {us:List Value} (n:Nat),Vals xs us->Vals (xs.take n) (us.take n)
 | _,_,0,_=>.nil
 | _,_,_+1,.nil=>.nil
 | _,_,n+1,.cons r t=>.cons r (Vals.take n t)
theorem Vals.drop:∀{xs:List V} {us:List Value} (n:Nat),Vals xs us->Vals (xs.drop n) (us.drop n)
 | _,_,0,r=>r
 | _,_,_+1,.nil=>.nil
 | _,_,n+1,.cons _ t=>Vals.drop n t
def c7:Option V->Option Value->Prop
 | some v,some u=>RelV v u
 | none,none=>True
 | _,_=>False
def KV{κ:Type}:List (κ×V)->List (κ×Value)->Prop:=Paired fun(p:κ×V) (q:κ×Value)=>p.1=q.1/\RelV p.2 q.2
def kV:Key->V
 | .inl i=>.int i
 | .inr x=>.str x
inductive HO where
  | lst (xs:List V)
  | tup (xs:List V)
  | dK (kvs:List (Key×V))|dT (kvs:List (List Key×V))
  | set (S:Int->Bool) (n:Nat)
  | ins (C dx:Addr) (fs:List (Str×V))
  | own (x:Addr)
  | xd (fs:List (Str×V))
  | met (f x:Addr)
  | rng (lo hi:Int)
  | frz (o:Obj) (u:HO)
  | tbl (ps:Array Value)
  | ext (φ:Heap->Prop)
abbrev Hp:=Addr->Option HO
def upd(H:Hp)(a:Addr)(o:HO):Hp:=fun b=>if b=a then some o else H b
variable {H:Hp} {a:Addr} {o:HO}
theorem cU:upd H a o a=some o:=by unfold upd;rw[if_pos rfl]
variable {b:Addr}
theorem bH(h:b≠a):upd H a o b=H b:=by unfold upd;rw[if_neg h]
theorem DO{u:HO}:upd (upd H a o) a u=upd H a u:=by funext b;unfold upd;split<;>rfl
theorem A9{u:HO}(h:H a=some o)(h':H b=some u)(d:o≠u):a≠b:=by intro e;subst e;rw[h] at h';exact d (Option.some.inj h')
theorem ee(h:H a=some o)(h':H b=none):a≠b:=by intro e;subst e;rw[h] at h';cases h'
def fU(h:Heap)(a:Addr)(items:Array Value):Prop:=∃o,h.get? a=some o/\o.cls=.type "tuple" /\ (∃n,o.data=.seq items n)/\o.dict=none
variable {h:Heap}
theorem fU.isTup{items:Array Value}(t:fU h a items):PyProof.Rows.IsTup h a items:=by obtain⟨o,e,c,⟨n,d⟩,_⟩:=t;exact⟨o,e,c,n,d⟩
theorem fU.new(h:Heap)(items:Array Value):fU (h.push { cls:=.type "tuple",data:=.seq items }) h.objs.size items:=⟨_,Heap.get?_push_size _ rfl,rfl,⟨_,rfl⟩,rfl⟩
section
variable (P:Program) (w:World)
def aC(H:Hp)(h:Heap)(a:Addr):HO->Prop
 | .lst xs=>xs.length<=sizeLine/\∃(its:List Value) (n:Nat),Vals xs its/\h.get? a=some { cls:=.type "list",data:=.seq its.toArray n }
 | .tup xs=>xs.length<=sizeLine/\∃its:List Value,Vals xs its/\fU h a its.toArray
 | .dK kvs=>kvs.length<=sizeLine/\(a==sysModules)=false/\∃vs,KV kvs vs/\h.DictOf (e7 P w) a vs
 | .dT kvs=>kvs.length<=sizeLine/\(a==sysModules)=false/\∃xs:List (List Key×Addr×Value),
   Paired (fun(p:List Key×V) (q:List Key×Addr×Value)=>p.1=q.1/\H q.2.1=some (.tup (p.1.map kV))/\RelV p.2 q.2.2) kvs xs /\
   ∃o es ep,h.get? a=some o/\o.ExactDict/\o.data=.dict es ep/\es.toList=xs.map (entryOfKey (tupleKind (e7 P w)))/\(xs.map (·.1)).Nodup
 | .set S n=>h.SetOf (intKind P w) a S n
 | .ins C dx fs=>H dx=some (.own a)/\fs.length<=1000/\dx≠a/\h.get? a=some (instObj C dx) /\
   ∃mA,h.Ns1 dx mA/\(∀f,c7 (fs.lookup f) (mA f))/\PySem.Within mA (fs.map (·.1))
 | .own _=>∃o,h.get? a=some o
 | .xd fs=>∃mA,h.Ns1 a mA/\∀f,c7 (fs.lookup f) (mA f)
 | .rng lo hi=>∃t u v,h.get? a=some { cls:=.type "range",data:=.fields #[.int lo t,.int hi u,.int 1 v] }
 | .frz o u=>h.get? a=some o/\aC H h a u
 | .tbl ps=>h.get? a=some { cls:=.none,data:=.fields ps }
 | .met f x=>h.get? a=some (methodObj (.ref f) (.ref x))
 | .ext φ=>φ h/\(∃o,h.get? a=some o)/\∀h1 h2:Heap,φ h1->(∀o,h1.get? a=some o->h2.get? a=some o)->φ h2
def cg(H:Hp)(h:Heap):Prop:=∀a o,H a=some o->aC P w H h a o
end
variable {P:Program} {w:World} {H':Hp} {h':Heap}
theorem aC.lt(x:aC P w H h a o):a<h.objs.size:=by
 cases o with
 | lst xs=>obtain⟨_,_,_,_,e⟩:=x;exact Heap.lt_size e
 | tup xs=>obtain⟨_,_,_,p⟩:=x;exact(fU.isTup p).lt
 | dK kvs=>obtain⟨_,_,_,_,o,_,_,e,_⟩:=x;exact Heap.lt_size e
 | dT kvs=>obtain⟨_,_,_,_,o,_,_,e,_⟩:=x;exact Heap.lt_size e
 | set S n=>obtain⟨o,_,_,_,e,_⟩:=x;exact Heap.lt_size e
 | ins C dx fs=>obtain⟨_,_,_,e,_⟩:=x;exact Heap.lt_size e
 | own y=>obtain⟨_,e⟩:=x;exact Heap.lt_size e
 | xd fs=>obtain⟨_,⟨_,_,_,e,_⟩,_⟩:=x;exact Heap.lt_size e
 | rng lo hi=>obtain⟨_,_,_,e⟩:=x;exact Heap.lt_size e
 | frz ob u=>obtain⟨e,_⟩:=x;exact Heap.lt_size e
 | tbl ps=>exact Heap.lt_size (show h.get? a=some _ from x)
 | met f y=>exact Heap.lt_size (show h.get? a=some _ from x)
 | ext φ=>obtain⟨_,⟨_,e⟩,_⟩:=x;exact Heap.lt_size e
theorem Paired.mapP{α β:Type}{F G:α->β->Prop}:∀{l₁:List α} {l₂:List β},Paired F l₁ l₂->(∀a b,F a b->G a b)->Paired G l₁ l₂
 | _,_,.nil,_=>.nil
 | _,_,.cons r t,f=>.cons (f _ _ r) (Paired.mapP t f)
theorem aC.stay(x:aC P w H h a o)(k:∀b u,(b=a\/H b=some (.own a))->h.get? b=some u->h'.get? b=some u)(ho:∀b,H b=some (.own a)->H' b=some (.own a))(ht:∀b xs,H b=some (.tup xs)->H' b=some (.tup xs)):aC P w H' h' a o:=by
 induction o with
 | lst xs=>obtain⟨z,its,n,r,e⟩:=x;exact⟨z,its,n,r,k _ _ (.inl rfl) e⟩
 | tup xs=>obtain⟨z,its,r,ob,e,c⟩:=x;exact⟨z,its,r,ob,k _ _ (.inl rfl) e,c⟩
 | dK kvs=>obtain⟨z,y,vs,r,ob,es,ep,e,c⟩:=x;exact⟨z,y,vs,r,ob,es,ep,k _ _ (.inl rfl) e,c⟩
 | dT kvs =>
  obtain⟨z,y,xs,r,ob,es,ep,e,c⟩:=x;exact⟨z,y,xs,Paired.mapP r fun p q z=>⟨z.1,ht _ _ z.2.1,z.2.2⟩,ob,es,ep,k _ _ (.inl rfl) e,c⟩
 | set S n=>obtain⟨ob,es,ep,t,e,c⟩:=x;exact⟨ob,es,ep,t,k _ _ (.inl rfl) e,c⟩
 | ins C dx fs =>
  obtain⟨d,z,ne,e,mA,⟨od,es,ep,e2,c⟩,r⟩:=x;exact⟨ho _ d,z,ne,k _ _ (.inl rfl) e,mA,⟨od,es,ep,k _ _ (.inr d) e2,c⟩,r⟩
 | own y=>obtain⟨ob,e⟩:=x;exact⟨ob,k _ _ (.inl rfl) e⟩
 | xd fs=>obtain⟨mA,⟨od,es,ep,e,c⟩,r⟩:=x;exact⟨mA,⟨od,es,ep,k _ _ (.inl rfl) e,c⟩,r⟩
 | rng lo hi=>obtain⟨t,u,v,e⟩:=x;exact⟨t,u,v,k _ _ (.inl rfl) e⟩
 | frz ob u ih=>obtain⟨e,q⟩:=x;exact⟨k _ _ (.inl rfl) e,ih q⟩
 | tbl ps =>
  have e:h.get? a=some { cls:=.none,data:=.fields ps }:=x;show h'.get? a=some { cls:=.none,data:=.fields ps };exact k a _ (.inl rfl) e
 | met f y =>
  have e:h.get? a=some (methodObj (.ref f) (.ref y)):=x;show h'.get? a=some (methodObj (.ref f) (.ref y));exact k a _ (.inl rfl) e
 | ext φ=>obtain⟨p,⟨o,e⟩,st⟩:=x;exact⟨st _ _ p fun o q=>k _ _ (.inl rfl) q,⟨o,k _ _ (.inl rfl) e⟩,st⟩
theorem cg.lt(x:cg P w H h)(e:H a=some o):a<h.objs.size:=(x a o e).lt
theorem cg.fresh(x:cg P w H h)(e:h.objs.size<=a):H a=none:=by
 cases q:H a with
 | none=>rfl
 | some u=>exact absurd (lt_of_lt_of_le (x.lt q) e) (lt_irrefl _)
theorem cg.kept(x:cg P w H h)(k:∀b u,h.get? b=some u->h'.get? b=some u):cg P w H h':=fun a o e =>
 (x a o e).stay (fun b u _ q=>k b u q) (fun _ q=>q) fun _ _ q=>q
theorem cg.laid(x:cg P w H h)(k:∀b u,h.get? b=some u->h'.get? b=some u)(hp:h.objs.size<=a)(new:aC P w (upd H a o) h' a o):cg P w (upd H a o) h':=fun b u e=>by
 have hn:=x.fresh hp
 by_cases hb:b=a
 ·subst hb;rw[cU] at e;cases e;exact new
 ·rw[bH hb] at e;exact(x b u e).stay (fun c v _ q=>k c v q) (fun c q=>by rw[bH (ee q hn)];exact q) fun c xs q=>by rw[bH (ee q hn)];exact q
def Rd(H:Hp)(a:Addr)(u:HO):Prop:=H a=some u\/∃o,H a=some (.frz o u)
theorem Rd.ok{u:HO}(r:Rd H a u)(x:cg P w H h):aC P w H h a u:=by
 rcases r with r|⟨o,r⟩
 ·exact x a u r
 ·obtain⟨_,q⟩:=x a _ r;exact q
def nO:Option HO->Prop
 | some (.lst _)=>True
 | some (.dK _)=>True
 | some (.dT _)=>True
 | some (.set _ _)=>True
 | some (.ins _ _ _)=>True
 | some (.ext _)=>True
 | _=>False
section
variable {x e:Addr} {o':HO}
theorem cg.write(ok:cg P w H h)(mu:nO (H x))(he:e=x\/H e=some (.own x))(k:∀b u,b≠e->h.get? b=some u->h'.get? b=some u)(heo:∃u,h'.get? e=some u)(new:aC P w (upd H x o') h' x o'):cg P w (upd H x o') h':=fun b u q=>by
 have nown:∀c y,H c=some (.own y)->c≠x:=fun c y r z=>by subst z;rw[r] at mu;exact mu
 have ntup:∀c xs,H c=some (.tup xs)->c≠x:=fun c xs r z=>by subst z;rw[r] at mu;exact mu
 by_cases hb:b=x
 ·subst hb;rw[cU] at q;cases q;exact new
 ·rw[bH hb] at q
  by_cases hbe:b=e
  ·have q':H b=some (.own x):=by
    rcases he with z|z
    ·exact absurd (hbe.trans z) hb
    ·rw[hbe];exact z
   rw[q] at q';cases q';obtain⟨v,hv⟩:=heo;exact⟨v,by rw[hbe];exact hv⟩
  ·refine(ok b u q).stay (fun c v hc r=>k c v ?_ r) (fun c r=>by rw[bH (nown c b r)];exact r) fun c xs r=>by rw[bH (ntup c xs r)];exact r
   rcases hc with rfl|hc
   ·exact hbe
   ·rintro rfl;rcases he with z|z
    ·exact nown c b hc z
    ·rw[hc] at z;cases z;exact hb rfl
end
structure Un (fs ex:List Addr) (H H':Hp) (h h':Heap):Prop where
 keep:∀b o,h.get? b=some o->H b=none->b∉fs->b∉ex->h'.get? b=some o
 slot:∀b o,h.get? b=some o->H b=none->b∈fs->b∉ex->∃sl,h'.get? b=some { o with slots:=sl }
 free:∀b o,h.get? b=some o->H b=none->b∉ex->H' b=none
 there:∀b o,h.get? b=some o->b∉ex->∃o',h'.get? b=some o'
 tups:∀b xs,H b=some (.tup xs)->H' b=some (.tup xs)
 frzs:∀b o u,H b=some (.frz o u)->H' b=some (.frz o u)
 tbls:∀b ps,H b=some (.tbl ps)->∃more,H' b=some (.tbl (ps++more))
section
variable {fs fs' ex ex':List Addr} {H1 H2:Hp} {h1 h2:Heap} {x e:Addr}
theorem Un.any(u:Un fs ex H H1 h h1){ob:Obj}(q:h.get? b=some ob)(n:H b=none)(hx:b∉ex):∃sl,h1.get? b=some { ob with slots:=sl }:=by
 by_cases hb:b∈fs
 ·exact u.slot b ob q n hb hx
 ·exact⟨ob.slots,u.keep b ob q n hb hx⟩
theorem Un.kept(k:∀b u,h.get? b=some u->h'.get? b=some u):Un fs ex H H h h' :=
 ⟨fun b ob q _ _ _=>k b ob q,fun b ob q _ _ _=>⟨ob.slots,k b ob q⟩,fun _ _ _ n _=>n,fun b ob q _=>⟨ob,k b ob q⟩,fun _ _ q=>q,fun _ _ _ q=>q,fun _ ps q=>⟨#[],by rw[q];simp⟩⟩
theorem Un.refl:Un fs ex H H h h:=Un.kept fun _ _ q=>q
theorem Un.laid(k:∀b u,h.get? b=some u->h'.get? b=some u)(hp:h.objs.size<=a)(hn:H a=none):Un fs ex H (upd H a o) h h' where
 keep:=fun b u q _ _ _=>k b u q
 slot:=fun b u q _ _ _=>⟨u.slots,k b u q⟩
 free:=fun b u q n _=>by rw[bH (ne_of_lt (lt_of_lt_of_le (Heap.lt_size q) hp))];exact n
 there:=fun b u q _=>⟨u,k b u q⟩
 tups:=fun b xs q=>by rw[bH (ee q hn)];exact q
 frzs:=fun b u xs q=>by rw[bH (ee q hn)];exact q
 tbls:=fun b ps q=>⟨#[],by rw[bH (ee q hn),q];simp⟩
theorem Un.write(mu:nO (H x))(he:e=x\/H e=some (.own x))(k:∀b u,b≠e->h.get? b=some u->h'.get? b=some u)(heo:∃u,h'.get? e=some u):Un fs ex H (upd H x o) h h':=by
 have hx:∀b,H b=none->b≠x:=fun b n z=>by subst z;rw[n] at mu;exact mu
 have hb:∀b,H b=none->b≠e:=fun b n z=>by
  subst z;rcases he with r|r
  ·exact hx b n r
  ·rw[n] at r;cases r
 have hm:∀b u,H b=some u->¬nO (some u)->b≠x:=fun b u q nm z=>by subst z;rw[q] at mu;exact nm mu
 refine⟨fun b u q n _ _=>k b u (hb b n) q,fun b u q n _ _=>⟨u.slots,k b u (hb b n) q⟩,fun b u q n _=>by rw[bH (hx b n)];exact n,fun b u q _=>?_,
  fun b xs q=>by rw[bH (hm b _ q fun z=>z)];exact q,fun b u xs q=>by rw[bH (hm b _ q fun z=>z)];exact q,fun b ps q=>⟨#[],by rw[bH (hm b _ q fun z=>z),q];simp⟩⟩
 by_cases hbe:b=e
 ·subst hbe;exact heo
 ·exact⟨u,k b u hbe q⟩
end
def pO(h:Heap)(H:Hp):List Addr:=(List.range h.objs.size).filter fun a=>(H a).isSome
def jb(h:Heap)(H:Hp):Heap:=hideAll h (pO h H)
theorem FZ(h:Heap)(H:Hp):(jb h H).objs.size=h.objs.size:=PySem.W.hideAll_size _ _
theorem EZ{o:Obj}(e:h.get? b=some o)(n:H b=none):(jb h H).get? b=some o :=
 hideAll_get _ e fun hm=>by
  have q:(H b).isSome=true:=(mem_filter.mp hm).2;rw[n] at q;simp at q
theorem DN{o:Obj}(e:(jb h H).get? b=some o):h.get? b=some o/\H b=none:=by
 have e':h.get? b=some o:=of_hideAll (pO h H) e;refine⟨e',?_⟩;cases q:H b with
 | none=>rfl
 | some x =>
  have hm:b∈pO h H:=mem_filter.mpr ⟨mem_range.mpr (Heap.lt_size e'),by simp[q]⟩;have z:(jb h H).get? b=none:=hideAll_none (pO h H) hm;rw[z] at e;cases e
def DM(g h:Heap)(L:Addr):List (Addr×Obj):=(List.range h.objs.size).filterMap fun a=>if a=L\/(g.get? a).isSome=true then none else (h.get? a).map fun o=>(a,o)
def rest(g h:Heap)(L d:Addr):List (Addr×Obj):=(DM g h L).filter fun p=>decide (p.1≠d)
structure Mod (K:Frag) (mg:Str->Option Value) (base:Heap):Prop where
 kin:K.In base
 glob:base.Ns mainGlobals mg
 blt:∃mb,base.Ns builtinsNs mb/\∀x:Str,x ≠ "__name__" -> mb x=bootBuiltins x
 nolimit:base.NoLimit
structure Cx where
 prog:Program
 w:World
 K:Frag
 mg:Str->Option Value
 base:Heap
 A:Around
 N:List Str
 s₀:Shared
 H₀:Hp
 env:Env
 outer:List Env
 stack:List Env
 ex:List Addr
 fn:Str->Bool
 calm:Bool
 pn:List (Addr×Obj)
 xe:Value->Shared->Prop
def cW(l:List Env):List Addr:=l.filterMap (·.frame)
abbrev Cx.fs(X:Cx):List Addr:=cW X.outer
def lh(sc:Scope)(x:Str):Prop:=sc.names.lookup x=some .local\/sc.names.lookup x=some .cell\/sc.names.lookup x=some .free
def Loc(sc:Scope)(x:Str):Prop:=sc.names.lookup x=some .local\/sc.names.lookup x=some .cell
def zR(env:Env)(h:Heap)(m:Str->Option Value)(x:Str)(u:Value):Prop :=
 (env.kindOf x=some .local/\m x=some u)\/((env.kindOf x=some .cell\/env.kindOf x=some .free)/\∃c,env.cells.lookup x=some c/\h.IsCell c (some u))
structure Cx.Ok (X:Cx):Prop where
 mod:Mod X.K X.mg X.base
 kind:X.env.scope.kind=.function
 glob:X.env.globals=mainGlobals
 blt:X.env.builtins=builtinsNs
 above:X.s₀.heap.objs.size<=X.env.locals
 inj:∀x y c,X.env.cells.lookup x=some c->X.env.cells.lookup y=some c->x=y
 has:∀x,(X.env.kindOf x=some .cell\/X.env.kindOf x=some .free)->∃c,X.env.cells.lookup x=some c
 cab:∀x c,X.fn x=true->X.env.cells.lookup x=some c->X.s₀.heap.objs.size<=c
 hd:X.calm=true->X.A.handled=none
 frames:X.A.frames=some X.stack
 stk:X.stack=X.outer\/(X.stack=X.env::X.outer/\X.env.frame=some X.env.locals)
 exf:∀b∈X.ex,b≠X.env.locals/\∀x c,X.env.cells.lookup x=some c->c≠b
 bs:∀b o,X.base.get? b=some o->X.s₀.heap.get? b=some o/\X.H₀ b=none
 bsz:X.base.objs.size<=X.s₀.heap.objs.size
 noex:∀b o,X.base.get? b=some o->b∉X.ex
 exfs:∀b∈X.ex,b∉X.fs
 funs:X.s₀.heap.FunFrames X.base X.outer
 frf:∀b∈X.fs,X.H₀ b=none
structure Inv (X:Cx) (pins:List (Addr×Obj)) (σ:List (Option V)) (H:Hp) (s:Shared):Prop where
 ok:X.Ok
 os:s.os=X.s₀.os
 bare:AllBare s.gens
 base:Un X.fs X.ex X.H₀ H X.s₀.heap s.heap
 loc:∃m,s.heap.Ns X.env.locals m/\∀(i:Nat) (x:Str) (v:V),X.N[i]?=some x->σ[i]?=some (some v)->lh X.env.scope x->∃u,RelV v u/\zR X.env s.heap m x u
 cell:∀x c,X.env.cells.lookup x=some c->∃v,s.heap.IsCell c v
 free:H X.env.locals=none
 freeC:∀x c,X.env.cells.lookup x=some c->H c=none
 pin:∀p∈X.pn++pins,s.heap.get? p.1=some p.2/\H p.1=none/\p.1≠X.env.locals/\p.1∉X.fs/\∀v,p.2.data≠.cell v
 hok:cg X.prog X.w H s.heap
 len:σ.length=X.N.length
variable {u:Value} {X:Cx} {pins:List (Addr×Obj)} {s s':Shared} {t' i:Nat} {ch:List Addr} {it:Addr} {N:List Str} {A:Around} {E:Value->Shared->Prop} {v:V}
section
variable {σ:List (Option V)}
theorem Cx.Ok.nofr(ok:X.Ok){o:Obj}(e:X.base.get? b=some o):b∉X.fs:=fun hb=>by
 have:=(ok.funs.mem hb).1;rw[e] at this;cases this
theorem Inv.bs(I:Inv X pins σ H s):∀b o,X.base.get? b=some o->s.heap.get? b=some o/\H b=none:=fun b o e =>
 ⟨I.base.keep b o (I.ok.bs b o e).1 (I.ok.bs b o e).2 (I.ok.nofr e) (I.ok.noex b o e),I.base.free b o (I.ok.bs b o e).1 (I.ok.bs b o e).2 (I.ok.noex b o e)⟩
theorem Inv.bk(I:Inv X pins σ H s):∀b o,X.base.get? b=some o->s.heap.get? b=some o:=fun b o e=>(I.bs b o e).1
theorem Inv.mod(I:Inv X pins σ H s):Mod X.K X.mg X.base:=I.ok.mod
theorem Inv.kIn(I:Inv X pins σ H s):X.K.In s.heap:=I.ok.mod.kin.keeps I.bk
theorem Inv.lt(I:Inv X pins σ H s):X.env.locals<s.heap.objs.size:=let ⟨_,hn,_⟩:=I.loc;hn.lt
theorem Inv.sz(I:Inv X pins σ H s):X.s₀.heap.objs.size<=s.heap.objs.size:=le_trans I.ok.above (le_of_lt I.lt)
theorem Inv.nofs(I:Inv X pins σ H s)(h:s.heap.objs.size<=a):a∉X.fs:=fun hb=>by
 obtain⟨_,o,ho,_⟩:=I.ok.funs.mem hb;exact absurd (lt_of_lt_of_le (Heap.lt_size ho) (le_trans I.sz h)) (lt_irrefl _)
theorem Inv.cne(I:Inv X pins σ H s):∀x c,X.env.cells.lookup x=some c->c≠X.env.locals:=fun x c e z=>by
 obtain⟨v,o,ho,hd⟩:=I.cell x c e;obtain⟨m,⟨o',es,ep,ho',hd',_⟩,_⟩:=I.loc;rw[z,ho'] at ho;cases ho;rw[hd'] at hd;cases hd
theorem Inv.funs(I:Inv X pins σ H s):s.heap.FunFrames X.base X.outer:=by
 have all:∀(l:List Env),(∀b∈cW l,b∈X.fs)->X.s₀.heap.FunFrames X.base l->s.heap.FunFrames X.base l:=by
  intro l
  induction l with
  | nil=>intro _ _;trivial
  | cons env r ih =>
   intro hs hl;obtain⟨hk,⟨L,o,hf,hn,ho,hd⟩,hr⟩:=hl;have hL:L∈X.fs:=hs L (by unfold cW;rw[filterMap_cons,hf];exact mem_cons_self);obtain⟨sl,e⟩:=I.base.slot L o ho (I.ok.frf L hL) hL fun z=>I.ok.exfs L z hL;exact⟨hk,⟨L,_,hf,hn,e,hd⟩,ih (fun b hb=>hs b (by unfold cW;rw[filterMap_cons,hf];exact mem_cons_of_mem _ hb)) hr⟩
 exact all X.outer (fun _ hb=>hb) I.ok.funs
theorem Inv.stack(I:Inv X pins σ H s):s.heap.FunFrames X.base X.stack:=by
 rcases I.ok.stk with e|⟨e,hf⟩
 ·rw[e];exact I.funs
 ·rw[e];obtain⟨m,hn,_⟩:=I.loc;refine .cons (by rw[I.ok.kind];decide) hf hn ?_ I.funs;exact Heap.get?_none_of_le (le_trans I.ok.bsz I.ok.above)
theorem Inv.stkSub(I:Inv X pins σ H s):∀b∈cW X.stack,b∈X.env.locals::X.fs:=fun b hb=>by
 rcases I.ok.stk with e|⟨e,hf⟩
 ·rw[e] at hb;exact mem_cons_of_mem _ hb
 ·rw[e] at hb;unfold cW at hb;rw[filterMap_cons,hf] at hb;exact hb
theorem Inv.stkFree(I:Inv X pins σ H s):∀b∈cW X.stack,H b=none:=fun b hb=>by
 rcases mem_cons.mp (I.stkSub b hb) with e|hb
 ·rw[e];exact I.free
 ·obtain⟨_,o,ho,_⟩:=I.ok.funs.mem hb;exact I.base.free b o ho (I.ok.frf b hb) fun z=>I.ok.exfs b z hb
theorem Inv.step{g':Array GenState}{t':Nat}{d':Drawn}{ch:List Addr}(I:Inv X pins σ H s)(hch:∀b∈ch,(b∈X.ex\/X.s₀.heap.objs.size<=b)/\b≠X.env.locals/\(∀x c,X.env.cells.lookup x=some c->c≠b)/\∀p∈X.pn++pins,p.1≠b)(keep:∀b o,b≠X.env.locals->b∉X.fs->b∉ch->s.heap.get? b=some o->H b=none->h'.get? b=some o)(slot:∀b o,b≠X.env.locals->b∈X.fs->b∉ch->s.heap.get? b=some o->H b=none->∃sl,h'.get? b=some { o with slots:=sl })(free:∀b o,b∉ch->s.heap.get? b=some o->H b=none->H' b=none)(there:∀b o,b∉ch->s.heap.get? b=some o->∃o',h'.get? b=some o')(tups:∀b xs,H b=some (.tup xs)->H' b=some (.tup xs))(frzs:∀b o u,H b=some (.frz o u)->H' b=some (.frz o u))(tbls:∀b ps,H b=some (.tbl ps)->∃more,H' b=some (.tbl (ps++more)))(ns:∀m,s.heap.Ns X.env.locals m->h'.Ns X.env.locals m)(hok:cg X.prog X.w H' h')(hg:AllBare g') :
  Inv X pins σ H' { s with heap:=h',gens:=g',drawn:=d',toks:=t' }:=by
 have neL:∀b o,X.s₀.heap.get? b=some o->b≠X.env.locals:=fun b o e=>ne_of_lt (lt_of_lt_of_le (Heap.lt_size e) I.ok.above);have neC:∀b o,X.s₀.heap.get? b=some o->b∉X.ex->b∉ch:=fun b o e hx hb=>by
  rcases(hch b hb).1 with z|z
  ·exact hx z
  ·exact absurd (lt_of_lt_of_le (Heap.lt_size e) z) (lt_irrefl _)
 have cellK:∀x c,X.env.cells.lookup x=some c->∀v,s.heap.IsCell c v->h'.IsCell c v:=fun x c e v ⟨o,ho,hd⟩=>by
  have nch:c∉ch:=fun z=>(hch c z).2.2.1 x c e rfl
  by_cases hc:c∈X.fs
  ·obtain⟨sl,q⟩:=slot c o (I.cne x c e) hc nch ho (I.freeC x c e);exact⟨_,q,hd⟩
  ·exact⟨o,keep c o (I.cne x c e) hc nch ho (I.freeC x c e),hd⟩
 refine⟨I.ok,I.os,hg,⟨fun b o e n hb hx=>?_,fun b o e n hb hx=>?_,fun b o e n hx=>?_,fun b o e hx=>?_,fun b xs e=>tups b xs (I.base.tups b xs e),fun b o xs e=>frzs b o xs (I.base.frzs b o xs e),fun b ps e=>?_⟩,?_,fun x c e=>?_,?_,fun x c e=>?_,fun p hp=>?_,hok,I.len⟩
 ·exact keep b o (neL b o e) hb (neC b o e hx) (I.base.keep b o e n hb hx) (I.base.free b o e n hx)
 ·obtain⟨sl,e1⟩:=I.base.slot b o e n hb hx;obtain⟨sl',e2⟩:=slot b _ (neL b o e) hb (neC b o e hx) e1 (I.base.free b o e n hx);exact⟨sl',e2⟩
 ·obtain⟨o',e1⟩:=I.base.there b o e hx;exact free b o' (neC b o e hx) e1 (I.base.free b o e n hx)
 ·obtain⟨o',e1⟩:=I.base.there b o e hx;exact there b o' (neC b o e hx) e1
 ·obtain⟨m1,e1⟩:=I.base.tbls b ps e;obtain⟨m2,e2⟩:=tbls b _ e1;exact⟨m1++m2,by rw[e2,Array.append_assoc]⟩
 ·obtain⟨m,hn,hl⟩:=I.loc;refine⟨m,ns m hn,fun i x v e1 e2 e3=>?_⟩;obtain⟨u,r,l⟩:=hl i x v e1 e2 e3;refine⟨u,r,?_⟩;rcases l with l|⟨k,c,e,z⟩
  ·exact .inl l
  ·exact .inr ⟨k,c,e,cellK x c e _ z⟩
 ·obtain⟨v,z⟩:=I.cell x c e;exact⟨v,cellK x c e v z⟩
 ·obtain⟨m,⟨o,_,_,ho,_⟩,_⟩:=I.loc;exact free _ o (fun z=>(hch _ z).2.1 rfl) ho I.free
 ·obtain⟨v,o,ho,hd⟩:=I.cell x c e;exact free c o (fun z=>(hch c z).2.2.1 x c e rfl) ho (I.freeC x c e)
 ·obtain⟨e,n,ne,nf,d⟩:=I.pin p hp;have nch:p.1∉ch:=fun z=>(hch p.1 z).2.2.2 p hp rfl;exact⟨keep p.1 p.2 ne nf nch e n,free p.1 p.2 nch e n,ne,nf,d⟩
theorem Inv.un(I:Inv X pins σ H s)(u:Un X.fs [] H H' s.heap h')(hok:cg X.prog X.w H' h'):Inv X pins σ H' { s with heap:=h',toks:=t' }:=by
 obtain⟨m,⟨o,es,ep,ho,r⟩,_⟩:=id I.loc;obtain⟨sl,hL⟩:=u.any ho I.free (by simp);exact I.step (g':=s.gens) (d':=s.drawn) (ch:=[]) (fun _ z=>nomatch z) (fun b o _ hb _ e n=>u.keep b o e n hb (by simp)) (fun b o _ hb _ e n=>u.slot b o e n hb (by simp)) (fun b o _ e n=>u.free b o e n (by simp)) (fun b o _ e=>u.there b o e (by simp)) u.tups u.frzs u.tbls (fun m' hm=>by
  obtain⟨o',es',ep',ho',r'⟩:=hm;rw[ho] at ho';cases ho';exact⟨_,es',ep',hL,r'⟩) hok I.bare
theorem Inv.call{g':Array GenState}{d':Drawn}(I:Inv X pins σ H s)(u:Un (cW X.stack) ch H H' s.heap h')(hok:cg X.prog X.w H' h')(hg:AllBare g')(hch:∀b∈ch,(b∈X.ex\/X.s₀.heap.objs.size<=b)/\b≠X.env.locals/\(∀x c,X.env.cells.lookup x=some c->c≠b)/\∀p∈X.pn++pins,p.1≠b) :
  Inv X pins σ H' { s with heap:=h',gens:=g',drawn:=d',toks:=t' }:=by
 obtain⟨m,⟨o,es,ep,ho,r⟩,_⟩:=id I.loc;obtain⟨sl,hL⟩:=u.any ho I.free fun z=>(hch _ z).2.1 rfl;exact I.step (ch:=ch) hch (fun b o hL hb hc e n=>u.keep b o e n (fun z=>(mem_cons.mp (I.stkSub b z)).elim hL hb) hc) (fun b o _ _ hc e n=>u.any e n hc) (fun b o hc e n=>u.free b o e n hc) (fun b o hc e=>u.there b o e hc) u.tups u.frzs u.tbls (fun m' hm=>by
  obtain⟨o',es',ep',ho',r'⟩:=hm;rw[ho] at ho';cases ho';exact⟨_,es',ep',hL,r'⟩) hok hg
theorem Inv.turned(I:Inv X pins σ H s)(k:∀b o,b≠it->s.heap.get? b=some o->h'.get? b=some o)(hn:H it=none)(hL:it≠X.env.locals)(h1:it∈X.ex\/X.s₀.heap.objs.size<=it)(h2:∀x c,X.env.cells.lookup x=some c->c≠it)(h3:∀p∈X.pn++pins,p.1≠it):Inv X pins σ H { s with heap:=h',toks:=t' }:=by
 have nit:∀b u,H b=some u->b≠it:=fun b u e z=>by rw[z,hn] at e;cases e
 refine I.step (g':=s.gens) (d':=s.drawn) (ch:=[it]) (fun b hb=>?_) (fun b o _ _ hc e _=>k b o (fun z=>hc (by simp[z])) e) (fun b o _ _ hc e _=>⟨o.slots,k b o (fun z=>hc (by simp[z])) e⟩) (fun _ _ _ _ n=>n)
  (fun b o hc e=>⟨o,k b o (fun z=>hc (by simp[z])) e⟩) (fun _ _ e=>e) (fun _ _ _ e=>e) (fun b ps e=>⟨#[],by rw[e];simp⟩) (fun m hm=>?_) (fun b u e=>?_) I.bare
 ·have e:b=it:=by simpa using hb
  subst e;exact⟨h1,hL,h2,h3⟩
 ·obtain⟨o,es,ep,ho,r⟩:=hm;exact⟨o,es,ep,k _ o (Ne.symm hL) ho,r⟩
 ·refine(I.hok b u e).stay (fun c v hc q=>k c v ?_ q) (fun _ q=>q) fun _ _ q=>q;rcases hc with z|z
  ·rw[z];exact nit b u e
  ·exact nit c _ z
theorem Inv.tok(I:Inv X pins σ H s)(t:Nat):Inv X pins σ H { s with toks:=t }:=I.un (h':=s.heap) (t':=t) Un.refl I.hok
theorem Inv.kept{t':Nat}(I:Inv X pins σ H s)(k:∀b u,s.heap.get? b=some u->h'.get? b=some u):Inv X pins σ H { s with heap:=h',toks:=t' }:=I.un (Un.kept k) (I.hok.kept k)
theorem Inv.laid{a:Addr}{o:HO}{t':Nat}(I:Inv X pins σ H s)(k:∀b u,s.heap.get? b=some u->h'.get? b=some u)(hp:s.heap.objs.size<=a)(new:aC X.prog X.w (upd H a o) h' a o) :
  Inv X pins σ (upd H a o) { s with heap:=h',toks:=t' }:=I.un (Un.laid k hp (I.hok.fresh hp)) (I.hok.laid k hp new)
theorem Inv.write{x e:Addr}{o:HO}{t':Nat}(I:Inv X pins σ H s)(mu:nO (H x))(he:e=x\/H e=some (.own x))(k:∀b u,b≠e->s.heap.get? b=some u->h'.get? b=some u)(heo:∃u,h'.get? e=some u)(new:aC X.prog X.w (upd H x o) h' x o):Inv X pins σ (upd H x o) { s with heap:=h',toks:=t' }:=I.un (Un.write mu he k heo) (I.hok.write mu he k heo new)
theorem Inv.weak{σ':List (Option V)}(I:Inv X pins σ H s)(hl:σ'.length=σ.length)(w:∀(i:Nat) v,σ'[i]?=some (some v)->σ[i]?=some (some v)):Inv X pins σ' H s :=
 ⟨I.ok,I.os,I.bare,I.base,let ⟨m,hn,hl'⟩:=I.loc;⟨m,hn,fun i x v e1 e2 e3=>hl' i x v e1 (w i v e2) e3⟩,I.cell,I.free,I.freeC,I.pin,I.hok,hl.trans I.len⟩
theorem Inv.pins_of{pins':List (Addr×Obj)}(I:Inv X pins σ H s)(h:∀p∈pins',s.heap.get? p.1=some p.2/\H p.1=none/\p.1≠X.env.locals/\p.1∉X.fs/\∀v,p.2.data≠.cell v):Inv X pins' σ H s :=
 ⟨I.ok,I.os,I.bare,I.base,I.loc,I.cell,I.free,I.freeC,fun p hp=>(mem_append.mp hp).elim (fun z=>I.pin p (mem_append_left _ z)) (h p),I.hok,I.len⟩
theorem sF(hN:N.Nodup){j:Nat}{x:Str}(a:N[i]?=some x)(b:N[j]?=some x):i=j:=by obtain⟨h1,e1⟩:=List.getElem?_eq_some_iff.mp a;obtain⟨h2,e2⟩:=List.getElem?_eq_some_iff.mp b;exact(getElem_inj hN).mp (e1.trans e2.symm)
theorem FY{M:Model}{x:Str}{Q:Unit->Shared->Prop}(I:Inv X pins σ H s)(hN:X.N.Nodup)(hi:X.N[i]?=some x)(hx:Loc X.env.scope x)(r:RelV v u)(h:∀s',Inv X pins (σ.set i (some v)) H s'->(∃a,Heap.SameBut a s.heap s'.heap/\(a=X.env.locals\/X.env.cells.lookup x=some a))->Q () s')(hf:X.fn x=true\/X.env.scope.names.lookup x=some .local:=by first|exact .inl rfl|exact .inr rfl|assumption):wpAny M A (storeName X.env x u) Q E s:=by
 obtain⟨m,hn,hl⟩:=id I.loc;have hcls:(X.env.scope.kind==.class||(X.env.scope.kind==.module&&X.env.locals != X.env.globals))=false:=by rw[I.ok.kind];rfl
 have hiσ:i<σ.length:=by rw[I.len];exact(List.getElem?_eq_some_iff.mp hi).1
 have cne:=I.cne;have tracked:∀{a:Addr} {h':Heap},(∃o,s.heap.get? a=some o/\H a=none)->Heap.SameBut a s.heap h'->cg X.prog X.w H h':=fun {a h'} ha hs b ob e=>by
  obtain⟨_,_,hfree⟩:=ha;refine(I.hok b ob e).stay (fun c w' hc q=>(hs.2 c ?_).trans q) (fun _ q=>q) fun _ _ q=>q;rintro rfl;rcases hc with rfl|hc
  ·rw[hfree] at e;cases e
  ·rw[hfree] at hc;cases hc
 rcases hx with hk|hk
 ·refine wpAny_storeName_local hk hn (fun h' hn' hs=>?_) hcls;obtain⟨oL,_,_,hoL,_⟩:=id hn;refine h _ ⟨I.ok,I.os,I.bare,⟨fun b o e n hb hx=>?_,fun b o e n hb hx=>?_,I.base.free,fun b o e hx=>?_,I.base.tups,I.base.frzs,I.base.tbls⟩,⟨_,hn',fun j y v' e1 e2 e3=>?_⟩,fun y c e=>?_,I.free,I.freeC,fun p hp=>?_,tracked ⟨oL,hoL,I.free⟩ hs,by simpa using I.len⟩ ⟨_,hs,.inl rfl⟩
  ·exact(hs.2 b (ne_of_lt (lt_of_lt_of_le (Heap.lt_size e) I.ok.above))).trans (I.base.keep b o e n hb hx)
  ·obtain⟨sl,e1⟩:=I.base.slot b o e n hb hx;exact⟨sl,(hs.2 b (ne_of_lt (lt_of_lt_of_le (Heap.lt_size e) I.ok.above))).trans e1⟩
  ·obtain⟨o',e1⟩:=I.base.there b o e hx;exact⟨o',(hs.2 b (ne_of_lt (lt_of_lt_of_le (Heap.lt_size e) I.ok.above))).trans e1⟩
  ·by_cases hj:j=i
   ·subst hj;rw[hi] at e1;cases e1;rw[getElem?_set_self hiσ] at e2;cases e2;exact⟨u,r,.inl ⟨hk,by simp⟩⟩
   ·rw[getElem?_set_ne (Ne.symm hj)] at e2;obtain⟨u',r',q⟩:=hl j y v' e1 e2 e3;refine⟨u',r',?_⟩;rcases q with ⟨k,e⟩|⟨k,c,e,z⟩
    ·refine .inl ⟨k,?_⟩;have:y≠x:=fun e=>hj (sF hN e1 (e▸hi));simp[this,e]
    ·exact .inr ⟨k,c,e,z.sameBut hs (cne y c e)⟩
  ·obtain⟨w',z⟩:=I.cell y c e;exact⟨w',z.sameBut hs (cne y c e)⟩
  ·obtain⟨e,n,ne,nf,d⟩:=I.pin p hp;exact⟨(hs.2 p.1 ne).trans e,n,ne,nf,d⟩
 ·have hfn:X.fn x=true:=by
   rcases hf with z|z
   ·exact z
   ·rw[z] at hk;cases hk
  obtain⟨c,hc⟩:=I.ok.has x (.inl hk);obtain⟨w',z⟩:=I.cell x c hc;refine wpAny_storeName_cell I.ok.kind hk hc z (fun h' hc' hs=>?_);obtain⟨oc,hoc,hocd⟩:=id z;refine h { s with heap:=h' } ⟨I.ok,I.os,I.bare,⟨fun b o e n hb hx=>?_,fun b o e n hb hx=>?_,I.base.free,fun b o e hx=>?_,I.base.tups,I.base.frzs,I.base.tbls⟩,⟨m,hn.sameBut hs (Ne.symm (cne x c hc)),fun j y v' e1 e2 e3=>?_⟩,fun y c' e=>?_,I.free,I.freeC,fun p hp=>?_,tracked ⟨oc,hoc,I.freeC x c hc⟩ hs,by simpa using I.len⟩ ⟨c,hs,.inr hc⟩
  ·exact(hs.2 b (ne_of_lt (lt_of_lt_of_le (Heap.lt_size e) (I.ok.cab x c hfn hc)))).trans (I.base.keep b o e n hb hx)
  ·obtain⟨sl,e1⟩:=I.base.slot b o e n hb hx;exact⟨sl,(hs.2 b (ne_of_lt (lt_of_lt_of_le (Heap.lt_size e) (I.ok.cab x c hfn hc)))).trans e1⟩
  ·obtain⟨o',e1⟩:=I.base.there b o e hx;exact⟨o',(hs.2 b (ne_of_lt (lt_of_lt_of_le (Heap.lt_size e) (I.ok.cab x c hfn hc)))).trans e1⟩
  ·by_cases hj:j=i
   ·subst hj;rw[hi] at e1;cases e1;rw[getElem?_set_self hiσ] at e2;cases e2;exact⟨u,r,.inr ⟨.inl hk,c,hc,hc'⟩⟩
   ·rw[getElem?_set_ne (Ne.symm hj)] at e2;obtain⟨u',r',q⟩:=hl j y v' e1 e2 e3;refine⟨u',r',?_⟩;rcases q with q|⟨k,c',e,z'⟩
    ·exact .inl q
    ·refine .inr ⟨k,c',e,z'.sameBut hs ?_⟩;rintro rfl;exact hj (sF hN e1 (I.ok.inj _ _ _ e hc▸hi))
  ·by_cases hcc:c'=c
   ·subst hcc;exact⟨_,hc'⟩
   ·obtain⟨w2,z2⟩:=I.cell y c' e;exact⟨w2,z2.sameBut hs hcc⟩
  ·obtain⟨e,n,ne,nf,d⟩:=I.pin p hp;refine⟨(hs.2 p.1 ?_).trans e,n,ne,nf,d⟩;intro q;rw[q,hoc] at e;have q':oc=p.2:=Option.some.inj e;exact d w' (by rw[<- q'];exact hocd)
theorem pv{M:Model}{x:Str}{Q:Unit->Shared->Prop}(I:Inv X pins σ H s)(hN:X.N.Nodup)(hi:X.N[i]?=some x)(hx:Loc X.env.scope x)(r:RelV v u)(h:∀s',Inv X pins (σ.set i (some v)) H s'->Q () s')(hf:X.fn x=true\/X.env.scope.names.lookup x=some .local:=by first|exact .inl rfl|exact .inr rfl|assumption):wpAny M A (storeName X.env x u) Q E s :=
 FY I hN hi hx r (fun s' I' _=>h s' I') hf
theorem Inv.call'(I:Inv X pins σ H s)(ho:s'.os=s.os)(u:Un (cW X.stack) ch H H' s.heap s'.heap)(hok:cg X.prog X.w H' s'.heap)(hg:AllBare s'.gens)(hch:∀b∈ch,(b∈X.ex\/X.s₀.heap.objs.size<=b)/\b≠X.env.locals/\(∀x c,X.env.cells.lookup x=some c->c≠b)/\∀p∈X.pn++pins,p.1≠b):Inv X pins σ H' s':=by obtain⟨h',g',d',t',o'⟩:=s';have e:o'=s.os:=ho;subst e;exact I.call (g':=g') (t':=t') (d':=d') u hok hg hch
end
abbrev XK:=Value->Option Addr->Hp->Prop
abbrev St:=List (Option V)
abbrev VK:=V->Hp->Prop
abbrev TE:=St->Hp->VK->Prop
abbrev TT:=St->Hp->(Bool->Hp->Prop)->Prop
abbrev TA:=St->Hp->(List V->Hp->Prop)->Prop
structure Ends where
 nx:St->Hp->Prop
 rt:VK
 bk:St->Hp->Prop:=fun _ _=>False
 ct:St->Hp->Prop:=fun _ _=>False
abbrev TS:=Ends->St->Hp->Prop
def EP(X:Cx)(pins:List (Addr×Obj))(σ:St)(Q:VK)(u:Value)(s':Shared):Prop:=∃v H',Inv X pins σ H' s'/\RelV v u/\Q v H'
def TP(X:Cx)(pins:List (Addr×Obj))(σ:St)(Q:Bool->Hp->Prop)(b:Bool)(s':Shared):Prop:=∃H',Inv X pins σ H' s'/\Q b H'
def AP(X:Cx)(pins:List (Addr×Obj))(σ:St)(Q:List V->Hp->Prop)(us:List Value)(s':Shared):Prop:=∃vs H',Inv X pins σ H' s'/\Vals vs us/\Q vs H'
def SP(X:Cx)(pins:List (Addr×Obj))(D:Ends)(f:Flow)(s':Shared):Prop :=
 match f with
 | .next=>∃σ' H',Inv X pins σ' H' s'/\D.nx σ' H'
 | .brk=>∃σ' H',Inv X pins σ' H' s'/\D.bk σ' H'
 | .cont=>∃σ' H',Inv X pins σ' H' s'/\D.ct σ' H'
 | .ret u=>∃v σ' H',Inv X pins σ' H' s'/\RelV v u/\D.rt v H'
def PE(X:Cx)(e:Expr)(t:TE):Prop :=
 ∀(pins:List (Addr×Obj)) (s:Shared) (σ:St) (H:Hp) (Q:VK),Inv X pins σ H s->t σ H Q->wpAny (model X.prog X.w) X.A (eval e X.env) (EP X pins σ Q) X.xe s
def PT(X:Cx)(e:Expr)(t:TT):Prop :=
 ∀(pins:List (Addr×Obj)) (s:Shared) (σ:St) (H:Hp) (Q:Bool->Hp->Prop),Inv X pins σ H s->t σ H Q->wpAny (model X.prog X.w) X.A (isTrue e X.env (eval e X.env)) (TP X pins σ Q) X.xe s
def PW(X:Cx)(e:Expr)(t:TT):Prop :=
 ∀(whole:Sem Value) (pins:List (Addr×Obj)) (s:Shared) (σ:St) (H:Hp) (Q:Bool->Hp->Prop),Inv X pins σ H s->t σ H Q->wpAny (model X.prog X.w) X.A (isTrue e X.env whole) (TP X pins σ Q) X.xe s
variable {e:Expr}
theorem PW.pt{t:TT}(h:PW X e t):PT X e t:=h _
def PA(X:Cx)(es:List Expr)(t:TA):Prop :=
 ∀(pos:Pos) (pins:List (Addr×Obj)) (s:Shared) (σ:St) (H:Hp) (Q:List V->Hp->Prop),Inv X pins σ H s->t σ H Q->wpAny (model X.prog X.w) X.A (spliced (backTo pos (starEach es X.env))) (AP X pins σ Q) X.xe s
def PS(X:Cx)(st:Stmt)(t:TS):Prop :=
 ∀(pins:List (Addr×Obj)) (s:Shared) (σ:St) (H:Hp) (D:Ends),Inv X pins σ H s->t D σ H->wpAny (model X.prog X.w) X.A (exec st X.env) (SP X pins D) X.xe s
def PSs(X:Cx)(st:List Stmt)(t:TS):Prop :=
 ∀(pins:List (Addr×Obj)) (s:Shared) (σ:St) (H:Hp) (D:Ends),Inv X pins σ H s->t D σ H->wpAny (model X.prog X.w) X.A (execs st X.env) (SP X pins D) X.xe s
theorem aK{α:Type}{t:Sem α}{Q Q':α->Shared->Prop}{M:Model}(h:wpAny M A t Q E s)(hQ:∀a s,Q a s->Q' a s):wpAny M A t Q' E s:=wpAny_mono h hQ fun _ _ x=>x
variable {Q:Value->Shared->Prop} {pos:Pos} {ta tb:TE} {op:CmpOp} {c:Expr}
section
def zQ(i:Nat):TE:=fun σ H Q=>∃v,σ[i]?=some (some v)/\Q v H
def tC(v:V):TE:=fun _ H Q=>Q v H
theorem lW{x:Str}(hN:X.N[i]?=some x)(hv:lh X.env.scope x)(hd:(x==("__debug__" : Str))=false:=by decide)(hcd:(x==("__classdict__" : Str))=false:=by decide):PE X (.Name x pos) (zQ i):=by
 intro pins s σ H Q I h;obtain⟨v,e,h⟩:=h;obtain⟨m,hn,hl⟩:=I.loc;obtain⟨u,r,l⟩:=hl i x v hN e hv;have fin:EP X pins σ Q u s:=⟨v,H,I,r,h⟩
 rcases l with ⟨hk,hm⟩|⟨hk,c,hc,hcell⟩
 ·exact wpAny_Name (wpAny_loadName_local I.ok.kind hk hn hm fin) hd
 ·rcases hk with hk|hk
  ·exact wpAny_Name (wpAny_loadName_cell I.ok.kind hk hc hcell fin) hd
  ·exact wpAny_Name (wpAny_loadName_free I.ok.kind hk hc hcell fin hcd) hd
theorem Cp{i j pos}:PE X (.Constant (.int i) j pos) (tC (.int i)):=fun _ _ _ H _ I h=>wpAny_Constant_int ⟨.int i,H,I.tok _,⟨_,rfl⟩,h⟩
theorem A8{b j pos}:PE X (.Constant (.bool b) j pos) (tC (.bl b)):=fun _ _ _ H _ I h=>Constant_bool ⟨.bl b,H,I,rfl,h⟩
theorem Co{j pos}:PE X (.Constant .none j pos) (tC .non):=fun _ _ _ H _ I h=>Constant_none ⟨.non,H,I,rfl,h⟩
theorem Cm{x j pos}:PE X (.Constant (.str x) j pos) (tC (.str x)):=fun _ _ _ H _ I h=>Calls.Constant_str ⟨.str x,H,I.tok _,⟨_,rfl⟩,h⟩
def Gl(X:Cx)(x:Str):Prop:=X.env.kindOf x=some .globalImplicit
theorem iS{σ:St}{x:Str}(I:Inv X pins σ H s)(hg:Gl X x)(hm:X.mg x=some u)(h:Q u s)(hd:(x==("__debug__" : Str))=false:=by decide):wpAny (model X.prog X.w) X.A (eval (.Name x pos) X.env) Q E s :=
 Calls.Name_function_global I.ok.kind hg (Calls.loadGlobal_global (by rw[I.ok.glob];exact I.mod.glob.keeps I.bk) hm h) hd
theorem nc{σ:St}{x:Str}(I:Inv X pins σ H s)(hg:Gl X x)(hm:X.mg x=none)(hv:bootBuiltins x=some u)(h:Q u s)(hn:x ≠ "__name__" := by decide)(hd:(x==("__debug__" : Str))=false:=by decide):wpAny (model X.prog X.w) X.A (eval (.Name x pos) X.env) Q E s:=by obtain⟨mb,h1,h2⟩:=I.mod.blt;exact Calls.Name_function_global I.ok.kind hg (Calls.loadGlobal_builtin (by rw[I.ok.glob];exact I.mod.glob.keeps I.bk) hm (by rw[I.ok.blt];exact h1.keeps I.bk) ((h2 x hn).trans hv) h) hd
theorem rP{x:Str}(hg:Gl X x)(hm:X.mg x=some u)(r:RelV v u)(hd:(x==("__debug__" : Str))=false:=by decide):PE X (.Name x pos) (tC v) :=
 fun _ _ _ H _ I h=>iS I hg hm ⟨v,H,I,r,h⟩ hd
theorem wR{x:Str}(hg:Gl X x)(hm:X.mg x=none)(hv:bootBuiltins x=some u)(r:RelV v u)(hn:x ≠ "__name__" := by decide)(hd:(x==("__debug__" : Str))=false:=by decide):PE X (.Name x pos) (tC v) :=
 fun _ _ _ H _ I h=>nc I hg hm hv ⟨v,H,I,r,h⟩ hn hd
variable {a b:Expr}
def PC(X:Cx)(op:CmpOp)(a b:Expr)(t:TE):Prop :=
 ∀(pins:List (Addr×Obj)) (s:Shared) (σ:St) (H:Hp) (Q:VK),Inv X pins σ H s->t σ H Q ->
  wpAny (model X.prog X.w) X.A (eval a X.env) (fun v s₁=>wpAny (model X.prog X.w) X.A (eval b X.env) (fun u s₂=>wpAny (model X.prog X.w) X.A (compareOp op v u) (EP X pins σ Q) X.xe s₂) X.xe s₁) X.xe s
theorem xP(b:Expr)(h:op≠.In)(h2:op≠.NotIn):behindInMarks op b=false:=by
 have e1:(op==CmpOp.In)=false:=by cases op<;>first|rfl|exact absurd rfl h
 have e2:(op==CmpOp.NotIn)=false:=by cases op<;>first|rfl|exact absurd rfl h2
 cases b<;>simp[behindInMarks,e1,e2]
def zP(ta:TE):TE:=fun σ H Q=>ta σ H fun x H1=>Q (.bl (decide (x=.non))) H1
def A7(ta:TE):TE:=fun σ H Q=>ta σ H fun x H1=>Q (.bl (!decide (x=.non))) H1
theorem RelV.none_iff{x:V}{v:Value}(r:RelV x v):(v==Value.none)=decide (x=.non):=by
 cases x with
 | non=>cases r;rfl
 | bl _=>cases r;rfl
 | int _=>obtain⟨t,rfl⟩:=r;rfl
 | str _=>obtain⟨t,rfl⟩:=r;rfl
 | byt _=>obtain⟨t,rfl⟩:=r;rfl
 | flt _=>obtain⟨t,rfl⟩:=r;rfl
 | ref _=>cases r;rfl
 | ty _=>cases r;rfl
theorem Ck{j pos'}(ha:PE X a ta):PC X .Is a (.Constant .none j pos') (zP ta):=by intro pins s σ H Q I h;refine aK (ha pins s σ H _ I h) fun v s1 ⟨x,H1,I1,r1,q1⟩=>?_;exact Constant_none (is_none_gen ⟨.bl _,H1,I1,by rw[r1.none_iff];rfl,q1⟩)
theorem wQ{j pos'}(ha:PE X a ta):PC X .IsNot a (.Constant .none j pos') (A7 ta):=by intro pins s σ H Q I h;refine aK (ha pins s σ H _ I h) fun v s1 ⟨x,H1,I1,r1,q1⟩=>?_;exact Constant_none (isnot_none_gen ⟨.bl _,H1,I1,by rw[r1.none_iff];rfl,q1⟩)
def tB(t:TE):TT:=fun σ H Q=>t σ H fun x H1=>∃c,x=.bl c/\Q c H1
theorem Cj{t:TE}(h:PC X op a b t)(h1:behindInMarks op b=false:=by first|exact xP _ (by decide) (by decide)|rfl):PE X (.Compare a [op] [b] pos) t:=fun pins s σ H Q I hw=>wpAny_Compare1 (h pins s σ H Q I hw) h1
theorem Ci{t:TE}(h:PC X op a b t)(h1:behindInMarks op b=false:=by first|exact xP _ (by decide) (by decide)|rfl):PT X (.Compare a [op] [b] pos) (tB t):=by intro pins s σ H Q I hw;refine wpAny_isTrue_Compare1 (aK (h pins s σ H _ I hw) fun v s1 h1=>aK h1 fun u s2 h2=>aK h2 fun c s3 ⟨x,H1,I1,r1,q1⟩=>?_) h1;obtain⟨d,rfl,q⟩:=q1;cases r1;exact wpAny_truthy_bool ⟨H1,I1,q⟩
theorem Cg{t:TE}(h:PE X e t)(he:∀whole,isTrue e X.env whole=(do let v <- whole;standAt e.pos;holding [v] (truthy v)):=by intro _;rfl):PT X e (tB t):=by intro pins s σ H Q I hw;refine isTrue_plain (aK (h pins s σ H _ I hw) fun v s1 ⟨x,H1,I1,r1,q1⟩=>?_) (he _);obtain⟨d,rfl,q⟩:=q1;cases r1;exact wpAny_truthy_bool ⟨H1,I1,q⟩
variable {tA tB':TT} {rest:List Expr}
def zO(t u:TT):TT:=fun σ H Q=>t σ H fun c H1=>if c=true then u σ H1 Q else Q false H1
def H_(t u:TT):TT:=fun σ H Q=>t σ H fun c H1=>if c=true then Q true H1 else u σ H1 Q
def zN(t:TT):TT:=fun σ H Q=>t σ H fun c H1=>Q (!c) H1
theorem DL(ha:PT X a tA):PW X (.BoolOp .And [a] pos) tA:=by
 intro wh pins s σ H Q I h;refine isTrue_and (aK (ha pins s σ H Q I h) fun c s1 e=>?_);cases c with
 | true=>exact isTrue_and_nil e
 | false=>exact e
theorem Cf(ha:PT X a tA):PW X (.BoolOp .Or [a] pos) tA:=by
 intro wh pins s σ H Q I h;refine isTrue_or (aK (ha pins s σ H Q I h) fun c s1 e=>?_);cases c with
 | false=>exact isTrue_or_nil e
 | true=>exact e
theorem Cd(ha:PT X a tA)(hb:PW X (.BoolOp .And (b::rest) pos) tB'):PW X (.BoolOp .And (a::b::rest) pos) (zO tA tB'):=by
 intro wh pins s σ H Q I h;refine isTrue_and (aK (ha pins s σ H _ I h) fun c s1 ⟨H1,I1,q1⟩=>?_);cases c with
 | true=>exact hb wh pins s1 σ H1 Q I1 q1
 | false=>exact⟨H1,I1,q1⟩
theorem A6(ha:PT X a tA)(hb:PW X (.BoolOp .Or (b::rest) pos) tB'):PW X (.BoolOp .Or (a::b::rest) pos) (H_ tA tB'):=by
 intro wh pins s σ H Q I h;refine isTrue_or (aK (ha pins s σ H _ I h) fun c s1 ⟨H1,I1,q1⟩=>?_);cases c with
 | true=>exact⟨H1,I1,q1⟩
 | false=>exact hb wh pins s1 σ H1 Q I1 q1
theorem Cc(ha:PT X a tA):PT X (.UnaryOp .Not a pos) (zN tA):=by intro pins s σ H Q I h;exact isTrue_not (ha pins s σ H (fun c H1=>Q (!c) H1) I h)
def A5(ta tb:TE):TE:=fun σ H Q=>ta σ H fun x H1=>∃c,x=.bl c/\if c=true then tb σ H1 Q else Q (.bl false) H1
def zM(ta tb:TE):TE:=fun σ H Q=>ta σ H fun x H1=>∃c,x=.bl c/\if c=true then Q (.bl true) H1 else tb σ H1 Q
def A4(ta:TE):TE:=fun σ H Q=>ta σ H fun x H1=>∃c,x=.bl c/\Q (.bl (!c)) H1
theorem Cb{op}{t:TE}(h:PE X a t):PE X (.BoolOp op [a] pos) t:=fun pins s σ H Q I hw=>BoolOp_one (h pins s σ H Q I hw)
theorem Ca(ha:PE X a ta)(hb:PE X (.BoolOp .And (b::rest) pos) tb):PE X (.BoolOp .And (a::b::rest) pos) (A5 ta tb):=by
 intro pins s σ H Q I h;refine BoolOp_and (aK (ha pins s σ H _ I h) fun v s1 ⟨x,H1,I1,r1,q1⟩=>?_);obtain⟨c,rfl,q1⟩:=q1;cases r1;refine wpAny_truthy_bool ?_;cases c with
 | true=>exact hb pins s1 σ H1 Q I1 q1
 | false=>exact⟨.bl false,H1,I1,rfl,q1⟩
theorem A3(ha:PE X a ta)(hb:PE X (.BoolOp .Or (b::rest) pos) tb):PE X (.BoolOp .Or (a::b::rest) pos) (zM ta tb):=by
 intro pins s σ H Q I h;refine BoolOp_or (aK (ha pins s σ H _ I h) fun v s1 ⟨x,H1,I1,r1,q1⟩=>?_);obtain⟨c,rfl,q1⟩:=q1;cases r1;refine wpAny_truthy_bool ?_;cases c with
 | false=>exact hb pins s1 σ H1 Q I1 q1
 | true=>exact⟨.bl true,H1,I1,rfl,q1⟩
theorem B_(ha:PE X a ta):PE X (.UnaryOp .Not a pos) (A4 ta):=by intro pins s σ H Q I h;refine UnaryOp_ (aK (ha pins s σ H _ I h) fun v s1 ⟨x,H1,I1,r1,q1⟩=>?_);obtain⟨c,rfl,q1⟩:=q1;cases r1;exact not_of (wpAny_truthy_bool ⟨.bl (!c),H1,I1,rfl,q1⟩)
def Ia(t:TT)(ta tb:TE):TE:=fun σ H Q=>t σ H fun c H1=>if c=true then ta σ H1 Q else tb σ H1 Q
theorem EY(hc:PT X c tA)(ha:PE X a ta)(hb:PE X b tb):PE X (.IfExp c a b pos) (Ia tA ta tb):=by
 intro pins s σ H Q I h;refine wpAny_IfExp (aK (hc pins s σ H _ I h) fun d s1 ⟨H1,I1,q1⟩=>?_);cases d with
 | true=>exact ha pins s1 σ H1 Q I1 q1
 | false=>exact hb pins s1 σ H1 Q I1 q1
end
def cP(K:Frag)(H:Hp)(a:Addr)(xs:List V):Prop :=
 Rd H a (.lst xs) \/
  ∃(o:Obj) (its:Array Value) (n:Nat),K.lookup a=some o/\o.cls=.type "list" /\ o.dict=none/\o.data=.seq its n/\its.size<=sizeLine/\Vals xs its.toList
def eI(K:Frag)(H:Hp)(a:Addr)(xs:List V):Prop :=
 Rd H a (.tup xs) \/
  ∃(o:Obj) (its:Array Value) (n:Nat),K.lookup a=some o/\o.cls=.type "tuple" /\ o.data=.seq its n/\its.size<=sizeLine/\Vals xs its.toList
def zL:Value->Option V
 | .none=>some .non
 | .bool b=>some (.bl b)
 | .int i _=>some (.int i)
 | .str x _=>some (.str x)
 | .bytes b _=>some (.byt b)
 | .float b _=>some (.flt b)
 | .ref a=>some (.ref a)
 | .type n=>some (.ty n)
 | _=>none
theorem RelV.abs{x:V}(r:RelV x u):zL u=some x:=by
 cases x with
 | non=>cases r;rfl
 | bl _=>cases r;rfl
 | int _=>obtain⟨t,rfl⟩:=r;rfl
 | str _=>obtain⟨t,rfl⟩:=r;rfl
 | byt _=>obtain⟨t,rfl⟩:=r;rfl
 | flt _=>obtain⟨t,rfl⟩:=r;rfl
 | ref _=>cases r;rfl
 | ty _=>cases r;rfl
theorem RelV.inj{x y:V}{u:Value}(r:RelV x u)(q:RelV y u):x=y:=Option.some.inj (r.abs.symm.trans q.abs)
theorem Vals.inj:∀{xs ys:List V} {us:List Value},Vals xs us->Vals ys us->xs=ys
 | _,_,_,.nil,.nil=>rfl
 | _,_,_,.cons r t,.cons r' t'=>by rw[r.inj r',Vals.inj t t']
variable {xs:List V}
section
variable {σ:St} {ys:List V}
theorem Inv.list(I:Inv X pins σ H s)(h:cP X.K H a xs):∃its:List Value,Vals xs its/\PlainL s.heap a its.toArray/\xs.length<=sizeLine:=by
 rcases h with h|⟨o,its,n,hk,hc,hd,hs,hz,r⟩
 ·obtain⟨z,its,n,r,e⟩:=h.ok I.hok;exact⟨its,r,⟨_,n,e,rfl,rfl,rfl⟩,z⟩
 ·refine⟨its.toList,r,⟨o,n,I.kIn a o hk,hc,hd,by simpa using hs⟩,?_⟩;have e:=r.length;simp only[length_toList] at e;omega
theorem Inv.tuple(I:Inv X pins σ H s)(h:eI X.K H a xs):∃its:List Value,Vals xs its/\IsTup s.heap a its.toArray/\xs.length<=sizeLine:=by
 rcases h with h|⟨o,its,n,hk,hc,hs,hz,r⟩
 ·obtain⟨z,its,r,p⟩:=h.ok I.hok;exact⟨its,r,p.isTup,z⟩
 ·refine⟨its.toList,r,⟨o,I.kIn a o hk,hc,n,by simpa using hs⟩,?_⟩;have e:=r.length;simp only[length_toList] at e;omega
theorem Inv.list_inj(I:Inv X pins σ H s)(h:cP X.K H a xs)(h':cP X.K H a ys):xs=ys:=by
 obtain⟨its,r,⟨o,n,e,_,_,d⟩,_⟩:=I.list h;obtain⟨its',r',⟨o',n',e',_,_,d'⟩,_⟩:=I.list h';rw[e] at e';cases e';rw[d] at d';injection d' with d1 _;have:its=its':=by simpa using congrArg Array.toList d1
 subst this;exact r.inj r'
theorem Inv.tuple_inj(I:Inv X pins σ H s)(h:eI X.K H a xs)(h':eI X.K H a ys):xs=ys:=by
 obtain⟨its,r,⟨o,e,_,n,d⟩,_⟩:=I.tuple h;obtain⟨its',r',⟨o',e',_,n',d'⟩,_⟩:=I.tuple h';rw[e] at e';cases e';rw[d] at d';injection d' with d1 _;have:its=its':=by simpa using congrArg Array.toList d1
 subst this;exact r.inj r'
end
abbrev Cx.wish(X:Cx)(E:Value->Shared->Prop):Cx:={ X with xe:=E }
abbrev Cx.nox(X:Cx):Cx:=X.wish fun _ _=>False
theorem Cx.Ok.wish(ok:X.Ok)(E:Value->Shared->Prop):(X.wish E).Ok :=
 ⟨ok.mod,ok.kind,ok.glob,ok.blt,ok.above,ok.inj,ok.has,ok.cab,ok.hd,ok.frames,ok.stk,ok.exf,ok.bs,ok.bsz,ok.noex,ok.exfs,ok.funs,ok.frf⟩
theorem Cx.Ok.unwish(ok:(X.wish E).Ok):X.Ok :=
 ⟨ok.mod,ok.kind,ok.glob,ok.blt,ok.above,ok.inj,ok.has,ok.cab,ok.hd,ok.frames,ok.stk,ok.exf,ok.bs,ok.bsz,ok.noex,ok.exfs,ok.funs,ok.frf⟩
section
variable {σ:St}
theorem Inv.wish(I:Inv X pins σ H s)(E:Value->Shared->Prop):Inv (X.wish E) pins σ H s:=⟨I.ok.wish E,I.os,I.bare,I.base,I.loc,I.cell,I.free,I.freeC,I.pin,I.hok,I.len⟩
theorem Inv.unwish(I:Inv (X.wish E) pins σ H s):Inv X pins σ H s:=⟨I.ok.unwish,I.os,I.bare,I.base,I.loc,I.cell,I.free,I.freeC,I.pin,I.hok,I.len⟩
end
variable {te:TE} {tc:TT}
section
variable {st:Stmt} {rest:List Stmt} {t u:TS}
def A2:TS:=fun D σ H=>D.nx σ H
def zK(t u:TS):TS:=fun D σ H=>t { D with nx:=u D } σ H
theorem DK:PSs X [] A2:=fun _ _ σ H _ I h=>wpAny_execs_nil ⟨σ,H,I,h⟩
theorem xO(h1:PS X st t)(h2:PSs X rest u):PSs X (st::rest) (zK t u):=by
 intro pins s σ H D I h;refine wpAny_execs_cons (aK (h1 pins s σ H { D with nx:=u D } I h) fun f s1 q=>?_);cases f with
 | next =>
  obtain⟨σ',H',I',q⟩:=q;exact h2 pins s1 σ' H' D I' q
 | ret v=>exact q
 | brk=>exact q
 | cont=>exact q
theorem wO(h1:PS X st t):PSs X [st] t:=by
 intro pins s σ H D I h;refine wpAny_execs_cons (aK (h1 pins s σ H D I h) fun f s1 q=>?_);cases f with
 | next=>exact wpAny_execs_nil q
 | ret v=>exact q
 | brk=>exact q
 | cont=>exact q
def A1:TS:=fun D σ H=>D.ct σ H
theorem Hg:PS X (.Continue pos) A1:=fun _ _ σ H _ I h=>wpAny_Continue ⟨σ,H,I,h⟩
theorem Inv.quiet{σ:St}(I:Inv X pins σ H s):interactive X.env=false:=by simp[interactive,I.ok.kind]
def A0(te:TE):TS:=fun D σ H=>te σ H fun _ H1=>D.nx σ H1
theorem wN(he:PE X e te)(hs:swapsWith e none pos.line X.env=pure false:=by rfl):PS X (.Expr e pos) (A0 te):=by intro pins s σ H D I h;exact wpAny_Expr_any (aK (he pins s σ H _ I h) fun v s1 ⟨x,H1,I1,r1,q1⟩=>⟨σ,H1,I1,q1⟩) I.quiet hs
def zJ(te:TE):TS:=fun D σ H=>te σ H D.rt
theorem B9(he:PE X e te):PS X (.Return (some e) pos) (zJ te):=by intro pins s σ H D I h;exact wpAny_Return_some (aK (he pins s σ H _ I h) fun v s1 ⟨x,H1,I1,r1,q1⟩=>⟨x,σ,H1,I1,r1,q1⟩)
def zI(c:TT)(t u:TS):TS:=fun D σ H=>c σ H fun b H1=>if b=true then t D σ H1 else u D σ H1
theorem AZ{a b:List Stmt}(hc:PT X c tc)(ha:PSs X a t)(hb:PSs X b u):PS X (.If c a b pos) (zI tc t u):=by
 intro pins s σ H D I h;refine wpAny_If (aK (hc pins s σ H _ I h) fun d s1 ⟨H1,I1,q1⟩=>?_);cases d with
 | true=>exact ha pins s1 σ H1 D I1 q1
 | false=>exact hb pins s1 σ H1 D I1 q1
end
abbrev TG:=V->St->Hp->(St->Hp->Prop)->Prop
abbrev kf:=List V->St->Hp->(St->Hp->Prop)->Prop
def PG(X:Cx)(target:Expr)(t:TG):Prop :=
 ∀(pins:List (Addr×Obj)) (s:Shared) (σ:St) (H:Hp) (v:V) (u:Value) (Q:St->Hp->Prop),Inv X pins σ H s->RelV v u->t v σ H Q ->
  wpAny (model X.prog X.w) X.A (assign target X.env u) (fun _ s'=>∃σ' H',Inv X pins σ' H' s'/\Q σ' H') X.xe s
def PGs(X:Cx)(ts:List Expr)(t:kf):Prop :=
 ∀(pins:List (Addr×Obj)) (s:Shared) (σ:St) (H:Hp) (vs:List V) (us:List Value) (Q:St->Hp->Prop),Inv X pins σ H s->Vals vs us->t vs σ H Q ->
  wpAny (model X.prog X.w) X.A (assignInOrder ((assignEach ts X.env).map (·.2)) us) (fun _ s'=>∃σ' H',Inv X pins σ' H' s'/\Q σ' H') X.xe s
abbrev qj:=V->V->V->Hp->(Hp->Prop)->Prop
def uq(X:Cx)(t:qj):Prop :=
 ∀(pins:List (Addr×Obj)) (s:Shared) (σ:St) (H:Hp) (o i v:V) (ov iv u:Value) (Q:Hp->Prop),Inv X pins σ H s->RelV o ov->RelV i iv->RelV v u->t o i v H Q ->
  wpAny (model X.prog X.w) X.A (setItem ov iv u) (fun _ s'=>∃H',Inv X pins σ H' s'/\Q H') X.xe s
variable {es:List Expr} {k n:Nat} {tg:Expr} {pos':Pos}
def gp(i:Nat):TG:=fun v σ H Q=>Q (σ.set i (some v)) H
theorem rN{x:Str}(hN:X.N.Nodup)(hi:X.N[i]?=some x)(hx:Loc X.env.scope x)(hf:X.fn x=true\/X.env.scope.names.lookup x=some .local:=by first|exact .inl rfl|exact .inr rfl|assumption):PG X (.Name x pos) (gp i):=by intro pins s σ H v u Q I r h;exact wpAny_assign_Name (pv I hN hi hx r (fun s' I'=>⟨_,H,I',h⟩) hf)
def zH:kf:=fun vs σ H Q=>vs=[]/\Q σ H
def AY(t:TG)(u:kf):kf:=fun vs σ H Q=>∃v r,vs=v::r/\t v σ H fun σ' H'=>u r σ' H' Q
theorem DJ:PGs X [] zH:=by intro pins s σ H vs us Q I r h;obtain⟨e,h⟩:=h;subst e;cases r;exact assignInOrder_nil ⟨σ,H,I,h⟩
theorem EX{t:TG}{u:kf}(h1:PG X e t)(h2:PGs X es u)(hs:(assignEach (e::es) X.env).map (·.2)=assign e X.env::(assignEach es X.env).map (·.2):=by rfl):PGs X (e::es) (AY t u):=by
 intro pins s σ H vs us Q I r h;obtain⟨v,vr,e1,h⟩:=h;subst e1;cases r with
 | cons r rr =>
  rw[hs];refine assignInOrder_cons (aK (h1 pins s σ H _ _ _ I r h) fun _ s1 ⟨σ1,H1,I1,q1⟩=>?_);exact h2 pins s1 σ1 H1 _ _ Q I1 rr q1
def zG(K:Frag)(n:Nat)(t:kf):TG:=fun v σ H Q=>∃a xs,v=.ref a/\eI K H a xs/\xs.length=n/\t xs σ H Q
theorem B8{t:kf}(hc:X.calm=true)(h:PGs X es t)(hn:(assignEach es X.env).length=n:=by rfl)(hst:(assignEach es X.env).findIdx? (·.1)=none:=by rfl):PG X (.Tuple es k pos) (zG X.K n t):=by intro pins s σ H v u Q I r hw;obtain⟨a,xs,e1,hq,hl,hw⟩:=hw;subst e1;cases r;obtain⟨its,rv,ht,hz⟩:=I.tuple hq;refine assign_Tuple_tuple (I.ok.hd hc) ht (by simp[hn,<- hl,rv.length]) hst fun h' hx=>?_;have I1:Inv X pins σ H { s with heap:=h' }:=I.kept (t':=s.toks) fun b o e=>hx b o (ne_of_lt (Heap.lt_size e)) e;exact h pins _ σ H xs _ Q I1 (by simpa using rv) hw
def zF(to ti:TE)(t:qj):TG:=fun v σ H Q=>to σ H fun o H1=>ti σ H1 fun i H2=>t o i v H2 fun H3=>Q σ H3
theorem B7{o i:Expr}{to ti:TE}{t:qj}(ho:PE X o to)(hi:PE X i ti)(hs:uq X t)(ha:∀v,assign (.Subscript o i pos) X.env v=(do
   let ov <- holding [v] (eval o X.env)
   let iv <- holding [v,ov] (eval i X.env)
   standAt pos
   holding [v,ov,iv] (setItem ov iv v)
   release [v,ov,iv] []):=by intro _;rfl):PG X (.Subscript o i pos) (zF to ti t):=by
 intro pins s σ H v u Q I r h;rw[ha];refine wpAny_bind (wpAny_holding (aK (ho pins s σ H _ I h) fun ov s1 ⟨x,H1,I1,r1,q1⟩=>?_));refine wpAny_bind (wpAny_holding (aK (hi pins s1 σ H1 _ I1 q1) fun iv s2 ⟨y,H2,I2,r2,q2⟩=>?_));refine wpAny_bind (wpAny_standAt (wpAny_bind (wpAny_holding (aK (hs pins s2 σ H2 x y v ov iv u _ I2 r1 r2 r q2) fun _ s3 ⟨H3,I3,q3⟩=>?_))));exact wpAny_release ⟨σ,H3,I3,q3⟩
def qi(te:TE)(g:TG):TS:=fun D σ H=>te σ H fun x H1=>g x σ H1 D.nx
theorem B6{g:TG}(he:PE X e te)(hg:PG X tg g)(hs:swapsWithSole [tg] e pos.line X.env=pure false:=by rfl)(hw:swappedStores [tg] e X.env=pure none:=by rfl)(h1:(assignEach [tg] X.env).map (·.2)=[assign tg X.env]:=by rfl):PS X (.Assign [tg] e pos) (qi te g):=by intro pins s σ H D I h;refine wpAny_Assign_stores (aK (he pins s σ H _ I h) fun v s1 ⟨x,H1,I1,r1,q1⟩=>?_) hs hw;rw[h1];exact aK (hg pins s1 σ H1 x v _ I1 r1 q1) fun _ s2 q=>q
theorem B5{x:Str}(hN:X.N.Nodup)(hi:X.N[i]?=some x)(hx:Loc X.env.scope x)(he:PE X e te)(hs:swapsWith e (some (.Name x pos')) pos.line X.env=pure false:=by rfl)(hf:X.fn x=true\/X.env.scope.names.lookup x=some .local:=by first|exact .inl rfl|exact .inr rfl|assumption) :
  PS X (.Assign [.Name x pos'] e pos) (qi te (gp i)):=by
 intro pins s σ H D I h;refine wpAny_Assign_Name (aK (he pins s σ H _ I h) fun v s1 ⟨y,H1,I1,r1,q1⟩=>?_) hs;exact pv I1 hN hi hx r1 (fun s2 I2=>⟨_,H1,I2,q1⟩) hf
variable {body:List Stmt}
def B4(c:TT)(tb:TS):TS:=fun D σ H=>∃W:Nat->St->Hp->Prop,(∃m,W m σ H)/\∀m σ H,W m σ H ->
 c σ H fun b H1=>if b=true then ∃N:St->Hp->Prop,(∀σ' H',N σ' H'->∃m',m'<m/\W m' σ' H')/\tb { D with nx:=N,ct:=N,bk:=D.nx } σ H1 else D.nx σ H1
theorem EW{tb:TS}(hp:PassesOwn (model X.prog X.w) X.A X.env X.xe)(hc:PT X c tc)(hb:PSs X body tb):PS X (.While c body [] pos) (B4 tc tb):=by
 intro pins s σ H D I h;obtain⟨W,⟨m0,w0⟩,turn⟩:=h;refine wpAny_While (codeAny_whileLoop (fun n s'=>∃σ' H',Inv X pins σ' H' s'/\W n σ' H') ?_ m0 ⟨σ,H,I,w0⟩);rintro n s1 ⟨σ1,H1,I1,w1⟩;refine wpAny_passesOwn hp (aK (hc pins s1 σ1 H1 _ I1 (turn n σ1 H1 w1)) fun b s2 ⟨H2,I2,q2⟩=>?_);cases b with
 | true =>
  obtain⟨N,hN,q2⟩:=q2;rw[if_pos rfl];refine wpAny_passesOwn hp (aK (hb pins s2 σ1 H2 _ I2 q2) fun f s3 q3=>?_);cases f with
  | next =>
   obtain⟨σ3,H3,I3,n3⟩:=q3;obtain⟨m',hm,w3⟩:=hN σ3 H3 n3;exact⟨m',hm,σ3,H3,I3,w3⟩
  | cont =>
   obtain⟨σ3,H3,I3,n3⟩:=q3;obtain⟨m',hm,w3⟩:=hN σ3 H3 n3;exact⟨m',hm,σ3,H3,I3,w3⟩
  | brk=>exact q3
  | ret v=>exact q3
 | false =>
  rw[if_neg Bool.false_ne_true];exact wpAny_execs_nil ⟨σ1,H2,I2,q2⟩
structure It where
 go:Nat->Hp->Prop
 yld:Nat->Hp->V->Hp->Prop
 stop:Nat->Hp->Prop
def jN(X:Cx)(pins:List (Addr×Obj))(H:Hp)(b:Addr):Prop :=
 H b=none/\b≠X.env.locals/\b∉X.fs/\(b∈X.ex\/X.s₀.heap.objs.size<=b)/\(∀x c,X.env.cells.lookup x=some c->c≠b)/\∀p∈X.pn++pins,p.1≠b
theorem Inv.fpOk{σ:St}(I:Inv X pins σ H s)(hb:s.heap.objs.size<=b)(hn:H' b=none):jN X pins H' b:=by
 refine⟨hn,ne_of_gt (lt_of_lt_of_le I.lt hb),I.nofs hb,.inr (le_trans I.sz hb),fun x c e z=>?_,fun p hp z=>?_⟩
 ·obtain⟨v,q⟩:=I.cell x c e;exact absurd (lt_of_lt_of_le q.lt (by rw[z];exact hb)) (lt_irrefl _)
 ·exact absurd (lt_of_lt_of_le (Heap.lt_size (I.pin p hp).1) (by rw[z];exact hb)) (lt_irrefl _)
structure Turn (P:Program) (w:World) (K:Frag) (tg:Expr) (J:It) (fp:List Addr) (it:Addr) (tn:Nat->Heap->Prop):Prop where
 mem:it∈fp
 obj:∀i h,tn i h->∀b∈fp,∃o,h.get? b=some o/\∀v,o.data≠.cell v
 keep:∀i h h',tn i h->(∀b∈fp,∀o,h.get? b=some o->h'.get? b=some o)->tn i h'
 item:∀(X:Cx),X.prog=P->X.w=w->X.K=K->X.calm=true->∀(i:Nat) (pins:List (Addr×Obj)) (s:Shared) (σ:St) (H:Hp) (E:Value->Shared->Prop),Inv X pins σ H s->(∀b∈fp,jN X pins H b)->tn i s.heap->J.go i H ->
  wpAny (model P w) X.A (pyNext (.ref it)) (fun r s1=>∃u,r=some u /\
   wpAny (model P w) X.A (letOwnedTupleGo tg (.ref it) u) (fun _ s2=>∃x H',Inv X pins σ H' s2/\RelV x u/\J.yld i H x H'/\tn (i+1) s2.heap/\∀b∈fp,H' b=none) E s1) E s
 done:∀(X:Cx),X.prog=P->X.w=w->X.K=K->X.calm=true->∀(i:Nat) (pins:List (Addr×Obj)) (s:Shared) (σ:St) (H:Hp) (E:Value->Shared->Prop),Inv X pins σ H s->(∀b∈fp,jN X pins H b)->tn i s.heap->J.stop i H ->
  wpAny (model P w) X.A (pyNext (.ref it)) (fun r s1=>r=none/\Inv X pins σ H s1) E s
 self:∀(A:Around) (i:Nat) (s:Shared) (Q:Value->Shared->Prop) (E:Value->Shared->Prop),tn i s.heap->Q (.ref it) s->wpAny (model P w) A (pyIter (.ref it)) Q E s
abbrev TI:=St->Hp->(It->Hp->Prop)->Prop
def zr(X:Cx)(pins:List (Addr×Obj))(σ:St)(tg:Expr)(R:It->Hp->Prop)(itv:Value)(s2:Shared):Prop :=
 ∃(it:Addr) (fp:List Addr) (tn:Nat->Heap->Prop) (J:It) (H':Hp),itv=.ref it/\Inv X pins σ H' s2/\Turn X.prog X.w X.K tg J fp it tn/\tn 0 s2.heap/\(∀b∈fp,jN X pins H' b)/\R J H'
def PI(X:Cx)(tg iter:Expr)(wi:TI):Prop :=
 ∀(pins:List (Addr×Obj)) (s:Shared) (σ:St) (H:Hp) (R:It->Hp->Prop),Inv X pins σ H s->wi σ H R ->
  wpAny (model X.prog X.w) X.A (eval iter X.env) (fun v s1=>wpAny (model X.prog X.w) X.A (pyIter v) (zr X pins σ tg R) X.xe s1) X.xe s
theorem qz{M:Model}{o:Obj}{n:String}{vs:Array Value}{Q:Unit->Shared->Prop}(ho:s.heap.get? it=some o)(hc:o.cls=.type n)(hd:o.data=.fields vs)(hn:["enumerate", "zip", "dict_itemiterator", "dict_reverseitemiterator", "odict_iterator", "itertools.zip_longest", "itertools.pairwise"].contains n=false)(hQ:Q () s):wpAny M A (letOwnedTupleGo tg (.ref it) u) Q E s:=by
 unfold letOwnedTupleGo;cases tg<;>first
  | exact wpAny_pure hQ
  | (cases u<;>first
    | exact wpAny_pure hQ
    | (refine wpAny_bind (wpAny_load ho ?_)
       rw[hc,hd];show wpAny M A (if (["enumerate", "zip", "dict_itemiterator", "dict_reverseitemiterator", "odict_iterator", "itertools.zip_longest", "itertools.pairwise"].contains n&&vs[0]?==some (rawInt _))=true then _ else _) Q E s;rw[if_neg (by intro h;rw[hn,Bool.false_and] at h;cases h)];exact wpAny_pure hQ))
def lj(K:Frag)(a:Addr):It :=
 ⟨fun i H=>∃xs x,cP K H a xs/\xs[i]?=some x,fun i H x H'=>H'=H/\∀xs,cP K H a xs->xs[i]?=some x,fun i H=>∃xs,cP K H a xs/\xs.length<=i⟩
def tX(K:Frag)(a:Addr):It :=
 ⟨fun i H=>∃xs x,eI K H a xs/\xs[i]?=some x,fun i H x H'=>H'=H/\∀xs,eI K H a xs->xs[i]?=some x,fun i H=>∃xs,eI K H a xs/\xs.length<=i⟩
def pZ(lo:Int)(n:Nat):It:=⟨fun i _=>i<n,fun i H x H'=>H'=H/\x=.int (lo+i),fun i _=>n<=i⟩
variable {K:Frag}
theorem FX(a it:Addr):Turn P w K tg (lj K a) [it] it (fun i h=>h.IsListIter it a i) where
 mem:=by simp
 obj:=fun i h st b hb=>by
  have e:b=it:=by simpa using hb
  subst e;obtain⟨o,e,c,d⟩:=st;exact⟨o,e,fun v z=>by rw[d] at z;cases z⟩
 keep:=fun i h h' st k=>st.at fun o e=>k it (by simp) o e
 item:=by intro X hP hw hK hc i pins s σ H E I hf st hg;subst hP hw hK;obtain⟨xs,x,hq,hx⟩:=hg;obtain⟨its,rv,p,hz⟩:=I.list hq;obtain⟨u,hu,ru⟩:=rv.get hx;obtain⟨f0,f1,f2,f3,f4,f5⟩:=hf it (by simp);refine wpAny_pyNext_list_item st p.isList (x:=u) (by simpa using hu) fun h' st' sb=>?_;have I1:Inv X pins σ H { s with heap:=h' }:=I.turned (t':=s.toks) (fun b o hb e=>(sb.2 b hb).trans e) f0 f1 f3 f4 f5;obtain⟨o,e,c,d⟩:=id st';exact⟨u,rfl,qz (s:={ s with heap:=h' }) e c d (by decide) ⟨x,H,I1,ru,⟨rfl,fun ys hy=>by rw[I.list_inj hy hq];exact hx⟩,st',fun b hb=>(hf b hb).1⟩⟩
 done:=by
  intro X hP hw hK hc i pins s σ H E I hf st hg;subst hP hw hK;obtain⟨xs,hq,hx⟩:=hg;obtain⟨its,rv,p,hz⟩:=I.list hq;obtain⟨f0,f1,f2,f3,f4,f5⟩:=hf it (by simp);have hl:=rv.length;exact wpAny_pyNext_list_end (I.ok.hd hc) st p.isList (by simp;omega) fun h' eb=>⟨rfl,I.turned (t':=s.toks) (fun b o hb e=>eb b o hb e) f0 f1 f3 f4 f5⟩
 self:=fun _ _ _ _ _ st h=>wpAny_pyIter_listiter st h
theorem Gw(a it:Addr):Turn P w K tg (tX K a) [it] it (fun i h=>h.IsTupleIter it a i) where
 mem:=by simp
 obj:=fun i h st b hb=>by
  have e:b=it:=by simpa using hb
  subst e;obtain⟨o,e,c,d⟩:=st;exact⟨o,e,fun v z=>by rw[d] at z;cases z⟩
 keep:=fun i h h' st k=>st.at fun o e=>k it (by simp) o e
 item:=by intro X hP hw hK hc i pins s σ H E I hf st hg;subst hP hw hK;obtain⟨xs,x,hq,hx⟩:=hg;obtain⟨its,rv,p,hz⟩:=I.tuple hq;obtain⟨u,hu,ru⟩:=rv.get hx;obtain⟨f0,f1,f2,f3,f4,f5⟩:=hf it (by simp);refine wpAny_pyNext_tuple_item st (show s.heap.IsTuple a its.toArray from p) (x:=u) (by simpa using hu) fun h' st' sb=>?_;have I1:Inv X pins σ H { s with heap:=h' }:=I.turned (t':=s.toks) (fun b o hb e=>(sb.2 b hb).trans e) f0 f1 f3 f4 f5;obtain⟨o,e,c,d⟩:=id st';exact⟨u,rfl,qz (s:={ s with heap:=h' }) e c d (by decide) ⟨x,H,I1,ru,⟨rfl,fun ys hy=>by rw[I.tuple_inj hy hq];exact hx⟩,st',fun b hb=>(hf b hb).1⟩⟩
 done:=by
  intro X hP hw hK hc i pins s σ H E I hf st hg;subst hP hw hK;obtain⟨xs,hq,hx⟩:=hg;obtain⟨its,rv,p,hz⟩:=I.tuple hq;obtain⟨f0,f1,f2,f3,f4,f5⟩:=hf it (by simp);have hl:=rv.length;exact wpAny_pyNext_tuple_end (I.ok.hd hc) st (show s.heap.IsTuple a its.toArray from p) (by simp;omega) fun h' eb=>⟨rfl,I.turned (t':=s.toks) (fun b o hb e=>eb b o hb e) f0 f1 f3 f4 f5⟩
 self:=fun _ _ _ _ _ st h=>wpAny_pyIter_tupleiter st h
theorem GR(it:Addr)(lo:Int)(n:Nat):Turn P w K tg (pZ lo n) [it] it (fun i h=>IsRangeIter h it (lo+(i:Nat)*1) ((n:Int)-(i:Nat)) 1) where
 mem:=by simp
 obj:=fun i h st b hb=>by
  have e:b=it:=by simpa using hb
  subst e;exact⟨_,st,fun v z=>by
   have z':Data.fields _=Data.cell v:=z;cases z'⟩
 keep:=fun i h h' st k=>k it (by simp) _ st
 item:=by intro X hP hw hK hc i pins s σ H E I hf st hg;subst hP hw hK;obtain⟨f0,f1,f2,f3,f4,f5⟩:=hf it (by simp);have W:=Walks.range (prog:=X.prog) (w:=X.w) (I.ok.hd hc) it lo 1 n;refine W.item i s _ _ hg st fun v h' tk hv st' kk=>?_;obtain⟨t,rfl⟩:=hv;have I1:Inv X pins σ H { s with heap:=h',toks:=tk }:=I.turned (fun b o hb e=>kk b o (by simpa using hb) e) f0 f1 f3 f4 f5;refine⟨_,rfl,qz (s:={ s with heap:=h',toks:=tk }) (n := "range_iterator") st' rfl rfl (by decide) ⟨.int (lo+i),H,I1,⟨t,?_⟩,⟨rfl,rfl⟩,st',fun b hb=>(hf b hb).1⟩⟩;rw[mul_one]
 done:=by
  intro X hP hw hK hc i pins s σ H E I hf st hg;subst hP hw hK;obtain⟨f0,f1,f2,f3,f4,f5⟩:=hf it (by simp);exact wpAny_pyNext_range_end (I.ok.hd hc) st (by have:n<=i:=hg;omega) fun h' eb=>⟨rfl,I.turned (t':=s.toks) (fun b o hb e=>eb b o hb e) f0 f1 f3 f4 f5⟩
 self:=fun _ _ _ _ _ st h=>wpAny_pyIter_rangeiter st h
variable {l:Expr} {tl:TE} {p:Pos} {fp:List Addr}
def Bh(K:Frag)(tl:TE):TI:=fun σ H R=>tl σ H fun x H1=>∃a,x=.ref a/\(∃xs,cP K H1 a xs)/\R (lj K a) H1
def zE(K:Frag)(tl:TE):TI:=fun σ H R=>tl σ H fun x H1=>∃a,x=.ref a/\(∃xs,eI K H1 a xs)/\R (tX K a) H1
theorem DI(hl:PE X l tl):PI X tg l (Bh X.K tl):=by
 intro pins s σ H R I h;refine aK (hl pins s σ H _ I h) fun v s1 ⟨x,H1,I1,r1,q1⟩=>?_;obtain⟨a,e,⟨xs,hq⟩,q⟩:=q1;subst e;cases r1;obtain⟨its,rv,p,hz⟩:=I1.list hq;refine wpAny_pyIter_list p.isList ?_;refine⟨s1.heap.objs.size,[s1.heap.objs.size],_,_,H1,rfl,I1.kept (t':=s1.toks) fun b o e=>Heap.get?_push_of_some _ e,FX a _,⟨_,Heap.get?_push_size _ rfl,rfl,rfl⟩,fun b hb=>?_,q⟩;have e:b=s1.heap.objs.size:=by simpa using hb
 subst e;exact I1.fpOk (le_refl _) (I1.hok.fresh (le_refl _))
theorem B3(hl:PE X l tl):PI X tg l (zE X.K tl):=by
 intro pins s σ H R I h;refine aK (hl pins s σ H _ I h) fun v s1 ⟨x,H1,I1,r1,q1⟩=>?_;obtain⟨a,e,⟨xs,hq⟩,q⟩:=q1;subst e;cases r1;obtain⟨its,rv,p,hz⟩:=I1.tuple hq;refine wpAny_pyIter_tuple (show s1.heap.IsTuple a its.toArray from p) ?_;refine⟨s1.heap.objs.size,[s1.heap.objs.size],_,_,H1,rfl,I1.kept (t':=s1.toks) fun b o e=>Heap.get?_push_of_some _ e,Gw a _,⟨_,Heap.get?_push_size _ rfl,rfl,rfl⟩,fun b hb=>?_,q⟩;have e:b=s1.heap.objs.size:=by simpa using hb
 subst e;exact I1.fpOk (le_refl _) (I1.hok.fresh (le_refl _))
theorem EV{σ:St}{R:It->Hp->Prop}{lo hi:Int}{t u v:Tok}{tk:Nat}(I:Inv X pins σ H s)(h1:-(2 ^ 62)<=lo)(h2:lo<2 ^ 62)(h3:-(2 ^ 62)<=hi)(h4:hi<2 ^ 62)(q:R (pZ lo (hi-lo).toNat) H):wpAny (model X.prog X.w) X.A (pyIter (.ref s.heap.objs.size)) (zr X pins σ tg R) E { s with heap:=s.heap.push { cls:=.type "range",data:=.fields #[.int lo t,.int hi u,.int 1 v] },toks:=tk }:=by
 refine wpAny_pyIter_range (IsRange.new ..) (small_one h1 h2 h3 h4) ?_;have I1:Inv X pins σ H { s with heap:=s.heap.push { cls:=.type "range",data:=.fields #[.int lo t,.int hi u,.int 1 v] },toks:=tk }:=I.kept fun b o e=>Heap.get?_push_of_some _ e;refine⟨(s.heap.push { cls:=.type "range",data:=.fields #[.int lo t,.int hi u,.int 1 v] }).objs.size,[(s.heap.push { cls:=.type "range",data:=.fields #[.int lo t,.int hi u,.int 1 v] }).objs.size],_,_,H,rfl,
  I1.kept (t':=tk) fun b o e=>Heap.get?_push_of_some _ e,GR _ lo (hi-lo).toNat,?_,fun b hb=>?_,q⟩
 ·have e1:lo+((0:Nat):Int)*1=lo:=by simp
  have e2:(((hi-lo).toNat:Nat):Int)-((0:Nat):Int)=Builtin.Range.rangeSize lo hi 1:=by rw[rangeSize_one];split<;>omega
  show IsRangeIter _ _ (lo+((0:Nat):Int)*1) ((((hi-lo).toNat:Nat):Int)-((0:Nat):Int)) 1;rw[e1,e2];exact Heap.get?_push_size _ rfl
 ·have e:b=(s.heap.push { cls:=.type "range",data:=.fields #[.int lo t,.int hi u,.int 1 v] }).objs.size:=by simpa using hb
  subst e;exact I1.fpOk (le_refl _) (I1.hok.fresh (le_refl _))
def Bg(ta:TA):TI:=fun σ H R=>ta σ H fun vs H1=>∃j:Int,vs=[.int j]/\-(2 ^ 62)<=j/\j<2 ^ 62/\R (pZ 0 j.toNat) H1
theorem FW{a:Expr}{ta:TA}(hg:Gl X "range")(hm:X.mg "range" = none)(ha:PA X [a] ta)(hs:starEach [a] X.env=[(false,eval a X.env)]:=by rfl):PI X tg (.Call (.Name "range" p) [a] [] pos) (Bg ta):=by
 intro pins s σ H R I h;refine Call_ (nc I hg hm boot_range (PyProof.Rows.callWith_type1 (aK (ha pos pins s σ H _ I h) fun us s1 ⟨vs,H1,I1,r1,q1⟩=>?_) hs rfl));obtain⟨j,e,q1,q2,q⟩:=q1;subst e;cases r1 with
 | cons r rr =>
  cases rr;obtain⟨t,rfl⟩:=r;exact call_range_1 (EV I1 (by omega) (by omega) q1 q2 (by simpa using q))
def zD(wi:TI)(g:TG)(tb:TS):TS:=fun D σ H=>wi σ H fun J H1=>∃W:Nat->Nat->St->Hp->Prop,(∃m,W 0 m σ H1)/\∀i m σ H,W i m σ H ->
 (J.stop i H/\D.nx σ H)\/(J.go i H/\∃N:St->Hp->Prop,(∀σ' H',N σ' H'->∃m',m'<m/\W (i+1) m' σ' H')/\∀x H',J.yld i H x H'->g x σ H' fun σ2 H2=>tb { D with nx:=N,ct:=N,bk:=D.nx } σ2 H2)
def lV(fp:List Addr)(h:Heap):List (Addr×Obj):=fp.filterMap fun b=>(h.get? b).map fun o=>(b,o)
theorem pF{o:Obj}(hb:b∈fp)(e:h.get? b=some o):(b,o)∈lV fp h:=mem_filterMap.mpr ⟨b,hb,by rw[e];rfl⟩
theorem FV{p:Addr×Obj}(hp:p∈lV fp h):p.1∈fp/\h.get? p.1=some p.2:=by
 obtain⟨b,hb,e⟩:=mem_filterMap.mp hp;cases q:h.get? b with
 | none=>rw[q] at e;cases e
 | some o =>
  rw[q] at e;have e':(b,o)=p:=Option.some.inj e;subst e';exact⟨hb,q⟩
theorem Inv.pinned{σ:St}(I:Inv X pins σ H s)(hf:∀b∈fp,jN X pins H b)(ho:∀b∈fp,∃o,s.heap.get? b=some o/\∀v,o.data≠.cell v):Inv X (pins++lV fp s.heap) σ H s :=
 I.pins_of fun p hp=>(mem_append.mp hp).elim (fun z=>I.pin p (mem_append_right _ z)) fun z=>by
  obtain⟨hb,e⟩:=FV z;obtain⟨f0,f1,f2,_⟩:=hf p.1 hb;obtain⟨o,e',d⟩:=ho p.1 hb;rw[e] at e';cases e';exact⟨e,f0,f1,f2,d⟩
theorem Inv.unpinned{pl:List (Addr×Obj)}{σ:St}(I:Inv X (pins++pl) σ H s):Inv X pins σ H s:=I.pins_of fun p hp=>I.pin p (mem_append_right _ (mem_append_left _ hp))
theorem CB{iter:Expr}{wi:TI}{g:TG}{tb:TS}(hp:PassesOwn (model X.prog X.w) X.A X.env X.xe)(hc:X.calm=true)(hi:PI X tg iter wi)(hg:PG X tg g)(hb:PSs X body tb)(hs:∀x,foldedSetIterable iter X.env x=pure x:=by intro _;rfl):PS X (.For tg iter body [] pos) (zD wi g tb):=by
 intro pins s σ H D I h;refine wpAny_For (aK (hi pins s σ H _ I h) fun v s1 h1=>aK h1 fun itv s2 h2=>?_) hs;obtain⟨it,fp,tn,J,H2,e,I2,T,st2,f2,W,⟨m0,w0⟩,turn⟩:=h2;subst e;have stat:∀{H':Hp},(∀b∈fp,H' b=none)->∀b∈fp,jN X pins H' b:=fun hn b hb=>⟨hn b hb,(f2 b hb).2⟩
 refine codeAny_forLoop_any (fun n s'=>∃i σ' H',Inv X pins σ' H' s'/\tn i s'.heap/\(∀b∈fp,H' b=none)/\W i n σ' H') ?_ m0 ⟨0,σ,H2,I2,st2,fun b hb=>(f2 b hb).1,w0⟩;rintro n s3 ⟨i,σ3,H3,I3,st3,fr3,w3⟩;rcases turn i n σ3 H3 w3 with ⟨stop,qn⟩|⟨go,N,hN,step⟩
 ·refine wpAny_passesOwn hp (aK (T.done X rfl rfl rfl hc i pins s3 σ3 H3 X.xe I3 (stat fr3) st3 stop) fun r s4 ⟨hr,I4⟩=>?_);subst hr;exact wpAny_execs_nil ⟨σ3,H3,I4,qn⟩
 ·refine wpAny_passesOwn hp (aK (T.item X rfl rfl rfl hc i pins s3 σ3 H3 X.xe I3 (stat fr3) st3 go) fun r s4 ⟨u,hr,h4⟩=>?_);subst hr;refine wpAny_passesOwn hp (aK h4 fun _ s5 ⟨x,H5,I5,r5,y5,st5,fr5⟩=>?_);have I5':=I5.pinned (stat fr5) (T.obj _ _ st5);refine wpAny_passesOwn hp (aK (hg _ s5 σ3 H5 x u _ I5' r5 (step x H5 y5)) fun _ s6 ⟨σ6,H6,I6,q6⟩=>?_);refine wpAny_passesOwn hp (aK (hb _ s6 σ6 H6 _ I6 q6) fun f s7 q7=>?_);have again:∀{σ7:St} {H7:Hp},Inv X (pins++lV fp s5.heap) σ7 H7 s7->N σ7 H7->∃m,m<n/\∃i σ' H',Inv X pins σ' H' s7/\tn i s7.heap/\(∀b∈fp,H' b=none)/\W i m σ' H':=fun {σ7 H7} I7 n7=>by
   obtain⟨m',hm,w7⟩:=hN σ7 H7 n7;refine⟨m',hm,i+1,σ7,H7,I7.unpinned,T.keep _ _ _ st5 fun b hb o e=>(I7.pin (b,o) (mem_append_right _ (mem_append_right _ (pF hb e)))).1,fun b hb=>?_,w7⟩;obtain⟨o,e,d⟩:=T.obj _ _ st5 b hb;exact(I7.pin (b,o) (mem_append_right _ (mem_append_right _ (pF hb e)))).2.1
  cases f with
  | next=>obtain⟨σ7,H7,I7,n7⟩:=q7;exact again I7 n7
  | cont=>obtain⟨σ7,H7,I7,n7⟩:=q7;exact again I7 n7
  | brk=>obtain⟨σ7,H7,I7,q7⟩:=q7;exact⟨σ7,H7,I7.unpinned,q7⟩
  | ret v=>obtain⟨x7,σ7,H7,I7,r7,q7⟩:=q7;exact⟨x7,σ7,H7,I7.unpinned,r7,q7⟩
abbrev R2:=V->V->Hp->VK->Prop
def dG(X:Cx)(f:Value->Value->Sem Value)(r:R2):Prop :=
 ∀(pins:List (Addr×Obj)) (s:Shared) (σ:St) (H:Hp) (x y:V) (v u:Value) (Q:VK),Inv X pins σ H s->RelV x v->RelV y u->r x y H Q ->
  wpAny (model X.prog X.w) X.A (f v u) (EP X pins σ Q) X.xe s
def tV(X:Cx)(f:Value->Sem Value)(r:V->Hp->VK->Prop):Prop :=
 ∀(pins:List (Addr×Obj)) (s:Shared) (σ:St) (H:Hp) (x:V) (v:Value) (Q:VK),Inv X pins σ H s->RelV x v->r x H Q ->
  wpAny (model X.prog X.w) X.A (f v) (EP X pins σ Q) X.xe s
def aM(X:Cx)(f:Value)(r:List V->Hp->VK->Prop):Prop :=
 ∀(pins:List (Addr×Obj)) (s:Shared) (σ:St) (H:Hp) (xs:List V) (us:List Value) (Q:VK),Inv X pins σ H s->Vals xs us->r xs H Q ->
  wpAny (model X.prog X.w) X.A (call f us) (EP X pins σ Q) X.xe s
def zC(X:Cx)(r:V->Hp->(Bool->Hp->Prop)->Prop):Prop :=
 ∀(pins:List (Addr×Obj)) (s:Shared) (σ:St) (H:Hp) (x:V) (v:Value) (Q:Bool->Hp->Prop),Inv X pins σ H s->RelV x v->r x H Q ->
  wpAny (model X.prog X.w) X.A (truthy v) (TP X pins σ Q) X.xe s
def k7(r:R2)(ta tb:TE):TE:=fun σ H Q=>ta σ H fun x H1=>tb σ H1 fun y H2=>r x y H2 Q
def H0(r:V->Hp->VK->Prop)(ta:TE):TE:=fun σ H Q=>ta σ H fun x H1=>r x H1 Q
def rI(C:Int->Int->Prop)(g:Int->Int->V):R2:=fun x y H Q=>∃i j,x=.int i/\y=.int j/\C i j/\Q (g i j) H
def jF(g:Int->Int->V):R2:=fun x y H Q=>∃i j,x=.int i/\y=.int j/\Q (g i j) H
def rU(g:Int->V):V->Hp->VK->Prop:=fun x H Q=>∃i,x=.int i/\Q (g i) H
variable {f:Value->Value->Sem Value}
section
variable {a b:Expr} {tc:TE}
theorem ql(ha:PE X a ta)(hb:PE X b tb){σ:St}{R:V->V->Hp->Prop}(I:Inv X pins σ H s)(h:ta σ H fun x H1=>tb σ H1 fun y H2=>R x y H2)(hf:∀v u s2 x y H2,Inv X pins σ H2 s2->RelV x v->RelV y u->R x y H2->wpAny (model X.prog X.w) X.A (f v u) Q X.xe s2) :
  wpAny (model X.prog X.w) X.A (eval a X.env) (fun v s₁=>wpAny (model X.prog X.w) X.A (eval b X.env) (fun u s₂=>wpAny (model X.prog X.w) X.A (f v u) Q X.xe s₂) X.xe s₁) X.xe s:=by
 refine aK (ha pins s σ H _ I h) fun v s1 ⟨x,H1,I1,r1,q1⟩=>?_;refine aK (hb pins s1 σ H1 _ I1 q1) fun u s2 ⟨y,H2,I2,r2,q2⟩=>?_;exact hf v u s2 x y H2 I2 r1 r2 q2
theorem u6{op:Operator}{r:R2}(ho:dG X (binaryOp op) r)(ha:PE X a ta)(hb:PE X b tb):PE X (.BinOp a op b pos) (k7 r ta tb):=by intro pins s σ H Q I h;exact wpAny_BinOp (ql ha hb I h fun v u s2 x y H2 I2 rx ry q=>ho pins s2 σ H2 x y v u Q I2 rx ry q)
theorem Bf{op:UnaryOp}{r:V->Hp->VK->Prop}(ho:tV X (unaryOp op) r)(ha:PE X a ta):PE X (.UnaryOp op a pos) (H0 r ta):=by intro pins s σ H Q I h;exact UnaryOp_ (aK (ha pins s σ H _ I h) fun v s1 ⟨x,H1,I1,r1,q1⟩=>ho pins s1 σ H1 x v Q I1 r1 q1)
theorem tR{C:Int->Int->Prop}{g:Int->Int->Int}(rule:∀(i j:Int) (t u:Tok) (s:Shared) (Q:Value->Shared->Prop) (E:Value->Shared->Prop),C i j->Q (.int (g i j) s.toks) { s with toks:=s.toks+1 }->wpAny (model X.prog X.w) X.A (f (.int i t) (.int j u)) Q E s) :
  dG X f (rI C fun i j=>.int (g i j)):=by
 intro pins s σ H x y v u Q I rx ry h;obtain⟨i,j,rfl,rfl,hc,q⟩:=h;obtain⟨t,rfl⟩:=rx;obtain⟨t',rfl⟩:=ry;exact rule i j t t' s _ _ hc ⟨.int (g i j),H,I.tok _,⟨_,rfl⟩,q⟩
theorem uo{g:Int->Int->Int}(rule:∀(i j:Int) (t u:Tok) (s:Shared) (Q:Value->Shared->Prop) (E:Value->Shared->Prop),Q (.int (g i j) s.toks) { s with toks:=s.toks+1 }->wpAny (model X.prog X.w) X.A (f (.int i t) (.int j u)) Q E s) :
  dG X f (jF fun i j=>.int (g i j)):=by
 intro pins s σ H x y v u Q I rx ry h;obtain⟨i,j,rfl,rfl,q⟩:=h;obtain⟨t,rfl⟩:=rx;obtain⟨t',rfl⟩:=ry;exact rule i j t t' s _ _ ⟨.int (g i j),H,I.tok _,⟨_,rfl⟩,q⟩
theorem nZ{g:Int->Int->Bool}(rule:∀(i j:Int) (t u:Tok) (s:Shared) (Q:Value->Shared->Prop) (E:Value->Shared->Prop),Q (.bool (g i j)) s->wpAny (model X.prog X.w) X.A (f (.int i t) (.int j u)) Q E s) :
  dG X f (jF fun i j=>.bl (g i j)):=by
 intro pins s σ H x y v u Q I rx ry h;obtain⟨i,j,rfl,rfl,q⟩:=h;obtain⟨t,rfl⟩:=rx;obtain⟨t',rfl⟩:=ry;exact rule i j t t' s _ _ ⟨.bl (g i j),H,I,rfl,q⟩
def qk(i j:Int):Prop:=0<j/\j<1073741824
def d_(i j:Int):Prop:=(-(2 ^ 64)<i/\i<2 ^ 64)\/(-(2 ^ 64)<j/\j<2 ^ 64)
theorem d_.ok{i j:Int}(h:d_ i j):IntMulOk i j:=by
 rcases h with ⟨h1,h2⟩|⟨h1,h2⟩
 ·exact .of_left (intBits_le_64 h1 h2)
 ·exact .of_right (intBits_le_64 h1 h2)
theorem CA:dG X (binaryOp .Add) (jF fun i j=>.int (i+j)):=uo fun _ _ _ _ _ _ _ q=>add_int q
theorem Cz:dG X (binaryOp .Sub) (jF fun i j=>.int (i-j)):=uo fun _ _ _ _ _ _ _ q=>sub_int q
theorem Cy:dG X (binaryOp .Mult) (rI d_ fun i j=>.int (i*j)):=tR fun _ _ _ _ _ _ _ hc q=>mul_int q hc.ok
theorem DH:dG X (binaryOp .FloorDiv) (rI qk fun i j=>.int (i / j)):=tR fun i j _ _ _ _ _ hc q=>by
 have h1:(0:Int)<j:=hc.1;have h2:j<1073741824:=hc.2;exact floordiv_int (by omega) (by rw[fdiv_eq_ediv_of_nonneg i (by omega)];exact q) (.inl (PyProof.noPylong_small (by omega)))
theorem Cw:dG X (binaryOp .Mod) (rI (fun _ j=>0<j) fun i j=>.int (i % j)):=tR fun i j _ _ _ _ _ hc q=>by
 have h1:(0:Int)<j:=hc;exact mod_int' (by omega) (by rw[fmod_eq_emod_of_nonneg i (by omega)];exact q)
theorem HZ{f:Value->Sem Value}{g:Int->Int}(rule:∀(i:Int) (t:Tok) (s:Shared) (Q:Value->Shared->Prop) (E:Value->Shared->Prop),Q (.int (g i) s.toks) { s with toks:=s.toks+1 }->wpAny (model X.prog X.w) X.A (f (.int i t)) Q E s) :
  tV X f (rU fun i=>.int (g i)):=by
 intro pins s σ H x v Q I rx h;obtain⟨i,rfl,q⟩:=h;obtain⟨t,rfl⟩:=rx;exact rule i t s _ _ ⟨.int (g i),H,I.tok _,⟨_,rfl⟩,q⟩
theorem Cv:tV X (unaryOp .USub) (rU fun i=>.int (-i)):=HZ fun _ _ _ _ _ q=>neg_int q
end
def zB:V->V->Bool
 | .non,.non=>true|.non,.int _=>true|.int _,.non=>true|.non,.bl _=>true|.bl _,.non=>true|.non,.str _=>true|.str _,.non=>true
 | .int _,.int _=>true|.bl _,.bl _=>true|.str _,.str _=>true|.byt _,.byt _=>true
 | .int _,.str _=>true|.str _,.int _=>true|.bl _,.str _=>true|.str _,.bl _=>true
 | _,_=>false
def zo:R2:=fun x y H Q=>zB x y=true/\Q (.bl (decide (x=y))) H
theorem DF{i j:Int}:decide (V.int i=V.int j)=(i==j):=by rw[Bool.eq_iff_iff];simp
theorem Cu{i j:Bool}:decide (V.bl i=V.bl j)=(i==j):=by rw[Bool.eq_iff_iff];simp
theorem DE{i j:Str}:decide (V.str i=V.str j)=(i==j):=by rw[Bool.eq_iff_iff];simp
theorem DD{i j:Array UInt8}:decide (V.byt i=V.byt j)=(i.toList==j.toList):=by rw[Bool.eq_iff_iff];cases i;cases j;simp
variable {us:List Value} {y:V}
section
variable {a b:Expr} {tc:TE}
theorem fP{σ:St}{Q:VK}{k k':Bool}(I:Inv X pins σ H s)(q:Q (.bl k) H)(e:k=k'):EP X pins σ Q (.bool k') s:=by subst e;exact⟨.bl k,H,I,rfl,q⟩
theorem u5:dG X (compareOp .Eq) zo:=by
 intro pins s σ H x y v u Q I rx ry h;obtain⟨hs,q⟩:=h;cases x with
 | non =>
  cases rx;cases y with
  | non=>cases ry;exact PySem.EqNone.eq_none_none (fP I q (by simp))
  | bl j=>cases ry;exact PySem.EqNone.eq_none_bool (fP I q (by simp))
  | int j=>obtain⟨t',rfl⟩:=ry;exact eq_none_int (fP I q (by simp))
  | str j=>obtain⟨t',rfl⟩:=ry;exact eq_none_str (fP I q (by simp))
  | _=>exact absurd (show false=true from hs) Bool.false_ne_true
 | bl i =>
  cases rx;cases y with
  | non=>cases ry;exact PySem.EqNone.eq_bool_none (fP I q (by simp))
  | bl j=>cases ry;exact eq_bool (fP I q Cu)
  | str j=>obtain⟨t',rfl⟩:=ry;exact eq_bool_str (fP I q (by simp))
  | _=>exact absurd (show false=true from hs) Bool.false_ne_true
 | int i =>
  obtain⟨t,rfl⟩:=rx;cases y with
  | non=>cases ry;exact eq_int_none (fP I q (by simp))
  | int j=>obtain⟨t',rfl⟩:=ry;exact eq_int (fP I q DF)
  | str j=>obtain⟨t',rfl⟩:=ry;exact eq_int_str (fP I q (by simp))
  | _=>exact absurd (show false=true from hs) Bool.false_ne_true
 | str i =>
  obtain⟨t,rfl⟩:=rx;cases y with
  | non=>cases ry;exact eq_str_none (fP I q (by simp))
  | bl j=>cases ry;exact eq_str_bool (fP I q (by simp))
  | int j=>obtain⟨t',rfl⟩:=ry;exact eq_str_int (fP I q (by simp))
  | str j=>obtain⟨t',rfl⟩:=ry;exact eq_str (fP I q DE)
  | _=>exact absurd (show false=true from hs) Bool.false_ne_true
 | byt i =>
  obtain⟨t,rfl⟩:=rx;cases y with
  | byt j=>obtain⟨t',rfl⟩:=ry;exact PySem.W.eq_bytes (fP I q DD)
  | _=>exact absurd (show false=true from hs) Bool.false_ne_true
 | _=>cases y<;>exact absurd (show false=true from hs) Bool.false_ne_true
theorem Be:dG X (compareOp .Lt) (jF fun i j=>.bl (decide (i<j))):=nZ fun _ _ _ _ _ _ _ q=>lt_int q
theorem u4:dG X (compareOp .LtE) (jF fun i j=>.bl (decide (i<=j))):=nZ fun _ _ _ _ _ _ _ q=>le_int q
theorem uJ:dG X (compareOp .Gt) (jF fun i j=>.bl (decide (j<i))):=nZ fun _ _ _ _ _ _ _ q=>gt_int q
theorem Bc:dG X (compareOp .GtE) (jF fun i j=>.bl (decide (j<=i))):=nZ fun _ _ _ _ _ _ _ q=>ge_int q
theorem ic(b:Expr)(h:op≠.In:=by decide)(h2:op≠.NotIn:=by decide):behindInMarks op b=false:=by
 have e1:(op==CmpOp.In)=false:=by cases op<;>first|rfl|exact absurd rfl h
 have e2:(op==CmpOp.NotIn)=false:=by cases op<;>first|rfl|exact absurd rfl h2
 cases b<;>simp[behindInMarks,e1,e2]
theorem wM{r:R2}(ho:dG X (compareOp op) r)(ha:PE X a ta)(hb:PE X b tb)(hm:behindInMarks op b=false):PE X (.Compare a [op] [b] pos) (k7 r ta tb):=by intro pins s σ H Q I h;exact wpAny_Compare1 (ql ha hb I h fun v u s2 x y H2 I2 rx ry q=>ho pins s2 σ H2 x y v u Q I2 rx ry q) hm
def Bb(t:TE):TT:=fun σ H Q=>t σ H fun x H'=>∃k,x=.bl k/\Q k H'
theorem DC{r:R2}(ho:dG X (compareOp op) r)(ha:PE X a ta)(hb:PE X b tb)(hm:behindInMarks op b=false):PT X (.Compare a [op] [b] pos) (Bb (k7 r ta tb)):=by
 intro pins s σ H Q I h;refine wpAny_isTrue_Compare1 (aK (ha pins s σ H _ I h) fun v s1 ⟨x,H1,I1,r1,q1⟩=>aK (hb pins s1 σ H1 _ I1 q1) fun u s2 ⟨y,H2,I2,r2,q2⟩ =>
  aK (ho pins s2 σ H2 x y v u _ I2 r1 r2 q2) fun c s3 ⟨z,H3,I3,r3,k,e,q3⟩=>?_) hm
 subst e;cases r3;exact wpAny_truthy_bool ⟨H3,I3,q3⟩
def vL(r r':R2)(ta tb tc:TE):TE:=fun σ H Q=>ta σ H fun x H1=>tb σ H1 fun y H2=>r x y H2 fun z H3=>∃k,z=.bl k /\
 (if k=true then tc σ H3 fun w' H4=>r' y w' H4 Q else Q (.bl false) H3)
theorem EU{op':CmpOp}{r r':R2}(ho:dG X (compareOp op) r)(ho':dG X (compareOp op') r')(ha:PE X a ta)(hb:PE X b tb)(hc:PE X c tc)(hm:lastMarks [op,op'] [b,c]=false:=by with_unfolding_all rfl):PE X (.Compare a [op,op'] [b,c] pos) (vL r r' ta tb tc):=by
 intro pins s σ H Q I h;refine Compare_chain (aK (ha pins s σ H _ I h) fun v s1 ⟨x,H1,I1,r1,q1⟩=>chain_link (aK (hb pins s1 σ H1 _ I1 q1) fun u s2 ⟨y,H2,I2,r2,q2⟩ =>
  aK (ho pins s2 σ H2 x y v u _ I2 r1 r2 q2) fun d s3 ⟨z,H3,I3,r3,k,e,q3⟩=>?_)) hm
 subst e;cases r3;refine wpAny_truthy_bool ?_;cases k with
 | false=>exact ite_ff ⟨.bl false,H3,I3,rfl,q3⟩
 | true=>exact ite_tt (chain_last (aK (hc pins s3 σ H3 _ I3 q3) fun w' s4 ⟨z',H4,I4,r4,q4⟩=>ho' pins s4 σ H4 y z' u w' Q I4 r2 r4 q4))
def nY(K:Frag)(x:V)(H:Hp)(k:Bool):Prop :=
 match x with
 | .non=>k=false
 | .bl b=>k=b
 | .int i=>k=(i != 0)
 | .str y=>y.length<=sizeLine/\k=((y.length:Int) != 0)
 | .byt y=>y.size<=sizeLine/\k=((y.size:Int) != 0)
 | .ref p=>(∃xs,cP K H p xs/\k=!xs.isEmpty)\/(∃xs,eI K H p xs/\k=!xs.isEmpty)\/∃kvs,H p=some (.dK kvs)/\k=!kvs.isEmpty
 | _=>False
theorem GQ{κ:Type}{kvs:List (κ×V)}{vs:List (κ×Value)}(r:KV kvs vs):(!vs.isEmpty)=!kvs.isEmpty:=by cases r<;>rfl
theorem yO{its:List Value}(r:Vals xs its):(!its.toArray.isEmpty)=!xs.isEmpty:=by cases r<;>simp
theorem m_:(sizeLine:Nat)<2 ^ 63:=by rw[sizeLine_eq];decide
theorem Bu:zC X (fun x H Q=>∃k,nY X.K x H k/\Q k H):=by
 intro pins s σ H x v Q I rx h;obtain⟨k,e,q⟩:=h;have hl:=m_;have hs:sizeLine=16777216:=sizeLine_eq;cases x with
 | non =>
  cases rx;have e':k=false:=e;subst e';exact truthy_none ⟨H,I,q⟩
 | bl b =>
  cases rx;have e':k=b:=e;subst e';exact wpAny_truthy_bool ⟨H,I,q⟩
 | int i =>
  obtain⟨t,rfl⟩:=rx;have e':k=(i != 0):=e;subst e';exact PySem.P.truthy_int ⟨H,I,q⟩
 | str y =>
  obtain⟨t,rfl⟩:=rx;obtain⟨hy,e'⟩:y.length<=sizeLine/\k=((y.length:Int) != 0):=e;subst e';exact PySem.P.truthy_str (by omega) ⟨H,I.tok _,q⟩
 | byt y =>
  obtain⟨t,rfl⟩:=rx;obtain⟨hy,e'⟩:y.size<=sizeLine/\k=((y.size:Int) != 0):=e;subst e';exact PySem.W.truthy_bytes (by omega) ⟨H,I.tok _,q⟩
 | ref p =>
  cases rx;have e':(∃xs,cP X.K H p xs/\k=!xs.isEmpty)\/(∃xs,eI X.K H p xs/\k=!xs.isEmpty)\/∃kvs,H p=some (.dK kvs)/\k=!kvs.isEmpty:=e;rcases e' with ⟨xs,hx,e'⟩|⟨xs,hx,e'⟩|⟨kvs,hx,e'⟩
  ·subst e';obtain⟨its,r,pl,hz⟩:=I.list hx;have hlen:=r.length;exact wpAny_truthy_list pl.isList (by simp only[size_toArray];omega) ⟨H,I.tok _,by rw[yO r];exact q⟩
  ·subst e';obtain⟨its,r,pl,hz⟩:=I.tuple hx;have hlen:=r.length;exact truthy_tuple pl (by simp only[size_toArray];omega) ⟨H,I.tok _,by rw[yO r];exact q⟩
  ·subst e';obtain⟨hz,hS,vs,r,m⟩:kvs.length<=sizeLine/\(p==sysModules)=false/\∃vs,KV kvs vs/\s.heap.DictOf (e7 X.prog X.w) p vs:=I.hok p _ hx;have hlen:kvs.length=vs.length:=Paired.length r;exact wpAny_truthy_dict hS m (by omega) ⟨H,I.tok _,by rw[GQ r];exact q⟩
 | _=>exact(show False from e).elim
theorem ET(ha:PE X a ta)(he:∀whole,isTrue a X.env whole=(do let v <- whole;standAt a.pos;holding [v] (truthy v))) :
  PT X a (fun σ H Q=>ta σ H fun x H'=>∃k,nY X.K x H' k/\Q k H'):=by
 intro pins s σ H Q I h;exact isTrue_plain (aK (ha pins s σ H _ I h) fun v s1 ⟨x,H1,I1,r1,q1⟩=>Bu pins s1 σ H1 x v Q I1 r1 q1) (he _)
theorem hU{x:V}(r:Vals [x] us):∃u,us=[u]/\RelV x u:=by
 cases r with
 | cons r1 r2=>cases r2;exact⟨_,rfl,r1⟩
theorem og{x:V}(r:Vals [x,y] us):∃u w',us=[u,w']/\RelV x u/\RelV y w':=by
 cases r with
 | cons r1 r2 =>
  cases r2 with
  | cons r3 r4=>cases r4;exact⟨_,_,rfl,r1,r3⟩
theorem FT:aM X (.type "int") (fun xs H Q=>(∃i,xs=[.int i]/\Q (.int i) H)\/∃k,xs=[.bl k]/\Q (.int (if k then 1 else 0)) H):=by
 intro pins s σ H xs us Q I r h;rcases h with ⟨i,rfl,q⟩|⟨k,rfl,q⟩
 ·obtain⟨u,rfl,t,rfl⟩:=hU r;exact call_int_int ⟨.int i,H,I,⟨_,rfl⟩,q⟩
 ·obtain⟨u,rfl,r1⟩:=hU r;cases r1;exact call_int_bool ⟨.int (if k then 1 else 0),H,I.tok _,⟨_,rfl⟩,q⟩
def um(K:Frag)(x:V)(H:Hp)(n:Nat):Prop :=
 match x with
 | .str y=>y.length<=sizeLine/\n=y.length
 | .byt y=>y.size<=sizeLine/\n=y.size
 | .ref p=>(∃xs,cP K H p xs/\n=xs.length)\/∃xs,eI K H p xs/\n=xs.length
 | _=>False
theorem ES:aM X (.builtin "len") (fun xs H Q=>∃x n,xs=[x]/\um X.K x H n/\Q (.int n) H):=by
 intro pins s σ H xs us Q I r h;obtain⟨x,n,rfl,e,q⟩:=h;obtain⟨u,rfl,rx⟩:=hU r;have hl:=m_;have hs:sizeLine=16777216:=sizeLine_eq;cases x with
 | str y =>
  obtain⟨t,rfl⟩:=rx;obtain⟨hy,e'⟩:y.length<=sizeLine/\n=y.length:=e;subst e';exact len_str (by omega) ⟨.int _,H,I.tok _,⟨_,rfl⟩,q⟩
 | byt y =>
  obtain⟨t,rfl⟩:=rx;obtain⟨hy,e'⟩:y.size<=sizeLine/\n=y.size:=e;subst e';exact PySem.W.len_bytes (by omega) ⟨.int _,H,I.tok _,⟨_,rfl⟩,q⟩
 | ref p =>
  cases rx;have e':(∃xs,cP X.K H p xs/\n=xs.length)\/∃xs,eI X.K H p xs/\n=xs.length:=e;rcases e' with ⟨xs,hx,e'⟩|⟨xs,hx,e'⟩
  ·subst e';obtain⟨its,r',pl,hz⟩:=I.list hx;have hlen:=r'.length;exact Calls.call_len_list pl.isList (by simp only[size_toArray];omega) ⟨.int xs.length,H,I.tok _,⟨_,by simp only[size_toArray];rw[hlen]⟩,q⟩
  ·subst e';obtain⟨its,r',pl,hz⟩:=I.tuple hx;have hlen:=r'.length;exact len_tuple pl (by simp only[size_toArray];omega) ⟨.int xs.length,H,I.tok _,⟨_,by simp only[size_toArray];rw[hlen]⟩,q⟩
 | _=>exact(show False from e).elim
end
structure fV (h:Heap) (x dx C:Addr) (mA:Str->Option Value):Prop where
 obj:h.get? x=some (instObj C dx)
 ns:h.Ns1 dx mA
 ne:dx≠x
variable {dx:Addr} {mA:Str->Option Value}
theorem FR(n:h.Ns1 dx mA):∃od,h.get? dx=some od/\∀name,lookIn name od=some (mA name):=by
 obtain⟨o,es,ep,ho,hd,hk,_,hm⟩:=n;refine⟨o,ho,fun name=>?_⟩;have e:=hm name;unfold nsFind findBy at e;rw[<- find?_toList] at e;unfold lookIn;rw[hd];dsimp only;split
 ·rename_i y q;rw[q] at e;exact congrArg some e
 ·rename_i q;rw[q] at e;have a:es.toList.any (·.refKey)=false:=by rw[any_eq_false];intro y hy;obtain⟨z,t,hkey⟩:=hk y (mem_toList_iff.mp hy);simp[DictEntry.refKey,hkey]
  have a':¬es.toList.any (·.refKey)=true:=by rw[a];exact Bool.false_ne_true
  rw[if_neg a'];exact congrArg some e
theorem fV.look{x C:Addr}(I:fV h x dx C mA):∃od,PySem.W.InstAt h x (instObj C dx) C (some od)/\∀name,lookIn name od=some (mA name) :=
 let ⟨od,ho,hl⟩:=FR I.ns
 ⟨od,⟨I.obj,rfl,rfl,ho⟩,hl⟩
variable {pl:Sem Bool} {prog:Program} {name:Str} {kw:List (Str×Value)}
section
variable {x C f:Addr} {v:Value}
theorem DB{expr:Bool}(X:K.In s.heap)(I:fV s.heap x dx C mA)(hg:plainGet K C name=true)(hh:hasDictIn K C=true)(ha:findIn K (.ref C) name=some none)(hv:mA name=some v)(hv':handedIn v=true)(h:Q v { s with toks:=s.toks+1 }) :
  wpAny (model prog w) A (getAttr (.ref x) name expr) Q E s:=by
 obtain⟨od,J,hl⟩:=I.look;exact PySem.W.get_value X J (plainGet_of hg).1 (PySem.W.findObj_own hh ha rfl (by rw[hl,hv])) hv' h
theorem ER{Q:Value×List Value->Shared->Prop}(X:K.In s.heap)(I:fV s.heap x dx C mA)(hg:plainGet K C name=true)(hf:findIn K (.ref C) name=some (some (.ref f)))(ht:isFn K (.ref f)=true)(hv:mA name=none)(h:Q (.ref f,[.ref x]) s) :
  wpAny (model prog w) A (getMethod (.ref x) name pl) Q E s:=by
 obtain⟨od,J,hl⟩:=I.look;exact PySem.W.method_fn X J (plainGet_of hg).1 (plainGet_of hg).2 hf (beq_iff_eq.mp ht) (by show(lookIn name od).map (·.isSome)=some false;rw[hl,hv];rfl) h
theorem DA{ns:List Str}{Q:Unit->Shared->Prop}(X:K.In s.heap)(I:fV s.heap x dx C mA)(hs:findIn K (.ref C) "__setattr__" = some (some (.builtin "object.__setattr__")))(hp:plainOver K C=true)(ht:takerIn K C name=some none)(hh:hasDictIn K C=true)(hw:PySem.Within mA ns)(hsz:ns.length<=sizeLine)(h:∀h',fV h' x dx C (fun y=>if y=name then some v else mA y)->Heap.SameBut dx s.heap h'->Q () { s with heap:=h',toks:=s.toks+2 }) :
  wpAny (model prog w) A (setAttr (.ref x) name v) Q E s:=by
 obtain⟨od,J,hl⟩:=I.look;refine set_plain X J hs (PySem.W.osa_open (s:={ s with toks:=s.toks+1 }) (r:=none) X J hp ht fun b=>?_);obtain⟨cd,hc,hd'⟩:=any_some hh;have hx:s.heap.get? x=some ⟨.ref C,some dx,.plain,#[]⟩:=I.obj;refine wpAny_bind (wpAny_pure (wpAny_bind (wpAny_bind (wpAny_loadPart hx (wpAny_bind (here (s:={ s with toks:=s.toks+1 }) (looks_clsIn X hc) ?_))))));rw[hd'];refine wpAny_pure (a:=some dx) (wpAny_bind (wpAny_pure (wpAny_bind ?_)));refine wpAny_nsSet1 (s:={ s with toks:=s.toks+1 }) I.ns fun h' hn2 hs2=>?_;obtain⟨oD,esD,epD,hoD,hdD,hcD⟩:=hn2.count (PySem.Within.cons name v hw);refine wpAny_bind (wpAny_lookBehind hoD (by rw[hdD];exact pastItsLine_dict (le_trans hcD (by rw[length_cons];omega))) ?_);exact wpAny_pure (h _ ⟨(hs2.2 _ (Ne.symm I.ne)).trans I.obj,hn2,I.ne⟩ hs2)
theorem EO{R:Result->Shared->Prop}{vs:List Value}(X:K.In s.heap)(hm:makesIn K C=true)(hi:findIn K (.ref C) "__init__" = some (some (.ref f)))(hf:typeIn K (.ref f)=some (.type "function"))(h:codeAny (model prog w) (A.under (.builtin "type.__call__" ⟨.ref C::vs,kw⟩)) (.call (.ref f) ⟨.ref (s.heap.objs.size+1)::vs,kw⟩) (PySem.W.InitBack (s.heap.objs.size+1) R)
   { s with heap:=(s.heap.push emptyDict).push (instObj C s.heap.objs.size) }) :
  codeAny (model prog w) A (.call (.ref C) ⟨vs,kw⟩) R s:=by
 obtain⟨hh,g,d,t,os⟩:=s;exact PySem.W.make_core (PySem.W.makes_of X hm) (PySem.W.looks_findIn X hi) (fun self=>bind_fn X self hf) (.inl rfl) h
end
def eU(f:Str)(v:V):List (Str×V)->List (Str×V)
 | []=>[(f,v)]
 | (g,x)::r=>if g=f then (g,v)::r else (g,x)::eU f v r
theorem yU(f g:Str)(v:V):∀fs:List (Str×V),(eU f v fs).lookup g=if g=f then some v else fs.lookup g
 | []=>by
  show List.lookup g [(f,v)]=_
  by_cases h:g=f
  ·have hb:(g==f)=true:=beq_iff_eq.mpr h;simp only[List.lookup,hb,if_pos h]
  ·have hb:(g==f)=false:=beq_eq_false_iff_ne.mpr h;simp only[List.lookup,hb,if_neg h]
 | (k,x)::r=>by
  have ih:=yU f g v r;rw[show eU f v ((k,x)::r)=(if k=f then (k,v)::r else (k,x)::eU f v r) from rfl]
  by_cases hk:k=f
  ·rw[if_pos hk]
   by_cases h:g=k
   ·have hb:(g==k)=true:=beq_iff_eq.mpr h;simp only[List.lookup,hb,if_pos (h.trans hk)]
   ·have hb:(g==k)=false:=beq_eq_false_iff_ne.mpr h;simp only[List.lookup,hb,if_neg (fun e:g=f=>h (e.trans hk.symm))]
  ·rw[if_neg hk]
   by_cases h:g=k
   ·have hb:(g==k)=true:=beq_iff_eq.mpr h;simp only[List.lookup,hb,if_neg (fun e:g=f=>hk (h.symm.trans e))]
   ·have hb:(g==k)=false:=beq_eq_false_iff_ne.mpr h;simp only[List.lookup,hb];exact ih
theorem sM(f:Str)(v:V):∀fs:List (Str×V),f∈(eU f v fs).map (·.1)/\∀g,g∈fs.map (·.1)->g∈(eU f v fs).map (·.1)
 | []=>⟨by simp[eU],fun g h=>by simp at h⟩
 | (k,x)::r=>by
  obtain⟨i1,i2⟩:=sM f v r;rw[show eU f v ((k,x)::r)=(if k=f then (k,v)::r else (k,x)::eU f v r) from rfl]
  by_cases hk:k=f
  ·rw[if_pos hk];subst hk;exact⟨by simp,fun g h=>by simpa using h⟩
  ·rw[if_neg hk];refine⟨?_,fun g h=>?_⟩
   ·rw[map_cons];exact mem_cons_of_mem _ i1
   ·rw[map_cons] at h ⊢;rcases mem_cons.mp h with e|e
    ·exact mem_cons.mpr (.inl e)
    ·exact mem_cons_of_mem _ (i2 g e)
theorem yT(f:Str)(v:V):∀fs:List (Str×V),(eU f v fs).length<=fs.length+1
 | []=>by simp[eU]
 | (k,x)::r=>by
  have ih:=yT f v r;rw[show eU f v ((k,x)::r)=(if k=f then (k,v)::r else (k,x)::eU f v r) from rfl]
  by_cases hk:k=f
  ·rw[if_pos hk,length_cons,length_cons];omega
  ·rw[if_neg hk,length_cons,length_cons];omega
theorem c7.some_of{o:Option Value}(r:c7 (some v) o):∃u,o=some u/\RelV v u:=by
 cases o with
 | none=>exact(show False from r).elim
 | some u=>exact⟨u,rfl,r⟩
theorem c7.none_of{o:Option Value}(r:c7 none o):o=none:=by
 cases o with
 | none=>rfl
 | some u=>exact(show False from r).elim
theorem FQ(r:RelV v u):handedIn u=true:=by
 cases v with
 | non=>cases (show u=Value.none from r);rfl
 | bl b=>cases (show u=Value.bool b from r);rfl
 | int i=>obtain⟨t,e⟩:=(show ∃t,u=Value.int i t from r);cases e;rfl
 | str x=>obtain⟨t,e⟩:=(show ∃t,u=Value.str x t from r);cases e;rfl
 | byt b=>obtain⟨t,e⟩:=(show ∃t,u=Value.bytes b t from r);cases e;rfl
 | flt b=>obtain⟨t,e⟩:=(show ∃t,u=Value.float b t from r);cases e;rfl
 | ref a=>cases (show u=Value.ref a from r);rfl
 | ty n=>cases (show u=Value.type n from r);rfl
section
variable {C:Addr} {fs fs':List (Str×V)}
theorem o2(hok:cg P w H h)(e:H a=some (.ins C dx fs)):∃mA,fV h a dx C mA/\(∀f,c7 (fs.lookup f) (mA f))/\PySem.Within mA (fs.map (·.1))/\fs.length<=1000/\H dx=some (.own a):=by
 obtain⟨d,z,ne,ob,mA,n,r,q⟩:=(show aC P w H h a (.ins C dx fs) from hok a _ e)
 exact⟨mA,⟨ob,n,ne⟩,r,q,z,d⟩
end
structure Cls (K:Frag) (C:Addr):Prop where
 pg:plainGet K C Str.empty=true
 hd:hasDictIn K C=true
 po:plainOver K C=true
 sa:findIn K (.ref C) "__setattr__" = some (some (.builtin "object.__setattr__"))
theorem Cls.get{C:Addr}(c:Cls K C)(f:Str):plainGet K C f=true:=c.pg
def NoAttr(K:Frag)(C:Addr)(f:Str):Prop:=findIn K (.ref C) f=some none
theorem NoAttr.taker{C:Addr}{f:Str}(n:NoAttr K C f):takerIn K C f=some none:=by unfold takerIn;rw[show findIn K (.ref C) f=some none from n];rfl
structure Meth (K:Frag) (C:Addr) (m:Str) (f:Addr):Prop where
 at_:findIn K (.ref C) m=some (some (.ref f))
 fn:isFn K (.ref f)=true
 kp:keepIn K (.ref f)=true
variable {m:Str}
section
variable {σ:St} {C:Addr} {fs:List (Str×V)} {f:Str}
theorem GP{b:Bool}(I:Inv X pins σ H s)(e:H a=some (.ins C dx fs))(c:Cls X.K C)(n:NoAttr X.K C f)(l:fs.lookup f=some v)(h:∀u s',Inv X pins σ H s'->RelV v u->Q u s'):wpAny (model X.prog X.w) A (getAttr (.ref a) f b) Q E s:=by obtain⟨mA,O,r,_,_,_⟩:=o2 I.hok e;obtain⟨u,hu,ru⟩:=c7.some_of (v:=v) (o:=mA f) (by rw[<- l];exact r f);exact DB I.kIn O (c.get f) c.hd n hu (FQ ru) (h u _ (I.tok _) ru)
theorem sY{g:Addr}{Q:Value×List Value->Shared->Prop}(I:Inv X pins σ H s)(e:H a=some (.ins C dx fs))(c:Cls X.K C)(k:Meth X.K C m g)(l:fs.lookup m=none)(h:Q (.ref g,[.ref a]) s):wpAny (model X.prog X.w) A (getMethod (.ref a) m pl) Q E s:=by obtain⟨mA,O,r,_,_,_⟩:=o2 I.hok e;have hn:mA m=none:=c7.none_of (by rw[<- l];exact r m);exact ER I.kIn O (c.get m) k.at_ k.fn hn h
theorem GO{Q:Unit->Shared->Prop}(I:Inv X pins σ H s)(e:H a=some (.ins C dx fs))(c:Cls X.K C)(n:NoAttr X.K C f)(hl:fs.length<1000)(ry:RelV y u)(h:∀s',Inv X pins σ (upd H a (.ins C dx (eU f y fs))) s'->Q () s'):wpAny (model X.prog X.w) A (setAttr (.ref a) f u) Q E s:=by
 obtain⟨mA,O,r,wi,_,ho⟩:=o2 I.hok e;have hz:(fs.map (·.1)).length<=sizeLine:=by rw[length_map,sizeLine_eq];omega
 refine DA I.kIn O c.sa c.po n.taker c.hd wi hz fun h' O' sb=>h _ ?_;have hd:∃o,h'.get? dx=some o:=let ⟨o,_,_,e',_⟩:=O'.ns;⟨o,e'⟩
 refine I.write (x:=a) (e:=dx) (by rw[e];exact True.intro) (.inr ho) (fun b q hb z=>(sb.2 b hb).trans z) hd ?_;refine⟨by rw[bH O.ne];exact ho,?_,O.ne,O'.obj,_,O'.ns,fun g=>?_,fun g hg=>?_⟩
 ·have:=yT f y fs;omega
 ·show c7 ((eU f y fs).lookup g) (if g=f then some u else mA g);rw[yU]
  by_cases q:g=f
  ·rw[if_pos q,if_pos q];exact ry
  ·rw[if_neg q,if_neg q];exact r g
 ·by_cases q:g=f
  ·rw[q];exact(sM f y fs).1
  ·refine(sM f y fs).2 g (wi g fun z=>hg ?_);show(if g=f then some u else mA g)=none;rw[if_neg q];exact z
theorem Inv.made(I:Inv X pins σ H s):Inv X pins σ (upd (upd H s.heap.objs.size (.own (s.heap.objs.size+1))) (s.heap.objs.size+1) (.ins C s.heap.objs.size []))
  { s with heap:=(s.heap.push emptyDict).push (instObj C s.heap.objs.size) }:=by
 have e1:(s.heap.push emptyDict).get? s.heap.objs.size=some emptyDict:=Heap.get?_push_size s.heap rfl;have e2:((s.heap.push emptyDict).push (instObj C s.heap.objs.size)).get? (s.heap.objs.size+1)=some (instObj C s.heap.objs.size):=by have:=Heap.get?_push_size (s.heap.push emptyDict) (o:=instObj C s.heap.objs.size) rfl;rwa [Heap.size_push] at this
 have e3:(s.heap.push emptyDict).Ns s.heap.objs.size (fun _=>none):=⟨emptyDict,#[],_,e1,rfl,(fun e he=>absurd he (by simp)),fun _=>rfl⟩
 have I1:=I.laid (a:=s.heap.objs.size) (o:=.own (s.heap.objs.size+1)) (h':=s.heap.push emptyDict) (t':=s.toks) (fun b u q=>Heap.get?_push_of_some _ q) (le_refl _) ⟨_,e1⟩;refine I1.laid (a:=s.heap.objs.size+1) (o:=.ins C s.heap.objs.size []) (t':=s.toks) (fun b u q=>Heap.get?_push_of_some _ q) (le_of_eq (Heap.size_push _ _)) ?_;have ne:s.heap.objs.size≠s.heap.objs.size+1:=ne_of_lt (lt_succ_self _);refine⟨by rw[bH ne,cU],zero_le _,ne,e2,fun _=>none,(Heap.Ns1.of_empty e3).at fun o q=>Heap.get?_push_of_some _ q,fun _=>True.intro,fun y hy=>absurd rfl hy⟩
theorem Dz{env:Env}{f:Str}(hb:attributeBase e f env (eval e env)=eval e env)(h:wpAny (model prog w) A (eval e env) (fun o s₁=>wpAny (model prog w) A (getAttr o f true) Q E s₁) E s):wpAny (model prog w) A (eval (.Attribute e f pos) env) Q E s :=
 Attribute_any_ h (by rw[arm_eval_Attribute,hb])
end
def zA(K:Frag)(ta:TE)(f:Str):TE:=fun σ H Q=>ta σ H fun x H1=>∃a C dx fs v,x=.ref a/\H1 a=some (.ins C dx fs)/\Cls K C/\NoAttr K C f/\fs.lookup f=some v/\Q v H1
def zz(K:Frag)(ta tv:TE)(f:Str):TS:=fun D σ H=>tv σ H fun y H1=>ta σ H1 fun x H2=>∃a C dx fs,x=.ref a/\H2 a=some (.ins C dx fs)/\Cls K C/\NoAttr K C f/\fs.length<1000 /\
 D.nx σ (upd H2 a (.ins C dx (eU f y fs)))
section
variable {o value:Expr} {f:Str} {tpos:Pos} {tv:TE}
theorem Bt(he:PE X e ta)(hb:attributeBase e f X.env (eval e X.env)=eval e X.env):PE X (.Attribute e f pos) (zA X.K ta f):=by
 intro pins s σ H Q I h;refine Dz hb (aK (he pins s σ H _ I h) fun u s1 ⟨x,H1,I1,rx,a,C,dx,fs,v,ex,ea,c,n,l,q⟩=>?_);subst ex;obtain rfl:u=Value.ref a:=rx;exact GP I1 ea c n l fun u' s2 I2 ru=>⟨v,H1,I2,ru,q⟩
theorem Bs(ha:PE X o ta)(hv:PE X value tv)(hs:swapsWith value (some (.Attribute o f pos')) pos.line X.env=pure false):PS X (.Assign [.Attribute o f pos'] value pos) (zz X.K ta tv f):=by
 intro pins s σ H D I h;refine plainObj_wpAny_Assign_Attribute (aK (hv pins s σ H _ I h) fun u s1 ⟨y,H1,I1,ry,q⟩=>aK (ha pins s1 σ H1 _ I1 q) fun ov s2 ⟨x,H2,I2,rx,a,C,dx,fs,ex,ea,c,n,l,q2⟩=>?_) hs;subst ex;obtain rfl:ov=Value.ref a:=rx;exact GO I2 ea c n l ry fun s3 I3=>⟨σ,_,I3,q2⟩
end
section
variable {σ:St} {c:Value} {b:Bool}
inductive cO (K:Frag) (H:Hp):V->Value->Prop where
 | non:cO K H .non (.type "NoneType")
 | bl (x:Bool):cO K H (.bl x) (.type "bool")
 | int (i:Int):cO K H (.int i) (.type "int")
 | str (x:Str):cO K H (.str x) (.type "str")
 | flt (x:UInt64):cO K H (.flt x) (.type "float")
 | lst {a:Addr} {xs:List V} (e:H a=some (.lst xs)):cO K H (.ref a) (.type "list")
 | frz {a:Addr} {o:Obj} {xs:List V} (e:H a=some (.frz o (.lst xs))):cO K H (.ref a) (.type "list")
 | tup {a:Addr} {xs:List V} (e:H a=some (.tup xs)):cO K H (.ref a) (.type "tuple")
 | dK {a:Addr} {kvs:List (Key×V)} (e:H a=some (.dK kvs)):cO K H (.ref a) (.type "dict")
 | dT {a:Addr} {kvs:List (List Key×V)} (e:H a=some (.dT kvs)):cO K H (.ref a) (.type "dict")
 | ins {a C dx:Addr} {fs:List (Str×V)} (e:H a=some (.ins C dx fs)) (cl:Cls K C) (ha:findIn K (.ref C) "__class__" = some (some (.builtin "object.__class__")))
   (hn:PySem.W.specialIn K (.builtin "object.__class__") "__get__" = some (some (.builtin "getset_descriptor.__get__"))) (htk:PySem.W.takesIn K (.builtin "object.__class__")=some true)
   (hm:mroIn K C (.type "object")=some true):cO K H (.ref a) (.ref C)
theorem FP{x:V}{t:Value}(I:Inv X pins σ H s)(rx:RelV x u)(ty:cO X.K H x t)(e:kitOne X.K t c=some b)(h:∀tk,Q (.bool b) { s with toks:=tk }) :
  wpAny (model X.prog X.w) A (call (.builtin "isinstance") [u,c]) Q E s:=by
 cases ty with
 | non=>cases (show u=Value.none from rx);exact kia_one PySem.W.kitx_none I.kIn True.intro e (fun z=>nomatch z) h
 | bl y=>cases (show u=Value.bool y from rx);exact kia_one PySem.W.kitx_bool I.kIn True.intro e (fun z=>nomatch z) h
 | int i=>obtain⟨t,q⟩:=(show ∃t,u=Value.int i t from rx);cases q;exact kia_one PySem.W.kitx_int I.kIn True.intro e (fun z=>nomatch z) h
 | str y=>obtain⟨t,q⟩:=(show ∃t,u=Value.str y t from rx);cases q;exact kia_one PySem.W.kitx_str I.kIn True.intro e (fun z=>nomatch z) h
 | flt y=>obtain⟨t,q⟩:=(show ∃t,u=Value.float y t from rx);cases q;exact kia_one PySem.W.kitx_float I.kIn True.intro e (fun z=>nomatch z) h
 | @lst a xs ea =>
  cases (show u=Value.ref a from rx);obtain⟨_,_,n,_,h1⟩:=(show aC X.prog X.w H s.heap a (.lst xs) from I.hok a _ ea)
  exact kia_one kitx_list I.kIn ⟨_,h1,rfl⟩ e (fun z=>nomatch z) h
 | @frz a ob xs ea =>
  cases (show u=Value.ref a from rx);obtain⟨_,_,_,n,_,h1⟩:=(show aC X.prog X.w H s.heap a (.frz ob (.lst xs)) from I.hok a _ ea)
  exact kia_one kitx_list I.kIn ⟨_,h1,rfl⟩ e (fun z=>nomatch z) h
 | @tup a xs ea =>
  cases (show u=Value.ref a from rx);obtain⟨_,_,_,p⟩:=(show aC X.prog X.w H s.heap a (.tup xs) from I.hok a _ ea)
  obtain⟨o,h1,h2,_⟩:=p;exact kia_one PySem.W.kitx_tuple I.kIn ⟨o,h1,h2⟩ e (fun z=>nomatch z) h
 | @dK a kvs ea =>
  cases (show u=Value.ref a from rx);obtain⟨_,_,vs,_,p⟩:=(show aC X.prog X.w H s.heap a (.dK kvs) from I.hok a _ ea)
  obtain⟨o,es,ep,h1,h2,_⟩:=p;exact kia_one kitx_dict I.kIn ⟨o,h1,h2.1⟩ e (fun z=>nomatch z) h
 | @dT a kvs ea =>
  cases (show u=Value.ref a from rx);obtain⟨_,_,xs,_,o,es,ep,h1,h2,_⟩:=(show aC X.prog X.w H s.heap a (.dT kvs) from I.hok a _ ea)
  exact kia_one kitx_dict I.kIn ⟨o,h1,h2.1⟩ e (fun z=>nomatch z) h
 | @ins a C dx fs ea cl ha hn htk hm =>
  cases (show u=Value.ref a from rx);obtain⟨mA,O,_⟩:=o2 I.hok ea;obtain⟨od,J,_⟩:=O.look;exact kia_one (PySem.W.kitx_own (cl.get _) cl.hd ha hn htk hm) I.kIn J e (fun z=>nomatch z) h
end
structure aO (k:Nat) (A:Around):Prop where
 hd:A.handled=none
 dp:A.depth+3*k+5<recursionLimit
 un:A.units+16*k+200<cLine
theorem aO.mono{j:Nat}(r:aO k A)(h:j<=k):aO j A:=⟨r.hd,by have:=r.dp;omega,by have:=r.un;omega⟩
theorem aO.deeper(r:aO (k+1) A)(env:Env):aO k (A.deeper env) :=
 ⟨r.hd,by have:=r.dp;show A.depth+1+3*k+5<_;omega,by have:=r.un;show A.units+3+16*k+200<_;omega⟩
theorem GN{C:Addr}:(A.under (.builtin "type.__call__" ⟨.ref C::us,kw⟩)).depth=A.depth+1:=by
 first|rfl|simp[Around.under,Code.weight,Code.isCreation,Code.isGuard,Code.isCaller,Code.frames,Code.isFrame,guardIds]
theorem GL{C:Addr}:(A.under (.builtin "type.__call__" ⟨.ref C::us,kw⟩)).units=A.units+1:=by
 first|rfl|simp[Around.under,Code.cUnits,Code.frames,Code.isFrame]
theorem aO.make(r:aO (k+1) A)(C:Addr)(us:List Value)(kw:List (Str×Value)):aO k (A.under (.builtin "type.__call__" ⟨.ref C::us,kw⟩)) :=
 ⟨r.hd,by have:=r.dp;rw[GN];omega,by have:=r.un;rw[GL];omega⟩
theorem aO.depth(r:aO k A):A.depth<recursionLimit:=by have:=r.dp;omega
theorem aO.units(r:aO k A):A.units+64<cLine:=by have:=r.un;omega
def uk:TA:=fun _ H Q=>Q [] H
def Ba(ta:TE)(tr:TA):TA:=fun σ H Q=>ta σ H fun x H1=>tr σ H1 fun xs H2=>Q (x::xs) H2
variable {t:TA}
theorem m9:PA X [] uk:=fun _ _ _ _ H Q I h=>Calls.spliced_nil ⟨[],H,I,.nil,h⟩
theorem mh(ha:PE X e te)(hr:PA X es t)(hs:starEach (e::es) X.env=(false,eval e X.env)::starEach es X.env:=by rfl):PA X (e::es) (Ba te t):=by
 intro pos pins s σ H Q I h;rw[hs];show wpAny _ _ (spliced ((false,eval e X.env)::backTo pos (starEach es X.env))) _ _ s;refine Calls.spliced_cons (aK (ha pins s σ H _ I h) fun u s1 ⟨x,H1,I1,r1,q1⟩=>?_);exact aK (hr pos pins s1 σ H1 _ I1 q1) fun us s2 ⟨xs,H2,I2,r2,q2⟩=>⟨x::xs,H2,I2,.cons r1 r2,q2⟩
def zy(t:TA):TE:=fun σ H Q=>t σ H fun xs H1=>xs.length<=sizeLine/\∀p,H1 p=none->Q (.ref p) (upd H1 p (.tup xs))
def zX(t:TA):TE:=fun σ H Q=>t σ H fun xs H1=>xs.length<=sizeLine/\∀p,H1 p=none->Q (.ref p) (upd H1 p (.lst xs))
theorem vK{x1}(h:PA X es t):PE X (.Tuple es x1 pos) (zy t):=by intro pins s σ H Q I hq;refine wpAny_Tuple_spliced (aK (h pos pins s σ H _ I hq) fun us s1 ⟨xs,H1,I1,r,z,q⟩=>⟨by rw[<- r.length];exact z,?_⟩);have hf:H1 s1.heap.objs.size=none:=I1.hok.fresh (le_refl _);refine⟨.ref s1.heap.objs.size,upd H1 s1.heap.objs.size (.tup xs),I1.laid (t':=s1.toks) (fun b u e=>Heap.get?_push_of_some _ e) (le_refl _) ?_,rfl,q _ hf⟩;exact⟨z,us,r,⟨_,Heap.get?_push_size _ rfl,rfl,⟨_,rfl⟩,rfl⟩⟩
theorem vJ(h:PA X es t):PE X (.List es pos) (zX t):=by intro pins s σ H Q I hq;refine wpAny_List_spliced (aK (h pos pins s σ H _ I hq) fun us s1 ⟨xs,H1,I1,r,z,q⟩=>⟨by rw[<- r.length];exact z,?_⟩);have hf:H1 s1.heap.objs.size=none:=I1.hok.fresh (le_refl _);refine⟨.ref s1.heap.objs.size,upd H1 s1.heap.objs.size (.lst xs),I1.laid (t':=s1.toks) (fun b u e=>Heap.get?_push_of_some _ e) (le_refl _) ?_,rfl,q _ hf⟩;exact⟨z,us,0,r,Heap.get?_push_size _ rfl⟩
abbrev Sp:=List V->Hp->VK->XK->Prop
abbrev iA:=List Env->Hp->Shared->XK->Value->Shared->Prop
structure fW (P:Program) (w:World) (K:Frag) (mg:Str->Option Value) (base:Heap) (A:Around) (outer:List Env) (s:Shared) (H:Hp):Prop where
 frames:A.frames=some outer
 mod:Mod K mg base
 bs:∀b o,base.get? b=some o->s.heap.get? b=some o/\H b=none
 bsz:base.objs.size<=s.heap.objs.size
 funs:s.heap.FunFrames base outer
 frf:∀b∈cW outer,H b=none
 hok:cg P w H s.heap
 bare:AllBare s.gens
def CE(outer:List Env)(P:Program)(w:World)(H:Hp)(s:Shared)(Q:VK)(u:Value)(s':Shared):Prop :=
 ∃v H',s'.os=s.os/\AllBare s'.gens/\Un (cW outer) [] H H' s.heap s'.heap/\cg P w H' s'.heap/\RelV v u/\Q v H'
def CR(CX:iA)(outer:List Env)(P:Program)(w:World)(H:Hp)(s:Shared)(Q:VK)(E:XK)(r:Result)(s':Shared):Prop :=
 match r with
 | .ok (.ret u)=>CE outer P w H s Q u s'
 | .ok _=>False
 | .error e=>CX outer H s E e s'
structure ax (P:Program) (w:World) (K:Frag) (mg:Str->Option Value) (base:Heap) (CX:iA) (k:Nat) (f:Addr) (fd:FuncData) (ps:List Str) (sp:Sp):Prop where
 len:∀vs H Q E,sp vs H Q E->vs.length=ps.length
 run:∀(A:Around) (outer:List Env) (s:Shared) (H:Hp) (args:Args) (us:List Value) (vs:List V) (Q:VK) (E:XK),aO k A->fW P w K mg base A outer s H->BindsTo s fd args (ps.zip us)->Vals vs us->sp vs H Q E ->
  codeAny (model P w) A (.call (.ref f) args) (CR CX outer P w H s Q E) s
variable {mg:Str->Option Value} {base:Heap} {CX:iA} {fd:FuncData} {ps:List Str} {sp:Sp}
theorem ax.imp{f:Addr}{sp':Sp}(F:ax P w K mg base CX k f fd ps sp)(h:∀vs H Q E,sp' vs H Q E->sp vs H Q E):ax P w K mg base CX k f fd ps sp' :=
 ⟨fun vs H Q E q=>F.len vs H Q E (h _ _ _ _ q),fun A outer s H args us vs Q E hr he hb hv hs=>F.run A outer s H args us vs Q E hr he hb hv (h _ _ _ _ hs)⟩
variable {outer:List Env}
theorem fW.make(e:fW P w K mg base A outer s H)(C:Addr)(us:List Value)(kw:List (Str×Value)) :
  fW P w K mg base (A.under (.builtin "type.__call__" ⟨.ref C::us,kw⟩)) outer s H:=⟨by first|exact e.frames|(simpa[Around.under,Code.envs,Code.isFrame,pushEnvs] using e.frames),e.mod,e.bs,e.bsz,e.funs,e.frf,e.hok,e.bare⟩
section
variable {σ:St}
theorem Inv.env0(I:Inv X pins σ H s):fW X.prog X.w X.K X.mg X.base X.A X.stack s H :=
 ⟨I.ok.frames,I.ok.mod,I.bs,le_trans I.ok.bsz I.sz,I.stack,I.stkFree,I.hok,I.bare⟩
theorem Inv.after{Q:VK}(I:Inv X pins σ H s)(h:CE X.stack X.prog X.w H s Q u s'):EP X pins σ Q u s':=by obtain⟨v,H',os,bare,un,hok,r,q⟩:=h;obtain⟨hh,g,d,t,os'⟩:=s';obtain rfl:os'=s.os:=os;exact⟨v,H',I.call (h':=hh) (g':=g) (d':=d) (t':=t) (ch:=[]) un hok bare (fun b z=>absurd z (by simp)),r,q⟩
end
def Aj(sp:Sp)(dvs:List V)(E:XK)(t:TA):TE:=fun σ H Q=>t σ H fun vs H1=>sp (vs++dvs) H1 Q E
def uI(C:Addr)(m:Str)(sp:Sp)(dvs:List V)(E:XK)(ta:TE)(t:TA):TE:=fun σ H Q=>ta σ H fun x H1=>∃a dx fs,x=.ref a/\H1 a=some (.ins C dx fs)/\fs.lookup m=none /\
 t σ H1 fun vs H2=>sp (x::(vs++dvs)) H2 Q E
def Ai(C:Addr)(sp:Sp)(dvs:List V)(E:XK)(t:TA):TE:=fun σ H Q=>t σ H fun vs H1=>∀x dx,H1 x=none->H1 dx=none->dx≠x ->
 sp (.ref x::(vs++dvs)) (upd (upd H1 dx (.own x)) x (.ins C dx [])) (fun v H2=>v=.non/\Q (.ref x) H2) E
def Binds(K:Frag)(fd:FuncData)(ps:List Str)(ds:List Value):Prop :=
 ∀(s:Shared) (us:List Value),K.In s.heap->(us++ds).length=ps.length->BindsTo s fd ⟨us,[]⟩ (ps.zip (us++ds))
theorem Binds.all(h:∀us:List Value,us.length=ps.length->bindArgs fd ⟨us,[]⟩=pure (ps.zip us)):Binds K fd ps []:=fun s us _ hl=>by
 rw[append_nil] at hl ⊢;exact .of_eq (h us hl)
def fO(CX:iA)(X:Cx)(E:XK):Prop:=∀(pins:List (Addr×Obj)) (σ:St) (H:Hp) (s:Shared) (e:Value) (s':Shared),Inv X pins σ H s->CX X.stack H s E e s'->X.xe e s'
variable {vs:List V} {apos:Pos}
section
variable {f C:Addr} {dvs:List V} {ds:List Value} {E:XK} {x:Str} {o:Expr}
theorem lU{σ:St}{Q:VK}(F:ax X.prog X.w X.K X.mg X.base CX k f fd ps sp)(hr:aO k X.A)(hb:Binds X.K fd ps ds)(hd:Vals dvs ds)(hx:fO CX X E)(I:Inv X pins σ H s)(r:Vals vs us)(h:sp (vs++dvs) H Q E):wpAny (model X.prog X.w) X.A (call (.ref f) us) (EP X pins σ Q) X.xe s:=by
 have r2:Vals (vs++dvs) (us++ds):=r.append hd;have hl:(us++ds).length=ps.length:=by rw[<- r2.length];exact F.len _ _ _ _ h
 refine wpAny_call (codeAny_mono (F.run X.A X.stack s H ⟨us,[]⟩ (us++ds) (vs++dvs) Q E hr I.env0 (hb s us I.kIn hl) r2 h) fun r s' hq=>?_);cases r with
 | error e=>exact hx pins σ H s e s' I hq
 | ok fl =>
  cases fl with
  | ret u=>exact I.after hq
  | next=>exact False.elim hq
  | brk=>exact False.elim hq
  | cont=>exact False.elim hq
theorem Dy(F:ax X.prog X.w X.K X.mg X.base CX k f fd ps sp)(hr:aO k X.A)(hg:Gl X x)(hm:X.mg x=some (.ref f))(hk:keepIn X.K (.ref f)=true)(hb:Binds X.K fd ps ds)(hd:Vals dvs ds)(hx:fO CX X E)(ha:PA X (e::es) t)(hdb:(x==("__debug__" : Str))=false:=by decide)(he:starEach (e::es) X.env=(false,eval e X.env)::starEach es X.env:=by rfl)(hpl:(backTo pos (starEach es X.env)).any (·.1)=false:=by rfl) :
  PE X (.Call (.Name x p) (e::es) [] pos) (Aj sp dvs E t):=by
 intro pins s σ H Q I h;refine wpAny_Call_Name_kw (iS I hg hm ?_ hdb);refine callWith_K (h₀:=X.base) I.ok.mod.kin hk (aK (ha pos pins s σ H _ I h) fun us s1 ⟨vs,H1,I1,r,q⟩=>⟨I1.kIn,?_⟩) he hpl;exact lU F hr hb hd hx I1 r q
theorem Dx(he:PE X o ta)(c:Cls X.K C)(hm:Meth X.K C m f)(F:ax X.prog X.w X.K X.mg X.base CX k f fd ps sp)(hr:aO k X.A)(hb:Binds X.K fd ps ds)(hd:Vals dvs ds)(hx:fO CX X E)(ha:PA X (e::es) t)(hst:starEach (e::es) X.env=(false,eval e X.env)::starEach es X.env:=by rfl)(hpl:(backTo pos (starEach es X.env)).any (·.1)=false:=by rfl)(ht:eval (.Call (.Attribute o m apos) (e::es) [] pos) X.env=(do
   let ov <- eval o X.env
   standAt apos.atName
   let (f,first) <- holding [ov] (getMethod ov m pl)
   callWith pos f first (backTo pos (starEach (e::es) X.env)) (backToKw pos (keywordEach [] X.env))):=by rfl) :
  PE X (.Call (.Attribute o m apos) (e::es) [] pos) (uI C m sp dvs E ta t):=by
 intro pins s σ H Q I h;refine methodCall_KW (pl:=pl) (aK (he pins s σ H _ I h) fun u s1 ⟨x,H1,I1,rx,a,dx,fs,ex,ea,l,q⟩=>?_) ht;subst ex;obtain rfl:u=Value.ref a:=rx;refine sY I1 ea c hm l ?_;refine callWith_K (first:=[.ref a]) (h₀:=X.base) I.ok.mod.kin hm.kp (aK (ha pos pins s1 σ H1 _ I1 q) fun us s2 ⟨vs,H2,I2,r,q2⟩=>⟨I2.kIn,?_⟩) hst hpl;exact lU (us:=.ref a::us) (vs:=.ref a::vs) F hr hb hd hx I2 (.cons rfl r) q2
theorem EN(he:PE X o ta)(c:Cls X.K C)(hm:Meth X.K C m f)(F:ax X.prog X.w X.K X.mg X.base CX k f fd ps sp)(hr:aO k X.A)(hb:Binds X.K fd ps ds)(hd:Vals dvs ds)(hx:fO CX X E)(ht:eval (.Call (.Attribute o m apos) [] [] pos) X.env=(do
   let ov <- eval o X.env
   standAt apos.atName
   let (f,first) <- holding [ov] (getMethod ov m pl)
   callWith pos f first (backTo pos (starEach [] X.env)) (backToKw pos (keywordEach [] X.env))):=by rfl) :
  PE X (.Call (.Attribute o m apos) [] [] pos) (uI C m sp dvs E ta uk):=by
 intro pins s σ H Q I h;refine methodCall_KW (pl:=pl) (aK (he pins s σ H _ I h) fun u s1 ⟨x,H1,I1,rx,a,dx,fs,ex,ea,l,q⟩=>?_) ht;subst ex;obtain rfl:u=Value.ref a:=rx;refine sY I1 ea c hm l ?_;exact PySem.W.callWith_K0 (first:=[.ref a]) I1.kIn hm.kp (lU (us:=[.ref a]) (vs:=[.ref a]) F hr hb hd hx I1 (.cons rfl .nil) q)
structure Mk (K:Frag) (C f:Addr):Prop where
 makes:makesIn K C=true
 init:findIn K (.ref C) "__init__" = some (some (.ref f))
 fn:isFn K (.ref f)=true
 kp:keepIn K (.ref C)=true
theorem EM{σ:St}{Q:VK}(M:Mk X.K C f)(F:ax X.prog X.w X.K X.mg X.base CX k f fd ps sp)(hr:aO (k+1) X.A)(hb:Binds X.K fd ps ds)(hd:Vals dvs ds)(hx:fO CX X E)(I:Inv X pins σ H s)(r:Vals vs us)(h:∀x dx,H x=none->H dx=none->dx≠x->sp (.ref x::(vs++dvs)) (upd (upd H dx (.own x)) x (.ins C dx [])) (fun v H2=>v=.non/\Q (.ref x) H2) E) :
  wpAny (model X.prog X.w) X.A (call (.ref C) us) (EP X pins σ Q) X.xe s:=by
 have hq:=h (s.heap.objs.size+1) s.heap.objs.size (I.hok.fresh (le_succ _)) (I.hok.fresh (le_refl _)) (ne_of_lt (lt_succ_self _));have I2:=Inv.made (C:=C) I;have r2:Vals (V.ref (s.heap.objs.size+1)::(vs++dvs)) (Value.ref (s.heap.objs.size+1)::(us++ds)):=.cons rfl (r.append hd);have hl:(Value.ref (s.heap.objs.size+1)::us++ds).length=ps.length:=by have e:=r2.length;rw[F.len _ _ _ _ hq] at e;exact e.symm
 refine wpAny_call (EO (f:=f) I.kIn M.makes M.init (beq_iff_eq.mp M.fn) (codeAny_mono (F.run _ X.stack _ _ ⟨Value.ref (s.heap.objs.size+1)::us,[]⟩ (Value.ref (s.heap.objs.size+1)::(us++ds)) _ _ E (hr.make C us [])
  (I2.env0.make C us []) (hb _ (Value.ref (s.heap.objs.size+1)::us) I2.kIn hl) r2 hq) fun r s' hq'=>?_))
 cases r with
 | error e=>exact hx pins σ _ _ e s' I2 hq'
 | ok fl =>
  cases fl with
  | ret u =>
   obtain⟨v,H',I3,rv,ev,q3⟩:=I2.after hq';subst ev;exact⟨rv,⟨V.ref (s.heap.objs.size+1),H',I3,rfl,q3⟩⟩
  | next=>exact False.elim hq'
  | brk=>exact False.elim hq'
  | cont=>exact False.elim hq'
theorem Dw(M:Mk X.K C f)(F:ax X.prog X.w X.K X.mg X.base CX k f fd ps sp)(hr:aO (k+1) X.A)(hg:Gl X x)(hm:X.mg x=some (.ref C))(hb:Binds X.K fd ps ds)(hd:Vals dvs ds)(hx:fO CX X E)(ha:PA X (e::es) t)(hdb:(x==("__debug__" : Str))=false:=by decide)(he:starEach (e::es) X.env=(false,eval e X.env)::starEach es X.env:=by rfl)(hpl:(backTo pos (starEach es X.env)).any (·.1)=false:=by rfl) :
  PE X (.Call (.Name x p) (e::es) [] pos) (Ai C sp dvs E t):=by
 intro pins s σ H Q I h;refine wpAny_Call_Name_kw (iS I hg hm ?_ hdb);refine callWith_K (h₀:=X.base) I.ok.mod.kin M.kp (aK (ha pos pins s σ H _ I h) fun us s1 ⟨vs,H1,I1,r,q⟩=>⟨I1.kIn,?_⟩) he hpl;exact EM M F hr hb hd hx I1 r q
end
section
variable {f C:Addr} {ks:List Str} {E:XK} {x:Str} {kpos:Pos} {o:Expr} {kws:List Keyword} {tk:TA} {nm:Option Str}
variable {g:List Value->List Value->List Value} {gV:List V->List V->List V}
end
structure ak (N P:List Str) (sc:Scope):Prop where
 kind:sc.kind=.function
 co:sc.isCoroutine=false
 gen:sc.isGenerator=false
 nd:N.Nodup
 pre:N.take P.length=P
 par:∀x∈P,sc.names.lookup x=some .local\/sc.names.lookup x=some .cell
 nofree:∀y∈sc.names,y.2≠.free
theorem yo{kindOf:Str->Option NameKind}{x:Str}:∀{binds:List (Str×Value)} {m:Str->Option Value},(∀v,(x,v)∉binds)->bindL kindOf binds m x=m x
 | [],_,_=>rfl
 | (n,v)::r,m,h=>by
  unfold bindL;rw[yo fun w hw=>h w (mem_cons_of_mem _ hw)];split
  ·have:x≠n:=by rintro rfl;exact h v mem_cons_self
   simp[this]
  ·rfl
theorem yn{kindOf:Str->Option NameKind}{x:Str}:∀{binds:List (Str×Value)} {m:Str->Option Value},(∀v,(x,v)∉binds)->bindC kindOf binds m x=m x
 | [],_,_=>rfl
 | (n,v)::r,m,h=>by
  unfold bindC;rw[yn fun w hw=>h w (mem_cons_of_mem _ hw)];split
  ·rfl
  ·have:x≠n:=by rintro rfl;exact h v mem_cons_self
   simp[this]
theorem ym{kindOf:Str->Option NameKind}{x:Str}{v:Value}:∀{P:List Str} {vs:List Value} {i:Nat} {m:Str->Option Value},P.Nodup->P[i]?=some x->vs[i]?=some v->kindOf x=some .local ->
  bindL kindOf (P.zip vs) m x=some v
 | [],_,_,_,_,h,_,_=>by simp at h
 | _::_,[],_,_,_,_,h,_=>by simp at h
 | p::P,w::vs,0,m,nd,h1,h2,hk=>by
  simp at h1 h2;subst h1;subst h2;show bindL kindOf ((p,w)::P.zip vs) m p=_;unfold bindL;rw[yo fun v hv=>(nodup_cons.mp nd).1 (of_mem_zip hv).1,if_pos hk];simp
 | p::P,w::vs,i+1,m,nd,h1,h2,hk=>by
  show bindL kindOf ((p,w)::P.zip vs) m x=_;unfold bindL;exact ym (i:=i) (nodup_cons.mp nd).2 (by simpa using h1) (by simpa using h2) hk
theorem yt{kindOf:Str->Option NameKind}{x:Str}{v:Value}:∀{P:List Str} {vs:List Value} {i:Nat} {m:Str->Option Value},P.Nodup->P[i]?=some x->vs[i]?=some v->kindOf x≠some .local ->
  bindC kindOf (P.zip vs) m x=some v
 | [],_,_,_,_,h,_,_=>by simp at h
 | _::_,[],_,_,_,_,h,_=>by simp at h
 | p::P,w::vs,0,m,nd,h1,h2,hk=>by
  simp at h1 h2;subst h1;subst h2;show bindC kindOf ((p,w)::P.zip vs) m p=_;unfold bindC;rw[yn fun v hv=>(nodup_cons.mp nd).1 (of_mem_zip hv).1,if_neg hk];simp
 | p::P,w::vs,i+1,m,nd,h1,h2,hk=>by
  show bindC kindOf ((p,w)::P.zip vs) m x=_;unfold bindC;exact yt (i:=i) (nodup_cons.mp nd).2 (by simpa using h1) (by simpa using h2) hk
def start(N:List Str)(vs:List V):St:=vs.map some++List.replicate (N.length-vs.length) none
def gy(CX:iA)(P:Program)(w:World)(K:Frag)(mg:Str->Option Value)(base:Heap)(N:List Str)(qual:Str)(scope:Scope)(f:Addr)(cd:Value)(A:Around)(outer:List Env)(s:Shared)(H:Hp)(E:XK):Cx where
 prog:=P
 w:=w
 K:=K
 mg:=mg
 base:=base
 A:=A.deeper (envOfC qual scope s.heap.objs.size f cd)
 N:=N
 s₀:=s
 H₀:=H
 env:=envOfC qual scope s.heap.objs.size f cd
 outer:=outer
 stack:=envOfC qual scope s.heap.objs.size f cd::outer
 ex:=[]
 calm:=true
 fn:=fun _=>true
 pn:=[]
 xe:=fun e s'=>wpAny (model P w) (A.deeper (envOfC qual scope s.heap.objs.size f cd)) (leaving (envOfC qual scope s.heap.objs.size f cd) e) (fun _ s''=>CX outer H s E e s'') (fun e' s''=>CX outer H s E e' s'') s'
theorem xN{sc:Scope}{x:Str}(h:sc.names.lookup x=some .cell):∃c,(cellsFrom n sc.names []).lookup x=some c:=by have q:=cellsFrom_some sc.names n [] (.inl h);exact isSome_iff_exists.mp q
variable {qual:Str} {scope:Scope}
theorem FO{f:Addr}{cd:Value}{s1:Shared}{E:XK}(S:ak N ps scope)(hd:A.handled=none)(e0:fW P w K mg base A outer s H)(hl:vs.length=ps.length)(r:Vals vs us)(x:InCallC s s.heap.objs.size (bindL (envOfC qual scope s.heap.objs.size f cd).kindOf (ps.zip us) fun _=>none) (cellsFrom (s.heap.objs.size+1) scope.names []) (bindC (envOfC qual scope s.heap.objs.size f cd).kindOf (ps.zip us) fun _=>none) s1) :
  Inv (gy CX P w K mg base N qual scope f cd A outer s H E) [] (start N vs) H s1:=by
 have hpl:ps.length<=N.length:=by have:=congrArg List.length S.pre;rw[length_take] at this;omega
 obtain⟨h1,tk,rfl,hk⟩:=x.done;have noA:∀b:Addr,b∉(gy CX P w K mg base N qual scope f cd A outer s H E).ex:=fun b z=>absurd (show b∈([]:List Addr) from z) (by simp);refine⟨⟨e0.mod,S.kind,rfl,rfl,le_refl _,fun y z c h1 h2=>?_,fun y hy=>?_,fun y c _ h=>?_,fun _=>hd,Around.frames_deeper e0.frames,.inr ⟨rfl,rfl⟩,fun b z=>absurd z (noA b),e0.bs,e0.bsz,fun b _ _=>noA b,fun b z=>absurd z (noA b),e0.funs,e0.frf⟩,
  rfl,e0.bare,Un.kept hk,⟨_,x.toInCall.ns,fun i y v h1 h2 h3=>?_⟩,fun y c h=>⟨_,x.cell y c h⟩,e0.hok.fresh (le_refl _),fun y c h=>?_,fun p hp=>absurd (show p∈([]:List (Addr×Obj)) from hp) (by simp),e0.hok.kept hk,?_⟩
 ·exact name_of_addr x.apart (PySem.mem_of_lookup h1) (PySem.mem_of_lookup h2)
 ·have hy:scope.names.lookup y=some .cell\/scope.names.lookup y=some .free:=hy;rcases hy with hy|hy
  ·exact xN hy
  ·exact absurd rfl (S.nofree _ (PySem.mem_of_lookup hy))
 ·exact le_of_lt (x.above y c (PySem.mem_of_lookup h))
 ·have hi:i<vs.length:=by
   unfold start at h2
   by_cases hi:i<vs.length
   ·exact hi
   ·rw[getElem?_append_right (by simpa using hi)] at h2;rw[getElem?_replicate] at h2;split at h2<;>cases h2
  have ha:vs[i]?=some v:=by
   unfold start at h2;rw[getElem?_append_left (by simpa using hi),getElem?_map] at h2;cases e:vs[i]? with
   | none=>rw[e] at h2;cases h2
   | some a=>rw[e] at h2;cases h2;rfl
  obtain⟨u,hu,rv⟩:=r.get ha;have hp:ps[i]?=some y:=by rw[<- S.pre,getElem?_take_of_lt (by omega)];exact h1
  have ndP:ps.Nodup:=by rw[<- S.pre];exact S.nd.sublist (take_sublist _ _)
  refine⟨u,rv,?_⟩;rcases S.par y (mem_of_getElem? hp) with k|k
  ·exact .inl ⟨k,ym ndP hp hu k⟩
  ·obtain⟨c,e⟩:=xN (n:=s.heap.objs.size+1) k;refine .inr ⟨.inl k,c,e,?_⟩;have q:=x.cell y c e;rw[yt ndP hp hu (by show scope.names.lookup y≠_;rw[k];decide)] at q;exact q
 ·exact e0.hok.fresh (le_of_lt (x.above y c (PySem.mem_of_lookup h)))
 ·unfold start;show _=N.length;rw[length_append,length_map,length_replicate];omega
theorem Ah{f:Addr}{params:Arguments}{dV kV doc pm cdv ct oc:Value}{an od:Option Addr}{osl:Array (Option Value)}(lk:K.lookup f=some ⟨oc,od,.func (fnOf name qual params body scope dV kV doc pm an cdv ct),osl⟩)(hcd:codeIn K cdv qual=true)(S:ak N ps scope)(len:∀vs H Q E,sp vs H Q E->vs.length=ps.length)(hbody:∀(A:Around) (outer:List Env) (s:Shared) (H:Hp) (vs:List V) (Q:VK) (E:XK),aO k (A.deeper (envOfC qual scope s.heap.objs.size f cdv))->sp vs H Q E ->
   ∃t,PSs (gy CX P w K mg base N qual scope f cdv A outer s H E) body t/\t { nx:=fun _ H'=>Q .non H',rt:=Q } (start N vs) H) :
  ax P w K mg base CX (k+1) f (fnOf name qual params body scope dV kV doc pm an cdv ct) ps sp:=by
 refine⟨len,fun A outer s H args us vs Q E hr e0 hb r hsp=>?_⟩;have hl:=len _ _ _ _ hsp;have KX:K.In s.heap:=e0.mod.kin.keeps fun b o e=>(e0.bs b o e).1;have lim:s.heap.NoLimit:=e0.mod.nolimit.keeps fun b o e=>(e0.bs b o e).1;have hkind:∀y∈ps.zip us,scope.names.lookup y.1=some .local\/(scope.names.lookup y.1=some .cell/\((cellsFrom (s.heap.objs.size+1) scope.names []).lookup y.1).isSome=true):=fun⟨n,v⟩ hy=>by
  rcases S.par n (of_mem_zip hy).1 with q|q
  ·exact .inl q
  ·exact .inr ⟨q,cellsFrom_some _ _ _ (.inl q)⟩
 refine codeAny_call_function hr.depth (KX _ _ lk) rfl S.co S.gen rfl (PySem.W.codeRec_of KX hcd) (hb _ _ _ _ ?_);refine wpAny_newFunctionEnv_cells S.kind hkind fun env he s1 x=>?_;subst he;refine⟨lim.keeps x.toInCall.keep,codeAny_func ?_⟩;obtain⟨t,ht,hq⟩:=hbody A outer s H vs Q E (hr.deeper _) hsp;have I:Inv (gy CX P w K mg base N qual scope f cdv A outer s H E) [] (start N vs) H s1:=FO S hr.hd e0 hl r x;refine wpAny_mono (ht [] s1 (start N vs) H _ I hq) (fun fl s' hs=>?_) fun e s' hs=>hs;have fin:∀{σ':St} {H':Hp} {v:V} {u:Value},Inv (gy CX P w K mg base N qual scope f cdv A outer s H E) [] σ' H' s'->RelV v u->Q v H'->CE outer P w H s Q u s' :=
  fun {σ' H' v u} J rv q=>⟨v,H',J.os,J.bare,J.base,J.hok,rv,q⟩
 cases fl with
 | ret u =>
  obtain⟨v,σ',H',J,rv,q⟩:=hs;exact fin J rv q
 | next =>
  obtain⟨σ',H',J,q⟩:=hs;exact fin (v:=V.non) (u:=Value.none) J rfl q
 | brk =>
  obtain⟨_,_,_,q⟩:=hs;exact False.elim q
 | cont =>
  obtain⟨_,_,_,q⟩:=hs;exact False.elim q
section
variable {x:Str} {id T:String} {r:List V->Hp->VK->Prop}
def zl(r:List V->Hp->VK->Prop)(t:TA):TE:=fun σ H Q=>t σ H fun vs H1=>r vs H1 Q
theorem xM(hc:aM X (.builtin id) r)(hg:Gl X x)(hm:X.mg x=none)(hv:bootBuiltins x=some (.builtin id))(ha:PA X (e::es) t)(hn:x ≠ "__name__" := by decide)(hdb:(x==("__debug__" : Str))=false:=by decide)(he:starEach (e::es) X.env=(false,eval e X.env)::starEach es X.env:=by rfl)(hpl:(backTo pos (starEach es X.env)).any (·.1)=false:=by rfl):PE X (.Call (.Name x p) (e::es) [] pos) (zl r t):=by intro pins s σ H Q I h;refine wpAny_Call_Name_kw (nc I hg hm hv ?_ hn hdb);exact PyProof.Rows.callWith_builtin1 (aK (ha pos pins s σ H _ I h) fun us s1 ⟨vs,H1,I1,r1,q1⟩=>hc pins s1 σ H1 vs us Q I1 r1 q1) he hpl
theorem yr(hc:aM X (.type T) r)(hg:Gl X x)(hm:X.mg x=none)(hv:bootBuiltins x=some (.type T))(ha:PA X (e::es) t)(hn:x ≠ "__name__" := by decide)(hdb:(x==("__debug__" : Str))=false:=by decide)(he:starEach (e::es) X.env=(false,eval e X.env)::starEach es X.env:=by rfl)(hpl:(backTo pos (starEach es X.env)).any (·.1)=false:=by rfl):PE X (.Call (.Name x p) (e::es) [] pos) (zl r t):=by intro pins s σ H Q I h;refine wpAny_Call_Name_kw (nc I hg hm hv ?_ hn hdb);exact PyProof.Rows.callWith_type1 (aK (ha pos pins s σ H _ I h) fun us s1 ⟨vs,H1,I1,r1,q1⟩=>hc pins s1 σ H1 vs us Q I1 r1 q1) he hpl
end
end L2
namespace HT
open PySem PyProof.Rows
section
open PySem.SeqAt
open PySem.AutoSeq1 (wpAny_loadPart')
open PySem.MeetsSeq PySem.MeetsSeq2 PySem.MeetsSeq3
end
section
variable {prog:Program} {w:World} {A:Around} {E:Value->Shared->Prop} {s:Shared}
def sIx(n d:Nat):Option Int->Nat
 | none=>d
 | some v=>if v<0 then (v+(n:Int)).toNat else min v.toNat n
theorem sIx_none(n d:Nat):sIx n d none=d:=rfl
theorem sIx_nat(n d k:Nat):sIx n d (some (k:Int))=min k n:=by show(if (k:Int)<0 then ((k:Int)+(n:Int)).toNat else min (k:Int).toNat n)=min k n;rw[if_neg (by omega),toNat_natCast]
end
end HT
namespace L2
open PySem PySem.Spec PyProof.Rows
abbrev TO:=St->Hp->(Option Int->Hp->Prop)->Prop
def PO(X:Cx)(e:Option Expr)(t:TO):Prop :=
 ∀(pins:List (Addr×Obj)) (s:Shared) (σ:St) (H:Hp) (Q:Option Int->Hp->Prop),Inv X pins σ H s->t σ H Q ->
  wpAny (model X.prog X.w) X.A (evalPart e X.env) (fun u s'=>∃o H',Inv X pins σ H' s'/\IsPart u o/\Q o H') X.xe s
def Dv:TO:=fun _ H Q=>Q none H
def Ag(t:TE):TO:=fun σ H Q=>t σ H fun x H1=>∃i,x=.int i/\Q (some i) H1
theorem GK{ns:List Int}:∀{us:List Value},Vals (ns.map V.int) us->IntsAre us ns:=by
 induction ns with
 | nil=>intro us r;rw[map_nil] at r;cases r;exact .nil
 | cons n ns ih =>
  intro us r;rw[map_cons] at r;cases r with
  | cons r1 r2 =>
   obtain⟨t,e⟩:=r1;subst e;exact .cons n t (ih r2)
variable {X:Cx} {e:Expr} {pos:Pos}
section
variable {te:TE} {lo hi:Option Expr} {tl th:TO} {p2:Pos}
theorem Du:PO X none Dv:=by intro pins s σ H Q I h;rw[evalPart_none];exact wpAny_pure ⟨none,H,I,.none,h⟩
theorem Dt(h:PE X e te):PO X (some e) (Ag te):=by intro pins s σ H Q I hw;rw[evalPart_some];refine aK (h pins s σ H _ I hw) fun u s1 ⟨x,H1,I1,r1,q1⟩=>?_;obtain⟨i,rfl,q⟩:=q1;obtain⟨t,rfl⟩:=r1;exact⟨some i,H1,I1,.int i t,q⟩
def tW(X:Cx)(r:V->Option Int->Option Int->Hp->VK->Prop):Prop :=
 ∀(pins:List (Addr×Obj)) (s:Shared) (σ:St) (H:Hp) (x:V) (v vl vu:Value) (lo hi:Option Int) (sl:Addr) (Q:VK),Inv X pins σ H s->RelV x v->s.heap.IsSliceOf sl vl vu .none->IsPart vl lo->IsPart vu hi->r x lo hi H Q ->
  ∃T id,typeLookup (.type T) "__getitem__" = pure (some (.builtin id))/\s.TypeIs v T/\wpAny (model X.prog X.w) X.A (getItem v (.ref sl)) (EP X pins σ Q) X.xe s
def H9(r:V->Option Int->Option Int->Hp->VK->Prop)(te:TE)(tl th:TO):TE:=fun σ H Q=>te σ H fun x H1=>tl σ H1 fun l H2=>th σ H2 fun u H3=>r x l u H3 Q
theorem EL{r:V->Option Int->Option Int->Hp->VK->Prop}(hr:tW X r)(he:PE X e te)(hl:PO X lo tl)(hu:PO X hi th):PE X (.Subscript e (.Slice lo hi none p2) pos) (H9 r te tl th):=by intro pins s σ H Q I h;refine Subscript_ (aK (he pins s σ H _ I h) fun v s1 ⟨x,H1,I1,r1,q1⟩=>?_);refine wpAny_Slice (aK (hl pins s1 σ H1 _ I1 q1) fun vl s2 ⟨l,H2,I2,pl,q2⟩=>aK (hu pins s2 σ H2 _ I2 q2) fun vu s3 ⟨u,H3,I3,pu,q3⟩=>?_);rw[evalPart_none];refine wpAny_pure ?_;have I4:Inv X pins σ H3 { s3 with heap:=s3.heap.push { cls:=.type "slice",data:=.fields #[vl,vu,.none] } }:=I3.kept (t':=s3.toks) fun b ob q=>Heap.get?_push_of_some _ q;obtain⟨T,id,hT,ht,hg⟩:=hr pins { s3 with heap:=s3.heap.push { cls:=.type "slice",data:=.fields #[vl,vu,.none] } } σ H3 x v vl vu l u s3.heap.objs.size Q I4 r1 (Heap.IsSliceOf.new ..) pl pu q3;show wpAny (model X.prog X.w) X.A (subscriptTail e (.Slice lo hi none p2) v (.ref s3.heap.objs.size)) (EP X pins σ Q) X.xe { s3 with heap:=s3.heap.push { cls:=.type "slice",data:=.fields #[vl,vu,.none] } };exact tail_any (ops:=[.ref s3.heap.objs.size,v]) ht hT hg (by with_unfolding_all rfl)
def lA(xs:List V)(lo hi:Option Int):List V:=(xs.drop (HT.sIx xs.length 0 lo)).take (HT.sIx xs.length xs.length hi-HT.sIx xs.length 0 lo)
theorem Hf(xs:List V)(lo hi:Option Int):(lA xs lo hi).length<=xs.length:=by unfold lA;rw[length_take,length_drop];omega
end
def gn(n:Nat)(i:Int):Option Nat:=if 0<=i then (if i<n then some i.toNat else none) else if -(n:Int)<=i then some (i+n).toNat else none
def atI{α:Type}(xs:List α)(i:Int):Option α:=(gn xs.length i).bind fun j=>xs[j]?
variable {n:Nat} {i:Int}
theorem wK{j:Nat}(h:gn n i=some j):seqIndex? i n=some j/\j<n/\-(n:Int)<=i/\i<n:=by
 unfold gn at h
 by_cases h0:0<=i
 ·rw[if_pos h0] at h
  by_cases h1:i<n
  ·rw[if_pos h1] at h;have e:i.toNat=j:=Option.some.inj h;exact⟨by rw[seqIndex_of h0 h1,e],by omega,by omega,h1⟩
  ·rw[if_neg h1] at h;cases h
 ·rw[if_neg h0] at h
  by_cases h1:-(n:Int)<=i
  ·rw[if_pos h1] at h;have e:(i+n).toNat=j:=Option.some.inj h;exact⟨by rw[seqIndex_neg (by omega) h1,e],by omega,h1,by omega⟩
  ·rw[if_neg h1] at h;cases h
theorem wJ{α:Type}{xs:List α}{v:α}(h:atI xs i=some v):∃j,seqIndex? i xs.length=some j/\xs[j]?=some v/\j<xs.length/\-(xs.length:Int)<=i/\i<xs.length:=by
 unfold atI at h;cases e:gn xs.length i with
 | none=>rw[e] at h;cases h
 | some j =>
  rw[e] at h;obtain⟨h1,h2,h3,h4⟩:=wK e;exact⟨j,h1,h,h2,h3,h4⟩
def w6(b:Expr):Prop:=∀o i,subscripted b false o i=operate [o,i] (getItem o i)
def i7(X:Cx)(r:R2):Prop :=
 ∀(value slice:Expr) (pins:List (Addr×Obj)) (s:Shared) (σ:St) (H:Hp) (x y:V) (v u:Value) (Q:VK),Inv X pins σ H s->RelV x v->RelV y u->r x y H Q ->
  subscripted slice false v u=operate [v,u] (getItem v u)->wpAny (model X.prog X.w) X.A (subscriptTail value slice v u) (EP X pins σ Q) X.xe s
def nP(X:Cx)(id:String)(r:V->List V->Hp->VK->Prop):Prop :=
 ∀(pins:List (Addr×Obj)) (s:Shared) (σ:St) (H:Hp) (x:V) (xs:List V) (v:Value) (us:List Value) (Q:VK),Inv X pins σ H s->RelV x v->Vals xs us->r x xs H Q ->
  wpAny (model X.prog X.w) X.A (call (.builtin id) (v::us)) (EP X pins σ Q) X.xe s
variable {pins:List (Addr×Obj)} {H:Hp} {s:Shared} {xs:List V} {its its':List Value} {T:String}
section
variable {a b:Expr} {ta tb:TE}
theorem i7.or{r r':R2}(h:i7 X r)(h':i7 X r'):i7 X (fun x y H Q=>r x y H Q\/r' x y H Q):=by
 intro value slice pins s σ H x y v u Q I rx ry q hs;rcases q with q|q
 ·exact h value slice pins s σ H x y v u Q I rx ry q hs
 ·exact h' value slice pins s σ H x y v u Q I rx ry q hs
theorem Af{r:R2}(hr:i7 X r)(ha:PE X a ta)(hb:PE X b tb)(hs:w6 b):PE X (.Subscript a b pos) (k7 r ta tb):=by intro pins s σ H Q I h;exact Subscript_ (ql ha hb I h fun v u s2 x y H2 I2 rx ry q=>hr a b pins s2 σ H2 x y v u Q I2 rx ry q (hs _ _))
def qa(K:Frag):R2:=fun x y H Q=>∃p xs i v,x=.ref p/\y=.int i/\cP K H p xs/\atI xs i=some v/\Q v H
def p_(K:Frag):R2:=fun x y H Q=>∃p xs i v,x=.ref p/\y=.int i/\eI K H p xs/\atI xs i=some v/\Q v H
theorem D3:i7 X (qa X.K):=by
 intro value slice pins s σ H x y v u Q I rx ry h hs;obtain⟨p,xs,i,z,rfl,rfl,hq,he,q⟩:=h;cases rx;obtain⟨t,rfl⟩:=ry;obtain⟨its,r,pl,hz⟩:=I.list hq;obtain⟨j,h1,h2,h3,h4,h5⟩:=wJ he;obtain⟨w,ew,rw'⟩:=r.get h2;have hl:=r.length;have hn:=m_;have fin:EP X pins σ Q w s:=⟨z,H,I,rw',q⟩
 by_cases h0:0<=i
 ·have hj:i.toNat=j:=by rw[seqIndex_of h0 h5] at h1;exact Option.some.inj h1
  exact item_listR pl.isList h0 (by omega) (by rw[hj];simpa using ew) fin hs
 ·have hj:(i+(its.toArray.size:Int)).toNat=j:=by rw[seqIndex_neg (by omega) h4] at h1;rw[size_toArray,<- hl];exact Option.some.inj h1
  exact subscriptTail_builtinR (x:=w) pl.isList.typeIs slot_list_getitem.lookup
   (wpAny_getItem_list_neg (Q:=fun r s'=>r=w/\EP X pins σ Q r s') pl.isList (by omega) (by rw[size_toArray]<;>omega) (by omega) (by rw[hj];simpa using ew) ⟨rfl,fin⟩) hs
theorem Br:i7 X (p_ X.K):=by
 intro value slice pins s σ H x y v u Q I rx ry h hs;obtain⟨p,xs,i,z,rfl,rfl,hq,he,q⟩:=h;cases rx;obtain⟨t,rfl⟩:=ry;obtain⟨its,r,pl,hz⟩:=I.tuple hq;obtain⟨j,h1,h2,h3,h4,h5⟩:=wJ he;obtain⟨w,ew,rw'⟩:=r.get h2;have hl:=r.length;have hn:=m_;have fin:EP X pins σ Q w s:=⟨z,H,I,rw',q⟩
 exact subscriptTail_builtinR (x:=w) pl.typeIs slot_tuple_getitem.lookup
  (getItem_tuple (j:=j) (Q:=fun r s'=>r=w/\EP X pins σ Q r s') pl (by omega) (by omega) (by rw[size_toArray,<- hl];exact h1) (by simpa using ew) ⟨rfl,fin⟩) hs
theorem GJ(its:List Value)(n j:Nat)(u:Value):Obj.mapSeq (·.setIfInBounds j u) { cls:=.type "list",data:=.seq its.toArray n }={ cls:=.type "list",data:=.seq (its.set j u).toArray n }:=by simp[Obj.mapSeq]
theorem Inv.lst{pins:List (Addr×Obj)}{σ:St}{H:Hp}{s:Shared}{p:Addr}{xs:List V}(I:Inv X pins σ H s)(h:H p=some (.lst xs)) :
  ∃(its:List Value) (n:Nat),Vals xs its/\s.heap.get? p=some { cls:=.type "list",data:=.seq its.toArray n }/\xs.length<=sizeLine:=by
 obtain⟨z,its,n,r,e⟩:=I.hok p _ h;exact⟨its,n,r,e,z⟩
theorem Inv.lstUpd{σ:St}{p:Addr}{ys:List V}{n':Nat}{f:Obj->Obj}(I:Inv X pins σ H s)(h:H p=some (.lst xs))(ho:s.heap.get? p=some { cls:=.type "list",data:=.seq its.toArray n })(hf:f { cls:=.type "list",data:=.seq its.toArray n }={ cls:=.type "list",data:=.seq its'.toArray n' })(r:Vals ys its')(hz:ys.length<=sizeLine)(t:Nat) :
  Inv X pins σ (upd H p (.lst ys)) { s with heap:=s.heap.update p f,toks:=t }:=by
 have e:(s.heap.update p f).get? p=some { cls:=.type "list",data:=.seq its'.toArray n' }:=by rw[Heap.get?_update_self f ho (by rw[hf]<;>rfl),hf]
 refine I.write (x:=p) (e:=p) (by rw[h];trivial) (.inl rfl) (fun b u hb q=>(Heap.get?_update_other _ _ (Ne.symm hb)).trans q) ⟨_,e⟩ ?_;exact⟨hz,its',n',r,e⟩
def Ae:V->V->V->Hp->(Hp->Prop)->Prop:=fun o i v H Q=>∃p xs k j,o=.ref p/\i=.int k/\H p=some (.lst xs)/\gn xs.length k=some j/\Q (upd H p (.lst (xs.set j v)))
theorem EK:uq X Ae:=by
 intro pins s σ H o i v ov iv u Q I ro ri rv h;obtain⟨p,xs,k,j,rfl,rfl,hp,hj,q⟩:=h;cases ro;obtain⟨t,rfl⟩:=ri;obtain⟨its,n,r,ho,hz⟩:=I.lst hp;obtain⟨h1,h2,h3,h4⟩:=wK hj;have hl:=r.length;have hn:=m_;have I':Inv X pins σ (upd H p (.lst (xs.set j v))) { s with heap:=s.heap.update p (Obj.mapSeq (·.setIfInBounds j u)) } :=
  I.lstUpd hp ho (GJ its n j u) (r.set rv j) (by rw[length_set];exact hz) s.toks
 by_cases h0:0<=k
 ·have hk:k.toNat=j:=by rw[seqIndex_of h0 h4] at h1;exact Option.some.inj h1
  exact PySem.W.ki_setAt ho h0 (by omega) (by rw[size_toArray,<- hl];exact h4) (by rw[hk];exact⟨_,I',q⟩)
 ·have hk:(k+(its.toArray.size:Int)).toNat=j:=by rw[seqIndex_neg (by omega) h3] at h1;rw[size_toArray,<- hl];exact Option.some.inj h1
  exact PySem.W.ki_setBack ho (by omega) (by rw[size_toArray,<- hl];exact h3) (by omega) (by rw[hk];exact⟨_,I',q⟩)
theorem HG(lo hi:Option Int)(n:Nat):(sliceBounds lo hi none n).1=((HT.sIx n 0 lo:Nat):Int)/\(sliceBounds lo hi none n).2.1=((HT.sIx n n hi:Nat):Int)/\(sliceBounds lo hi none n).2.2=1:=by
 refine⟨?_,?_,rfl⟩
 ·cases lo with
  | none=>simp[sliceBounds,HT.sIx]
  | some i =>
   simp only[sliceBounds,HT.sIx,getD_none,show(1:Int)>0 by decide,if_true]
   by_cases h:i<0
   ·simp only[h,if_true]<;>omega
   ·simp only[h,if_false]<;>omega
 ·cases hi with
  | none=>simp[sliceBounds,HT.sIx]
  | some i =>
   simp only[sliceBounds,HT.sIx,getD_none,show(1:Int)>0 by decide,if_true]
   by_cases h:i<0
   ·simp only[h,if_true]<;>omega
   ·simp only[h,if_false]<;>omega
theorem HP(its:List Value)(lo hi:Option Int):slicePick its.toArray lo hi none=((its.drop (HT.sIx its.length 0 lo)).take (HT.sIx its.length its.length hi-HT.sIx its.length 0 lo)).toArray:=by obtain⟨h1,h2,h3⟩:=HG lo hi its.toArray.size;unfold slicePick;rw[h1,h2,h3];simp only[sliceRange_one,pick_run,size_toArray]<;>rfl
def uj(K:Frag):V->Option Int->Option Int->Hp->VK->Prop:=fun x lo hi H Q=>∃a xs,x=.ref a/\cP K H a xs/\∀p,H p=none->Q (.ref p) (upd H p (.lst (lA xs lo hi)))
theorem DZ:tW X (uj X.K):=by intro pins s σ H x v vl vu lo hi sl Q I rx hs pl pu h;obtain⟨a,xs,rfl,hx,q⟩:=h;cases rx;obtain⟨its,r,ht,hz⟩:=I.list hx;have hlen:=r.length;refine⟨"list",_,slot_list_getitem.lookup,ht.isList.typeIs,?_⟩;refine wpAny_getItem_list_slice ht.isList hs pl pu .none (by simp) ?_ (by rw[size_toArray]<;>omega);rw[HP,<- hlen];refine⟨.ref s.heap.objs.size,_,I.laid (t':=s.toks) (o:=.lst (lA xs lo hi)) (fun b ob q=>Heap.get?_push_of_some _ q) (le_refl _) ?_,rfl,q _ (I.hok.fresh (le_refl _))⟩;exact⟨le_trans (Hf xs lo hi) hz,_,0,(r.drop (HT.sIx xs.length 0 lo)).take (HT.sIx xs.length xs.length hi-HT.sIx xs.length 0 lo),Heap.get?_push_size _ rfl⟩
theorem HF:aM X (.type "list") (fun xs H Q=>∃p ys,xs=[.ref p]/\(cP X.K H p ys\/eI X.K H p ys)/\∀l,H l=none->Q (.ref l) (upd H l (.lst ys))):=by
 intro pins s σ H xs us Q I r h;obtain⟨p,ys,rfl,hq,q⟩:=h;obtain⟨u,rfl,rx⟩:=hU r;cases rx;have fin:∀(its:List Value),Vals ys its->ys.length<=sizeLine->∀(h':Heap) (c':Nat),(∀b o',s.heap.get? b=some o'->h'.get? b=some o') ->
   h'.get? s.heap.objs.size=some { cls:=.type "list",dict:=none,data:=.seq its.toArray c',slots:=#[] }->EP X pins σ Q (.ref s.heap.objs.size) { s with heap:=h' }:=fun its r' hz h' c' kp e =>
  ⟨.ref s.heap.objs.size,_,I.laid (t':=s.toks) kp (le_refl _) (show aC X.prog X.w _ h' _ (.lst ys) from⟨hz,its,c',r',e⟩),rfl,q _ (I.hok.fresh (le_refl _))⟩
 rcases hq with hq|hq
 ·obtain⟨its,r',pl,hz⟩:=I.list hq;have hlen:=r'.length;obtain⟨o,ho,hc,n,hd⟩:=pl.isList;exact call_list_seq p (.inl rfl) ho hc hd (fun h' c' kp e=>fin its r' hz h' c' kp e) (by simp only[size_toArray]<;>omega)
 ·obtain⟨its,r',pl,hz⟩:=I.tuple hq;have hlen:=r'.length;obtain⟨o,ho,hc,n,hd⟩:=pl;exact call_list_seq p (.inr rfl) ho hc hd (fun h' c' kp e=>fin its r' hz h' c' kp e) (by simp only[size_toArray]<;>omega)
theorem HN:aM X (.type "tuple") (fun xs H Q=>∃p ys,xs=[.ref p]/\((cP X.K H p ys/\∀l,H l=none->Q (.ref l) (upd H l (.tup ys)))\/(eI X.K H p ys/\Q (.ref p) H))):=by
 intro pins s σ H xs us Q I r h;obtain⟨p,ys,rfl,h⟩:=h;obtain⟨u,rfl,rx⟩:=hU r;cases rx;rcases h with ⟨hq,q⟩|⟨hq,q⟩
 ·obtain⟨its,r',pl,hz⟩:=I.list hq;have hlen:=r'.length;refine call_tuple_list pl.isList (fun h' kp=>?_) (by simp only[size_toArray]<;>omega);have I1:Inv X pins σ H { s with heap:=h' }:=I.kept (t':=s.toks) kp;have I2:Inv X pins σ (upd H h'.objs.size (.tup ys)) { s with heap:=h'.push { cls:=.type "tuple",data:=.seq its.toArray } } :=
   I1.laid (t':=s.toks) (fun b o e=>Heap.get?_push_of_some _ e) (le_refl _) (show aC X.prog X.w _ _ _ (.tup ys) from⟨hz,its,r',fU.new _ _⟩)
  exact⟨.ref h'.objs.size,_,I2,rfl,q _ (I1.hok.fresh (le_refl _))⟩
 ·obtain⟨its,r',pl,hz⟩:=I.tuple hq;exact call_tuple_same pl ⟨.ref p,H,I,rfl,q⟩
def tQ(K:Frag)(T:String)(x:V)(H:Hp):Prop:=match x with
 | .str _=>T = "str"
 | .int _=>T = "int"
 | .ref p=>(T = "list" /\ ∃xs,cP K H p xs)\/(T = "tuple" /\ ∃o,K.lookup p=some o/\o.cls=.type "tuple" /\ o.dict=none) \/
   (T = "dict" /\ ((∃kvs,H p=some (.dK kvs))\/∃kvs,H p=some (.dT kvs)))\/(T = "set" /\ ∃S n,H p=some (.set S n))
 | _=>False
theorem vI{σ:St}{x:V}{v:Value}(I:Inv X pins σ H s)(r:RelV x v)(ty:tQ X.K T x H) :
  s.TypeIs v T/\∀a,v=.ref a->∃ob,s.heap.get? a=some ob/\ob.dict=none:=by
 cases x with
 | str z =>
  obtain⟨t,rfl⟩:=r;cases (show T = "str" from ty);exact⟨typeIs_str s z t,fun _ e=>nomatch e⟩
 | int i =>
  obtain⟨t,rfl⟩:=r;cases (show T = "int" from ty);exact⟨typeIs_int s i t,fun _ e=>nomatch e⟩
 | ref p =>
  cases r;rcases ty with ⟨rfl,xs,hq⟩|⟨rfl,o,hk,hc,hd⟩|⟨rfl,hk⟩|⟨rfl,S,n,hk⟩
  ·obtain⟨its,_,pl,_⟩:=I.list hq;refine⟨pl.isList.typeIs,fun a e=>?_⟩;cases e;obtain⟨o,n,e,c,hd,_⟩:=pl;exact⟨o,e,hd⟩
  ·refine⟨⟨o,I.kIn p o hk,hc⟩,fun a e=>?_⟩;cases e;exact⟨o,I.kIn _ o hk,hd⟩
  ·have z:∃o,s.heap.get? p=some o/\o.ExactDict:=by
    rcases hk with ⟨kvs,hk⟩|⟨kvs,hk⟩
    ·obtain⟨_,_,_,_,o,_,_,e,ex,_⟩:=I.hok p _ hk;exact⟨o,e,ex⟩
    ·obtain⟨_,_,_,_,o,_,_,e,ex,_⟩:=I.hok p _ hk;exact⟨o,e,ex⟩
   obtain⟨o,e,ex⟩:=z;refine⟨⟨o,e,ex.1⟩,fun a e2=>?_⟩;cases e2;exact⟨o,e,ex.2.1⟩
  ·obtain⟨o,_,_,_,e,ex,_⟩:=I.hok p _ hk;refine⟨⟨o,e,ex.1⟩,fun a e2=>?_⟩;cases e2;exact⟨o,e,ex.2.1⟩
 | _=>exact False.elim ty
def zW(K:Frag)(T:String)(r:V->List V->Hp->VK->Prop)(to:TE):TE:=fun σ H Q=>to σ H fun x H1=>tQ K T x H1/\r x [] H1 Q
def Ib(K:Frag)(T:String)(r:V->List V->Hp->VK->Prop)(to:TE)(t:TA):TE:=fun σ H Q=>to σ H fun x H1=>tQ K T x H1/\t σ H1 fun xs H2=>r x xs H2 Q
variable {o:Expr} {es:List Expr} {to:TE} {t:TA} {name:Str} {apos cpos:Pos} {id:String} {r:V->List V->Hp->VK->Prop}
theorem Bq(pa:PlainAttrs T)(slot:Slot T name id)(hty:typeOf (.builtin id)=pure (.type "method_descriptor"))(hm:nP X id r)(ho:PE X o to)(hbase:attributeBase o name X.env (eval o X.env)=eval o X.env:=by rfl)(hline:(apos.endLine==cpos.line)=true:=by rfl):PE X (.Call (.Attribute o name apos) [] [] cpos) (zW X.K T r to):=by intro pins s σ H Q I h;refine wpAny_Call_method0_late hbase hline (aK (ho pins s σ H _ I h) fun v s1 ⟨x,H1,I1,r1,ty,q1⟩=>?_);obtain⟨h1,h2⟩:=vI I1 r1 ty;exact⟨T,id,pa,slot,hty,h1,h2,Calls.callWith_builtin rfl (PySem.evalArgs_none (hm pins s1 σ H1 x [] v [] Q I1 r1 .nil q1))⟩
theorem Ad(pa:PlainAttrs T)(slot:Slot T name id)(hty:typeOf (.builtin id)=pure (.type "method_descriptor"))(hm:nP X id r)(ho:PE X o to)(ha:PA X (e::es) t)(hbase:attributeBase o name X.env (eval o X.env)=eval o X.env:=by rfl)(hfew:((backTo cpos (starEach (e::es) X.env)).all (fun x=>!x.1)&&(backToKw cpos (keywordEach [] X.env)).all (fun x=>x.1.isSome)
   && decide ((e::es).length+([]:List Keyword).length+(if ([]:List Keyword).isEmpty then 0 else 1)<30))=true:=by rfl)(hline:(apos.endLine==cpos.line)=true:=by rfl)(hs:starEach (e::es) X.env=(false,eval e X.env)::starEach es X.env:=by rfl)(hplain:(backTo cpos (starEach es X.env)).any (·.1)=false:=by rfl) :
  PE X (.Call (.Attribute o name apos) (e::es) [] cpos) (Ib X.K T r to t):=by
 intro pins s σ H Q I h;refine wpAny_Call_method_late hbase hfew hline rfl (aK (ho pins s σ H _ I h) fun v s1 ⟨x,H1,I1,r1,ty,q1⟩=>?_);obtain⟨h1,h2⟩:=vI I1 r1 ty;refine⟨T,id,pa,slot,hty,h1,h2,?_⟩;have hA:=ha cpos pins s1 σ H1 _ I1 q1;rw[hs] at hA ⊢;refine Calls.callWith_builtin (by show(false||(backTo cpos (starEach es X.env)).any (·.1))=false;rw[hplain]<;>rfl) (Calls.evalArgs_plain ?_);exact aK hA fun us s2 ⟨vs,H2,I2,r2,q2⟩=>hm pins s2 σ H2 x vs v us Q I2 r1 r2 q2
end
def zt(X:Cx)(id:String)(r:V->List V->Hp->VK->Prop):Prop :=
 ∀(pins:List (Addr×Obj)) (s:Shared) (σ:St) (H:Hp) (x:V) (xs:List V) (v:Value) (us:List Value) (Q:VK),Inv X pins σ H s->RelV x v->Vals xs us->r x xs H Q ->
  wpAny (model X.prog X.w) X.A (call (.builtin id) (v::us)) (EP X pins σ Q) X.xe s
theorem Vals.one:∀{x:V} {us:List Value},Vals [x] us->∃u,us=[u]/\RelV x u
 | _,_,.cons r .nil=>⟨_,rfl,r⟩
theorem Vals.zero:∀{us:List Value},Vals [] us->us=[]
 | _,.nil=>rfl
theorem Vals.dropLast{us:List Value}(h:Vals xs us):Vals xs.dropLast us.dropLast:=by
 induction h with
 | nil=>exact .nil
 | cons r t ih =>
  cases t with
  | nil=>exact .nil
  | cons q t'=>exact .cons r ih
theorem GI{α:Type}(l:List α):l.eraseIdx (l.length-1)=l.dropLast:=by
 induction l with
 | nil=>rfl
 | cons a r ih =>
  cases r with
  | nil=>rfl
  | cons b r =>
   have e:(a::b::r).length-1=((b::r).length-1)+1:=by have h1:(a::b::r).length=r.length+2:=rfl;have h2:(b::r).length=r.length+1:=rfl;omega
   rw[e,eraseIdx_cons_succ,ih]
   all_goals rfl
variable {t':Nat}
section
variable {σ:St} {l b:Addr} {ys zs:List V}
theorem Inv.lset{f:Array Value->Array Value}(I:Inv X pins σ H s)(hH:H l=some (.lst xs))(e:s.heap.get? l=some { cls:=.type "list",data:=.seq its.toArray n })(hf:f its.toArray=its'.toArray)(hv:Vals ys its')(hz:ys.length<=sizeLine) :
  Inv X pins σ (upd H l (.lst ys)) { s with heap:=s.heap.update l (Obj.mapSeq f),toks:=t' }:=by
 have q:=PySem.IsL.update e f;rw[hf] at q;refine I.write (x:=l) (e:=l) (by rw[hH];exact trivial) (.inl rfl) (fun b' u hb hu=>(Heap.get?_update_other s.heap (Obj.mapSeq f) (Ne.symm hb)).trans hu) ⟨_,q⟩ ?_;exact⟨hz,its',_,hv,q⟩
theorem Inv.lnew(I:Inv X pins σ H s)(hv:Vals ys its)(hz:ys.length<=sizeLine) :
  Inv X pins σ (upd H s.heap.objs.size (.lst ys)) { s with heap:=s.heap.push { cls:=.type "list",data:=.seq its.toArray },toks:=t' } :=
 I.laid (fun _ _ q=>Heap.get?_push_of_some _ q) (le_refl _) ⟨hz,its,0,hv,Heap.get?_push_size _ rfl⟩
theorem Inv.fresh(I:Inv X pins σ H s):H s.heap.objs.size=none:=I.hok.fresh (le_refl _)
theorem Inv.lstM(I:Inv X pins σ H s)(hH:H l=some (.lst xs)):xs.length<=sizeLine/\∃(its:List Value) (n:Nat),Vals xs its/\xs.length=its.length/\s.heap.get? l=some { cls:=.type "list",data:=.seq its.toArray n }:=by obtain⟨z,its,n,r,e⟩:=I.hok l _ hH;exact⟨z,its,n,r,r.length,e⟩
theorem EJ(h:n<=sizeLine):Builtin.List.listTooLong n=false:=by unfold Builtin.List.listTooLong;exact decide_eq_false (by omega)
end
def w5:V->List V->Hp->VK->Prop:=fun x vs H Q=>∃l xs y,x=.ref l/\vs=[y]/\H l=some (.lst xs)/\xs.length<sizeLine/\Q .non (upd H l (.lst (xs++[y])))
theorem fQ:zt X "list.append" w5:=by intro pins s σ H x vs v us Q I rx rv h;obtain⟨l,xs,y,rfl,rfl,hH,hz,q⟩:=h;cases rx;obtain⟨u,rfl,ru⟩:=rv.one;obtain⟨z,its,n,r,hl,e⟩:=I.lstM hH;refine call_meets F.slot_list_append ⟨_,e,rfl⟩ F.entry_list_append (F.args_list_append_2 _ _) (PySem.list_append l its.toArray n u (by rw[size_toArray];omega)) ⟨e,?_⟩;refine⟨.non,_,I.lset (its':=its++[u]) hH e (by simp) (r.append (.cons ru .nil)) ?_,rfl,q⟩;rw[length_append,length_singleton];omega
def ui:V->List V->Hp->VK->Prop:=fun x vs H Q=>∃l xs y,x=.ref l/\vs=[]/\H l=some (.lst xs)/\xs[xs.length-1]?=some y/\Q y (upd H l (.lst xs.dropLast))
theorem oH:zt X "list.pop" ui:=by
 intro pins s σ H x vs v us Q I rx rv h;obtain⟨l,xs,y,rfl,rfl,hH,hy,q⟩:=h;cases rx;have hus:=rv.zero;subst hus;obtain⟨z,its,n,r,hl,e⟩:=I.lstM hH;obtain⟨u,hu,ru⟩:=r.get hy;have hy':its.toArray[its.toArray.size-1]?=some u:=by show its.toArray[its.length-1]?=some u;rw[<- getElem?_toList,<- hl];exact hu
 refine call_meets F.slot_list_pop ⟨_,e,rfl⟩ F.entry_list_pop (F.args_list_pop_1 _) (MeetsSeq.list_pop_last l its.toArray n u hy' (by rw[size_toArray];omega)) ⟨e,?_⟩;refine⟨y,_,I.lset (its':=its.dropLast) hH e ?_ r.dropLast ?_,ru,q⟩
 ·show its.toArray.eraseIdxIfInBounds (its.toArray.size-1)=its.dropLast.toArray;rw[size_toArray,eraseIdxIfInBounds_toArray,GI]
 ·rw[length_dropLast];omega
section
variable {prog:Program} {w:World} {A:Around} {E:Value->Shared->Prop}
end
end L2
namespace Att
open PySem PySem.W PySem.Calls PyProof.Rows
variable {P:Params} {h:Heap}
theorem HS:∀(ns:List Int) (vs:List Value),WellAll P h vs (ns.map WData.int)->IntsAre vs ns:=by
 intro ns
 induction ns with
 | nil =>
  intro vs w;rw[map_nil] at w;cases w;exact .nil
 | cons n ns ih =>
  intro vs w;rw[map_cons] at w;cases w with
  | cons a b =>
   cases a;exact .cons _ _ (ih _ b)
variable {l:OpenLaw} {n:Nat}
theorem Gu(hn:l.most=some n){args:List WData}{vals:List Value}(hpre:l.row.toRowW.claim.pre args=true)(hwl:WellAll P h vals args) :
  ∃a vs ns,vals=[Value.ref a]/\args=[WData.list (ns.map WData.int)]/\h.get? a=some { cls:=.type "list",data:=.seq vs.toArray }/\IntsAre vs ns/\ns.length<=n:=by
 have hsh:WShape.hasAll [] args [.list .int]=true:=(pre_splitW hpre).1;have hc:l.pre.holds [] { args:=args }=true:=(pre_splitW hpre).2;obtain⟨d,r,rfl,h1,h2⟩:=hasAllW_cons hsh;obtain rfl:=hasAllW_nil h2;obtain⟨xs,rfl,h3⟩:=hasW_list h1;obtain⟨ns,rfl⟩:=items_int h3;have hlen:ns.length<=n:=by
  unfold OpenLaw.pre at hc;have h4:(WTm.not (.lt (.lit (.int (n:Int))) (.len (.arg 0)))).holds [] { args:=[.list (ns.map .int)] }=true:=by have h4:=(holds_andW hc).1;rw[hn] at h4;exact h4
  have h5:=condW_of h4 (w_not (w_lt w_lit (w_len_list (w_arg rfl))));rw[length_map] at h5;refine le_of_not_lt fun q=>?_;have q':(n:Int)<((ns.length:Nat):Int):=by omega
  first
   | (rw[decide_eq_true q'] at h5;exact absurd h5 (by decide))
   | (simp at h5;omega)
 cases hwl with
 | cons w1 w2 =>
  cases w2;cases w1 with
  | list ho hall=>exact⟨_,_,ns,rfl,rfl,ho,HS ns _ hall,hlen⟩
theorem Gs(l:OpenLaw)(args:List WData):l.row.toRowW.claim.post args (.bool true) args=true :=
 postW_of (r:=l.row.toRowW) (X:=(true==true))
  (show WShape.has [] (.bool true) .bool=true by first|rfl|decide|simp[WShape.has,WShape.arms,WShape.armsAll])
  (show(WTm.eq .res (.lit (.bool true))).value [] { args:=args,res:=some (.bool true),after:=args }=some (.bool (true==true)) from w_eq_bool (w_res rfl) w_lit) rfl
theorem attach_call{q:Program}{loose:List Str}{XP:(Str->Option Value)->Heap->Prop}{YP:World->Heap->Prop}{d:DefRec}(hn:l.most=some n)(hdf:d.params.defaults=[])(call:∀(w:World) (s₀ s₁:Shared) (mg mb:Str->Option Value) (fa:Addr) (o:Obj) (pm cd doc:Value) (a:Addr) (vs:List Value) (ns:List Int),
   Ground q loose [] XP w s₀ mg mb s₁.heap->YP w s₁.heap ->
   s₁.heap.get? fa=some o->o.data=.func (docDef d.name d.params d.body d.scope pm cd doc)->s₁.heap.CodeRec cd d.name->mg d.name=some (.ref fa) ->
   s₁.heap.get? a=some { cls:=.type "list",data:=.seq vs.toArray }->IntsAre vs ns->ns.length<=n->s₁.gens=#[] ->
   codeAny (model l.prog w) callerA (.call (.ref fa) ⟨[.ref a],[]⟩) (fun r s'=>r=.ok (.ret (.bool true))/\OldK s₁.heap s'.heap/\s'.os=s₁.os/\AllBare s'.gens) s₁) :
  WalkO q loose XP YP l.row.toRowW d [] (fun f vs=>PySem.call f vs):=by
 intro w s₀ s₁ mg mb G Y fa o pm cd doc dV kV ho hd hcd hD hmg hg args vals as hpre hlay hrd hwl hlo;obtain rfl:dV=.none:=Dflts.none hD hdf;obtain rfl:kV=.none:=Dflts.noKw hD;obtain⟨a,vs,ns,rfl,rfl,hobj,hints,hlen⟩:=Gu hn hpre hwl;refine enter_call (codeAny_mono (call w s₀ s₁ mg mb fa o pm cd doc a vs ns G Y ho (fd_plain hd) hcd hmg hobj hints hlen hg) fun r s' hq=>?_);obtain⟨rfl,h2,h3,h4⟩:=hq;exact⟨.inl ⟨.bool true,.bool true,[],rfl,fun _=>rfl,.bool true,Gs l _,fun _=>⟨List.Pairwise.nil,fun _ hm=>(nomatch hm)⟩⟩,h2,h3,h4⟩
section
variable {prog:Program} {w:World} {A:Around} {E:Value->Shared->Prop} {s:Shared} {K:Frag}
def Jo(h:Heap)(L d:Addr):List (Addr×Obj):=(List.range h.objs.size).filterMap fun a=>if a=L\/a=d then none else (h.get? a).map fun o=>(a,o)
end
end Att
namespace L2
open PySem PySem.Spec PyProof.Rows
theorem nE:∀{vs:List Value} {ns:List Int},IntsAre vs ns->Vals (ns.map V.int) vs
 | _,_,.nil=>.nil
 | _,_,.cons n t h=>.cons ⟨t,rfl⟩ (nE h)
def mM(H:Hp):Prop:=∀b,H b=none\/∃o xs,H b=some (.frz o (.lst xs))
variable {P:Program} {w:World} {mg:Str->Option Value} {CX:iA} {k:Nat} {a:Addr} {fd:FuncData} {ns:List Int}
theorem Fm{K:Frag}{mb:Str->Option Value}{fa:Addr}{x:Str}{sp:Sp}{s₁:Shared}{vs:List Value}(KX:K.In s₁.heap)(hns:s₁.heap.Ns mainGlobals mg)(hb:s₁.heap.Ns builtinsNs mb)(hbb:∀x:Str,x ≠ "__name__" -> mb x=bootBuiltins x)(hlim:s₁.heap.NoLimit)(hg:s₁.gens=#[])(ha:s₁.heap.get? a=some { cls:=.type "list",data:=.seq vs.toArray })(hi:IntsAre vs ns)(hl:ns.length<=sizeLine)(hr:aO k callerA)(F:∀base:Heap,K.In base->base.Ns mainGlobals mg->ax P w K mg base CX k fa fd [x] sp)(hbind:∀(s:Shared) (u:Value),BindsTo s fd ⟨[u],[]⟩ [(x,u)])(hsp:∀H:Hp,mM H->cP K H a (ns.map V.int)->sp [.ref a] H (fun v _=>v=.bl true) fun _ _ _=>False)(hCX:∀H e s',CX [] H s₁ (fun _ _ _=>False) e s'->False) :
  codeAny (model P w) callerA (.call (.ref fa) ⟨[.ref a],[]⟩) (fun r s'=>r=.ok (.ret (.bool true))/\OldK s₁.heap s'.heap/\s'.os=s₁.os/\AllBare s'.gens) s₁:=by
 have rv:=nE hi;have lenV:=hi.length;have core:∀H:Hp,mM H->cP K H a (ns.map V.int)->cg P w H s₁.heap->(∀b,H b≠none->b=a)->(H a≠none->K.lookup a=none) ->
   codeAny (model P w) callerA (.call (.ref fa) ⟨[.ref a],[]⟩) (fun r s'=>r=.ok (.ret (.bool true))/\OldK s₁.heap s'.heap/\s'.os=s₁.os/\AllBare s'.gens) s₁:=by
  intro H hO hS hok hA hK;have base_of:∀{b:Addr} {o:Obj},s₁.heap.get? b=some o->H b=none->(jb s₁.heap H).get? b=some o:=fun e n=>EZ e n;have noA:∀{b:Addr} {o:Obj} {es:Array DictEntry} {ep:Nat},s₁.heap.get? b=some o->o.data=.dict es ep->H b=none:=fun {b o es ep} e d=>by
   cases q:H b with
   | none=>rfl
   | some u =>
    have e':b=a:=hA b (by rw[q];simp);subst e';rw[ha] at e;cases e;have d':Data.seq vs.toArray _=Data.dict es ep:=d;cases d'
  have nsK:∀{b:Addr} {m:Str->Option Value},s₁.heap.Ns b m->(jb s₁.heap H).Ns b m:=fun {b m} ⟨o,es,ep,e,d,r⟩=>⟨o,es,ep,base_of e (noA e d),d,r⟩
  have hKb:K.In (jb s₁.heap H):=fun b o e=>base_of (KX b o e) (by
   cases q:H b with
   | none=>rfl
   | some u =>
    have e':b=a:=hA b (by rw[q];simp);subst e';rw[hK (by rw[q];simp)] at e;cases e)
  have hM:Mod K mg (jb s₁.heap H):=⟨hKb,nsK hns,⟨mb,nsK hb,hbb⟩,let ⟨mc,h1,h2⟩:=hlim;⟨mc,nsK h1,h2⟩⟩
  have e0:fW P w K mg (jb s₁.heap H) callerA [] s₁ H:=⟨rfl,hM,fun b o e=>DN e,le_of_eq (FZ _ _),trivial,fun b hb=>absurd (show b∈([]:List Addr) from hb) (by simp),hok,.of_eq hg⟩
  refine codeAny_mono ((F _ hKb (nsK hns)).run callerA [] s₁ H ⟨[.ref a],[]⟩ [.ref a] [.ref a] _ _ hr e0 (hbind s₁ (.ref a)) (.cons rfl .nil) (hsp H hO hS)) fun r s' h=>?_;cases r with
  | error e=>exact(hCX H e s' h).elim
  | ok fl =>
   cases fl with
   | next=>exact False.elim h
   | brk=>exact False.elim h
   | cont=>exact False.elim h
   | ret u =>
    obtain⟨v,H',os,bare,un,hok',r',q⟩:=h;have q':v=.bl true:=q;subst q';obtain rfl:u=Value.bool true:=r';refine⟨rfl,OldK.of_keep fun b o e=>?_,os,bare⟩;cases q:H b with
    | none=>exact un.keep b o e q (by intro z;exact absurd (show b∈([]:List Addr) from z) (by simp)) (by simp)
    | some u =>
     rcases hO b with z|⟨ob,xs,z⟩
     ·rw[q] at z;cases z
     ·have z2:=un.frzs b ob _ z;obtain⟨e1,_⟩:=hok b _ z;obtain⟨e2,_⟩:=hok' b _ z2;rw[e] at e1;cases e1;exact e2
 cases hk:K.lookup a with
 | some o =>
  have e:=KX a o hk;rw[ha] at e;cases e;refine core (fun _=>none) (fun _=>.inl rfl) (.inr ⟨_,vs.toArray,_,hk,rfl,rfl,rfl,by rw[size_toArray,lenV];exact hl,by simpa using rv⟩) (fun b u z=>by have z':(none:Option HO)=some u:=z;cases z') (fun b z=>absurd rfl z) fun z=>absurd rfl z
 | none =>
  refine core (fun b=>if b=a then some (.frz { cls:=.type "list",data:=.seq vs.toArray } (.lst (ns.map V.int))) else none) (fun b=>?_) (.inl (.inr ⟨{ cls:=.type "list",data:=.seq vs.toArray },if_pos rfl⟩)) (fun b u z=>?_) (fun b z=>?_) fun _=>hk
  ·by_cases hb:b=a
   ·exact .inr ⟨_,_,if_pos hb⟩
   ·exact .inl (if_neg hb)
  ·by_cases hb:b=a
   ·have z':=(if_pos hb).symm.trans z;cases z';subst hb;exact⟨ha,by rw[length_map];exact hl,vs,_,rv,ha⟩
   ·have z':=(if_neg hb).symm.trans z;cases z'
  ·by_cases hb:b=a
   ·exact hb
   ·exact absurd (if_neg hb) z
variable {K:Params->Frag} {l:PySem.W.OpenLaw} {n:Nat} {q:Program} {loose:List Str} {YP:World->Heap->Prop} {d:DefRec}
theorem DY{XP:(Str->Option Value)->Heap->Prop}{CX:World->iA}{sp:World->Sp}{x:Str}(hn:l.most=some n)(hn2:n<=sizeLine)(hdf:d.params.defaults=[])(hr:aO k callerA)(hY:∀(w:World) (h:Heap),YP w h->(K w.params).In h)(F:∀(w:World) (mg:Str->Option Value) (fa:Addr) (h:Heap),(K w.params).In h->h.Ns mainGlobals mg->mg d.name=some (.ref fa) ->
   ∃fd:FuncData,(∀(s:Shared) (u:Value),BindsTo s fd ⟨[u],[]⟩ [(x,u)]) /\
    ∀base:Heap,(K w.params).In base->base.Ns mainGlobals mg->ax l.prog w (K w.params) mg base (CX w) k fa fd [x] (sp w))(hsp:∀(w:World) (H:Hp) (a:Addr) (ns:List Int),ns.length<=n->mM H->cP (K w.params) H a (ns.map V.int)->sp w [.ref a] H (fun v _=>v=.bl true) fun _ _ _=>False)(hCX:∀(w:World) (H:Hp) (s:Shared) (e:Value) (s':Shared),CX w [] H s (fun _ _ _=>False) e s'->False) :
  PySem.W.WalkO q loose XP YP l.row.toRowW d [] (fun f vs=>PySem.call f vs):=by
 refine Att.attach_call hn hdf fun w s₀ s₁ mg mb fa o pm cd doc a vs ns G Y ho hd hcd hmg hobj hints hlen hg=>?_;have KX:=hY w _ Y;obtain⟨fd,hb,hF⟩:=F w mg fa _ KX G.T.g hmg;exact Fm KX G.T.g G.T.b G.T.builtins G.T.nolimit hg hobj hints (le_trans hlen hn2) hr hF hb (fun H hO hS=>hsp w H a ns hlen hO hS) fun H e s'=>hCX w H s₁ e s'
theorem walk_ofK{XP:(Str->Option Value)->Heap->Prop}{sp:Frag->Sp}{x:Str}(hn:l.most=some n)(hn2:n<=sizeLine)(hdf:d.params.defaults=[])(hr:aO k callerA)(hY:∀(w:World) (h:Heap),YP w h->(K w.params).In h)(F:∀(w:World) (mg:Str->Option Value) (fa:Addr) (h:Heap),(K w.params).In h->h.Ns mainGlobals mg->mg d.name=some (.ref fa) ->
   ∃fd:FuncData,(∀(s:Shared) (u:Value),BindsTo s fd ⟨[u],[]⟩ [(x,u)]) /\
    ∀base:Heap,(K w.params).In base->base.Ns mainGlobals mg->ax l.prog w (K w.params) mg base CX k fa fd [x] (sp (K w.params)))(hsp:∀(K:Frag) (H:Hp) (a:Addr) (ns:List Int),ns.length<=n->mM H->cP K H a (ns.map V.int)->sp K [.ref a] H (fun v _=>v=.bl true) fun _ _ _=>False)(hCX:∀(H:Hp) (s:Shared) (e:Value) (s':Shared),CX [] H s (fun _ _ _=>False) e s'->False) :
  PySem.W.WalkO q loose XP YP l.row.toRowW d [] (fun f vs=>PySem.call f vs) :=
 DY (K:=K) (CX:=fun _=>CX) (sp:=fun w=>sp (K w.params)) hn hn2 hdf hr hY F (fun w H a ns h1 h2 h3=>hsp (K w.params) H a ns h1 h2 h3) fun _ H s e s'=>hCX H s e s'
def mf(s:Stmt):Arguments:=match s with
 | .FunctionDef _ a _ _ _ _ _ _ _ _=>a
 | _=>{ posonlyargs:=[],args:=[],vararg:=none,kwonlyargs:=[],kw_defaults:=[],kwarg:=none,defaults:=[] }
def j_(s:Stmt):List Stmt:=match s with
 | .FunctionDef _ _ b _ _ _ _ _ _ _=>b
 | _=>[]
def aX(s:Stmt):Scope:=match s with
 | .FunctionDef _ _ _ _ _ _ sc _ _ _=>sc
 | _=>{ kind:=.function,names:=[],isGenerator:=false,isCoroutine:=false }
abbrev CX0:iA:=fun _ _ _ _ _ _=>False
abbrev E0:XK:=fun _ _ _=>False
structure bJ (K:Frag) (x qual:Str) (st:Stmt) (f:Addr) (fd:FuncData):Prop where
 ex:∃(oc:Value) (od:Option Addr) (kV doc pm:Value) (an:Option Addr) (cdv ct:Value) (osl:Array (Option Value)),
  fd=fnOf x qual (mf st) (j_ st) (aX st) .none kV doc pm an cdv ct/\K.lookup f=some ⟨oc,od,.func fd,osl⟩/\codeIn K cdv qual=true
 kp:keepIn K (.ref f)=true
variable {qual:Str} {st:Stmt} {f:Addr}
section
variable {K:Frag} {base:Heap}
theorem bJ.binds{x:Str}{ps:List Str}(F:bJ K x qual st f fd)(h:∀(kV doc pm:Value) (an:Option Addr) (cdv ct:Value) (us:List Value),us.length=ps.length->bindArgs (fnOf x qual (mf st) (j_ st) (aX st) .none kV doc pm an cdv ct) ⟨us,[]⟩=pure (ps.zip us)):Binds K fd ps []:=by obtain⟨oc,od,kV,doc,pm,an,cdv,ct,osl,rfl,lk,hcd⟩:=F.ex;exact .all (h kV doc pm an cdv ct)
theorem vV{x:Str}{oc:Value}{od an:Option Addr}{osl:Array (Option Value)}{kV doc pm cdv ct:Value}(l:K.lookup f=some ⟨oc,od,.func (fnOf x qual (mf st) (j_ st) (aX st) .none kV doc pm an cdv ct),osl⟩)(c:codeIn K cdv qual=true)(k:keepIn K (.ref f)=true):bJ K x qual st f (fnOf x qual (mf st) (j_ st) (aX st) .none kV doc pm an cdv ct):=⟨⟨oc,od,kV,doc,pm,an,cdv,ct,osl,rfl,l,c⟩,k⟩
end
variable {X:Cx}
def IB(H H':Hp):Prop:=∀b o,H b=some o->H' b=some o
def gx(js:List Nat)(σ:St):St:=js.map fun j=>σ.getD j none
structure ft (N:List Str) (psc:Scope) (js:List Nat) (N':List Str) (scope:Scope):Prop where
 cell:∀y∈scope.names,y.2≠.cell
 kind:scope.kind=.function
 names:∀y∈scope.names,y.2=.local->scope.names.lookup y.1=some .local
 frees:∀y∈scope.names,y.2=.free->psc.names.lookup y.1=some .cell\/psc.names.lookup y.1=some .free
 nd:N'.Nodup
 len:N'.length=js.length+1
 cap:∀p∈js.zip (N'.drop 1),N[p.1]?=some p.2/\scope.names.lookup p.2=some .free
def iN(env:Env)(cs:List (Str×Addr))(y:Str×NameKind):List (Str×Addr):=if y.2==.free then (y.1,(env.cells.lookup y.1).getD 0)::cs else cs
def clOf(scope:Scope)(env:Env):List (Str×Addr):=scope.names.foldl (iN env) []
theorem yS{α β:Type}(f:α->β->Sem (ForInStep β))(g:β->α->β):∀(l:List α) (b:β),(∀x∈l,∀c,f x c=pure (.yield (g c x)))->forIn l b f=pure (l.foldl g b)
 | [],_,_=>rfl
 | x::l,b,h=>by
  rw[forIn_cons,h x mem_cons_self,pure_bind];exact yS f g l (g b x) fun y hy=>h y (mem_cons_of_mem _ hy)
variable {scope:Scope} {env:Env}
theorem GH(h:∀y∈scope.names,y.2=.free->∃c,env.cells.lookup y.1=some c):closureFor scope env=pure (clOf scope env):=by
 simp only[closureFor,clOf];rw[yS _ (iN env) scope.names [] (fun y hy c=>by
  obtain⟨n,k⟩:=y
  by_cases hk:k=.free
  ·subst hk;obtain⟨a,ha⟩:=h _ hy rfl;have ha':env.cells.lookup n=some a:=ha;simp[cellOf,ha',iN]
  ·have hb:(k==NameKind.free)=false:=by simpa using hk
   simp[hb,iN])]
 rfl
theorem yN{env:Env}{P:Str×Addr->Prop}:∀(l:List (Str×NameKind)) (acc:List (Str×Addr)),(∀p∈acc,P p)->(∀y∈l,y.2=.free->P (y.1,(env.cells.lookup y.1).getD 0))->∀p∈l.foldl (iN env) acc,P p
 | [],_,ha,_=>ha
 | y::l,acc,ha,hl=>by
  refine yN l _ (fun p hp=>?_) fun z hz=>hl z (mem_cons_of_mem _ hz);unfold iN at hp
  by_cases hk:y.2=.free
  ·rw[if_pos (by simp[hk])] at hp;rcases mem_cons.mp hp with e|hp
   ·rw[e];exact hl y mem_cons_self hk
   ·exact ha p hp
  ·rw[if_neg (by simp[hk])] at hp;exact ha p hp
theorem yM{env:Env}:∀(l:List (Str×NameKind)) (acc:List (Str×Addr)),∀p∈acc,p∈l.foldl (iN env) acc
 | [],_,_,hp=>hp
 | y::l,acc,p,hp=>by
  refine yM l _ p ?_;unfold iN;split
  ·exact mem_cons_of_mem _ hp
  ·exact hp
theorem yL{env:Env}{y:Str}:∀(l:List (Str×NameKind)) (acc:List (Str×Addr)),(y,NameKind.free)∈l->∃c,(y,c)∈l.foldl (iN env) acc
 | z::l,acc,h=>by
  rcases mem_cons.mp h with e|h
  ·subst e;exact⟨(env.cells.lookup y).getD 0,yM l _ _ (by simp[iN])⟩
  ·exact yL l _ h
theorem y9{β:Type}{y:Str}{c:β}:∀{l:List (Str×β)},(y,c)∈l->∃c',l.lookup y=some c'
 | (n,d)::l,h=>by
  rw[lookup_cons];cases e:y==n with
  | true=>exact⟨d,rfl⟩
  | false =>
   rcases mem_cons.mp h with q|q
   ·have q1:y=n:=congrArg Prod.fst q;rw[q1] at e;simp at e
   ·exact y9 q
theorem yq(h:∀y∈scope.names,y.2=.free->∃c,env.cells.lookup y.1=some c){y:Str}{c:Addr}(e:(clOf scope env).lookup y=some c):env.cells.lookup y=some c:=by refine yN (P:=fun p=>env.cells.lookup p.1=some p.2) scope.names [] (fun _ hp=>nomatch hp) (fun z hz hf=>?_) (y,c) (PySem.mem_of_lookup e);obtain⟨a,ha⟩:=h z hz hf;simp[ha]
theorem xK{y:Str}(h:(y,NameKind.free)∈scope.names):∃c,(clOf scope env).lookup y=some c:=by obtain⟨c,hc⟩:=yL (env:=env) scope.names [] h;exact y9 hc
theorem cN{env:Env}{y:Str}{k':NameKind}:∀{names:List (Str×NameKind)},(names.map fun(n,k)=>if (k==NameKind.free&&env.scope.kind==.function&&env.kindOf n==some .cell) then (n,NameKind.cell) else (n,k)).lookup y=some k' ->
  ∃k,(y,k)∈names/\(k'=k\/(k=.free/\k'=.cell))
 | [],h=>by simp at h
 | (n,k)::r,h=>by
  have ih:=@cN env y k' r;have h:List.lookup y ((if (k==NameKind.free&&env.scope.kind==.function&&env.kindOf n==some .cell)=true then (n,NameKind.cell) else (n,k))::_)=some k':=h;cases e:y==n with
  | true =>
   have e':y=n:=by simpa using e
   by_cases hc:(k==NameKind.free&&env.scope.kind==.function&&env.kindOf n==some .cell)=true
   ·rw[if_pos hc] at h;simp only[lookup_cons,e] at h;cases h;have hk:k=.free:=by simp only[and_eq_true] at hc;simpa using hc.1.1
    subst hk;exact⟨.free,by rw[e'];exact mem_cons_self,.inr ⟨rfl,rfl⟩⟩
   ·rw[if_neg hc] at h;simp only[lookup_cons,e] at h;have hk:=Option.some.inj h;exact⟨k,by rw[e'];exact mem_cons_self,.inl hk.symm⟩
  | false =>
   have h':List.lookup y (r.map fun(n,k)=>if (k==NameKind.free&&env.scope.kind==.function&&env.kindOf n==some .cell) then (n,NameKind.cell) else (n,k))=some k':=by
    by_cases hc:(k==NameKind.free&&env.scope.kind==.function&&env.kindOf n==some .cell)=true
    ·rw[if_pos hc] at h;simp only[lookup_cons,e] at h;exact h
    ·rw[if_neg hc] at h;simp only[lookup_cons,e] at h;exact h
   obtain⟨k0,h1,h2⟩:=ih h';exact⟨k0,mem_cons_of_mem _ h1,h2⟩
theorem c4{env:Env}{y:Str}:∀{names:List (Str×NameKind)},names.lookup y=some .free ->
  (names.map fun(n,k)=>if (k==NameKind.free&&env.scope.kind==.function&&env.kindOf n==some .cell) then (n,NameKind.cell) else (n,k)).lookup y=some .cell \/
  (names.map fun(n,k)=>if (k==NameKind.free&&env.scope.kind==.function&&env.kindOf n==some .cell) then (n,NameKind.cell) else (n,k)).lookup y=some .free
 | [],h=>by simp at h
 | (n,k)::r,h=>by
  have ih:=@c4 env y r;show List.lookup y ((if (k==NameKind.free&&env.scope.kind==.function&&env.kindOf n==some .cell)=true then (n,NameKind.cell) else (n,k))::_)=_\/List.lookup y ((if (k==NameKind.free&&env.scope.kind==.function&&env.kindOf n==some .cell)=true then (n,NameKind.cell) else (n,k))::_)=_;cases e:y==n with
  | true =>
   simp only[lookup_cons,e] at h;cases h
   by_cases hc:(NameKind.free==NameKind.free&&env.scope.kind==.function&&env.kindOf n==some .cell)=true
   ·rw[if_pos hc];exact .inl (by simp[lookup_cons,e])
   ·rw[if_neg hc];exact .inr (by simp[lookup_cons,e])
  | false =>
   simp only[lookup_cons,e] at h
   by_cases hc:(k==NameKind.free&&env.scope.kind==.function&&env.kindOf n==some .cell)=true
   ·rw[if_pos hc];simp only[lookup_cons,e];exact ih h
   ·rw[if_neg hc];simp only[lookup_cons,e];exact ih h
def dU(X:Cx)(N':List Str)(scope:Scope)(C:Addr)(fp:List Addr)(s₀:Shared)(H₀:Hp):Cx :=
 { X with N:=N',s₀:=s₀,H₀:=H₀,env:=compEnvC scope (clOf scope X.env) C X.env,outer:=X.stack,stack:=X.stack,ex:=fp,fn:=fun _=>false,pn:=[],xe:=fun _ _=>False }
variable {H:Hp} {h:Heap}
theorem cg.track{o:HO}(x:cg P w H h)(hn:H a=none)(new:aC P w (upd H a o) h a o):cg P w (upd H a o) h:=fun b u e=>by
 by_cases hb:b=a
 ·subst hb;rw[cU] at e;cases e;exact new
 ·rw[bH hb] at e;exact(x b u e).stay (fun c v _ q=>q) (fun c q=>by rw[bH (ee q hn)];exact q) fun c xs q=>by rw[bH (ee q hn)];exact q
variable {pins:List (Addr×Obj)} {s:Shared} {b:Addr} {js:List Nat} {caps:List Str}
section
variable {σ:St}
theorem Inv.stkNe(I:Inv X pins σ H s)(h1:b≠X.env.locals)(h2:b∉X.fs):b∉cW X.stack:=fun hb=>(mem_cons.mp (I.stkSub b hb)).elim h1 h2
theorem Inv.frees(I:Inv X pins σ H s){js:List Nat}{N':List Str}{scope:Scope}(B:ft X.N X.env.scope js N' scope):∀y∈scope.names,y.2=.free->∃c,X.env.cells.lookup y.1=some c :=
 fun y hy hf=>I.ok.has y.1 (B.frees y hy hf)
theorem Gr{x:Str}{C:Addr}{fp:List Addr}{h₁:Heap}{tk:Nat}{m:Str->Option Value}(B:ft X.N X.env.scope js (x::caps) scope)(I:Inv X pins σ H s)(f2:∀b∈fp,jN X pins H b)(ho:∀b∈fp,∃o,s.heap.get? b=some o)(hC:s.heap.objs.size<=C)(old:∀b o,s.heap.get? b=some o->h₁.get? b=some o)(ns:h₁.Ns C m) :
  Inv (dU X (x::caps) scope C fp s H) [] (none::gx js σ) H { s with heap:=h₁,toks:=tk }:=by
 have fr:=I.frees B;have clo:∀y c,(clOf scope X.env).lookup y=some c->X.env.cells.lookup y=some c:=fun y c e=>yq fr e;have lt:∀b∈fp,b<s.heap.objs.size:=fun b hb=>let ⟨o,e⟩:=ho b hb;Heap.lt_size e
 refine⟨⟨I.ok.mod,B.kind,I.ok.glob,I.ok.blt,hC,fun a b c h1 h2=>I.ok.inj a b c (clo _ _ h1) (clo _ _ h2),fun y hy=>?_,fun y c h _=>absurd (show false=true from h) Bool.false_ne_true,I.ok.hd,I.ok.frames,.inl rfl,
   fun b hb=>⟨ne_of_lt (lt_of_lt_of_le (lt b hb) hC),fun y c h=>(f2 b hb).2.2.2.2.1 y c (clo y c h)⟩,I.bs,le_trans I.ok.bsz I.sz,fun b o e hb=>?_,fun b hb=>I.stkNe (f2 b hb).2.1 (f2 b hb).2.2.1,I.stack,I.stkFree⟩,
  rfl,I.bare,Un.kept old,⟨m,ns,fun i y v e1 e2 e3=>?_⟩,fun y c h=>?_,I.hok.fresh hC,fun y c h=>I.freeC y c (clo y c h),fun p hp=>absurd (show p∈([]:List (Addr×Obj)) from hp) (by simp),I.hok.kept old,?_⟩
 ·have hy':(relabel scope X.env).names.lookup y=some .cell\/(relabel scope X.env).names.lookup y=some .free:=hy;have hm:(y,NameKind.free)∈scope.names:=by
   rcases hy' with z|z
   ·obtain⟨k,h1,h2⟩:=cN z;rcases h2 with h2|⟨h2,_⟩
    ·exact absurd h2.symm (B.cell _ h1)
    ·rw[h2] at h1;exact h1
   ·obtain⟨k,h1,h2⟩:=cN z;rcases h2 with h2|⟨_,h2⟩
    ·rw[<- h2] at h1;exact h1
    ·cases h2
  exact xK hm
 ·rcases(f2 b hb).2.2.2.1 with z|z
  ·exact I.ok.noex b o e z
  ·exact absurd (lt_of_lt_of_le (Heap.lt_size e) (le_trans I.ok.bsz z)) (lt_irrefl _)
 ·cases i with
  | zero =>
   have q:some (none:Option V)=some (some v):=e2;cases q
  | succ k =>
   have e1':caps[k]?=some y:=e1;have e2':(js.map fun j=>σ.getD j none)[k]?=some (some v):=e2;rw[getElem?_map] at e2';cases hj:js[k]? with
   | none=>rw[hj] at e2';cases e2'
   | some j =>
    rw[hj] at e2';have hv:σ.getD j none=some v:=Option.some.inj e2';have hσ:σ[j]?=some (some v):=by
     rw[getD_eq_getElem?_getD] at hv;cases q:σ[j]? with
     | none=>rw[q] at hv;cases hv
     | some z=>rw[q] at hv;exact congrArg some hv
    have hz:(j,y)∈js.zip caps:=mem_of_getElem? (getElem?_zip_eq_some.mpr ⟨hj,e1'⟩);obtain⟨hN,hf⟩:=B.cap (j,y) hz;have hk:=B.frees (y,.free) (PySem.mem_of_lookup hf) rfl;obtain⟨m',_,hl⟩:=I.loc;obtain⟨u,r,l⟩:=hl j y v hN hσ (.inr hk);rcases l with ⟨k1,_⟩|⟨k1,c,hcl,o,hco,hcd⟩
    ·have k1':X.env.scope.names.lookup y=some .local:=k1;have hk':X.env.scope.names.lookup y=some .cell\/X.env.scope.names.lookup y=some .free:=hk;rw[k1'] at hk';rcases hk' with z|z<;>cases z
    ·obtain⟨c',hc'⟩:=xK (env:=X.env) (PySem.mem_of_lookup hf);have:=clo _ _ hc';rw[hcl] at this;cases this;exact⟨u,r,.inr ⟨c4 hf,c,hc',o,old c o hco,hcd⟩⟩
 ·obtain⟨v,o,h1,h2⟩:=I.cell y c (clo y c h);exact⟨v,o,old c o h1,h2⟩
 ·show(none::gx js σ).length=(x::caps).length;rw[B.len];simp[gx]
end
def PIfs(Y:Cx)(ifs:List Expr)(tt:TT):Prop :=
 ∀(pins:List (Addr×Obj)) (s:Shared) (σ:St) (H:Hp) (Q:Bool->Hp->Prop),Inv Y pins σ H s->tt σ H Q ->
  wpAny (model Y.prog Y.w) Y.A (forIn ifs true fun c r=>if r=true then do let ok <- isTrue c Y.env (eval c Y.env);pure (ForInStep.yield ok) else pure (ForInStep.yield r)) (TP Y pins σ Q) Y.xe s
def Ac:TT:=fun _ H Q=>Q true H
variable {Y:Cx}
theorem Fj:PIfs Y [] Ac:=fun _ _ _ H _ I h=>wpAny_tests_nil ⟨H,I,h⟩
theorem Fh{c:Expr}{tc:TT}(h:PT Y c tc):PIfs Y [c] tc:=fun pins s σ H Q I hw=>wpAny_tests_one (h pins s σ H Q I hw)
def zV(J:It)(cs:St)(tt:TT)(te:TE)(Q:VK)(H1:Hp):Prop:=∃W:Nat->Nat->List V->Hp->Prop,(∃m,W 0 m [] H1)/\∀i m ys H2,W i m ys H2 ->
 (J.stop i H2/\∀p,H2 p=none->Q (.ref p) (upd H2 p (.lst ys))) \/
 (J.go i H2/\ys.length<sizeLine/\∃N:List V->Hp->Prop,(∀ys' H',N ys' H'->∃m',m'<m/\W (i+1) m' ys' H') /\
  ∀x H',J.yld i H2 x H'->tt (some x::cs) H' fun b H4=>if b=true then te (some x::cs) H4 fun y H5=>N (ys++[y]) H5 else N ys H4)
def pP(js:List Nat)(wi:TI)(tt:TT)(te:TE):TE:=fun σ H Q=>wi σ H fun J H1=>zV J (gx js σ) tt te Q H1
variable {A:Around} {E:Value->Shared->Prop}
theorem Fg{α:Type}{M:Model}{Φ:Unit->Shared->Prop}{E':Value->Shared->Prop}{t:Sem α}{Ψ:α->Shared->Prop}(h:wpAny M A (pure ()) Φ E s)(k:Φ () s->wpAny M A t Ψ E' s):wpAny M A t Ψ E' s :=
 fun Γ p hΓ=>k (h Γ p hΓ) Γ p hΓ
variable {pos:Pos} {tt:TT} {te:TE}
section
variable {elt iter:Expr} {x:Str} {px p:Pos} {ifs:List Expr} {wi:TI}
theorem w4{use:Option (Value->Sem Unit)}{Qf:Value->Shared->Prop}{σ:St}{Q:VK}(B:ft X.N X.env.scope js (x::caps) scope)(hc:X.calm=true)(hx:scope.names.lookup x=some .local)(hi:PI X (.Name x px) iter wi)(ht:∀C fp s₀ H₀,PIfs (dU X (x::caps) scope C fp s₀ H₀) ifs tt)(he:∀C fp s₀ H₀,PE (dU X (x::caps) scope C fp s₀ H₀) elt te)(hs:∀v,foldedSetIterable iter X.env v=pure v)(I:Inv X pins σ H s)(hw:pP js wi tt te σ H Q)(fin:∀(C D:Addr) (oC:Obj) (ys:List V) (H':Hp) (s1:Shared),Inv X (pins++[(C,oC)]) σ (upd H' D (.lst ys)) s1->Q (.ref D) (upd H' D (.lst ys)) ->
   (∀σ' H'' s',Inv X (pins++[(C,oC)]) σ' H'' s'->(∃m,s'.heap.Ns C m)/\∀h',Heap.SameBut C s'.heap h'->Inv X pins σ' H'' { s' with heap:=h' }) ->
   compPost (model X.prog X.w) X.A X.xe use Qf (.ref D) C (.ok .next) s1) :
  wpAny (model X.prog X.w) X.A (comprehension (.ListComp elt [⟨.Name x px,iter,ifs,0⟩] scope pos) scope X.env p (newList []) false (eval iter X.env) use) Qf X.xe s:=by
 have fr:=I.frees B;refine wpAny_comprehension_free (use:=use) rfl hs (GH fr) B.kind B.names (aK (hi pins s σ H _ I hw) fun v s1 h1=>aK h1 fun itv s2 h2=>?_);obtain⟨it,fp,tn,J,H2,e,I2,T,st2,f2,W,⟨m0,w0⟩,turn⟩:=h2;subst e;refine wpAny_newObj_type (wpAny_newFunctionEnv B.cell (by intro y hy;simp at hy) (fun h₁ hns₁ hsb₁=>?_) B.kind);dsimp only at hns₁ hsb₁ ⊢;generalize hG:s2.heap.push { cls:=.type "list",dict:=none,data:=.seq ([]:List Value).toArray }=G at hns₁ hsb₁ ⊢;have hC:G.objs.size=s2.heap.objs.size+1:=by rw[<- hG,Heap.size_push]
 have hDC:s2.heap.objs.size≠G.objs.size:=by rw[hC];exact ne_of_lt (lt_succ_self _)
 have hCle:s2.heap.objs.size<=G.objs.size:=by rw[hC];exact le_succ _
 have old:∀b o,s2.heap.get? b=some o->h₁.get? b=some o:=fun b o e =>
  hsb₁.extBut b o (ne_of_lt (lt_of_lt_of_le (Heap.lt_size e) hCle)) (Heap.get?_push_of_some _ (hG▸Heap.get?_push_of_some _ e))
 have hacc:h₁.get? s2.heap.objs.size=some (LCg.lst []):=hsb₁.extBut _ _ hDC (Heap.get?_push_of_some _ (hG▸Heap.get?_push_size _ rfl));have fpo:∀b∈fp,∃o,s2.heap.get? b=some o:=fun b hb=>let ⟨o,e,_⟩:=T.obj 0 _ st2 b hb;⟨o,e⟩
 have fpl:∀b∈fp,b<s2.heap.objs.size:=fun b hb=>let ⟨o,e⟩:=fpo b hb;Heap.lt_size e
 have clo:∀y c,(clOf scope X.env).lookup y=some c->X.env.cells.lookup y=some c:=fun y c e=>yq fr e;have cls2:∀y c,X.env.cells.lookup y=some c->c<s2.heap.objs.size:=fun y c e=>let ⟨v,o,h1,_⟩:=I2.cell y c e;Heap.lt_size h1
 have st1:tn 0 h₁:=T.keep 0 _ _ st2 fun b _ o e=>old b o e;have D_fs:s2.heap.objs.size∉cW X.stack:=I2.stkNe (ne_of_gt I2.lt) (I2.nofs (le_refl _));have C_fs:G.objs.size∉X.fs:=I2.nofs hCle;have C_L:G.objs.size≠X.env.locals:=ne_of_gt (lt_of_lt_of_le I2.lt hCle);have fpY:∀{pl:List (Addr×Obj)} {H':Hp},(∀b∈fp,H' b=none)->(∀p∈pl,s2.heap.objs.size<=p.1)->∀b∈fp,jN (dU X (x::caps) scope G.objs.size fp s2 H2) pl H' b:=fun {pl H'} hn hp b hb =>
  ⟨hn b hb,ne_of_lt (lt_of_lt_of_le (fpl b hb) hCle),I2.stkNe (f2 b hb).2.1 (f2 b hb).2.2.1,.inl hb,fun y c h=>(f2 b hb).2.2.2.2.1 y c (clo y c h),fun p hp' z =>
   absurd (lt_of_lt_of_le (fpl b hb) (by rw[<- z];exact hp p (by simpa[dU] using hp'))) (lt_irrefl _)⟩
 have rel:∀{oC:Obj} {mC:Str->Option Value},LCg.NsObj oC mC->∀σ' H'' s',Inv X (pins++[(G.objs.size,oC)]) σ' H'' s'->(∃m,s'.heap.Ns G.objs.size m)/\∀h',Heap.SameBut G.objs.size s'.heap h'->Inv X pins σ' H'' { s' with heap:=h' }:=by
  intro oC mC hns σ' H'' s' I';obtain⟨e1,e2,e3,e4,e5⟩:=I'.pin (G.objs.size,oC) (mem_append_right _ (mem_append_right _ (by simp)));refine⟨⟨mC,hns.ns e1⟩,fun h' hs'=>?_⟩;exact(I'.unpinned).turned (t':=s'.toks) (it:=G.objs.size) (fun b o hb e=>(hs'.2 b hb).trans e) e2 e3 (.inr (le_trans I2.sz hCle)) (fun y c h z=>absurd (lt_of_lt_of_le (cls2 y c h) (by rw[z];exact hCle)) (lt_irrefl _))
   (fun q hq z=>absurd (lt_of_lt_of_le (Heap.lt_size (I2.pin q hq).1) (by rw[z];exact hCle)) (lt_irrefl _))
 have I1:Inv (dU X (x::caps) scope G.objs.size fp s2 H2) [] (none::gx js σ) H2 { s2 with heap:=h₁,toks:=s2.toks+([]:List (Str×Value)).length }:=Gr B I2 f2 fpo hCle old hns₁;have hxl:(dU X (x::caps) scope G.objs.size fp s2 H2).env.scope.names.lookup x=some .local:=lookup_relabel_local hx;have pinD:∀{us:List Value} {σ3:St} {H3:Hp} {s3:Shared},Inv (dU X (x::caps) scope G.objs.size fp s2 H2) [] σ3 H3 s3->s3.heap.get? s2.heap.objs.size=some (LCg.lst us)->H3 s2.heap.objs.size=none ->
   Inv (dU X (x::caps) scope G.objs.size fp s2 H2) [(s2.heap.objs.size,LCg.lst us)] σ3 H3 s3:=fun {us σ3 H3 s3} I3 hD nD=>I3.pins_of fun p hp=>by
  have e:p=(s2.heap.objs.size,LCg.lst us):=by simpa using hp
  subst e;exact⟨hD,nD,hDC,D_fs,fun v z=>by
   have z':Data.seq _ _=Data.cell v:=z;cases z'⟩
 have back:∀{us us':List Value} {ts:Option V} {H8:Hp} {s5 s8:Shared} {h9:Heap} {i:Nat},Inv (dU X (x::caps) scope G.objs.size fp s2 H2) ([(s2.heap.objs.size,LCg.lst us)]++lV fp s5.heap) (ts::gx js σ) H8 s8->tn (i+1) s5.heap ->
   (∀b,b≠s2.heap.objs.size->h9.get? b=s8.heap.get? b)->h9.get? s2.heap.objs.size=some (LCg.lst us') ->
   Inv (dU X (x::caps) scope G.objs.size fp s2 H2) [] (none::gx js σ) H8 { s8 with heap:=h9 }/\tn (i+1) h9/\(∀b∈fp,H8 b=none)/\H8 s2.heap.objs.size=none:=by
  intro us us' ts H8 s5 s8 h9 i I8 st5 hk hD9;have pn:∀q∈[(s2.heap.objs.size,LCg.lst us)]++lV fp s5.heap,s8.heap.get? q.1=some q.2/\H8 q.1=none:=fun q hq=>let z:=I8.pin q (mem_append_right _ hq);⟨z.1,z.2.1⟩
  have nD:H8 s2.heap.objs.size=none:=(pn (s2.heap.objs.size,LCg.lst us) (by simp)).2;have Iw:Inv (dU X (x::caps) scope G.objs.size fp s2 H2) [] (none::gx js σ) H8 s8:=(I8.pins_of (pins':=[]) fun q hq=>nomatch hq).weak rfl fun j v e=>by
   cases j with
   | zero =>
    have q:some (none:Option V)=some (some v):=e;cases q
   | succ j=>exact e
  refine⟨Iw.turned (t':=s8.toks) (it:=s2.heap.objs.size) (fun b o hb e=>(hk b hb).trans e) nD hDC (.inr (le_refl _)) (fun y c h z=>absurd (cls2 y c (clo y c h)) (by rw[z];exact lt_irrefl _)) (fun q hq=>absurd (show q∈([]:List (Addr×Obj)) from hq) (by simp)),
   T.keep _ _ _ st5 fun b hb o e=>?_,fun b hb=>?_,nD⟩
  ·rw[hk b (ne_of_lt (fpl b hb))];exact(pn (b,o) (mem_append_right _ (pF hb e))).1
  ·obtain⟨o,e,_⟩:=T.obj _ _ st5 b hb;exact(pn (b,o) (mem_append_right _ (pF hb e))).2
 have loop:codeAny (model X.prog X.w) X.A (.compLoop (.ListComp elt [⟨.Name x px,iter,ifs,0⟩] scope pos) 0 (.ref it) (.ref s2.heap.objs.size) (compEnvC scope (clOf scope X.env) G.objs.size X.env))
   (compPost (model X.prog X.w) X.A X.xe use Qf (.ref s2.heap.objs.size) G.objs.size) { s2 with heap:=h₁,toks:=s2.toks+([]:List (Str×Value)).length }:=by
  refine codeAny_compLoop_tests (fun n s'=>∃(i:Nat) (ys:List V) (us:List Value) (H':Hp),Inv (dU X (x::caps) scope G.objs.size fp s2 H2) [] (none::gx js σ) H' s'/\tn i s'.heap/\(∀b∈fp,H' b=none) /\
   s'.heap.get? s2.heap.objs.size=some (LCg.lst us)/\Vals ys us/\H' s2.heap.objs.size=none/\ys.length<=sizeLine/\W i n ys H') ?_ m0 ⟨0,[],[],H2,I1,st1,fun b hb=>(f2 b hb).1,hacc,.nil,I2.hok.fresh (le_refl _),zero_le _,w0⟩
  rintro n s3 ⟨i,ys,us,H3,I3,st3,fr3,hD,rv,nD,hz,w3⟩;have I3':=pinD I3 hD nD;have hpl:∀p∈[(s2.heap.objs.size,LCg.lst us)],s2.heap.objs.size<=p.1:=fun p hp=>by
   have e:p=(s2.heap.objs.size,LCg.lst us):=by simpa using hp
   subst e;exact le_refl _
  rcases turn i n ys H3 w3 with ⟨stop,q⟩|⟨go,hlt,N,hN,step⟩
  ·refine wpAny_mono (T.done (dU X (x::caps) scope G.objs.size fp s2 H2) rfl rfl rfl hc i _ s3 _ H3 (fun _ _=>False) I3' (fpY fr3 hpl) st3 stop) (fun r s4 hr=>?_) fun _ _ z=>z.elim;obtain⟨hr,I4⟩:=hr;subst hr;have hD4:s4.heap.get? s2.heap.objs.size=some (LCg.lst us):=(I4.pin (s2.heap.objs.size,LCg.lst us) (mem_append_right _ (by simp))).1;have un:Un (cW X.stack) fp H2 (upd H3 s2.heap.objs.size (.lst ys)) s2.heap s4.heap :=
    ⟨fun b o e n hb hx=>I4.base.keep b o e n hb hx,fun b o e n hb hx=>I4.base.slot b o e n hb hx,fun b o e n hx=>by rw[bH (ne_of_lt (Heap.lt_size e))];exact I4.base.free b o e n hx,fun b o e hx=>I4.base.there b o e hx,
     fun b zs e=>by have q:=I4.base.tups b zs e;rw[bH (ee q nD)];exact q,fun b o u e=>by have q:=I4.base.frzs b o u e;rw[bH (ee q nD)];exact q,
     fun b ps e=>by obtain⟨more,q⟩:=I4.base.tbls b ps e;exact⟨more,by rw[bH (ee q nD)];exact q⟩⟩
   have hok4:cg X.prog X.w (upd H3 s2.heap.objs.size (.lst ys)) s4.heap:=cg.track I4.hok nD ⟨hz,us,us.length,rv,hD4⟩;have IX:Inv X pins σ (upd H3 s2.heap.objs.size (.lst ys)) s4:=I2.call' (ch:=fp) I4.os un hok4 I4.bare fun b hb=>⟨(f2 b hb).2.2.2.1,(f2 b hb).2.1,(f2 b hb).2.2.2.2.1,(f2 b hb).2.2.2.2.2⟩
   obtain⟨mC,hnC,_⟩:=I4.loc;obtain⟨oC,eC,nsC⟩:=LCg.ns_obj hnC;have nC:(upd H3 s2.heap.objs.size (.lst ys)) G.objs.size=none:=by rw[bH (Ne.symm hDC)];exact I4.free
   have dC:∀v,oC.data≠.cell v:=fun v z=>by
    obtain⟨es,ep,d,_⟩:=nsC;rw[d] at z;cases z
   have IX':Inv X (pins++[(G.objs.size,oC)]) σ (upd H3 s2.heap.objs.size (.lst ys)) s4:=IX.pins_of fun q hq=>by
    rcases mem_append.mp hq with z|z
    ·exact IX.pin q (mem_append_right _ z)
    ·have e:q=(G.objs.size,oC):=by simpa using z
     subst e;exact⟨eC,nC,C_L,C_fs,dC⟩
   exact fin G.objs.size s2.heap.objs.size oC ys H3 s4 IX' (q _ nD) (rel nsC)
  ·refine wpAny_mono (T.item (dU X (x::caps) scope G.objs.size fp s2 H2) rfl rfl rfl hc i _ s3 _ H3 (fun _ _=>False) I3' (fpY fr3 hpl) st3 go) (fun r s4 hr=>?_) fun _ _ z=>z.elim;obtain⟨u,hr,h4⟩:=hr;subst hr;show wpAny _ _ (assign _ _ u) _ _ s4;refine Fg h4 fun h5=>?_;obtain⟨xv,H5,I5,r5,y5,st5,fr5⟩:=h5;have I5':=I5.pinned (fpY fr5 hpl) (T.obj _ _ st5);refine wpAny_mono (rN (X:=dU X (x::caps) scope G.objs.size fp s2 H2) (i:=0) (x:=x) B.nd rfl (Or.inl hxl) (.inr hxl) _ s4 _ H5 xv u (fun σ' H'=>σ'=some xv::gx js σ/\H'=H5) I5' r5 ⟨rfl,rfl⟩) (fun _ s6 h6=>?_) fun _ _ z=>False.elim z;obtain⟨σ6,H6,I6,e6,e6'⟩:=h6;subst e6 e6';refine wpAny_mono (ht _ _ _ _ _ s6 _ _ _ I6 (step xv _ y5)) (fun b s7 h7=>?_) fun _ _ z=>False.elim z;obtain⟨H7,I7,q7⟩:=h7;cases b with
   | false =>
    rw[if_neg Bool.false_ne_true] at q7;show if false=true then _ else _
    rw[if_neg Bool.false_ne_true];have hD7:s7.heap.get? s2.heap.objs.size=some (LCg.lst us):=(I7.pin (s2.heap.objs.size,LCg.lst us) (mem_append_right _ (mem_append_left _ (by simp)))).1;obtain⟨J1,J2,J3,J4⟩:=back I7 st5 (fun _ _=>rfl) hD7;obtain⟨m',hm,w'⟩:=hN _ _ q7;exact⟨m',hm,i+1,ys,us,H7,J1,J2,J3,hD7,rv,J4,hz,w'⟩
   | true =>
    rw[if_pos rfl] at q7;show if true=true then _ else _
    rw[if_pos rfl];refine wpAny_mono (he _ _ _ _ _ s7 _ _ _ I7 q7) (fun yu s8 h8=>?_) fun _ _ z=>False.elim z;obtain⟨yv,H8,I8,r8,q8⟩:=h8;have hD8:s8.heap.get? s2.heap.objs.size=some (LCg.lst us):=(I8.pin (s2.heap.objs.size,LCg.lst us) (mem_append_right _ (mem_append_left _ (by simp)))).1;have hlu:us.length=ys.length:=rv.length.symm;refine append_at hD8 (fun h9 hs9 hD9=>?_) (by rw[size_toArray,hlu];exact hz);have hD9':h9.get? s2.heap.objs.size=some (LCg.lst (us++[yu])):=hD9.trans (congrArg some (LCg.lst_snoc us yu));obtain⟨J1,J2,J3,J4⟩:=back I8 st5 hs9.2 hD9';obtain⟨m',hm,w'⟩:=hN _ _ q8;exact⟨m',hm,i+1,ys++[yv],us++[yu],H8,J1,J2,J3,hD9',rv.append (.cons r8 .nil),J4,by rw[length_append,length_singleton];exact hlt,w'⟩
 exact codeAny_compStart_list loop (T.self X.A 0 _ _ _ st1 loop)
theorem Ab(B:ft X.N X.env.scope js (x::caps) scope)(hc:X.calm=true)(hx:scope.names.lookup x=some .local)(hi:PI X (.Name x px) iter wi)(ht:∀C fp s₀ H₀,PIfs (dU X (x::caps) scope C fp s₀ H₀) ifs tt)(he:∀C fp s₀ H₀,PE (dU X (x::caps) scope C fp s₀ H₀) elt te)(hs:∀v,foldedSetIterable iter X.env v=pure v:=by intro _;rfl):PE X (.ListComp elt [⟨.Name x px,iter,ifs,0⟩] scope pos) (pP js wi tt te):=by intro pins s σ H Q I hw;rw[eval_ListComp];refine w4 (use:=none) (Q:=Q) B hc hx hi ht he hs I hw fun C D oC ys H' s1 IX q rel=>?_;obtain⟨⟨m,hn⟩,rl⟩:=rel _ _ _ IX;exact⟨m,hn,fun h' hs'=>⟨.ref D,_,rl h' hs',rfl,q⟩⟩
theorem Aa{y:Str}{py spos:Pos}(B:ft X.N X.env.scope js (x::caps) scope)(hc:X.calm=true)(hx:scope.names.lookup x=some .local)(hi:PI X (.Name x px) iter wi)(ht:∀C fp s₀ H₀,PIfs (dU X (x::caps) scope C fp s₀ H₀) ifs tt)(he:∀C fp s₀ H₀,PE (dU X (x::caps) scope C fp s₀ H₀) elt te)(hN:X.N.Nodup)(hk:X.N[k]?=some y)(hy:X.env.scope.names.lookup y=some .local)(hsw:swapsWith (.ListComp elt [⟨.Name x px,iter,ifs,0⟩] scope pos) (some (.Name y py)) spos.line X.env=pure true)(hs:∀v,foldedSetIterable iter X.env v=pure v:=by intro _;rfl):PS X (.Assign [.Name y py] (.ListComp elt [⟨.Name x px,iter,ifs,0⟩] scope pos) spos) (qi (pP js wi tt te) (gp k)):=by intro pins s σ H D I hw;rw[exec_Assign_Name_used _ _ _ _ hsw];refine wpAny_bind (wpAny_standAt (wpAny_bind ?_));show wpAny _ _ (do let _ <- comprehension (.ListComp elt [⟨.Name x px,iter,ifs,0⟩] scope pos) scope X.env _ (newList []) false (eval iter X.env) (some (assign (.Name y py) X.env))) _ _ s;refine wpAny_bind (aK (w4 (use:=some (assign (.Name y py) X.env)) (Qf:=fun _ s'=>SP X pins D .next s') (Q:=fun v H1=>D.nx (σ.set k (some v)) H1) B hc hx hi ht he hs I hw fun C a oC ys H' s1 IX q rel=>?_) fun _ s' hq=>wpAny_pure (wpAny_pure hq));show wpAny _ _ (assign (.Name y py) X.env (.ref a)) _ _ s1;refine aK (rN (i:=k) hN hk (Or.inl hy) (.inr hy) _ s1 σ _ (.ref a) (.ref a) (fun σ' H'=>D.nx σ' H') IX rfl q) fun _ s' h=>?_;obtain⟨σ',H'',I',q'⟩:=h;obtain⟨⟨m,hn⟩,rl⟩:=rel _ _ _ I';exact⟨m,hn,fun h' hs'=>⟨σ',H'',rl h' hs',q'⟩⟩
end
section
variable {p:Pos}
def p9(K:Frag):List V->Hp->VK->Prop:=fun xs H Q=>∃x T t b,xs=[x,.ty T]/\cO K H x t/\kitOne K t (.type T)=some b/\Q (.bl b) H
theorem Ff:aM X (.builtin "isinstance") (p9 X.K):=by
 intro pins s σ H xs us Q I r h;obtain⟨x,T,t,b,rfl,ty,e,q⟩:=h;obtain⟨u,w',rfl,rx,ry⟩:=og r;cases ry;exact FP I rx ty e fun tk=>⟨.bl b,H,I.tok tk,rfl,q⟩
theorem Fe(hc:X.calm=true):aM X (.builtin "all") (fun xs H Q=>∃(a:Addr) (bs:List Bool),xs=[.ref a]/\cP X.K H a (bs.map V.bl)/\Q (.bl (bs.all id)) H):=by
 intro pins s σ H xs us Q I r h;obtain⟨a,bs,rfl,hq,q⟩:=h;obtain⟨u,rfl,rx⟩:=hU r;cases rx;obtain⟨its,rv,pl,hz⟩:=I.list hq;have hlt:a<s.heap.objs.size:=by obtain⟨o,n,e,_⟩:=pl;exact Heap.lt_size e
 have hlen:bs.length=its.length:=by have:=rv.length;simpa using this
 have hh:X.A.in1.handled=none:=I.ok.hd hc;refine call_all_walk (wpAny_pyIter_list pl.isList ?_);have tr:TruthOf X.prog X.w X.A.in1 (fun i v=>its.toArray[i]?=some v) (fun i=>bs.getD i true):=by
  intro i v s' Q' E' hv hQ;have hv':its[i]?=some v:=by simpa using hv
  have hi:i<its.length:=(List.getElem?_eq_some_iff.mp hv').1;have hb:bs[i]?=some bs[i]:=by simp[hlen,hi]
  obtain⟨u,hu,ru⟩:=rv.get (i:=i) (x:=V.bl (bs[i]'(by omega))) (by rw[getElem?_map,hb];rfl);rw[hv'] at hu;cases hu;cases (show v=Value.bool (bs[i]'(by omega)) from ru);have e:bs.getD i true=bs[i]'(by omega):=by rw[getD_eq_getElem?_getD,hb];rfl
  have hQ':Q' (bs.getD i true) s':=hQ;rw[e] at hQ';exact wpAny_truthy_bool hQ'
 refine⟨s.heap.objs.size,_,_,its.toArray.size,_,_,fun i=>bs.getD i true,rfl,Walks.list hh s.heap.objs.size a (ne_of_lt hlt) its.toArray,⟨⟨_,Heap.get?_push_size _ rfl,rfl,rfl⟩,pl.isList.push _⟩,tr,fun h' tk hk=>?_⟩;have I1:Inv X pins σ H { s with heap:=h',toks:=tk }:=I.kept fun b o e=>hk b o (by simpa using ne_of_lt (Heap.lt_size e)) (Heap.get?_push_of_some _ e);refine⟨.bl _,H,I1,rfl,?_⟩;have e:(List.range its.toArray.size).all (fun i=>bs.getD i true)=bs.all id:=by
  rw[size_toArray,<- hlen];rw[Bool.eq_iff_iff,all_eq_true,all_eq_true];constructor
  ·intro z b hb;obtain⟨i,hi,rfl⟩:=mem_iff_getElem.mp hb;have:=z i (mem_range.mpr hi);rw[getD_eq_getElem?_getD] at this;simpa[hi] using this
  ·intro z i hi;have hi':=mem_range.mp hi;have:=z (bs[i]) (getElem_mem hi');rw[getD_eq_getElem?_getD];simpa[hi'] using this
 rw[e];exact q
theorem He:aM X (.builtin "sorted") (fun xs H Q=>∃(a:Addr) (ns:List Int),xs=[.ref a]/\cP X.K H a (ns.map V.int)/\ns.length<64/\∀ms:List Int,ms.Perm ns->ms.Pairwise (·<=·)->∀l,H l=none->Q (.ref l) (upd H l (.lst (ms.map V.int)))):=by
 intro pins s σ H xs us Q I r h;obtain⟨a,ns,rfl,hq,h64,q⟩:=h;obtain⟨u,rfl,rx⟩:=hU r;cases rx;obtain⟨its,rv,pl,hz⟩:=I.list hq;have hlen:ns.length=its.length:=by have:=rv.length;simpa using this
 refine sorted_ints pl.isList (GK rv) (by omega) fun out ms hI hp hs=>?_;obtain⟨e,he⟩:=sortedAll_at s.heap its out;have rv':Vals (ms.map V.int) out.toList:=nE hI;have hl':ms.length=ns.length:=hp.length_eq;refine⟨.ref (s.heap.objs.size+1),_,I.laid (t':=s.toks) (a:=s.heap.objs.size+1) (o:=.lst (ms.map V.int)) (fun b o e=>sortedAll_old e) (le_succ _) ?_,rfl,q ms hp hs _ (I.hok.fresh (le_succ _))⟩;refine⟨by rw[length_map,hl',hlen];have:=rv.length;omega,out.toList,e,rv',?_⟩;rw[toArray_toList];exact he
end
abbrev Rep(α:Type):=Frag->Hp->V->α->Prop
def IA:Rep Int:=fun _ _ v i=>v=.int i
def Iz{α:Type}(R:Rep α):Rep (List α):=fun K H v l=>∃p vs,v=.ref p/\cP K H p vs/\Paired (R K H) vs l
def Jp{α β:Type}(R:Rep α)(S:Rep β):Rep (α×β):=fun K H v l=>∃p x y,v=.ref p/\eI K H p [x,y]/\R K H x l.1/\S K H y l.2
theorem Paired.at2{α β:Type}{F:α->β->Prop}:∀{l₁:List α} {l₂:List β},Paired F l₁ l₂->∀(i:Nat) (a:α),l₁[i]?=some a->∃b,l₂[i]?=some b/\F a b
 | _,_,.nil,_,_,h=>by simp at h
 | _,_,.cons r t,0,a,h=>by simp at h;subst h;exact⟨_,rfl,r⟩
 | _,_,.cons r t,i+1,a,h=>by
  obtain⟨b,h1,h2⟩:=Paired.at2 t i a (by simpa using h);exact⟨b,by simpa using h1,h2⟩
section
variable {α β:Type} [DecidableEq α] [DecidableEq β] {R:Rep α} {S:Rep β} {σ:St}
end
section
variable {α β:Type} [DecidableEq α] [DecidableEq β] {R:Rep α} {S:Rep β}
end
section
variable {α:Type} [DecidableEq α] {R:Rep α}
end
section
variable {α β:Type} [DecidableEq α] [DecidableEq β] {R:Rep α} {S:Rep β}
end
variable {e:Expr}
section
variable {rest:List Stmt} {t u:TS}
end
def uH(N:List Str)(psc:Scope)(js:List Nat)(N':List Str)(scope:Scope):Bool :=
 scope.names.all (fun y=>decide (y.2≠.cell))&&decide (scope.kind=.function)&&scope.names.all (fun y=>decide (y.2=.local->scope.names.lookup y.1=some .local)) &&
 scope.names.all (fun y=>decide (y.2=.free->psc.names.lookup y.1=some .cell\/psc.names.lookup y.1=some .free))&&decide N'.Nodup&&decide (N'.length=js.length+1) &&
 (js.zip (N'.drop 1)).all (fun p=>decide (N[p.1]?=some p.2/\scope.names.lookup p.2=some .free))
theorem gH{N:List Str}{psc:Scope}{N':List Str}(h:uH N psc js N' scope=true):ft N psc js N' scope:=by unfold uH at h;simp only[and_eq_true,all_eq_true,decide_eq_true_eq] at h;obtain⟨⟨⟨⟨⟨⟨h1,h2⟩,h3⟩,h4⟩,h5⟩,h6⟩,h7⟩:=h;exact⟨h1,h2,h3,h4,h5,h6,h7⟩
theorem aO.cmp(r:aO k A)(n:Nat)(h:n<=64:=by decide):A.units+n<cLine:=by have:=r.units;omega
theorem Paired.app{α β:Type}{F:α->β->Prop}:∀{l₁ m₁:List α} {l₂ m₂:List β},Paired F l₁ l₂->Paired F m₁ m₂->Paired F (l₁++m₁) (l₂++m₂)
 | _,_,_,_,.nil,s=>s
 | _,_,_,_,.cons r t,s=>.cons r (Paired.app t s)
def pr(H:Hp)(v:V)(l:Int×Int):Prop:=∃q,v=.ref q/\H q=some (.tup [.int l.1,.int l.2])
def Js(H:Hp)(p:Addr)(L:List (Int×Int)):Prop:=∃vs,H p=some (.lst vs)/\Paired (pr H) vs L
def z_(H:Hp)(v:V)(r:List Int):Prop:=∃q,v=.ref q/\H q=some (.tup (r.map V.int))
def Jb(H:Hp)(v:V)(rows:List (List Int)):Prop:=∃q vs,v=.ref q/\H q=some (.tup vs)/\Paired (z_ H) vs rows
variable {tg:Expr}
section
variable (K:Frag)
theorem Ih(hK:X.K=K:=by rfl):i7 X (qa K):=hK▸D3
theorem Ig(hK:X.K=K:=by rfl):i7 X (p_ K):=hK▸Br
theorem p8(hK:X.K=K:=by rfl):aM X (.builtin "isinstance") (p9 K):=hK▸Ff
def ud(K:Frag):List V->Hp->VK->Prop:=fun xs H Q=>∃(a:Addr) (bs:List Bool),xs=[.ref a]/\cP K H a (bs.map V.bl)/\Q (.bl (bs.all id)) H
theorem uc(hc:X.calm=true:=by rfl)(hK:X.K=K:=by rfl):aM X (.builtin "all") (ud K):=hK▸Fe hc
def DX(K:Frag):List V->Hp->VK->Prop:=fun xs H Q=>∃(a:Addr) (ns:List Int),xs=[.ref a]/\cP K H a (ns.map V.int)/\ns.length<64/\∀ms:List Int,ms.Perm ns->ms.Pairwise (·<=·)->∀l,H l=none->Q (.ref l) (upd H l (.lst (ms.map V.int)))
def DW(K:Frag):List V->Hp->VK->Prop:=fun xs H Q=>∃p ys,xs=[.ref p]/\(cP K H p ys\/eI K H p ys)/\∀l,H l=none->Q (.ref l) (upd H l (.lst ys))
def vU(K:Frag):List V->Hp->VK->Prop:=fun xs H Q=>∃p ys,xs=[.ref p]/\((cP K H p ys/\∀l,H l=none->Q (.ref l) (upd H l (.tup ys)))\/(eI K H p ys/\Q (.ref p) H))
theorem ni(hK:X.K=K:=by rfl):aM X (.type "tuple") (vU K):=hK▸HN
theorem slL(hK:X.K=K:=by rfl):tW X (uj K):=hK▸DZ
variable {l a:Expr} {tl ta:TE}
def zU(K:Frag)(ta:TE):TT:=fun σ H Q=>ta σ H fun x H'=>∃k,nY K x H' k/\Q k H'
theorem z9(ha:PE X a ta)(he:∀whole,isTrue a X.env whole=(do let v <- whole;standAt a.pos;holding [v] (truthy v)))(hK:X.K=K:=by rfl):PT X a (zU K ta):=hK▸ET ha he
variable {α:Type} [DecidableEq α] {R:Rep α}
end
variable {y:V} {o:Option V} {u:Value}
section
variable {κ:Type} [DecidableEq κ]
def gw(kvs:List (κ×V))(k:κ):Option V:=(kvs.find? fun kv=>decide (kv.1=k)).map (·.2)
def e_(kvs:List (κ×V))(k:κ)(v:V):List (κ×V) :=
 if (kvs.any fun kv=>decide (kv.1=k))=true then kvs.map (fun kv=>if kv.1=k then (kv.1,v) else kv) else kvs++[(k,v)]
def Jh(kvs:List (κ×V))(k:κ):List (κ×V):=kvs.filter fun kv=>decide (kv.1≠k)
theorem pq{p:κ×V}{r:List (κ×V)}{k:κ}(e:p.1=k):gw (p::r) k=some p.2:=by simp[gw,find?_cons,e]
theorem pj{p:κ×V}{r:List (κ×V)}{k:κ}(e:¬p.1=k):gw (p::r) k=gw r k:=by simp[gw,find?_cons,e]
theorem xJ(k:κ):∀kvs:List (κ×V),(kvs.any fun kv=>decide (kv.1=k))=(gw kvs k).isSome
 | []=>rfl
 | p::r=>by
  rw[any_cons]
  by_cases e:p.1=k
  ·simp only[pq e,decide_eq_true e,Bool.true_or,isSome_some]
  ·rw[pj e,decide_eq_false e,Bool.false_or];exact xJ k r
theorem sR(kvs:List (κ×V))(k:κ)(v:V):(e_ kvs k v).length<=kvs.length+1:=by
 unfold e_;split
 ·rw[length_map];omega
 ·rw[length_append,length_cons,length_nil];omega
theorem c7.isSome_eq{u:Option Value}(r:c7 o u):o.isSome=u.isSome:=by
 cases o with
 | none=>cases u with
  | none=>rfl
  | some _=>exact(show False from r).elim
 | some _=>cases u with
  | none=>exact(show False from r).elim
  | some _=>rfl
theorem KV.val{kvs:List (κ×V)}{vs:List (κ×Value)}(r:KV kvs vs)(k:κ):c7 (gw kvs k) (valueAt vs k):=by
 unfold KV at r
 induction r with
 | nil=>exact True.intro
 | @cons p q ps qs h t ih =>
  obtain⟨h1,h2⟩:=h
  by_cases e:p.1=k
  ·have e':q.1=k:=h1.symm.trans e;have b:valueAt (q::qs) k=some q.2:=by simp[valueAt,find?_cons,e']
   rw[pq e,b];exact h2
  ·have e':¬q.1=k:=fun z=>e (h1.trans z);have b:valueAt (q::qs) k=valueAt qs k:=by simp[valueAt,find?_cons,e']
   rw[pj e,b];exact ih
theorem KV.any{kvs:List (κ×V)}{vs:List (κ×Value)}(r:KV kvs vs)(k:κ):(kvs.any fun kv=>decide (kv.1=k))=vs.any fun kv=>decide (kv.1=k):=by
 unfold KV at r
 induction r with
 | nil=>rfl
 | cons h t ih=>rw[any_cons,any_cons,ih,h.1]
theorem KV.repl{kvs:List (κ×V)}{vs:List (κ×Value)}(r:KV kvs vs)(k:κ)(ry:RelV y u) :
  KV (kvs.map fun kv=>if kv.1=k then (kv.1,y) else kv) (vs.map fun kv=>if kv.1=k then (kv.1,u) else kv):=by
 unfold KV at r ⊢
 induction r with
 | nil=>exact .nil
 | @cons p q ps qs h t ih =>
  rw[map_cons,map_cons];refine .cons ?_ ih;obtain⟨h1,h2⟩:=h
  by_cases e:p.1=k
  ·rw[if_pos e,if_pos (h1.symm.trans e)];exact⟨h1,ry⟩
  ·rw[if_neg e,if_neg (fun z=>e (h1.trans z))];exact⟨h1,h2⟩
theorem KV.put{kvs:List (κ×V)}{vs:List (κ×Value)}(r:KV kvs vs)(k:κ)(ry:RelV y u):KV (e_ kvs k y) (stored vs k u):=by
 unfold e_ stored;rw[r.any k]
 by_cases e:(vs.any fun kv=>decide (kv.1=k))=true
 ·rw[if_pos e,if_pos e];exact r.repl k ry
 ·rw[if_neg e,if_neg e];exact Paired.snoc r ⟨rfl,ry⟩
theorem KV.keys{kvs:List (κ×V)}{vs:List (κ×Value)}(r:KV kvs vs):kvs.map (·.1)=vs.map (·.1):=by
 unfold KV at r
 induction r with
 | nil=>rfl
 | cons h t ih=>rw[map_cons,map_cons,ih,h.1]
theorem KV.length{kvs:List (κ×V)}{vs:List (κ×Value)}(r:KV kvs vs):kvs.length=vs.length:=Paired.length r
end
theorem gm{k:Key}(r:RelV (kV k) u):(e7 P w).is k u=true:=by
 cases k with
 | inl i=>obtain⟨t,e⟩:=(show ∃t,u=Value.int i t from r);subst e;exact Hi P w i t
 | inr x=>obtain⟨t,e⟩:=(show ∃t,u=Value.str x t from r);subst e;exact Hh P w x t
theorem yp{P:Program}{w:World}:∀{ks:List Key} {us:List Value},Vals (ks.map kV) us->ItemsAre (e7 P w) ks us
 | [],_,r=>by rw[map_nil] at r;cases r;exact .nil
 | k::ks,_,r=>by
  rw[map_cons] at r;cases r with
  | cons h t=>exact .cons (gm h) (yp t)
abbrev KT(H:Hp):List (List Key×V)->List (List Key×Addr×Value)->Prop:=Paired fun p q=>p.1=q.1/\H q.2.1=some (.tup (p.1.map kV))/\RelV p.2 q.2.2
variable {xs:List (List Key×Addr×Value)}
theorem KT.val{kvs:List (List Key×V)}(r:KT H kvs xs)(k:List Key):c7 (gw kvs k) ((atKey xs k).map (·.2)):=by
 induction r with
 | nil=>exact True.intro
 | @cons p q ps qs h t ih =>
  obtain⟨h1,_,h2⟩:=h
  by_cases e:p.1=k
  ·have e':q.1=k:=h1.symm.trans e;have b:atKey (q::qs) k=some q.2:=by simp[atKey,find?_cons,e']
   rw[pq e,b];exact h2
  ·have e':¬q.1=k:=fun z=>e (h1.trans z);have b:atKey (q::qs) k=atKey qs k:=by simp[atKey,find?_cons,e']
   rw[pj e,b];exact ih
theorem KT.repl{kvs:List (List Key×V)}(r:KT H kvs xs)(k:List Key)(ry:RelV y u) :
  KT H (kvs.map fun kv=>if kv.1=k then (kv.1,y) else kv) (xs.map (putAt k u)):=by
 induction r with
 | nil=>exact .nil
 | @cons p q ps qs h t ih =>
  rw[map_cons,map_cons];refine .cons ?_ ih;obtain⟨h1,h2,h3⟩:=h;unfold putAt
  by_cases e:p.1=k
  ·rw[if_pos e,if_pos (h1.symm.trans e)];exact⟨h1,h2,ry⟩
  ·rw[if_neg e,if_neg (fun z=>e (h1.trans z))];exact⟨h1,h2,h3⟩
theorem KT.put{kvs:List (List Key×V)}(r:KT H kvs xs)(k:List Key)(hb:H b=some (.tup (k.map kV)))(ry:RelV y u) :
  KT H (e_ kvs k y) (storedH xs k b u):=by
 have e:(kvs.any fun kv=>decide (kv.1=k))=(atKey xs k).isSome:=by rw[xJ,(r.val k).isSome_eq,isSome_map]
 unfold e_ storedH;rw[e]
 by_cases q:(atKey xs k).isSome=true
 ·rw[if_pos q,if_pos q];exact r.repl k ry
 ·rw[if_neg q,if_neg q];exact Paired.snoc r ⟨rfl,hb,ry⟩
variable {H':Hp}
theorem KT.keeps{kvs:List (List Key×V)}(r:KT H kvs xs)(ht:∀b ys,H b=some (.tup ys)->H' b=some (.tup ys)):KT H' kvs xs :=
 Paired.mapP r fun _ _ z=>⟨z.1,ht _ _ z.2.1,z.2.2⟩
theorem uG{u:HO}(ok:cg P w H h)(e:Rd H a u):aC P w H h a u:=e.ok ok
theorem mV{kvs:List (Key×V)}(ok:cg P w H h)(e:Rd H a (.dK kvs)):kvs.length<=sizeLine/\(a==sysModules)=false/\∃vs,KV kvs vs/\h.DictOf (e7 P w) a vs :=
 show aC P w H h a (.dK kvs) from uG ok e
theorem uF{kvs:List (Key×V)}(ok:cg P w H h)(e:H a=some (.dK kvs)):kvs.length<=sizeLine/\(a==sysModules)=false/\∃vs,KV kvs vs/\h.DictOf (e7 P w) a vs:=mV ok (.inl e)
theorem qU{ks:List Key}(ok:cg P w H h)(e:H a=some (.tup (ks.map kV))):(tupleKind (e7 P w)).is h ks a:=by
 obtain⟨_,its,r,o,h1,h2,⟨n,h3⟩,_⟩:=(show aC P w H h a (.tup (ks.map kV)) from ok a _ e)
 exact⟨o,its.toArray,n,h1,h2,h3,by simpa using yp r⟩
theorem uE{kvs:List (List Key×V)}(ok:cg P w H h)(e:Rd H a (.dT kvs)):kvs.length<=sizeLine/\(a==sysModules)=false /\
  ∃xs,KT H kvs xs/\h.DictOfH (tupleKind (e7 P w)) a xs:=by
 obtain⟨z,y,xs,r,o,es,ep,h1,h2,h3,h4,h5⟩:=(show aC P w H h a (.dT kvs) from uG ok e)
 refine⟨z,y,xs,r,o,es,ep,h1,h2,h3,h4,fun x hx=>?_,h5⟩;have all:∀{l:List (List Key×V)} {m:List (List Key×Addr×Value)},KT H l m->∀x∈m,(tupleKind (e7 P w)).is h x.1 x.2.1:=by
  intro l m q
  induction q with
  | nil=>intro x hx;exact nomatch hx
  | @cons p q ps qs hq t ih =>
   intro x hx;rcases mem_cons.mp hx with e|hx
   ·subst e;exact qU ok (by rw[<- hq.1];exact hq.2.1)
   ·exact ih x hx
 exact all r x hx
theorem z8{kvs:List (List Key×V)}(ok:cg P w H h)(e:H a=some (.dT kvs)):kvs.length<=sizeLine/\(a==sysModules)=false /\
  ∃xs,KT H kvs xs/\h.DictOfH (tupleKind (e7 P w)) a xs:=uE ok (.inl e)
def gQ(H:Hp)(a:Addr)(y:V)(r:Option V):Prop :=
 (∃kvs k,Rd H a (.dK kvs)/\y=kV k/\r=gw kvs k)\/∃kvs k b,Rd H a (.dT kvs)/\y=.ref b/\H b=some (.tup (k.map kV))/\r=gw kvs k
def iz(H:Hp)(a:Addr)(y v:V)(H':Hp):Prop :=
 (∃kvs k,H a=some (.dK kvs)/\y=kV k/\kvs.length<sizeLine/\H'=upd H a (.dK (e_ kvs k v))) \/
 ∃kvs k b,H a=some (.dT kvs)/\y=.ref b/\H b=some (.tup (k.map kV))/\kvs.length<sizeLine/\H'=upd H a (.dT (e_ kvs k v))
theorem gQ.kz{kvs:List (Key×V)}{k:Key}(e:H a=some (.dK kvs)):gQ H a (kV k) (gw kvs k):=.inl ⟨kvs,k,.inl e,rfl,rfl⟩
variable {v:V}
theorem iz.kz{kvs:List (Key×V)}{k:Key}(e:H a=some (.dK kvs))(hl:kvs.length<sizeLine):iz H a (kV k) v (upd H a (.dK (e_ kvs k v))):=.inl ⟨kvs,k,e,rfl,hl,rfl⟩
variable {vs:List (Key×Value)} {r:Value} {h':Heap}
section
variable {σ:St}
theorem Inv.big(I:Inv X pins σ H s):sysModules<s.heap.objs.size:=by have h:mainGlobals<s.heap.objs.size:=(I.mod.glob.keeps I.bk).lt;exact lt_trans (by decide) h
theorem DV{Q:Value->Shared->Prop}(hu:A.units+1<cLine)(I:Inv X pins σ H s)(g:gQ H a y o)(ry:RelV y u)(h:∀s',Inv X pins σ H s'->Q (.bool (!o.isSome)) s') :
  wpAny (model X.prog X.w) A (compareOp .NotIn u (.ref a)) Q E s:=by
 rcases g with ⟨kvs,k,e,ey,l⟩|⟨kvs,k,b,e,ey,eb,l⟩
 ·subst ey;obtain⟨z,hd,vs,rel,dd⟩:=mV I.hok e;refine wpAny_notIn_of (gm ry) hd dd.mapOf ?_;rw[<- (rel.val k).isSome_eq,<- l];exact h _ (I.tok _)
 ·subst ey;cases (show u=Value.ref b from ry);obtain⟨z,hd,xs,rel,dd⟩:=uE I.hok e;refine wpAny_notIn_heap (tupleKind_room_in1 hu) (qU I.hok eb) hd dd ?_;have q:=(rel.val k).isSome_eq;rw[isSome_map] at q;rw[<- q,<- l];exact h _ (I.tok _)
theorem oZ{t':Nat}{ob:HO}(I:Inv X pins σ H s)(mu:nO (H a))(hs:Heap.SameBut a s.heap h')(he:∃q,h'.get? a=some q)(new:aC X.prog X.w (upd H a ob) h' a ob) :
  Inv X pins σ (upd H a ob) { s with heap:=h',toks:=t' } :=
 I.write (x:=a) (e:=a) mu (.inl rfl) (fun b q hb z=>(hs.2 b hb).trans z) he new
theorem vR{kvs:List (Key×V)}(z:kvs.length<=sizeLine)(hd:(a==sysModules)=false)(rel:KV kvs vs)(dd:h'.DictOf (e7 P w) a vs) :
  aC P w H' h' a (.dK kvs):=⟨z,hd,vs,rel,dd⟩
theorem Gq{Q:Unit->Shared->Prop}(hu:A.units+1<cLine)(I:Inv X pins σ H s)(g:iz H a y v H')(ry:RelV y u)(rv:RelV v r)(h:∀s',Inv X pins σ H' s'->Q () s') :
  wpAny (model X.prog X.w) A (setItem (.ref a) u r) Q E s:=by
 rcases g with ⟨kvs,k,e,ey,l,eH⟩|⟨kvs,k,b,e,ey,eb,l,eH⟩
 ·subst ey eH;obtain⟨z,hd,vs,rel,dd⟩:=uF I.hok e;have hz:vs.length<=sizeLine:=by rw[<- rel.length];exact z
  have hl:(e_ kvs k v).length<=sizeLine:=by have:=sR kvs k v;omega
  refine wpAny_setItem_pairs (hsz:=hz) (gm ry) dd fun h' dd' hs=>h _ ?_;have he:∃q,h'.get? a=some q:=let ⟨q,_,_,hq,_⟩:=dd';⟨q,hq⟩
  exact oZ I (by rw[e];exact True.intro) hs he (vR hl hd (rel.put k rv) dd')
 ·subst ey eH;cases (show u=Value.ref b from ry);obtain⟨z,hd,xs,rel,dd⟩:=z8 I.hok e;have hz:xs.length<=sizeLine:=by rw[<- Paired.length rel];exact z
  have hl:(e_ kvs k v).length<=sizeLine:=by have:=sR kvs k v;omega
  refine wpAny_setItem_heap (hsz:=hz) (tupleKind_room_in1 hu) (qU I.hok eb) dd fun h' dd' hs=>h _ ?_;obtain⟨q,es,ep,hq,h2,h3,h4,_,h5⟩:=dd';refine oZ I (by rw[e];exact True.intro) hs ⟨q,hq⟩ ⟨hl,hd,_,(rel.put k eb rv).keeps fun c ys ec=>?_,q,es,ep,hq,h2,h3,h4,h5⟩;rw[bH (A9 ec e (fun z=>nomatch z))];exact ec
end
section
variable {σ:St} {kvs:List (Key×V)} {k:Key}
theorem z7{Q:Value->Shared->Prop}(I:Inv X pins σ H s)(e:Rd H a (.dK kvs))(h:∀t s',Inv X pins σ H s'->Q (.int kvs.length t) s'):wpAny (model X.prog X.w) A (call (.builtin "len") [.ref a]) Q E s:=by obtain⟨z,hd,vs,rel,dd⟩:=mV I.hok e;refine call_len_dict hd dd (by rw[<- rel.length];rw[sizeLine_eq] at z;omega) ?_;rw[<- rel.length];exact h _ _ (I.tok _)
end
def DU(ty td:TE):TE:=fun σ H Q=>ty σ H fun y H1=>td σ H1 fun x H2=>∃a o,x=.ref a/\gQ H2 a y o/\Q (.bl (!o.isSome)) H2
def z6(td ty tv:TE):TS:=fun D σ H=>tv σ H fun v H1=>td σ H1 fun x H2=>ty σ H2 fun y H3=>∃a H4,x=.ref a/\iz H3 a y v H4/\D.nx σ H4
variable {value:Expr} {pos':Pos} {td ty tv:TE}
section
variable {o i:Expr} {tpos:Pos}
theorem Gp(hu:X.A.units+1<cLine)(hi:PE X i ty)(ho:PE X o td):PC X .NotIn i o (DU ty td):=by
 intro pins s σ H Q I h;refine aK (hi pins s σ H _ I h) fun iv s1 ⟨y,H1,I1,ry,q1⟩=>aK (ho pins s1 σ H1 _ I1 q1) fun u s2 ⟨x,H2,I2,rx,a,ov,ex,g,q2⟩=>?_;subst ex;obtain rfl:u=Value.ref a:=rx;exact DV hu I2 g ry fun s3 I3=>⟨.bl (!ov.isSome),H2,I3,rfl,q2⟩
theorem DT(hu:X.A.units+1<cLine)(ho:PE X o td)(hi:PE X i ty)(hv:PE X value tv)(hs:swapsWith value (some (.Subscript o i pos')) pos.line X.env=pure false) :
  PS X (.Assign [.Subscript o i pos'] value pos) (z6 td ty tv):=by
 intro pins s σ H D I h;refine wpAny_Assign_Subscript (aK (hv pins s σ H _ I h) fun r s1 ⟨v,H1,I1,rv,q1⟩=>aK (ho pins s1 σ H1 _ I1 q1) fun u s2 ⟨x,H2,I2,rx,q2⟩=>aK (hi pins s2 σ H2 _ I2 q2) fun iv s3 ⟨y,H3,I3,ry,a,H4,ex,g,q3⟩=>?_) hs;subst ex;obtain rfl:u=Value.ref a:=rx;exact Gq hu I3 g ry rv fun s4 I4=>⟨σ,H4,I4,q3⟩
end
theorem xI(h:Heap)(hb:sysModules<h.objs.size):aC P w H (h.push { cls:=.type "dict",data:=.dict #[] }) h.objs.size (.dK []) :=
 ⟨zero_le _,beq_eq_false_iff_ne.mpr (Ne.symm (ne_of_lt hb)),[],.nil,Heap.DictOf.new h⟩
def Bp:TE:=fun _ H Q=>∀p,H p=none->Q (.ref p) (upd H p (.dK []))
theorem Fd:PE X (.Dict [] [] pos) Bp:=fun pins s σ H Q I h =>
 wpAny_Dict_empty ⟨.ref s.heap.objs.size,_,I.laid (a:=s.heap.objs.size) (o:=.dK []) (t':=s.toks) (fun _ _ q=>Heap.get?_push_of_some _ q) (le_refl _) (xI s.heap I.big),rfl,h _ (I.hok.fresh (le_refl _))⟩
def qT:List (TE×TE)->St->Hp->(List (V×V)->Hp->Prop)->Prop
 | [],_,H,Q=>Q [] H
 | (tk,tv)::r,σ,H,Q=>tk σ H fun x H1=>tv σ H1 fun y H2=>qT r σ H2 fun ps H3=>Q ((x,y)::ps) H3
abbrev VV:List (V×V)->List (Value×Value)->Prop:=Paired fun p q=>RelV p.1 q.1/\RelV p.2 q.2
def pT(X:Cx)(pos:Pos)(keys:List (Option Expr))(values:List Expr)(trs:List (TE×TE)):Prop :=
 ∀(pins:List (Addr×Obj)) (s:Shared) (σ:St) (H:Hp) (Q:List (V×V)->Hp->Prop),Inv X pins σ H s->qT trs σ H Q ->
  wpAny (model X.prog X.w) X.A (evalPairs (pairTrees keys values X.env pos)) (fun vs s'=>∃ps H',Inv X pins σ H' s'/\VV ps vs/\Q ps H') X.xe s
theorem DR:pT X pos [] [] []:=fun pins s σ H Q I h=>pairTrees_nil_walk ⟨[],H,I,.nil,h⟩
variable {trs:List (TE×TE)}
theorem Fc{k v:Expr}{ks:List (Option Expr)}{vs:List Expr}{tk:TE}(hk:PE X k tk)(hv:PE X v tv)(hr:pT X pos ks vs trs) :
  pT X pos (some k::ks) (v::vs) ((tk,tv)::trs):=fun pins s σ H Q I h =>
 pairTrees_cons_walk (aK (hk pins s σ H _ I h) fun u s1 ⟨x,H1,I1,rx,q1⟩=>aK (hv pins s1 σ H1 _ I1 q1) fun w2 s2 ⟨y,H2,I2,ry,q2⟩ =>
  aK (hr pins s2 σ H2 _ I2 q2) fun ws s3 ⟨ps,H3,I3,rel,q3⟩=>⟨(x,y)::ps,H3,I3,.cons ⟨rx,ry⟩ rel,q3⟩)
def kN(kvs more:List (Key×V)):List (Key×V):=more.foldl (fun acc kv=>e_ acc kv.1 kv.2) kvs
theorem KV.merge:∀{more:List (Key×V)} {rs:List (Key×Value)} {kvs:List (Key×V)} {vs:List (Key×Value)},KV more rs->KV kvs vs->KV (kN kvs more) (merged vs rs):=by
 intro more rs kvs vs r;unfold KV at r
 induction r generalizing kvs vs with
 | nil=>intro q;exact q
 | @cons p q ps qs h t ih =>
  intro r0;have e:KV (e_ kvs p.1 p.2) (stored vs q.1 q.2):=by have:=r0.put p.1 h.2;rw[<- h.1];exact this
  exact ih e
theorem y8:∀(more kvs:List (Key×V)),(kN kvs more).length<=kvs.length+more.length
 | [],kvs=>by show kvs.length<=kvs.length+0;omega
 | p::r,kvs=>by
  have h1:=y8 r (e_ kvs p.1 p.2);have h2:=sR kvs p.1 p.2;show(kN (e_ kvs p.1 p.2) r).length<=_;rw[length_cons];omega
theorem yK{P:Program}{w:World}:∀{kvs:List (Key×V)} {ws:List (Value×Value)},VV (kvs.map fun kv=>(kV kv.1,kv.2)) ws->∃rs,Carries (e7 P w) ws rs/\KV kvs rs
 | [],_,r=>by rw[map_nil] at r;cases r;exact⟨[],True.intro,.nil⟩
 | p::kvs,_,r=>by
  rw[map_cons] at r;cases r with
  | @cons a b as bs h t =>
   obtain⟨rs,c,q⟩:=yK (P:=P) (w:=w) t;obtain⟨b1,b2⟩:=b;exact⟨(p.1,b2)::rs,⟨gm h.1,rfl,c⟩,.cons ⟨rfl,h.2⟩ q⟩
def z5(trs:List (TE×TE)):TE:=fun σ H Q=>∀p,H p=none->qT trs σ (upd H p (.dK [])) fun ps H2=>H2 p=some (.dK [])/\∃kvs:List (Key×V),ps=kvs.map (fun kv=>(kV kv.1,kv.2))/\kvs.length<=15/\Q (.ref p) (upd H2 p (.dK (kN [] kvs)))
theorem DP{keys:List (Option Expr)}{values:List Expr}(h:pT X pos keys values trs)(hall:keys.all (·.isSome)=true)(hl:keys.length=values.length)(h0:keys≠[])(h15:keys.length<=15):PE X (.Dict keys values pos) (z5 trs):=by
 intro pins s σ H Q I q;have hn:=I.hok.fresh (le_refl s.heap.objs.size);have I1:=I.laid (a:=s.heap.objs.size) (o:=.dK []) (h':=s.heap.push { cls:=.type "dict",data:=.dict #[] }) (t':=s.toks) (fun _ _ q=>Heap.get?_push_of_some _ q) (le_refl _) (xI s.heap I.big);refine wpAny_Dict_walk (knd:=e7 X.prog X.w) hall hl h0 h15 (aK (h pins _ σ _ _ I1 (q _ hn)) fun ws s2 ⟨ps,H2,I2,rel,e,kvs,ep,lk,q2⟩=>?_);subst ep;obtain⟨rs,c,rk⟩:=yK (P:=X.prog) (w:=X.w) rel;obtain⟨z,hd,vs0,r0,dd⟩:=uF I2.hok e;cases r0;refine⟨rs,c,dd,fun h' dd' hs=>⟨.ref s.heap.objs.size,_,?_,rfl,q2⟩⟩;have hz:(kN [] kvs).length<=sizeLine:=by have h1:=y8 kvs [];rw[length_nil] at h1;rw[sizeLine_eq];omega
 have he:∃q,h'.get? s.heap.objs.size=some q:=let ⟨q,_,_,hq,_⟩:=dd';⟨q,hq⟩
 exact oZ I2 (by rw[e];exact True.intro) hs he (vR hz hd (rk.merge .nil) dd')
section
variable {σ:St} {d:V}
end
section
variable {o f:Expr} {apos cpos:Pos} {tx:TE}
end
section
variable {σ:St} {kvs:List (Key×V)}
end
section
variable {σ:St}
end
theorem Gn:aM X (.builtin "len") (fun xs H Q=>∃a kvs,xs=[V.ref a]/\H a=some (.dK kvs)/\Q (.int kvs.length) H):=by
 intro pins s σ H xs us Q I r h;obtain⟨a,kvs,rfl,ha,q⟩:=h;obtain⟨u,rfl,ru⟩:=hU r;cases ru;exact z7 I (.inl ha) fun t s' I'=>⟨.int kvs.length,H,I',⟨t,rfl⟩,q⟩
section
variable {κ:Type} [DecidableEq κ]
end
variable {Q:Bool->Shared->Prop} {prog:Program}
section
variable {K:Type} [DecidableEq K] (knd:KeyKind prog w K)
def aF(h:Heap)(p:List K×K)(a:Addr):Prop:=∃o b v n,h.get? a=some o/\o.cls=.type "tuple" /\ o.data=.seq #[.ref b,v] n/\IsTupleKey knd h p.1 b/\knd.is p.2 v=true
variable {knd}
theorem aF.typeIs{p:List K×K}(x:aF knd s.heap p a):s.TypeIs (.ref a) "tuple" := by
 obtain⟨o,_,_,_,ho,hc,_⟩:=x;exact⟨o,ho,hc⟩
theorem aF.inj{h:Heap}{a:Addr}{x y:List K×K}(hx:aF knd h x a)(hy:aF knd h y a):x=y:=by obtain⟨o,b,v,n,ho,_,hd,h1,h2⟩:=hx;obtain⟨o',b',v',n',ho',_,hd',h1',h2'⟩:=hy;obtain rfl:o=o':=Option.some.inj (ho.symm.trans ho');rw[hd] at hd';injection hd' with e _;injection e with e;injection e with e1 e2;injection e1 with e1;injection e2 with e2;subst e1 e2;exact Prod.ext (h1.inj h1') (knd.inj _ _ _ h2 h2')
theorem aF.keeps{h h':Heap}{p:List K×K}{a d:Addr}{o:Obj}{es ep}(x:aF knd h p a)(ho:h.get? d=some o)(hd:o.data=.dict es ep)(hs:Heap.SameBut d h h'):aF knd h' p a:=by
 obtain⟨o',b,v,n,ho',hc,hd',h1,h2⟩:=x;have hne:a≠d:=by
  rintro rfl;obtain rfl:o'=o:=Option.some.inj (ho'.symm.trans ho);rw[hd] at hd';exact nomatch hd'
 exact⟨o',b,v,n,(hs.2 a hne).trans ho',hc,hd',h1.keeps ho hd hs,h2⟩
def sQ(knd:KeyKind prog w K)(p:List K×K):Int:=reduceHash (Builtin.Tuple.tupleHashOf [tupleKeyHash knd p.1,knd.hash p.2])
theorem Hs{p:List K×K}{Q:Int->Shared->Prop}(hu:A.units+1<cLine)(hk:aF knd s.heap p a)(h:Q (sQ knd p) { s with toks:=s.toks+(p.1.length+3) }) :
  wpAny (model prog w) A (pyHash (.ref a)) Q E s:=by
 have hT:=hk.typeIs;obtain⟨o,b,v,n,ho,_,hd,h1,h2⟩:=hk;unfold pyHash
 first|unfold pyHashByItsType|skip
 first|refine wpAny_bind (wpAny_cRoomFor_or (.inr (lt_of_succ_lt hu)) ?_)|skip
 refine wpAny_bind (wpAny_specialOf hT F.slot_tuple_hash.lookup ?_);show wpAny _ _ (if (some (Value.builtin "tuple.__hash__")==some Value.none)=true then _ else _) Q E s;rw[if_neg (by rw[beq_builtin_none];exact Bool.false_ne_true)];refine wpAny_bind (wpAny_specialOf hT F.slot_tuple_hash.lookup ?_);show wpAny _ _ (callSpecialIfBoundUnlessNone? (.ref a) "__hash__" _ >>= _) Q E s;refine wpAny_bind (wpAny_callSpecialIfBoundUnlessNone?_slot hT F.slot_tuple_hash (wpAny_call_entry F.slot_tuple_hash hT F.entry_tuple_hash ?_ (F.args_tuple_hash_1 _)));show wpAny _ _ (Builtin.Tuple.tupleItemsOf (.ref a) >>= _) _ _ s;refine wpAny_bind (wpAny_tupleItemsOf ho hd ?_);refine wpAny_bind ?_;rw[<- forIn_toList];show wpAny _ _ (forIn [Value.ref b,v] _ _) _ _ _;rw[forIn_cons];refine wpAny_bind (wpAny_bind (wpAny_pyHash_tuple hu h1 ?_));refine wpAny_pure ?_;show wpAny _ _ (forIn [v] _ _) _ _ _;rw[forIn_cons];refine wpAny_bind (wpAny_bind (knd.pyHash h2 ?_));refine wpAny_pure ?_;show wpAny _ _ (forIn [] _ _) _ _ _;rw[forIn_nil];refine wpAny_pure ?_;show wpAny _ _ (retInt (Builtin.Tuple.tupleHashOf [tupleKeyHash knd p.1,knd.hash p.2])) _ _ _;refine wpAny_ret_mkInt ?_;show wpAny _ _ (if (decide (-(2:Int) ^ 63<=Builtin.Tuple.tupleHashOf [tupleKeyHash knd p.1,knd.hash p.2])&&decide (Builtin.Tuple.tupleHashOf [tupleKeyHash knd p.1,knd.hash p.2]<2 ^ 63))=true then _ else _) Q E _;unfold sQ reduceHash at h
 by_cases hr:(decide (-(2:Int) ^ 63<=Builtin.Tuple.tupleHashOf [tupleKeyHash knd p.1,knd.hash p.2])&&decide (Builtin.Tuple.tupleHashOf [tupleKeyHash knd p.1,knd.hash p.2]<2 ^ 63))=true
 ·rw[if_pos hr];rw[if_pos hr] at h;exact wpAny_pure (by simpa[add_assoc] using h)
 ·rw[if_neg hr];rw[if_neg hr] at h;exact wpAny_bind (wpAny_rule (wpAny_pure (by simpa[add_assoc] using h)))
theorem HE{x y:List K×K}{P:Fin->Shared->Prop}(hu:A.units<cLine)(hx:aF knd s.heap x a)(hy:aF knd s.heap y b)(h:P (.done (.ret (.bool (decide (x=y))))) s) :
  wpAny (model prog w) A (Builtin.«tuple.__eq__» ⟨[.ref a,.ref b],[]⟩) P E s:=by
 have hTb:=hy.typeIs;obtain⟨oa,ba,va,na,hoa,_,hda,h1,h2⟩:=hx;obtain⟨ob,bb,vb,nb,hob,_,hdb,g1,g2⟩:=hy;show wpAny _ _ (isInstance (.ref b) (.type "tuple") >>= _) _ _ s;refine wpAny_bind (wpAny_isInstance hTb isSubtype_tuple_tuple ?_);simp only[Bool.not_true,false_eq_true,if_false];refine wpAny_bind (wpAny_tupleItemsOf hoa hda ?_);refine wpAny_bind (wpAny_tupleItemsOf hob hdb ?_);refine wpAny_bind ?_;show wpAny _ _ (forIn [(Value.ref ba,Value.ref bb),(va,vb)] _ _) _ _ _;rw[forIn_cons];refine wpAny_bind (wpAny_bind (wpAny_eqBool_tuple hu h1 g1 ?_))
 by_cases e1:x.1=y.1
 ·rw[decide_eq_true e1];simp only[Bool.not_true,false_eq_true,if_false];refine wpAny_pure ?_;show wpAny _ _ (forIn [(va,vb)] _ _) _ _ _;rw[forIn_cons];refine wpAny_bind (wpAny_bind (knd.eqBool h2 g2 ?_))
  by_cases e2:x.2=y.2
  ·rw[decide_eq_true e2];simp only[Bool.not_true,false_eq_true,if_false];refine wpAny_pure ?_;show wpAny _ _ (forIn [] _ _) _ _ _;rw[forIn_nil];refine wpAny_pure ?_;rw[decide_eq_true (Prod.ext e1 e2)] at h;exact wpAny_pure h
  ·rw[decide_eq_false e2];simp only[Bool.not_false,if_true];rw[decide_eq_false (fun e=>e2 (by rw[e]))] at h;exact wpAny_bind (wpAny_pure (wpAny_pure (wpAny_pure (wpAny_pure h))))
 ·rw[decide_eq_false e1];simp only[Bool.not_false,if_true];rw[decide_eq_false (fun e=>e1 (by rw[e]))] at h;exact wpAny_bind (wpAny_pure (wpAny_pure (wpAny_pure (wpAny_pure h))))
theorem Hr{x y:List K×K}(hu:A.units+1<cLine)(hx:aF knd s.heap x a)(hy:aF knd s.heap y b)(h:Q (decide (x=y)) s) :
  wpAny (model prog w) A (eqBool (.ref a) (.ref b)) Q E s:=by
 unfold eqBool
 try with_reducible refine wpAny_holding ?_
 show wpAny _ _ (if (Value.ref a==Value.ref b)=true then _ else _) Q E s
 by_cases hab:(Value.ref a==Value.ref b)=true
 ·rw[if_pos hab];have e:a=b:=by have:=eq_of_beq hab;injection this
  subst e;obtain rfl:=hx.inj hy;exact wpAny_bind (wpAny_rule (wpAny_pure (by simpa using h)))
 ·rw[if_neg hab];exact wpAny_bind (wpAny_richCompare_same_room (op:=.Eq) hx.typeIs hy.typeIs F.slot_tuple_eq
   (wpAny_call_entry F.slot_tuple_eq hx.typeIs F.entry_tuple_eq (HE hu hx hy ⟨_,rfl,(fun e=>nomatch e),wpAny_truthy_bool h⟩) (F.args_tuple_eq_2 _ _)) (lt_of_succ_lt hu))
theorem Gk{ks:List K}(hk:IsTupleKey knd s.heap ks a)(h:Q true s):wpAny (model prog w) A (eqIsQuiet (n+1) (.ref a)) Q E s:=by
 have hT:=hk.typeIs;obtain⟨o,items,m,ho,_,hd,hi⟩:=hk;unfold eqIsQuiet;refine wpAny_bind (wpAny_specialOf hT F.slot_tuple_eq.lookup ?_);show wpAny _ _ (isInstance (.ref a) (.type "tuple") >>= _) _ _ s;refine wpAny_bind (wpAny_isInstance hT isSubtype_tuple_tuple ?_);simp only[Bool.not_true,false_eq_true,if_false];refine wpAny_bind (wpAny_seqItems ho hd ?_);refine wpAny_bind ?_;show wpAny _ _ (forIn items _ _) _ _ s;rw[<- forIn_toList];refine wpAny_forIn_list _ (fun rest r s'=>r.1=none/\s'=s/\∀v∈rest,carriedByValue v=true) _ ?_ ?_ _ _ ⟨rfl,rfl,hi.byValue⟩
 ·rintro v rest r s' ⟨hr,rfl,hall⟩;rw[eqIsQuiet_byValue _ (hall v mem_cons_self)];refine wpAny_bind (wpAny_pure ?_);simp only[Bool.not_true,false_eq_true,if_false];exact wpAny_pure ⟨rfl,rfl,fun u hu'=>hall u (mem_cons_of_mem _ hu')⟩
 ·rintro⟨r1,r2⟩ s' ⟨hr,rfl,_⟩;simp only at hr;subst hr;exact wpAny_pure h
theorem GG{p:List K×K}(hk:aF knd s.heap p a)(h:Q true s):wpAny (model prog w) A (eqIsQuiet 8 (.ref a)) Q E s:=by have hT:=hk.typeIs;obtain⟨o,b,v,m,ho,_,hd,h1,h2⟩:=hk;unfold eqIsQuiet;refine wpAny_bind (wpAny_specialOf hT F.slot_tuple_eq.lookup ?_);show wpAny _ _ (isInstance (.ref a) (.type "tuple") >>= _) _ _ s;refine wpAny_bind (wpAny_isInstance hT isSubtype_tuple_tuple ?_);simp only[Bool.not_true,false_eq_true,if_false];refine wpAny_bind (wpAny_seqItems ho hd ?_);refine wpAny_bind ?_;show wpAny _ _ (forIn #[Value.ref b,v] _ _) _ _ s;rw[<- forIn_toList];show wpAny _ _ (forIn [Value.ref b,v] _ _) _ _ s;rw[forIn_cons];refine wpAny_bind (wpAny_bind (Gk h1 ?_));simp only[Bool.not_true,false_eq_true,if_false];refine wpAny_pure ?_;show wpAny _ _ (forIn [v] _ _) _ _ s;rw[forIn_cons,eqIsQuiet_byValue _ (knd.byValue _ _ h2)];refine wpAny_bind (wpAny_bind (wpAny_pure ?_));simp only[Bool.not_true,false_eq_true,if_false];refine wpAny_pure ?_;show wpAny _ _ (forIn [] _ _) _ _ s;rw[forIn_nil];exact wpAny_pure (wpAny_pure h)
def xH{K:Type}[DecidableEq K](knd:KeyKind prog w K):HeapKind prog w (List K×K) where
 is:=aF knd
 hash:=sQ knd
 draws:=fun p=>p.1.length+3
 room:=fun A=>A.units+1<cLine
 inj:=fun hx hy=>hx.inj hy
 keeps:=fun x ho hd hs=>x.keeps ho hd hs
 pyHash:=fun hu hk h=>Hs hu hk h
 eqBool:=fun hu hx hy h=>Hr hu hx hy h
 quiet:=fun hk h=>GG hk h
end
def Ic(p:List Int×Int):Int:=reduceHash (Builtin.Tuple.tupleHashOf [reduceHash (Builtin.Tuple.tupleHashOf (p.1.map hashInt)),hashInt p.2])
def cI(a:Addr)(xs:List ((List Int×Int)×Addr))(h:Heap):Prop:=xs.length<=sizeLine/\(a==sysModules)=false/\∃o es ep,h.get? a=some o/\o.ExactDict/\o.data=.dict es ep/\es.toList=xs.map (fun x=>(⟨Ic x.1,.ref x.2,.bool true⟩:DictEntry))/\(xs.map (·.1)).Nodup
def KN(H:Hp)(xs:List ((List Int×Int)×Addr)):Prop:=∀x∈xs,∃b,H x.2=some (.tup [.ref b,.int x.1.2])/\H b=some (.tup (x.1.1.map V.int))
def gM(xs:List ((List Int×Int)×Addr)):List ((List Int×Int)×Addr×Value):=xs.map fun x=>(x.1,x.2,.bool true)
variable {p:List Int×Int}
section
variable {xs:List ((List Int×Int)×Addr)}
theorem cI.ok(x:cI a xs h):aC P w H h a (.ext (cI a xs)):=by obtain⟨z,y,o,es,ep,e,r⟩:=x;exact⟨⟨z,y,o,es,ep,e,r⟩,⟨o,e⟩,fun h1 h2 ⟨z,y,o,es,ep,e,r⟩ k=>⟨z,y,o,es,ep,k _ e,r⟩⟩
theorem Fb{ks:List Int}{its:List Value}(r:Vals (ks.map V.int) its):ItemsAre (intKind P w) ks its:=by
 induction ks generalizing its with
 | nil=>cases r;exact .nil
 | cons k ks ih =>
  cases r with
  | cons h t =>
   obtain⟨n,rfl⟩:=(show ∃n,_=Value.int k n from h)
   exact .cons (by show Value.isInt k (.int k n)=true;simp[Value.isInt]) (ih t)
theorem rT(ok:cg P w H h)(e:H a=some (.tup [.ref b,.int p.2]))(eb:H b=some (.tup (p.1.map V.int))):(xH (intKind P w)).is h p a:=by
 obtain⟨_,its,r,o,h1,h2,⟨n,h3⟩,_⟩:=(show aC P w H h a (.tup [.ref b,.int p.2]) from ok a _ e)
 obtain⟨_,its',r',o',g1,g2,⟨n',g3⟩,_⟩:=(show aC P w H h b (.tup (p.1.map V.int)) from ok b _ eb)
 cases r with
 | cons q t =>
  cases t with
  | cons q2 t2 =>
   cases t2;cases (show _=Value.ref b from q);obtain⟨m,rfl⟩:=(show ∃m,_=Value.int p.2 m from q2)
   exact⟨o,b,.int p.2 m,n,h1,h2,h3,⟨o',its'.toArray,n',g1,g2,g3,by simpa using Fb r'⟩,by show Value.isInt p.2 (.int p.2 m)=true;simp[Value.isInt]⟩
theorem uD(ok:cg P w H h)(e:H a=some (.ext (cI a xs)))(kn:KN H xs):xs.length<=sizeLine/\(a==sysModules)=false/\h.DictOfH (xH (intKind P w)) a (gM xs):=by
 obtain⟨⟨z,y,o,es,ep,h1,h2,h3,h4,h5⟩,_⟩:=(show aC P w H h a (.ext (cI a xs)) from ok a _ e)
 refine⟨z,y,o,es,ep,h1,h2,h3,?_,fun x hx=>?_,?_⟩
 ·rw[h4];unfold gM;rw[map_map];rfl
 ·obtain⟨q,hq,rfl⟩:=mem_map.mp hx;obtain⟨b,e1,e2⟩:=kn q hq;exact rT ok e1 e2
 ·unfold gM;rw[map_map];exact h5
theorem vQ(p:List Int×Int):(atKey (gM xs) p).isSome=decide (p∈xs.map (·.1)):=by
 unfold atKey gM;rw[isSome_map]
 induction xs with
 | nil=>simp
 | cons x r ih =>
  simp only[map_cons,find?_cons,mem_cons]
  by_cases q:x.1=p
  ·subst q;simp
  ·rw[decide_eq_false q];dsimp only;rw[ih];exact decide_eq_decide.mpr ⟨.inr,fun z=>z.resolve_left fun e=>q e.symm⟩
def jg(xs:List ((List Int×Int)×Addr))(p:List Int×Int)(a:Addr):List ((List Int×Int)×Addr):=if p∈xs.map (·.1) then xs else xs++[(p,a)]
theorem GF(p:List Int×Int):storedH (gM xs) p a (.bool true)=gM (jg xs p a):=by
 unfold storedH jg;rw[vQ]
 by_cases q:p∈xs.map (·.1)
 ·rw[decide_eq_true q,if_pos rfl,if_pos q];unfold gM;rw[map_map];apply map_congr_left;intro x _;simp only[Function.comp,putAt];split<;>rfl
 ·rw[decide_eq_false q,if_neg (by simp),if_neg q];unfold gM;rw[map_append];rfl
theorem KN.put(kn:KN H xs)(e:H a=some (.tup [.ref b,.int p.2]))(eb:H b=some (.tup (p.1.map V.int))):KN H (jg xs p a):=by
 unfold jg;split
 ·exact kn
 ·intro x hx;rcases mem_append.mp hx with q|q
  ·exact kn x q
  ·rw[mem_singleton.mp q];exact⟨b,e,eb⟩
theorem KN.keeps(kn:KN H xs)(ht:∀b ys,H b=some (.tup ys)->H' b=some (.tup ys)):KN H' xs:=fun x hx=>by
 obtain⟨b,e,eb⟩:=kn x hx;exact⟨b,ht _ _ e,ht _ _ eb⟩
end
def Bo:TE:=fun _ H Q=>∀p,H p=none->Q (.ref p) (upd H p (.ext (cI p [])))
def uC(ty td:TE):TE:=fun σ H Q=>ty σ H fun y H1=>td σ H1 fun x H2=>∃a xs b c p,x=.ref a/\H2 a=some (.ext (cI a xs))/\KN H2 xs/\y=.ref b/\H2 b=some (.tup [.ref c,.int p.2])/\H2 c=some (.tup (p.1.map V.int))/\Q (.bl (decide (p∈xs.map (·.1)))) H2
def Bm(td ty tv:TE):TS:=fun D σ H=>tv σ H fun v H1=>td σ H1 fun x H2=>ty σ H2 fun y H3=>∃a xs b c p,v=.bl true/\x=.ref a/\H3 a=some (.ext (cI a xs))/\KN H3 xs/\xs.length<sizeLine/\y=.ref b/\H3 b=some (.tup [.ref c,.int p.2])/\H3 c=some (.tup (p.1.map V.int))/\D.nx σ (upd H3 a (.ext (cI a (jg xs p b))))
section
variable {i o:Expr}
theorem E_(h:Heap)(hb:sysModules<h.objs.size):cI h.objs.size [] (h.push { cls:=.type "dict",data:=.dict #[] }) :=
 ⟨zero_le _,beq_eq_false_iff_ne.mpr (Ne.symm (ne_of_lt hb)),_,#[],0,Heap.get?_push_size _ rfl,⟨rfl,rfl,rfl⟩,rfl,rfl,nodup_nil⟩
theorem E9:PE X (.Dict [] [] pos) Bo:=fun pins s σ H Q I h =>
 wpAny_Dict_empty ⟨.ref s.heap.objs.size,_,I.laid (a:=s.heap.objs.size) (o:=.ext (cI s.heap.objs.size [])) (t':=s.toks) (fun _ _ q=>Heap.get?_push_of_some _ q) (le_refl _) (E_ s.heap I.big).ok,rfl,h _ (I.hok.fresh (le_refl _))⟩
theorem CY(hu:X.A.units+2<cLine)(hi:PE X i ty)(ho:PE X o td):PC X .In i o (uC ty td):=by intro pins s σ H Q I h;refine aK (hi pins s σ H _ I h) fun iv s1 ⟨y,H1,I1,ry,q1⟩=>aK (ho pins s1 σ H1 _ I1 q1) fun u s2 ⟨x,H2,I2,rx,a,xs,b,c,p,ex,e,kn,ey,eb,ec,q2⟩=>?_;subst ex ey;obtain rfl:u=Value.ref a:=rx;obtain rfl:iv=Value.ref b:=ry;obtain⟨z,hd,dd⟩:=uD I2.hok e kn;refine wpAny_in_heap (show X.A.units+2<cLine from hu) (rT I2.hok eb ec) hd dd ?_;rw[vQ];exact⟨.bl _,H2,I2.tok _,rfl,q2⟩
theorem E8(hu:X.A.units+2<cLine)(ho:PE X o td)(hi:PE X i ty)(hv:PE X value tv)(hs:swapsWith value (some (.Subscript o i pos')) pos.line X.env=pure false) :
  PS X (.Assign [.Subscript o i pos'] value pos) (Bm td ty tv):=by
 intro pins s σ H D I h;refine wpAny_Assign_Subscript (aK (hv pins s σ H _ I h) fun r s1 ⟨v,H1,I1,rv,q1⟩=>aK (ho pins s1 σ H1 _ I1 q1) fun u s2 ⟨x,H2,I2,rx,q2⟩=>aK (hi pins s2 σ H2 _ I2 q2) fun iv s3 ⟨y,H3,I3,ry,a,xs,b,c,p,ev,ex,e,kn,l,ey,eb,ec,q3⟩=>?_) hs;subst ev ex ey;obtain rfl:u=Value.ref a:=rx;obtain rfl:iv=Value.ref b:=ry;obtain rfl:r=Value.bool true:=rv;obtain⟨z,hd,dd⟩:=uD I3.hok e kn;have hz:(gM xs).length<=sizeLine:=by unfold gM;rw[length_map];exact z
 refine wpAny_setItem_heap (hsz:=hz) (show X.A.units+2<cLine from hu) (rT I3.hok eb ec) dd fun h' dd' hs=>?_;rw[GF] at dd';obtain⟨q,es,ep,hq,h2,h3,h4,_,h5⟩:=dd';have nd:cI a (jg xs p b) h':=by
  refine⟨?_,hd,q,es,ep,hq,h2,h3,?_,?_⟩
  ·unfold jg;split
   ·exact z
   ·rw[length_append];simp only[length_cons,length_nil];omega
  ·rw[h4];unfold gM;rw[map_map];rfl
  ·unfold gM at h5;rw[map_map] at h5;exact h5
 exact⟨σ,_,oZ I3 (by rw[e];exact True.intro) hs ⟨q,hq⟩ nd.ok,q3⟩
end
theorem yJ{kvs:List (Key×V)}(rel:KV kvs vs)(hk:kvs.map (·.1)=ns.map Sum.inl){acc:Array Value}(h:ItemsOf (fun i v=>∃k x,vs[i]?=some (k,x)/\(e7 P w).is k v=true) acc vs.length):IntsAre acc.toList ns:=by
 have hl:acc.toList.length=ns.length:=by rw[length_toList,h.1,<- length_map (f:=fun x:Key×Value=>x.1),<- KV.keys rel,hk,length_map]
 have at':∀(i:Nat) (v:Value),acc.toList[i]?=some v->∃t,v=Value.int (ns.getD i 0) t:=by
  intro i v hv;obtain⟨k,x,h1,h2⟩:=h.2 i v (by rw[<- getElem?_toList];exact hv);have e:(ns.map Sum.inl:List Key)[i]?=some k:=by rw[<- hk,KV.keys rel,getElem?_map,h1];rfl
  rw[getElem?_map] at e;cases q:ns[i]? with
  | none=>rw[q] at e;cases e
  | some n =>
   rw[q] at e;simp only[map_some,Option.some.injEq] at e;subst e;rcases iV (k:=Sum.inl n) (v:=v) h2 with ⟨j,t,e1,e2⟩|⟨j,t,e1,e2⟩
   ·cases e1;exact⟨t,by rw[e2,getD_eq_getElem?_getD,q];rfl⟩
   ·cases e1
 clear h;revert hl at';generalize acc.toList=us;clear hk
 induction ns generalizing us with
 | nil=>intro hl _;cases us with|nil=>exact .nil|cons a r=>simp at hl
 | cons n ns ih =>
  intro hl h;cases us with
  | nil=>simp at hl
  | cons a r =>
   obtain⟨t,rfl⟩:=h 0 a rfl;exact .cons n t (ih r (by simpa using hl) fun i v hv=>h (i+1) v hv)
theorem HD(hc:X.calm=true):aM X (.builtin "sorted") (fun xs H Q=>∃(a:Addr) (kvs:List (Key×V)) (ns:List Int),xs=[.ref a]/\Rd H a (.dK kvs)/\kvs.map (·.1)=ns.map Sum.inl/\ns.length<64 /\
  ∀ms:List Int,ms.Perm ns->ms.Pairwise (·<=·)->∀l,H l=none->Q (.ref l) (upd H l (.lst (ms.map V.int)))):=by
 intro pins s σ H xs us Q I r h;obtain⟨a,kvs,ns,rfl,hd,hk,h64,q⟩:=h;obtain⟨u,rfl,rx⟩:=hU r;cases rx;obtain⟨hz,hS,vs,rel,dd⟩:=mV I.hok hd;obtain⟨ep,hat⟩:=dd.dictAt;have hh:X.A.in1.handled=none:=I.ok.hd hc;have hlen:vs.length=ns.length:=by rw[<- KV.length rel,<- length_map (f:=fun x:Key×V=>x.1),hk,length_map]
 refine Calls.call_function_entry kind_sorted plain_sorted entry_sorted (args_sorted1 _) ?_;unfold Builtin.«sorted»;refine wpAny_bind (m:=checkCount "sorted" 1 1 _) (wpAny_pure ?_);refine wpAny_bind (PySem.W.kdu_collect (A:=X.A.in1) (kdl_dict (knd:=e7 X.prog X.w) (kvs:=vs) (ep:=ep) hS) hh hat (by rw[<- KV.length rel];exact hz) fun h' tk acc hkp hacc=>?_);have hI:=yJ rel hk hacc;have hal:acc.toList.length=ns.length:=by rw[length_toList,hacc.1,hlen]
 refine wpAny_bind (wpAny_newList ?_ (by rw[hal,<- hlen,<- KV.length rel];exact hz));have hoL:(h'.push (seqObj "list" acc.toList.toArray 0)).get? h'.objs.size=some (seqObj "list" acc.toList.toArray 0):=Heap.get?_push_size _ rfl;refine wpAny_bind (wpAny_holding (wpAny_call_entry slot_list_sort ⟨_,hoL,rfl⟩ entry_list_sort (list_sort_tree hoL hI (by omega) fun out ns' a1 a2 a3=>⟨_,rfl,?_⟩) (args_list_sort _)));refine wpAny_pure ⟨_,rfl,?_⟩;obtain⟨e,he⟩:=sortedHeap_at (out:=out) hoL;have I1:Inv X pins σ H { s with heap:=h',toks:=tk }:=I.kept hkp;have rv':Vals (ns'.map V.int) out.toList:=nE a1;refine⟨.ref h'.objs.size,_,I1.laid (t':=tk) (a:=h'.objs.size) (o:=.lst (ns'.map V.int)) (fun b o hb=>?_) (le_refl _) ?_,rfl,q ns' a2 a3 _ I1.fresh⟩
 ·have hb:h'.get? b=some o:=hb;have hlt:=Heap.lt_size hb;show(sortedHeap (h'.push (seqObj "list" acc.toList.toArray 0)) h'.objs.size acc.toList out).get? b=some o;rw[sortedHeap_old (ne_of_lt hlt) (by rw[size_push'];exact lt_succ_of_lt hlt)];exact Heap.get?_push_of_some _ hb
 ·refine⟨by rw[length_map,a2.length_eq,<- hlen,<- KV.length rel];exact hz,out.toList,e,rv',?_⟩;rw[toArray_toList];exact he
theorem GD(hc:X.calm=true):aM X (.type "list") (fun xs H Q=>∃(a:Addr) (kvs:List (Key×V)) (ns:List Int),xs=[.ref a]/\Rd H a (.dK kvs)/\kvs.map (·.1)=ns.map Sum.inl/\∀l,H l=none->Q (.ref l) (upd H l (.lst (ns.map V.int)))):=by
 intro pins s σ H xs us Q I r h;obtain⟨a,kvs,ns,rfl,hd,hk,q⟩:=h;obtain⟨u,rfl,rx⟩:=hU r;cases rx;obtain⟨hz,hS,vs,rel,dd⟩:=mV I.hok hd;obtain⟨ep,hat⟩:=dd.dictAt;have hlen:vs.length=ns.length:=by rw[<- KV.length rel,<- length_map (f:=fun x:Key×V=>x.1),hk,length_map]
 refine PySem.W.kdl_call (kdl_dict (knd:=e7 X.prog X.w) (kvs:=vs) (ep:=ep) hS) (I.ok.hd hc) hat (by rw[<- KV.length rel];exact hz) fun h' tk acc c hkp hD hacc=>?_;have hI:=yJ rel hk hacc;refine⟨.ref s.heap.objs.size,_,I.laid (t':=tk) (a:=s.heap.objs.size) (o:=.lst (ns.map V.int)) hkp (le_refl _) ?_,rfl,q _ I.fresh⟩;refine⟨by rw[length_map,<- hlen,<- KV.length rel];exact hz,acc.toList,c,nE hI,?_⟩;rw[toArray_toList];exact hD
theorem Gj{a:Expr}{ta:TA}{p:Pos}(hg:Gl X "range")(hm:X.mg "range" = none)(ha:PA X [a] ta)(hs:starEach [a] X.env=[(false,eval a X.env)]:=by rfl) :
  PE X (.Call (.Name "range" p) [a] [] pos) (fun σ H Q=>ta σ H fun vs H1=>∃j:Int,vs=[.int j]/\∀p,H1 p=none->Q (.ref p) (upd H1 p (.rng 0 j))):=by
 intro pins s σ H Q I h;refine Call_ (nc I hg hm boot_range (PyProof.Rows.callWith_type1 (aK (ha pos pins s σ H _ I h) fun us s1 ⟨vs,H1,I1,r1,q1⟩=>?_) hs rfl));obtain⟨j,e,q⟩:=q1;subst e;cases r1 with
 | cons r rr =>
  cases rr;obtain⟨t,rfl⟩:=r;refine call_range_1 ⟨.ref s1.heap.objs.size,_,I1.laid (t':=s1.toks+1+1) (a:=s1.heap.objs.size) (o:=.rng 0 j) (fun b o e=>Heap.get?_push_of_some _ e) (le_refl _) ?_,rfl,q _ I1.fresh⟩;exact⟨_,_,_,Heap.get?_push_size _ rfl⟩
theorem HC(hc:X.calm=true):aM X (.type "list") (fun xs H Q=>∃(p:Addr) (lo hi:Int),xs=[.ref p]/\H p=some (.rng lo hi)/\-(2 ^ 62)<=lo/\lo<2 ^ 62/\-(2 ^ 62)<=hi/\hi<2 ^ 62/\(hi-lo).toNat<=sizeLine /\
  ∀l,H l=none->Q (.ref l) (upd H l (.lst ((List.range (hi-lo).toNat).map fun(i:Nat)=>V.int (lo+(i:Int)))))):=by
 intro pins s σ H xs us Q I r h;obtain⟨p,lo,hi,rfl,hp,h1,h2,h3,h4,hz,q⟩:=h;obtain⟨u,rfl,rx⟩:=hU r;cases rx;obtain⟨t,u,v,hr⟩:=I.hok p _ hp;have hn:Builtin.Range.rangeSize lo hi 1=(((hi-lo).toNat:Nat):Int):=by rw[rangeSize_one];split<;>omega
 refine PySem.call_list_range (I.ok.hd hc) hr (small_one h1 h2 h3 h4) hn (by rw[sizeLine_eq] at hz;exact hz) fun h' tk acc c hkp hD hacc=>?_;refine⟨.ref s.heap.objs.size,_,I.laid (t':=tk) (a:=s.heap.objs.size) (o:=.lst ((List.range (hi-lo).toNat).map fun(i:Nat)=>V.int (lo+(i:Int)))) hkp (le_refl _) ?_,rfl,q _ I.fresh⟩;refine⟨by rw[length_map,length_range];exact hz,acc.toList,c,?_,by rw[toArray_toList];exact hD⟩;have hl:acc.toList.length=(hi-lo).toNat:=by rw[length_toList];exact hacc.1
 have hv:∀(i:Nat) (v:Value),acc.toList[i]?=some v->∃t,v=Value.int (lo+(i:Int)) t:=fun i v e=>by
  obtain⟨t,e'⟩:=hacc.2 i v (by rw[<- getElem?_toList];exact e);exact⟨t,by rw[e',mul_one]⟩
 clear hn hz hacc hD;revert hl hv;generalize acc.toList=us;generalize (hi-lo).toNat=n;intro hl hv;have:∀(us:List Value) (k:Nat),(∀(i:Nat) (v:Value),us[i]?=some v->∃t,v=Value.int (lo+((k+i:Nat):Int)) t)->Vals ((List.range' k us.length).map fun(i:Nat)=>V.int (lo+(i:Int))) us:=by
  intro us
  induction us with
  | nil=>intro k _;exact .nil
  | cons a r ih =>
   intro k h;obtain⟨t,rfl⟩:=h 0 a rfl;rw[length_cons,range'_succ,map_cons];refine .cons ⟨t,by simp⟩ (ih (k+1) fun i v e=>?_);obtain⟨t',e'⟩:=h (i+1) v e;exact⟨t',by rw[e'];congr 2;omega⟩
 have q':=this us 0 fun i v e=>by simpa using hv i v e
 rw[<- range_eq_range',hl] at q';exact q'
def Im(a:Addr)(o:Obj)(ps:List (Key×V)):It where
 go:=fun i H=>H a=some (.frz o (.dK ps))/\i<ps.length
 yld:=fun i H x H'=>H'=H/\∃p,ps[i]?=some p/\x=kV p.1
 stop:=fun i H=>H a=some (.frz o (.dK ps))/\ps.length=i
end L2
namespace VS
open PySem PySem.Spec PyProof.Rows L2
abbrev St:=L2.St
variable {k:Nat}
theorem eF{α:Type}{l:List α}{a:α}(h:l[k]?=some a):k<l.length:=(List.getElem?_eq_some_iff.mp h).1
variable {i j:Nat}
theorem oG{α:Type}{l:List α}(h:l.Nodup)(hi:i<l.length)(hj:j<l.length)(e:l[i]=l[j]):i=j:=by
 have p:=pairwise_iff_getElem.mp h;rcases lt_trichotomy i j with q|q|q
 ·exact absurd e (p i j hi hj q)
 ·exact q
 ·exact absurd e.symm (p j i hj hi q)
inductive W where
 | non|bl (b:Bool)|int (i:Int)|str (x:Str)|ty (n:String)|lst (xs:List W)|tup (xs:List W)|cel (k:Nat)
inductive C where
 | lst (xs:List W)|dct (kvs:List (Key×W))|ins (c:Str) (fs:List (Str×W))|exn (c:Str)|exm (c f:Str) (n:Int)|dead|fzd (kvs:List (Key×W))|dtp (kvs:List (List Key×W))|ndt (ks:List (List Int×Int))
def C.nf:C->Bool
 | .fzd _=>false
 | _=>true
def Ie:HO->Bool
 | .frz _ _=>false
 | _=>true
abbrev Ce:=List C
abbrev Sl:=List (Option W)
structure cJ where
 nm:Str
 fld:Option (Str×W)
inductive R (α:Type) where
 | ok (a:α) (ce:Ce)|ex (x:cJ) (ce:Ce)
abbrev M(α:Type):=Ce->Option (R α)
structure Ga where
 K:Frag
 cl:Str->Addr
 xr:cJ->Value->Option Addr->Hp->Prop
mutual
def Rep(F:Hp)(as:List Addr):W->V->Prop
 | .non,v=>v=.non
 | .bl b,v=>v=.bl b
 | .int i,v=>v=.int i
 | .str x,v=>v=.str x
 | .ty n,v=>v=.ty n
 | .lst xs,v=>∃a vs,v=.ref a/\Rd F a (.lst vs)/\ag F as xs vs
 | .tup xs,v=>∃a vs,v=.ref a/\F a=some (.tup vs)/\ag F as xs vs
 | .cel k,v=>∃a,v=.ref a/\as[k]?=some a
def ag(F:Hp)(as:List Addr):List W->List V->Prop
 | [],vs=>vs=[]
 | x::xs,vs=>∃v r,vs=v::r/\Rep F as x v/\ag F as xs r
end
structure Le (F:Hp) (as:List Addr) (F':Hp) (as':List Addr):Prop where
 f:∀a o,F a=some o->F' a=some o
 c:∀(k:Nat) (a:Addr),as[k]?=some a->as'[k]?=some a
variable {F:Hp} {as:List Addr}
theorem Le.refl:Le F as F as:=⟨fun _ _ h=>h,fun _ _ h=>h⟩
theorem Le.trans{F1 F2:Hp}{as1 as2:List Addr}(h:Le F as F1 as1)(h':Le F1 as1 F2 as2):Le F as F2 as2:=⟨fun a o e=>h'.f a o (h.f a o e),fun k a e=>h'.c k a (h.c k a e)⟩
variable {F':Hp} {as':List Addr} {a:Addr} {o:HO}
theorem Le.rd(h:Le F as F' as')(r:Rd F a o):Rd F' a o:=by
 rcases r with r|⟨u,r⟩
 ·exact .inl (h.f _ _ r)
 ·exact .inr ⟨u,h.f _ _ r⟩
mutual
theorem Rep.le{F F':Hp}{as as':List Addr}(h:Le F as F' as'):∀{w:W} {v:V},Rep F as w v->Rep F' as' w v
 | .non,_,r=>by simpa only[Rep] using r
 | .bl _,_,r=>by simpa only[Rep] using r
 | .int _,_,r=>by simpa only[Rep] using r
 | .str _,_,r=>by simpa only[Rep] using r
 | .ty _,_,r=>by simpa only[Rep] using r
 | .lst xs,_,r=>by
  simp only[Rep] at r ⊢;obtain⟨a,vs,e,q,s⟩:=r;exact⟨a,vs,e,h.rd q,ag.le h s⟩
 | .tup xs,_,r=>by
  simp only[Rep] at r ⊢;obtain⟨a,vs,e,q,s⟩:=r;exact⟨a,vs,e,h.f _ _ q,ag.le h s⟩
 | .cel k,_,r=>by
  simp only[Rep] at r ⊢;obtain⟨a,e,q⟩:=r;exact⟨a,e,h.c _ _ q⟩
theorem ag.le{F F':Hp}{as as':List Addr}(h:Le F as F' as'):∀{ws:List W} {vs:List V},ag F as ws vs->ag F' as' ws vs
 | [],_,r=>by simpa only[ag] using r
 | _::_,_,r=>by
  simp only[ag] at r ⊢;obtain⟨v,r',e,q,s⟩:=r;exact⟨v,r',e,Rep.le h q,ag.le h s⟩
end
variable {ws:List W} {vs:List V} {v:V}
theorem ag.nil:ag F as [] []:=by simp only[ag]
theorem ag.cons{w:W}{v:V}{ws:List W}{vs:List V}(h:Rep F as w v)(t:ag F as ws vs):ag F as (w::ws) (v::vs):=by simp only[ag];exact⟨v,vs,rfl,h,t⟩
theorem ag.length:∀{ws:List W} {vs:List V},ag F as ws vs->vs.length=ws.length
 | [],_,r=>by simp only[ag] at r;subst r;rfl
 | _::_,_,r=>by
  simp only[ag] at r;obtain⟨v,r',rfl,_,s⟩:=r;simp only[length_cons,ag.length s]
theorem ag.get:∀{ws:List W} {vs:List V} {i:Nat} {w:W},ag F as ws vs->ws[i]?=some w->∃v,vs[i]?=some v/\Rep F as w v
 | [],_,_,_,_,e=>by simp at e
 | _::_,_,0,_,r,e=>by
  simp only[ag] at r;obtain⟨v,r',rfl,q,s⟩:=r;simp at e;subst e;exact⟨v,rfl,q⟩
 | _::_,_,i+1,w,r,e=>by
  simp only[ag] at r;obtain⟨v,r',rfl,q,s⟩:=r;obtain⟨u,h1,h2⟩:=ag.get (i:=i) (w:=w) s (by simpa using e);exact⟨u,by simpa using h1,h2⟩
theorem ag.get'(r:ag F as ws vs)(e:vs[i]?=some v):∃w,ws[i]?=some w/\Rep F as w v:=by have hl:=r.length;have hi:i<vs.length:=eF e;have e1:ws[i]?=some ws[i]:=getElem?_eq_getElem (by omega);obtain⟨u,h1,h2⟩:=r.get e1;rw[e] at h1;cases h1;exact⟨_,e1,h2⟩
theorem ag.append:∀{ws zs:List W} {vs us:List V},ag F as ws vs->ag F as zs us->ag F as (ws++zs) (vs++us)
 | [],_,_,_,r,s=>by simp only[ag] at r;subst r;exact s
 | _::_,_,_,_,r,s=>by
  simp only[ag] at r;obtain⟨v,r',rfl,q,t⟩:=r;exact .cons q (ag.append t s)
theorem ag.set:∀{ws:List W} {vs:List V} {w:W} {v:V} (i:Nat),ag F as ws vs->Rep F as w v->ag F as (ws.set i w) (vs.set i v)
 | [],_,_,_,_,r,_=>by simp only[ag] at r;subst r;exact .nil
 | _::_,_,_,_,0,r,h=>by
  simp only[ag] at r;obtain⟨v,r',rfl,q,t⟩:=r;exact .cons h t
 | _::_,_,_,_,i+1,r,h=>by
  simp only[ag] at r;obtain⟨v,r',rfl,q,t⟩:=r;exact .cons q (ag.set i t h)
theorem ag.take:∀{ws:List W} {vs:List V} (n:Nat),ag F as ws vs->ag F as (ws.take n) (vs.take n)
 | _,_,0,_=>by rw[take_zero,take_zero];exact .nil
 | [],_,_+1,r=>by simp only[ag] at r;subst r;exact .nil
 | _::_,_,n+1,r=>by
  simp only[ag] at r;obtain⟨v,r',rfl,q,t⟩:=r;exact .cons q (ag.take n t)
theorem ag.drop:∀{ws:List W} {vs:List V} (n:Nat),ag F as ws vs->ag F as (ws.drop n) (vs.drop n)
 | _,_,0,r=>r
 | [],_,_+1,r=>by simp only[ag] at r;subst r;exact .nil
 | _::_,_,n+1,r=>by
  simp only[ag] at r;obtain⟨v,r',rfl,q,t⟩:=r;exact ag.drop n t
theorem ag.dropLast(r:ag F as ws vs):ag F as ws.dropLast vs.dropLast:=by rw[dropLast_eq_take,dropLast_eq_take,r.length];exact r.take _
theorem ag.ints:∀(ns:List Int),ag F as (ns.map W.int) (ns.map V.int)
 | []=>.nil
 | n::r=>.cons (by simp only[Rep]) (ag.ints r)
theorem ag.of_ints:∀{ns:List Int} {vs:List V},ag F as (ns.map W.int) vs->vs=ns.map V.int
 | [],_,r=>by simpa only[map_nil,ag] using r
 | n::ns,_,r=>by
  simp only[map_cons,ag,Rep] at r;obtain⟨v,r',rfl,rfl,t⟩:=r;rw[ag.of_ints t,map_cons]
theorem ag.of_bools:∀{bs:List Bool} {vs:List V},ag F as (bs.map W.bl) vs->vs=bs.map V.bl
 | [],_,r=>by simpa only[map_nil,ag] using r
 | n::ns,_,r=>by
  simp only[map_cons,ag,Rep] at r;obtain⟨v,r',rfl,rfl,t⟩:=r;rw[ag.of_bools t,map_cons]
theorem bg{α β γ δ:Type}{p q:α->β->γ->δ->Prop}{g:Prop}(h:∃a b c d,p a b c d/\q a b c d)(k:∀a b c d,p a b c d->q a b c d->g):g:=by obtain⟨a,b,c,d,h1,h2⟩:=h;exact k a b c d h1 h2
theorem aW{α β γ δ:Type}{p q r s:α->β->γ->δ->Prop}{g:Prop}(h:∃a b c d,p a b c d/\q a b c d/\r a b c d/\s a b c d)(k:∀a b c d,p a b c d->q a b c d->r a b c d->s a b c d->g):g:=by obtain⟨a,b,c,d,h1,h2,h3,h4⟩:=h;exact k a b c d h1 h2 h3 h4
def az{κ:Type}(F:Hp)(as:List Addr)(kvs:List (κ×W))(ps:List (κ×V)):Prop:=Paired (fun(p:κ×W) (q:κ×V)=>p.1=q.1/\Rep F as p.2 q.2) kvs ps
theorem az.le{κ:Type}{F F':Hp}{as as':List Addr}(h:Le F as F' as'){kvs:List (κ×W)}{ps:List (κ×V)}(r:az F as kvs ps):az F' as' kvs ps:=Paired.mapP r fun _ _ z=>⟨z.1,z.2.le h⟩
def tgC:Value->Option Addr
 | .ref C=>some C
 | .int _ C=>some C
 | _=>none
def Tg(t:Value)(o:Obj):Prop:=match t with
 | .int i C=>o.cls=.ref C/\o.dict=some i.toNat
 | v=>o.cls=v
theorem Tg.cls{t:Value}{o:Obj}{C:Addr}(h:Tg t o)(e:tgC t=some C):o.cls=.ref C:=by
 cases t<;>simp only[tgC,Option.some.injEq,reduceCtorEq] at e
 ·subst e;exact h.1
 ·subst e;exact h
theorem Tg.same{t:Value}{o o':Obj}(h:Tg t o)(e1:o'.cls=o.cls)(e2:o'.dict=o.dict):Tg t o':=by
 unfold Tg at h ⊢;split at h
 ·exact⟨e1.trans h.1,e2.trans h.2⟩
 ·exact e1.trans h
def XPhi(a:Addr)(cls:Value)(h:Heap):Prop:=∃o vs,h.get? a=some o/\Tg cls o/\o.data=.fields vs/\∃a0,vs[0]?=some a0
def ub(D:Addr)(f:Str)(n:Int)(h:Heap):Prop:=∃m t,h.Ns D m/\m f=some (.int n t)
def cR(G:Ga)(F:Hp)(as:List Addr)(H:Hp)(a:Addr):C->Prop
 | .lst xs=>∃vs,H a=some (.lst vs)/\ag F as xs vs
 | .dct kvs=>∃ps,H a=some (.dK ps)/\az F as kvs ps
 | .ins c fs=>∃dx ps,H a=some (.ins (G.cl c) dx ps)/\az F as fs ps
 | .exn c=>H a=some (.ext (XPhi a (.ref (G.cl c))))
 | .exm c f n=>∃D:Addr,H a=some (.ext (XPhi a (.int (D:Int) (G.cl c))))/\F D=some (.ext (ub D f n))
 | .dead=>∃o,H a=some o
 | .fzd kvs=>∃o ps,F a=some (.frz o (.dK ps))/\H a=some (.frz o (.dK ps))/\az F as kvs ps
 | .dtp kvs=>∃ps,H a=some (.dT ps)/\az F as kvs ps
 | .ndt ks=>∃xs:List ((List Int×Int)×Addr),H a=some (.ext (cI a xs))/\xs.map (·.1)=ks/\KN F xs
structure av (G:Ga) (F:Hp) (as:List Addr) (H:Hp) (ce:Ce):Prop where
 sub:∀a o,F a=some o->H a=some o
 nd:as.Nodup
 len:as.length=ce.length
 cell:∀(k:Nat) (a:Addr) (c:C),as[k]?=some a->ce[k]?=some c->(c.nf=true->F a=none)/\cR G F as H a c
structure SR (G:Ga) (F:Hp) (as:List Addr) (H:Hp) (σ:VS.St) (sl:Sl) (ce:Ce):Prop where
 st:av G F as H ce
 len:σ.length=sl.length
 slot:∀(i:Nat) (w:W),sl[i]?=some (some w)->∃v,σ[i]?=some (some v)/\Rep F as w v
variable {G:Ga} {H H':Hp} {sl:Sl} {ce ce':Ce} {w:W}
section
variable {σ:VS.St} {p:Addr}
theorem cR.tracked{c:C}(h:cR G F as H a c):∃o,H a=some o:=by
 cases c with
 | lst xs=>obtain⟨vs,e,_⟩:=h;exact⟨_,e⟩
 | dct xs=>obtain⟨vs,e,_⟩:=h;exact⟨_,e⟩
 | ins c xs=>obtain⟨dx,vs,e,_⟩:=h;exact⟨_,e⟩
 | exn c=>exact⟨_,h⟩
 | exm c f n=>obtain⟨D,e,_⟩:=h;exact⟨_,e⟩
 | dead=>exact h
 | fzd xs=>obtain⟨o,ps,_,e,_⟩:=h;exact⟨_,e⟩
 | dtp xs=>obtain⟨vs,e,_⟩:=h;exact⟨_,e⟩
 | ndt ks=>obtain⟨vs,e,_⟩:=h;exact⟨_,e⟩
theorem cR.le{c:C}(l:Le F as F' as')(hH:H' a=H a)(h:cR G F as H a c):cR G F' as' H' a c:=by
 cases c with
 | lst xs=>obtain⟨vs,e,r⟩:=h;exact⟨vs,hH.trans e,r.le l⟩
 | dct xs=>obtain⟨vs,e,r⟩:=h;exact⟨vs,hH.trans e,r.le l⟩
 | ins c xs=>obtain⟨dx,vs,e,r⟩:=h;exact⟨dx,vs,hH.trans e,r.le l⟩
 | exn c=>exact hH.trans h
 | exm c f n=>obtain⟨D,e,r⟩:=h;exact⟨D,hH.trans e,l.f _ _ r⟩
 | dead=>obtain⟨o,e⟩:=h;exact⟨o,hH.trans e⟩
 | fzd xs=>obtain⟨o,ps,e1,e2,r⟩:=h;exact⟨o,ps,l.f _ _ e1,hH.trans e2,r.le l⟩
 | dtp xs=>obtain⟨vs,e,r⟩:=h;exact⟨vs,hH.trans e,r.le l⟩
 | ndt ks=>obtain⟨vs,e,k,r⟩:=h;exact⟨vs,hH.trans e,k,r.keeps fun b ys q=>l.f _ _ q⟩
theorem av.at(S:av G F as H ce){c:C}(h:ce[k]?=some c):∃a,as[k]?=some a/\(c.nf=true->F a=none)/\cR G F as H a c:=by have hk:k<ce.length:=eF h;have e:as[k]?=some (as[k]'(by rw[S.len];exact hk)):=getElem?_eq_getElem _;exact⟨_,e,S.cell _ _ _ e h⟩
theorem av.tracked(S:av G F as H ce)(h:as[k]?=some a):∃o,H a=some o:=by have hk:k<as.length:=eF h;have e:ce[k]?=some (ce[k]'(by rw[<- S.len];exact hk)):=getElem?_eq_getElem _;exact(S.cell _ _ _ h e).2.tracked
theorem SR.slots(S:SR G F as H σ sl ce)(S':av G F' as' H' ce')(l:Le F as F' as'):SR G F' as' H' σ sl ce' :=
 ⟨S',S.len,fun i w e=>let ⟨v,h1,h2⟩:=S.slot i w e;⟨v,h1,h2.le l⟩⟩
theorem SR.var(S:SR G F as H σ sl ce)(h:sl[i]?=some (some w)):∃v,σ[i]?=some (some v)/\Rep F as w v:=S.slot i w h
theorem SR.put(S:SR G F as H σ sl ce)(r:Rep F as w v)(i:Nat):SR G F as H (σ.set i (some v)) (sl.set i (some w)) ce:=by
 refine⟨S.st,by rw[length_set,length_set];exact S.len,fun j u e=>?_⟩
 by_cases hj:i=j
 ·subst hj;have hi:i<sl.length:=by have:=eF e;rwa [length_set] at this
  rw[getElem?_set_self hi] at e;cases e;exact⟨v,by rw[getElem?_set_self (by rw[S.len];exact hi)],r⟩
 ·rw[getElem?_set_ne hj] at e;obtain⟨v',h1,h2⟩:=S.slot j u e;exact⟨v',by rw[getElem?_set_ne hj];exact h1,h2⟩
theorem gh(hF:F p=none):∀a u,F a=some u->upd F p o a=some u:=fun a u e=>by
 rw[bH (ee e hF)];exact e
theorem av.freeze(S:av G F as H ce)(hp:H p=none):av G (upd F p o) as (upd H p o) ce/\Le F as (upd F p o) as:=by
 have hF:F p=none:=by
  cases e:F p with
  | none=>rfl
  | some u=>rw[S.sub _ _ e] at hp;cases hp
 have l:Le F as (upd F p o) as:=⟨gh hF,fun _ _ h=>h⟩
 refine⟨⟨fun a u e=>?_,S.nd,S.len,fun k a c h1 h2=>?_⟩,l⟩
 ·by_cases ha:a=p
  ·subst ha;rw[cU] at e ⊢;exact e
  ·rw[bH ha] at e ⊢;exact S.sub _ _ e
 ·obtain⟨q1,q2⟩:=S.cell k a c h1 h2;obtain⟨u,hu⟩:=q2.tracked;have ha:a≠p:=ee hu hp;exact⟨fun hn=>by rw[bH ha];exact q1 hn,q2.le l (bH ha)⟩
theorem av.alloc(S:av G F as H ce)(hp:H p=none){c:C}(hc:∀as',Le F as F as'->cR G F as' (upd H p o) p c):av G F (as++[p]) (upd H p o) (ce++[c])/\Le F as F (as++[p]):=by
 have hF:F p=none:=by
  cases e:F p with
  | none=>rfl
  | some u=>rw[S.sub _ _ e] at hp;cases hp
 have l:Le F as F (as++[p]):=⟨fun _ _ h=>h,fun k a h=>by
  have hk:k<as.length:=eF h;rw[getElem?_append_left hk];exact h⟩
 refine⟨⟨fun a u e=>?_,?_,by rw[length_append,length_append,S.len];rfl,fun k a c' h1 h2=>?_⟩,l⟩
 ·rw[bH (ee (S.sub _ _ e) hp)];exact S.sub _ _ e
 ·rw[nodup_append];refine⟨S.nd,by simp,fun a ha b hb=>?_⟩;obtain⟨k,hk⟩:=getElem?_of_mem ha;obtain⟨u,hu⟩:=S.tracked hk;rw[mem_singleton] at hb;subst hb;exact ee hu hp
 ·by_cases hk:k<ce.length
  ·rw[getElem?_append_left (by rw[S.len];exact hk)] at h1;rw[getElem?_append_left hk] at h2;obtain⟨q1,q2⟩:=S.cell k a c' h1 h2;obtain⟨u,hu⟩:=q2.tracked;exact⟨q1,q2.le l (bH (ee hu hp))⟩
  ·rw[getElem?_append_right (by rw[S.len];omega)] at h1;rw[getElem?_append_right (by omega)] at h2;have e:k-as.length=0:=by
    cases q:k-as.length with
    | zero=>rfl
    | succ n=>rw[q] at h1;simp at h1
   rw[e] at h1;rw[<- S.len,e] at h2;simp at h1 h2;subst h1;subst h2;exact⟨fun _=>hF,hc _ l⟩
theorem av.write(S:av G F as H ce)(h1:as[k]?=some a){c:C}(hc:cR G F as (upd H a o) a c)(hm:∃o',H a=some o'/\Ie o'=true:=by exact⟨_,by assumption,rfl⟩):av G F as (upd H a o) (ce.set k c):=by
 have hk:k<ce.length:=by rw[<- S.len];exact eF h1
 have e:ce[k]?=some ce[k]:=getElem?_eq_getElem hk;obtain⟨q1,q2⟩:=S.cell k a _ h1 e;have q1:F a=none:=by
  cases ek:ce[k] with
  | fzd xs =>
   rw[ek] at q2;obtain⟨o1,ps,_,e2,_⟩:=q2;obtain⟨o',e3,hn⟩:=hm;rw[e2] at e3;cases e3;cases hn
  | _=>exact q1 (by rw[ek];rfl)
 refine⟨fun b u e'=>?_,S.nd,by rw[length_set];exact S.len,fun j b c' h1' h2'=>?_⟩
 ·rw[bH (fun z=>by subst z;rw[q1] at e';cases e')];exact S.sub _ _ e'
 ·by_cases hj:k=j
  ·subst hj;rw[getElem?_set_self hk] at h2';rw[h1] at h1';cases h1';cases h2';exact⟨fun _=>q1,hc⟩
  ·rw[getElem?_set_ne hj] at h2';obtain⟨p1,p2⟩:=S.cell j b c' h1' h2';have hb:b≠a:=fun z=>by
    subst z;have hj':j<as.length:=eF h1';have hk':k<as.length:=by rw[S.len];exact hk
    have e1:as[k]=as[j]:=by rw[getElem?_eq_getElem hk'] at h1;rw[getElem?_eq_getElem hj'] at h1';exact(Option.some.inj h1).trans (Option.some.inj h1').symm
    exact hj (oG S.nd hk' hj' e1)
   exact⟨p1,p2.le .refl (bH hb)⟩
end
def au{α β:Type}(m:M α)(f:α->M β):M β:=fun ce=>match m ce with
 | some (.ok a ce')=>f a ce'
 | some (.ex x ce')=>some (.ex x ce')
 | none=>none
def ret{α:Type}(a:α):M α:=fun ce=>some (.ok a ce)
def look{α:Type}(f:Ce->Option α):M α:=fun ce=>(f ce).map fun a=>R.ok a ce
def jn{α:Type}:M α:=fun _=>none
def aG{α β:Type}(G:Ga)(E:XK)(RP:Hp->List Addr->α->β->Prop)(F:Hp)(as:List Addr)(σ:VS.St)(sl:Sl)(Q:β->Hp->Prop):Option (R α)->Prop
 | some (.ok a ce')=>∀b H' F' as',Le F as F' as'->SR G F' as' H' σ sl ce'->RP F' as' a b->Q b H'
 | some (.ex x ce')=>∀H' F' as' cv od,Le F as F' as'->av G F' as' H' ce'->G.xr x cv od F'->E cv od H'
 | none=>False
def toT{α β:Type}(G:Ga)(E:XK)(RP:Hp->List Addr->α->β->Prop)(d:Sl->M α):VS.St->Hp->(β->Hp->Prop)->Prop :=
 fun σ H Q=>∃F as sl ce,SR G F as H σ sl ce/\aG G E RP F as σ sl Q (d sl ce)
def rB:Hp->List Addr->Bool->Bool->Prop:=fun _ _ a b=>a=b
abbrev ar(G:Ga)(E:XK)(d:Sl->M W):TE:=toT G E Rep d
abbrev cb(G:Ga)(E:XK)(d:Sl->M Bool):TT:=toT G E rB d
abbrev eT(G:Ga)(E:XK)(d:Sl->M (List W)):TA:=toT G E ag d
variable {E:XK}
section
variable {α β γ δ:Type} {RP:Hp->List Addr->α->β->Prop} {RQ:Hp->List Addr->γ->δ->Prop} {σ:VS.St}
theorem aG.le{Q:β->Hp->Prop}{r:Option (R α)}(l:Le F as F' as')(P:aG G E RP F as σ sl Q r):aG G E RP F' as' σ sl Q r:=by
 cases r with
 | none=>exact P
 | some r=>cases r with
  | ok a ce'=>exact fun b H' F2 as2 l2=>P b H' F2 as2 (l.trans l2)
  | ex x ce'=>exact fun H' F2 as2 cv od l2=>P H' F2 as2 cv od (l.trans l2)
theorem toT.mono{d:Sl->M α}{Q Q':β->Hp->Prop}(h:toT G E RP d σ H Q)(q:∀b H1,Q b H1->Q' b H1):toT G E RP d σ H Q':=by
 obtain⟨F,as,sl,ce,S,P⟩:=h;refine⟨F,as,sl,ce,S,?_⟩;revert P;cases d sl ce with
 | none=>exact fun P=>P
 | some r=>cases r with
  | ok a ce'=>exact fun P b H' F' as' l S' r=>q _ _ (P b H' F' as' l S' r)
  | ex x ce'=>exact fun P=>P
theorem step{d:Sl->M α}{f:α->M γ}{Q:δ->Hp->Prop}(S:SR G F as H σ sl ce)(P:aG G E RQ F as σ sl Q (au (d sl) f ce)) :
  toT G E RP d σ H fun b H2=>∃a F' as' ce',Le F as F' as'/\SR G F' as' H2 σ sl ce'/\RP F' as' a b/\aG G E RQ F' as' σ sl Q (f a ce'):=by
 refine⟨F,as,sl,ce,S,?_⟩;revert P;unfold au;cases d sl ce with
 | none=>exact fun P=>P
 | some r=>cases r with
  | ok a ce'=>exact fun P b H' F' as' l S' r=>⟨a,F',as',ce',l,S',r,P.le l⟩
  | ex x ce'=>exact fun P=>P
theorem iW{f:Ce->Option α}{Q:β->Hp->Prop}(P:aG G E RP F as σ sl Q (look f ce)):∃a,f ce=some a/\aG G E RP F as σ sl Q (some (.ok a ce)):=by
 revert P;unfold look;cases f ce with
 | none=>exact fun P=>P.elim
 | some a=>exact fun P=>⟨a,rfl,P⟩
theorem aG.done{a:α}{b:β}{Q:β->Hp->Prop}(S:SR G F as H σ sl ce)(P:aG G E RP F as σ sl Q (some (.ok a ce)))(r:RP F as a b):Q b H:=P b H F as .refl S r
end
variable {X:Cx} {e:Expr}
theorem PE.imp{t t':TE}(h:PE X e t)(q:∀σ H Q,t' σ H Q->t σ H Q):PE X e t':=fun pins s σ H Q I z=>h pins s σ H Q I (q _ _ _ z)
variable {t':TT}
theorem PT.imp{t:TT}(h:PT X e t)(q:∀σ H Q,t' σ H Q->t σ H Q):PT X e t':=fun pins s σ H Q I z=>h pins s σ H Q I (q _ _ _ z)
theorem PW.imp{t:TT}(h:PW X e t)(q:∀σ H Q,t' σ H Q->t σ H Q):PW X e t':=fun wh pins s σ H Q I z=>h wh pins s σ H Q I (q _ _ _ z)
theorem PA.imp{e:List Expr}{t t':TA}(h:PA X e t)(q:∀σ H Q,t' σ H Q->t σ H Q):PA X e t':=fun pos pins s σ H Q I z=>h pos pins s σ H Q I (q _ _ _ z)
theorem PS.imp{e:Stmt}{t t':TS}(h:PS X e t)(q:∀D σ H,t' D σ H->t D σ H):PS X e t':=fun pins s σ H Q I z=>h pins s σ H Q I (q _ _ _ z)
theorem PSs.imp{e:List Stmt}{t t':TS}(h:PSs X e t)(q:∀D σ H,t' D σ H->t D σ H):PSs X e t':=fun pins s σ H Q I z=>h pins s σ H Q I (q _ _ _ z)
def ae(i:Nat):Sl->M W:=fun sl ce=>match sl[i]? with
 | some (some w)=>some (.ok w ce)
 | _=>none
def dC(w:W):Sl->M W:=fun _=>ret w
def aE(f:W->W->Option W)(a b:Sl->M W):Sl->M W:=fun sl=>au (a sl) fun x=>au (b sl) fun y=>look fun _=>f x y
def bR(f:W->Option W)(a:Sl->M W):Sl->M W:=fun sl=>au (a sl) fun x=>look fun _=>f x
def iZ:W->Option V
 | .non=>some .non
 | .bl b=>some (.bl b)
 | .int i=>some (.int i)
 | .str x=>some (.str x)
 | .ty n=>some (.ty n)
 | _=>none
variable {u:V}
theorem Rep.sc(r:Rep F as w v)(e:iZ w=some u):v=u:=by
 cases w<;>simp only[iZ,Option.some.injEq,reduceCtorEq] at e<;>simp only[Rep] at r<;>(subst e;exact r)
theorem Rep.of_sc(e:iZ w=some u):Rep F as w u:=by cases w<;>simp only[iZ,Option.some.injEq,reduceCtorEq] at e<;>simp only[Rep]<;>exact e.symm
def mB(r:R2)(f:W->W->Option W):Prop:=∀x y w,f x y=some w->∃vx vy vw,iZ x=some vx/\iZ y=some vy/\iZ w=some vw/\∀H Q,Q vw H->r vx vy H Q
def i2(g:Int->Int->W):W->W->Option W
 | .int i,.int j=>some (g i j)
 | _,_=>none
open Classical in
def jG(c:Int->Int->Prop)(g:Int->Int->W):W->W->Option W
 | .int i,.int j=>if c i j then some (g i j) else none
 | _,_=>none
variable {g:Int->Int->W} {b:Expr} {da db dc d:Sl->M W} {pos:Pos} {f:W->W->Option W} {Q:VK} {op:CmpOp} {h:Int->Int->V}
section
variable {a c:Expr}
theorem af(i:Nat){x:Str}(hN:X.N[i]?=some x:=by rfl)(hv:lh X.env.scope x:=by first|exact Or.inl rfl|exact Or.inr (Or.inl rfl)|exact Or.inr (Or.inr rfl))(hd:(x==("__debug__" : Str))=false:=by decide)(hcd:(x==("__classdict__" : Str))=false:=by decide):PE X (.Name x pos) (ar G E (ae i)):=by
 refine PE.imp (lW hN hv hd hcd) fun σ H Q h=>?_;obtain⟨F,as,sl,ce,S,P⟩:=h;revert P;unfold ae;split
 ·rename_i w e;intro P;obtain⟨v,h1,h2⟩:=S.var e;exact⟨v,h1,P.done S h2⟩
 ·exact fun P=>P.elim
theorem lz(h:PE X e (tC v))(hs:iZ w=some v):PE X e (ar G E (dC w)):=by refine PE.imp h fun σ H Q h=>?_;obtain⟨F,as,sl,ce,S,P⟩:=h;exact P.done S (Rep.of_sc hs)
theorem aA{i j pos}:PE X (.Constant (.int i) j pos) (ar G E (dC (.int i))):=lz Cp rfl
theorem eV{i j pos}:PE X (.Constant (.bool i) j pos) (ar G E (dC (.bl i))):=lz A8 rfl
theorem fN{j pos}:PE X (.Constant .none j pos) (ar G E (dC .non)):=lz Co rfl
theorem jq{x j pos}:PE X (.Constant (.str x) j pos) (ar G E (dC (.str x))):=lz Cm rfl
theorem oF{r:R2}{f:W->W->M W}{σ:VS.St}(h:ar G E (fun sl=>au (da sl) fun x=>au (db sl) fun y=>f x y) σ H Q)(k:∀F as sl ce H2 x y wx wy,SR G F as H2 σ sl ce->Rep F as wx x->Rep F as wy y->aG G E Rep F as σ sl Q (f wx wy ce)->r x y H2 Q):k7 r (ar G E da) (ar G E db) σ H Q:=by obtain⟨F,as,sl,ce,S,P⟩:=h;refine(step S P).mono fun x H1 zz_=>aW zz_ fun wx F1 as1 ce1 l1 S1 rx P1=>(step S1 P1).mono fun y H2 zz_=>aW zz_ fun wy F2 as2 ce2 l2 S2 ry P2=>?_;exact k F2 as2 sl ce2 H2 x y wx wy S2 (rx.le l2) ry P2
theorem mU{op:Operator}{r:R2}(ho:dG X (binaryOp op) r)(hf:mB r f)(ha:PE X a (ar G E da))(hb:PE X b (ar G E db)):PE X (.BinOp a op b pos) (ar G E (aE f da db)):=by
 refine PE.imp (u6 ho ha hb) fun σ H Q h=>oF h fun F as sl ce H2 x y wx wy S rx ry P=>?_;revert P;unfold look;cases e:f wx wy with
 | none=>exact fun P=>P.elim
 | some w =>
  intro P;obtain⟨vx,vy,vw,e1,e2,e3,k⟩:=hf _ _ _ e;rw[rx.sc e1,ry.sc e2];exact k _ _ (P.done S (Rep.of_sc e3))
theorem vP{r:R2}(ho:dG X (compareOp op) r)(hf:mB r f)(ha:PE X a (ar G E da))(hb:PE X b (ar G E db))(hm:behindInMarks op b=false):PE X (.Compare a [op] [b] pos) (ar G E (aE f da db)):=by
 refine PE.imp (wM ho ha hb hm) fun σ H Q h=>oF h fun F as sl ce H2 x y wx wy S rx ry P=>?_;revert P;unfold look;cases e:f wx wy with
 | none=>exact fun P=>P.elim
 | some w =>
  intro P;obtain⟨vx,vy,vw,e1,e2,e3,k⟩:=hf _ _ _ e;rw[rx.sc e1,ry.sc e2];exact k _ _ (P.done S (Rep.of_sc e3))
theorem jX(q:∀i j,iZ (g i j)=some (h i j)):mB (jF h) (i2 g):=by intro x y w e;cases x<;>cases y<;>simp only[i2,Option.some.injEq,reduceCtorEq] at e;subst e;exact⟨_,_,_,rfl,rfl,q _ _,fun H Q hq=>⟨_,_,rfl,rfl,hq⟩⟩
theorem qS{c:Int->Int->Prop}(q:∀i j,iZ (g i j)=some (h i j)):mB (rI c h) (jG c g):=by
 intro x y w e;cases x<;>cases y<;>simp only[jG,reduceCtorEq] at e;split at e
 ·rename_i hc;cases e;exact⟨_,_,_,rfl,rfl,q _ _,fun H Q hq=>⟨_,_,rfl,rfl,hc,hq⟩⟩
 ·cases e
def cK:W->W->Option W:=i2 fun i j=>.int (i+j)
def eD:W->W->Option W:=i2 fun i j=>.int (i-j)
def eL:W->W->Option W:=jG d_ fun i j=>.int (i*j)
def bG:W->W->Option W:=jG (fun _ j=>0<j) fun i j=>.int (i % j)
def ko:W->W->Option W:=jG qk fun i j=>.int (i / j)
def mz:W->W->Option W:=i2 fun i j=>.bl (decide (i<j))
def jH:W->W->Option W:=i2 fun i j=>.bl (decide (i<=j))
def gq:W->W->Option W:=i2 fun i j=>.bl (decide (j<i))
def tT:W->W->Option W:=i2 fun i j=>.bl (decide (j<=i))
theorem eY(ha:PE X a (ar G E da))(hb:PE X b (ar G E db)):PE X (.BinOp a .Add b pos) (ar G E (aE cK da db)):=mU CA (jX fun _ _=>rfl) ha hb
theorem iM(ha:PE X a (ar G E da))(hb:PE X b (ar G E db)):PE X (.BinOp a .Sub b pos) (ar G E (aE eD da db)):=mU Cz (jX fun _ _=>rfl) ha hb
theorem j7(ha:PE X a (ar G E da))(hb:PE X b (ar G E db)):PE X (.BinOp a .Mult b pos) (ar G E (aE eL da db)):=mU Cy (qS fun _ _=>rfl) ha hb
theorem du(ha:PE X a (ar G E da))(hb:PE X b (ar G E db)):PE X (.BinOp a .Mod b pos) (ar G E (aE bG da db)):=mU Cw (qS fun _ _=>rfl) ha hb
theorem vO(ha:PE X a (ar G E da))(hb:PE X b (ar G E db)):PE X (.BinOp a .FloorDiv b pos) (ar G E (aE ko da db)):=mU DH (qS fun _ _=>rfl) ha hb
theorem z0(ha:PE X a (ar G E da))(hb:PE X b (ar G E db)):PE X (.Compare a [.Gt] [b] pos) (ar G E (aE gq da db)):=vP uJ (jX fun _ _=>rfl) ha hb (ic _)
def fH:W->Option W
 | .int i=>some (.int (-i))
 | _=>none
theorem lR(ha:PE X a (ar G E da)):PE X (.UnaryOp .USub a pos) (ar G E (bR fH da)):=by
 refine PE.imp (Bf Cv ha) fun σ H Q zz_=>bg zz_ fun F as sl ce S P=>(step S P).mono fun x H1 zz_=>aW zz_ fun wx F1 as1 ce1 l1 S1 rx P1=>?_;revert P1;unfold look fH;cases wx<;>first|exact fun P=>P.elim|skip
 simp only[Rep] at rx;subst rx;exact fun P=>⟨_,rfl,P.done S1 (by simp only[Rep])⟩
def c5:W->Bool
 | .non=>true
 | _=>false
def mL:W->Option W:=fun w=>some (.bl (c5 w))
def cG:W->Option W:=fun w=>some (.bl (!c5 w))
theorem Rep.isN(r:Rep F as w v):decide (v=.non)=c5 w:=by
 cases w<;>simp only[Rep] at r<;>first|(subst r;rfl)|(obtain⟨_,_,rfl,_⟩:=r;rfl)|(obtain⟨_,rfl,_⟩:=r;rfl)
theorem CW{j pos'}(ha:PE X a (ar G E da)):PE X (.Compare a [.IsNot] [.Constant .none j pos'] pos) (ar G E (bR cG da)):=by refine PE.imp (Cj (wQ ha)) fun σ H Q zz_=>bg zz_ fun F as sl ce S P=>(step S P).mono fun x H1 zz_=>aW zz_ fun wx F1 as1 ce1 l1 S1 rx P1=>?_;refine aG.done S1 (a:=W.bl _) P1 (by simp only[Rep];rw[rx.isN])
def fG(ce:Ce):W->Option Bool
 | .non=>some false
 | .bl b=>some b
 | .int i=>some (i != 0)
 | .str x=>if x.length<=sizeLine then some ((x.length:Int) != 0) else none
 | .lst xs=>some (!xs.isEmpty)
 | .tup xs=>some (!xs.isEmpty)
 | .cel k=>match ce[k]? with
  | some (.lst xs)=>some (!xs.isEmpty)
  | some (.dct xs)=>some (!xs.isEmpty)
  | _=>none
 | _=>none
theorem ag.empty(r:ag F as ws vs):vs.isEmpty=ws.isEmpty:=by have:=r.length;cases ws<;>cases vs<;>simp_all
theorem Rd.sub{G:Ga}{F:Hp}{as:List Addr}{H:Hp}{ce:Ce}(S:av G F as H ce){a:Addr}{o:HO}(r:Rd F a o):Rd H a o:=by
 rcases r with r|⟨u,r⟩
 ·exact .inl (S.sub _ _ r)
 ·exact .inr ⟨u,S.sub _ _ r⟩
theorem CV{k:Bool}(S:av G F as H ce)(r:Rep F as w v)(e:fG ce w=some k)(K:Frag):nY K v H k:=by
 cases w with
 | non=>simp only[Rep] at r;simp only[fG,Option.some.injEq] at e;subst r;exact e.symm
 | bl b=>simp only[Rep] at r;simp only[fG,Option.some.injEq] at e;subst r;exact e.symm
 | int i=>simp only[Rep] at r;simp only[fG,Option.some.injEq] at e;subst r;exact e.symm
 | str x =>
  simp only[Rep] at r;subst r;simp only[fG] at e;split at e
  ·rename_i h;exact⟨h,(Option.some.inj e).symm⟩
  ·cases e
 | ty n=>simp only[fG,reduceCtorEq] at e
 | lst xs =>
  simp only[Rep] at r;obtain⟨a,vs,rfl,h,rs⟩:=r;simp only[fG,Option.some.injEq] at e;exact .inl ⟨vs,.inl (Rd.sub S h),by rw[<- e,rs.empty]⟩
 | tup xs =>
  simp only[Rep] at r;obtain⟨a,vs,rfl,h,rs⟩:=r;simp only[fG,Option.some.injEq] at e;exact .inr (.inl ⟨vs,.inl (.inl (S.sub _ _ h)),by rw[<- e,rs.empty]⟩)
 | cel n =>
  simp only[Rep] at r;obtain⟨a,rfl,h⟩:=r;simp only[fG] at e;split at e
  ·rename_i xs hc;obtain⟨_,vs,h2,rs⟩:=S.cell _ _ _ h hc;exact .inl ⟨vs,.inl (.inl h2),by rw[<- Option.some.inj e,rs.empty]⟩
  ·rename_i xs hc;obtain⟨_,vs,h2,rs⟩:=S.cell _ _ _ h hc;refine .inr (.inr ⟨vs,h2,?_⟩);rw[<- Option.some.inj e];cases rs<;>rfl
  ·cases e
def g_(d:Sl->M W):Sl->M Bool:=fun sl=>au (d sl) fun w=>look fun ce=>fG ce w
theorem oE(ha:PE X a (ar G E da))(he:∀whole,isTrue a X.env whole=(do let v <- whole;standAt a.pos;holding [v] (truthy v)):=by intro _;rfl):PT X a (cb G E (g_ da)):=by refine PT.imp (z9 (K:=X.K) ha he) fun σ H Q zz_=>bg zz_ fun F as sl ce S P=>(step S P).mono fun x H1 zz_=>aW zz_ fun wx F1 as1 ce1 l1 S1 rx P1=>?_;obtain⟨k,e,P⟩:=iW P1;exact⟨k,CV S1.st rx e _,aG.done (RP:=rB) S1 P rfl⟩
def dB(d:Sl->M W):Sl->M Bool:=fun sl=>au (d sl) fun w=>look fun _=>match w with|.bl b=>some b|_=>none
theorem qv{t:TE}{σ:VS.St}{Q:Bool->Hp->Prop}(h:cb G E (dB d) σ H Q):tB (ar G E d) σ H Q:=by
 obtain⟨F,as,sl,ce,S,P⟩:=h;refine(step S P).mono fun x H1 zz_=>aW zz_ fun wx F1 as1 ce1 l1 S1 rx P1=>?_;revert P1;unfold look;cases wx<;>first|exact fun P=>P.elim|skip
 simp only[Rep] at rx;subst rx;exact fun P=>⟨_,rfl,P.done S1 rfl⟩
theorem ib(h:PE X e (ar G E d))(he:∀whole,isTrue e X.env whole=(do let v <- whole;standAt e.pos;holding [v] (truthy v)):=by intro _;rfl):PT X e (cb G E (dB d)) :=
 PT.imp (Cg h he) fun σ H Q q=>qv (t:=ar G E d) q
theorem lK{r:R2}(ho:dG X (compareOp op) r)(ha:PE X a (ar G E da))(hb:PE X b (ar G E db))(hm:behindInMarks op b=false)(q:∀σ H Q,ar G E d σ H Q->k7 r (ar G E da) (ar G E db) σ H Q):PT X (.Compare a [op] [b] pos) (cb G E (dB d)):=by refine PT.imp (DC ho ha hb hm) fun σ H Q h=>?_;exact q σ H _ (qv (t:=ar G E d) h)
theorem om(h:∃t,PC X op a b t/\∀σ H Q,ar G E d σ H Q->t σ H Q)(h1:behindInMarks op b=false):PT X (.Compare a [op] [b] pos) (cb G E (dB d)):=by obtain⟨t,h,q⟩:=h;exact PT.imp (Ci h h1) fun σ H Q z=>q _ _ _ (qv (t:=ar G E d) z)
end
mutual
def aP:W->W->Bool
 | .non,y=>match y with|.non=>true|_=>false
 | .bl a,y=>match y with|.bl b=>a==b|.int b=>(if a then 1 else 0)==b|_=>false
 | .int a,y=>match y with|.int b=>a==b|.bl b=>a==(if b then 1 else 0)|_=>false
 | .str a,y=>match y with|.str b=>a==b|_=>false
 | .lst xs,y=>match y with|.lst ys=>bw xs ys|_=>false
 | .tup xs,y=>match y with|.tup ys=>bw xs ys|_=>false
 | .ty _,_=>false
 | .cel _,_=>false
def bw:List W->List W->Bool
 | [],ys=>match ys with|[]=>true|_=>false
 | x::xs,ys=>match ys with|y::ys=>aP x y&&bw xs ys|[]=>false
end
def bM:Nat->W->Bool
 | _,.non=>true
 | _,.bl _=>true
 | _,.int _=>true
 | _,.str _=>true
 | _,.ty _=>false
 | _,.cel _=>false
 | 0,.lst _=>false
 | 0,.tup _=>false
 | n+1,.lst xs=>xs.all (bM n)
 | n+1,.tup xs=>xs.all (bM n)
variable {us:List V}
theorem GB(h:Rd F a (.lst vs))(h':Rd F a (.lst us)):vs=us:=by
 rcases h with h|⟨o,h⟩<;>rcases h' with h'|⟨o',h'⟩<;>(first|(rw[h] at h';cases h';rfl)|(rw[h] at h';cases h'))
theorem GA(h:Rd F a (.tup vs))(h':Rd F a (.tup us)):vs=us:=by
 rcases h with h|⟨o,h⟩<;>rcases h' with h'|⟨o',h'⟩<;>(first|(rw[h] at h';cases h';rfl)|(rw[h] at h';cases h'))
theorem xG(h:Rd F a (.lst vs))(h':Rd F a (.tup us)):False:=by
 rcases h with h|⟨o,h⟩<;>rcases h' with h'|⟨o',h'⟩<;>(rw[h] at h';cases h')
theorem CU:∀(n:Nat) {w w':W} {v:V},bM n w=true->bM n w'=true->Rep F as w v->Rep F as w' v->w=w':=by
 intro n
 induction n with
 | zero =>
  intro w w' v c c' r r';cases w<;>cases w'<;>simp only[bM,reduceCtorEq] at c c'<;>simp only[Rep] at r r'<;>(subst r;cases r')<;>rfl
 | succ n ih =>
  have its:∀{ws ws':List W} {vs:List V},ws.all (bM n)=true->ws'.all (bM n)=true->ag F as ws vs->ag F as ws' vs->ws=ws':=by
   intro ws
   induction ws with
   | nil =>
    intro ws' vs _ _ r r';simp only[ag] at r;subst r;cases ws' with
    | nil=>rfl
    | cons y ys=>simp only[ag] at r';obtain⟨v,r,e,_⟩:=r';cases e
   | cons x xs ihx =>
    intro ws' vs c c' r r';simp only[ag] at r;obtain⟨v,vs',rfl,h1,h2⟩:=r;cases ws' with
    | nil=>simp only[ag] at r';cases r'
    | cons y ys =>
     simp only[ag] at r';obtain⟨v',r',e,h3,h4⟩:=r';cases e;simp only[all_cons,and_eq_true] at c c';rw[ih c.1 c'.1 h1 h3,ihx c.2 c'.2 h2 h4]
  intro w w' v c c' r r';cases w<;>cases w'<;>simp only[bM,reduceCtorEq] at c c'<;>simp only[Rep] at r r'<;>first
   | (subst r;cases r';rfl)
   | (subst r;cases r';done)
   | (subst r;obtain⟨_,_,e,_⟩:=r';cases e)
   | (subst r';obtain⟨_,_,e,_⟩:=r;cases e)
   | (obtain⟨a,vs,rfl,q,s⟩:=r
      obtain⟨b,us,e,q',s'⟩:=r';cases e
      first
       | exact(xG q (.inl q')).elim
       | exact(xG q' (.inl q)).elim
       | (cases GB q q';rw[its c c' s s'])
       | (cases GA (.inl q) (.inl q');rw[its c c' s s']))
theorem xF:∀(n:Nat) {w:W},bM n w=true->aP w w=true:=by
 intro n
 induction n with
 | zero=>intro w c;cases w<;>simp_all[bM,aP]
 | succ n ih =>
  have its:∀{ws:List W},ws.all (bM n)=true->bw ws ws=true:=by
   intro ws
   induction ws with
   | nil=>intro _;simp[bw]
   | cons x xs ihx =>
    intro c;simp only[all_cons,and_eq_true] at c;simp only[bw,ih c.1,ihx c.2,Bool.and_self]
  intro w c;cases w<;>simp only[bM,reduceCtorEq] at c<;>first|(simp only[aP];exact its c)|simp[aP]
theorem sE:∀(xs ys:List W),xs.length=ys.length->bw xs ys=(List.range xs.length).all fun j=>match xs[j]?,ys[j]? with|some a,some b=>aP a b|_,_=>false
 | [],[],_=>by simp[bw]
 | x::xs,y::ys,h=>by
  have e:xs.length=ys.length:=by simpa using h
  simp only[bw];rw[sE xs ys e,length_cons,range_succ_eq_map,all_cons,all_map];rfl
 | [],_::_,h=>by simp at h
 | _::_,[],h=>by simp at h
theorem xE:∀{xs ys:List W},bw xs ys=true->xs.length=ys.length
 | [],[],_=>rfl
 | x::xs,y::ys,h=>by
  simp only[bw,and_eq_true] at h;simp only[length_cons,xE h.2]
 | [],_::_,h=>by simp[bw] at h
 | _::_,[],h=>by simp[bw] at h
variable {xs ys:List W}
theorem wZ(h:xs.length≠ys.length):bw xs ys=false:=by
 cases e:bw xs ys with
 | false=>rfl
 | true=>exact absurd (xE e) h
variable {pins:List (Addr×Obj)} {s:Shared} {A:Around} {zs:List W} {n:Nat}
section
variable {σ:VS.St}
theorem wY{ps qs:List Value}(it:∀{w z:W} {v u:V} {p q:Value},w∈ws->z∈zs->Rep F as w v->Rep F as z u->L2.RelV v p->L2.RelV u q->SeqAt.EqAt A s p q (aP w z))(h1:ag F as ws vs)(h2:ag F as zs us)(r1:Vals vs ps)(r2:Vals us qs) :
  ∀j (k1:j<ps.toArray.size) (k2:j<qs.toArray.size),SeqAt.EqAt A s ps.toArray[j] qs.toArray[j] (match ws[j]?,zs[j]? with|some a,some b=>aP a b|_,_=>false):=by
 intro j k1 k2;have k1':j<ps.length:=by simpa using k1
 have k2':j<qs.length:=by simpa using k2
 have l1:=r1.length;have l2:=r2.length;have e1:vs[j]?=some (vs[j]'(by omega)):=by simp
 have e2:us[j]?=some (us[j]'(by omega)):=by simp
 obtain⟨u,hu1,ru⟩:=r1.get e1;obtain⟨z,hz1,rz⟩:=r2.get e2;obtain⟨a,ha,ra⟩:=h1.get' e1;obtain⟨b,hb,rb⟩:=h2.get' e2;have eu:ps.toArray[j]=u:=by
  have:ps[j]?=some ps[j]:=by simp
  rw[hu1] at this;simpa using (Option.some.inj this).symm
 have ez:qs.toArray[j]=z:=by
  have:qs[j]?=some qs[j]:=by simp
  rw[hz1] at this;simpa using (Option.some.inj this).symm
 rw[eu,ez,ha,hb];exact it (mem_of_getElem? ha) (mem_of_getElem? hb) ra rb ru rz
theorem E7{b:Addr}(I:Inv X pins σ H s)(hu:A.units<cLine)(ha:cP X.K H a vs)(hb:cP X.K H b us)(h1:ag F as ws vs)(h2:ag F as zs us)(it:∀{w z:W} {v u:V} {p q:Value},w∈ws->z∈zs->Rep F as w v->Rep F as z u->L2.RelV v p->L2.RelV u q->SeqAt.EqAt A.in1 s p q (aP w z)) :
  SeqAt.RcAt A s (.ref a) (.ref b) (bw ws zs)/\SeqAt.RcNeAt A s (.ref a) (.ref b) (!bw ws zs):=by
 obtain⟨ps,r1,p1,z1⟩:=I.list ha;obtain⟨qs,r2,p2,z2⟩:=I.list hb;have l1:=r1.length;have l2:=r2.length;have l3:=h1.length;have l4:=h2.length
 by_cases hl:ws.length=zs.length
 ·have hsz:ps.toArray.size=qs.toArray.size:=by rw[size_toArray,size_toArray];omega
  have ia:=wY (A:=A.in1) it h1 h2 r1 r2;have a1:=SeqAt.RcAt.lists p1.isList p2.isList hsz hu ia;have a2:=SeqAt.RcNeAt.lists p1.isList p2.isList hsz hu ia;rw[size_toArray,show ps.length=ws.length by omega,<- sE ws zs hl] at a1 a2;exact⟨a1,a2⟩
 ·have hne:(ps.toArray.size != qs.toArray.size)=true:=by rw[size_toArray,size_toArray];simp;omega
  rw[wZ hl];exact⟨SeqAt.RcAt.lists_lengths p1.isList p2.isList hne hu,SeqAt.RcNeAt.lists_lengths p1.isList p2.isList hne hu⟩
theorem CT{b:Addr}(I:Inv X pins σ H s)(hu:A.units<cLine)(ha:eI X.K H a vs)(hb:eI X.K H b us)(h1:ag F as ws vs)(h2:ag F as zs us)(it:∀{w z:W} {v u:V} {p q:Value},w∈ws->z∈zs->Rep F as w v->Rep F as z u->L2.RelV v p->L2.RelV u q->SeqAt.EqAt A.in1 s p q (aP w z)) :
  SeqAt.RcAt A s (.ref a) (.ref b) (bw ws zs)/\SeqAt.RcNeAt A s (.ref a) (.ref b) (!bw ws zs):=by
 obtain⟨ps,r1,p1,z1⟩:=I.tuple ha;obtain⟨qs,r2,p2,z2⟩:=I.tuple hb;have l1:=r1.length;have l2:=r2.length;have l3:=h1.length;have l4:=h2.length;have ia:=wY (A:=A.in1) it h1 h2 r1 r2;have e:((List.range (min ps.toArray.size qs.toArray.size)).all (fun j=>match ws[j]?,zs[j]? with|some a,some b=>aP a b|_,_=>false)&&ps.toArray.size==qs.toArray.size)=bw ws zs:=by
  rw[size_toArray,size_toArray]
  by_cases hl:ws.length=zs.length
  ·have h1:ps.length=ws.length:=by omega
   have h2:qs.length=ws.length:=by omega
   rw[h1,h2,min_self,sE ws zs hl];simp
  ·have e1:(ps.length==qs.length)=false:=by simp;omega
   rw[e1,Bool.and_false,wZ hl]
 have a1:=SeqAt.RcAt.tuples p1 p2 hu ia;have a2:=SeqAt.RcNeAt.tuples p1 p2 hu ia;rw[e] at a1 a2;exact⟨a1,a2⟩
inductive Sh (F:Hp) (as:List Addr):W->V->Value->Prop where
 | non:Sh F as .non .non .none
 | bl (b:Bool):Sh F as (.bl b) (.bl b) (.bool b)
 | int (i:Int) (t:Tok):Sh F as (.int i) (.int i) (.int i t)
 | str (x:Str) (t:Tok):Sh F as (.str x) (.str x) (.str x t)
 | lst {xs:List W} {a:Addr} {vs:List V} (h:Rd F a (.lst vs)) (r:ag F as xs vs):Sh F as (.lst xs) (.ref a) (.ref a)
 | tup {xs:List W} {a:Addr} {vs:List V} (h:Rd F a (.tup vs)) (r:ag F as xs vs):Sh F as (.tup xs) (.ref a) (.ref a)
theorem oj{p:Value}(c:bM n w=true)(r:Rep F as w v)(rv:L2.RelV v p):Sh F as w v p:=by
 cases w with
 | non=>simp only[Rep] at r;subst r;cases rv;exact .non
 | bl b=>simp only[Rep] at r;subst r;cases rv;exact .bl b
 | int i=>simp only[Rep] at r;subst r;obtain⟨t,rfl⟩:=rv;exact .int i t
 | str i=>simp only[Rep] at r;subst r;obtain⟨t,rfl⟩:=rv;exact .str i t
 | ty i=>cases n<;>simp only[bM,reduceCtorEq] at c
 | cel i=>cases n<;>simp only[bM,reduceCtorEq] at c
 | lst xs=>simp only[Rep] at r;obtain⟨a,vs,rfl,h,q⟩:=r;cases rv;exact .lst h q
 | tup xs=>simp only[Rep] at r;obtain⟨a,vs,rfl,h,q⟩:=r;cases rv;exact .tup (.inl h) q
theorem ua(hs:∀a o,F a=some o->H a=some o)(I:Inv X pins σ H s):∀(n:Nat) {A:Around} {w z:W} {v u:V} {p q:Value},A.units+n<cLine->bM n w=true->bM n z=true->Rep F as w v->Rep F as z u->L2.RelV v p->L2.RelV u q ->
  SeqAt.RcAt A s p q (aP w z)/\SeqAt.RcNeAt A s p q (!aP w z)/\SeqAt.EqAt A s p q (aP w z):=by
 have sub:∀{a:Addr} {o:HO},Rd F a o->Rd H a o:=fun {a o} r=>by
  rcases r with r|⟨u,r⟩
  ·exact .inl (hs _ _ r)
  ·exact .inr ⟨u,hs _ _ r⟩
 have isL:∀{a:Addr} {vs:List V},Rd F a (.lst vs)->∃its,s.heap.IsList a its:=fun {a vs} h=>by
  obtain⟨its,_,p,_⟩:=I.list (.inl (sub h));exact⟨_,p.isList⟩
 have isT:∀{a:Addr} {vs:List V},Rd F a (.tup vs)->∃its,s.heap.IsTuple a its:=fun {a vs} h=>by
  obtain⟨its,_,p,_⟩:=I.tuple (.inl (sub h));exact⟨_,p⟩
 intro n
 induction n with
 | zero =>
  intro A w z v u p q hu c c' r r' rv ru;have sh:=oj c r rv;have sh':=oj c' r' ru;cases sh with
  | non =>
   cases sh' with
   | non =>
    simp only[aP];exact⟨SeqAt.RcAt.none_none ,SeqAt.RcNeAt.none_none ,SeqAt.EqAt.same _⟩
   | bl b2 =>
    simp only[aP];exact⟨SeqAt.RcAt.none_bool _,SeqAt.RcNeAt.none_bool _,SeqAt.EqAt.none_bool _⟩
   | int i2 t2 =>
    simp only[aP];exact⟨SeqAt.RcAt.none_int _ _,SeqAt.RcNeAt.none_int _ _,SeqAt.EqAt.none_int _ _⟩
   | str x2 t2 =>
    simp only[aP];exact⟨SeqAt.RcAt.none_str _ _,SeqAt.RcNeAt.none_str _ _,SeqAt.EqAt.none_str _ _⟩
   | lst q2 s2 =>
    simp only[bM,reduceCtorEq] at c'
   | tup q2 s2 =>
    simp only[bM,reduceCtorEq] at c'
  | bl b =>
   cases sh' with
   | non =>
    simp only[aP];exact⟨SeqAt.RcAt.bool_none _,SeqAt.RcNeAt.bool_none _,SeqAt.EqAt.bool_none _⟩
   | bl b2 =>
    simp only[aP];exact⟨SeqAt.RcAt.bool_bool _ _,SeqAt.RcNeAt.bool_bool _ _,SeqAt.EqAt.bool_bool _ _⟩
   | int i2 t2 =>
    simp only[aP];exact⟨SeqAt.RcAt.bool_int _ _ _,SeqAt.RcNeAt.bool_int _ _ _,SeqAt.EqAt.bool_int _ _ _⟩
   | str x2 t2 =>
    simp only[aP];exact⟨SeqAt.RcAt.bool_str _ _ _,SeqAt.RcNeAt.bool_str _ _ _,SeqAt.EqAt.bool_str _ _ _⟩
   | lst q2 s2 =>
    simp only[bM,reduceCtorEq] at c'
   | tup q2 s2 =>
    simp only[bM,reduceCtorEq] at c'
  | int i t =>
   cases sh' with
   | non =>
    simp only[aP];exact⟨SeqAt.RcAt.int_none _ _,SeqAt.RcNeAt.int_none _ _,SeqAt.EqAt.int_none _ _⟩
   | bl b2 =>
    simp only[aP];exact⟨SeqAt.RcAt.int_bool _ _ _,SeqAt.RcNeAt.int_bool _ _ _,SeqAt.EqAt.int_bool _ _ _⟩
   | int i2 t2 =>
    simp only[aP];exact⟨SeqAt.RcAt.int_int _ _ _ _,SeqAt.RcNeAt.int_int _ _ _ _,SeqAt.EqAt.int_int _ _ _ _⟩
   | str x2 t2 =>
    simp only[aP];exact⟨SeqAt.RcAt.int_str _ _ _ _,SeqAt.RcNeAt.int_str _ _ _ _,SeqAt.EqAt.int_str _ _ _ _⟩
   | lst q2 s2 =>
    simp only[bM,reduceCtorEq] at c'
   | tup q2 s2 =>
    simp only[bM,reduceCtorEq] at c'
  | str x t =>
   cases sh' with
   | non =>
    simp only[aP];exact⟨SeqAt.RcAt.str_none _ _,SeqAt.RcNeAt.str_none _ _,SeqAt.EqAt.str_none _ _⟩
   | bl b2 =>
    simp only[aP];exact⟨SeqAt.RcAt.str_bool _ _ _,SeqAt.RcNeAt.str_bool _ _ _,SeqAt.EqAt.str_bool _ _ _⟩
   | int i2 t2 =>
    simp only[aP];exact⟨SeqAt.RcAt.str_int _ _ _ _,SeqAt.RcNeAt.str_int _ _ _ _,SeqAt.EqAt.str_int _ _ _ _⟩
   | str x2 t2 =>
    simp only[aP];exact⟨SeqAt.RcAt.str_str _ _ _ _,SeqAt.RcNeAt.str_str _ _ _ _,SeqAt.EqAt.str_str _ _ _ _⟩
   | lst q2 s2 =>
    simp only[bM,reduceCtorEq] at c'
   | tup q2 s2 =>
    simp only[bM,reduceCtorEq] at c'
  | lst q1 s1 =>
   simp only[bM,reduceCtorEq] at c
  | tup q1 s1 =>
   simp only[bM,reduceCtorEq] at c
 | succ n ih =>
  intro A w z v u p q hu c c' r r' rv ru;have hu0:A.units<cLine:=by omega
  have hu1:A.in1.units+n<cLine:=by show A.units+1+n<cLine;omega
  have ref:∀{a b:Addr},v=.ref a->u=.ref b->(SeqAt.RcAt A s (.ref a) (.ref b) (aP w z)/\SeqAt.RcNeAt A s (.ref a) (.ref b) (!aP w z))->SeqAt.RcAt A s (.ref a) (.ref b) (aP w z)/\SeqAt.RcNeAt A s (.ref a) (.ref b) (!aP w z)/\SeqAt.EqAt A s (.ref a) (.ref b) (aP w z):=by
   intro a b e1 e2 ⟨h1,h2⟩;subst e1 e2;refine⟨h1,h2,?_⟩
   by_cases e:a=b
   ·subst e;rw[CU (n+1) c c' r r',xF (n+1) c'];exact SeqAt.EqAt.same _
   ·exact SeqAt.EqAt.of_refs e h1
  have sh:=oj c r rv;have sh':=oj c' r' ru;cases sh with
  | non =>
   cases sh' with
   | non =>
    simp only[aP];exact⟨SeqAt.RcAt.none_none ,SeqAt.RcNeAt.none_none ,SeqAt.EqAt.same _⟩
   | bl b2 =>
    simp only[aP];exact⟨SeqAt.RcAt.none_bool _,SeqAt.RcNeAt.none_bool _,SeqAt.EqAt.none_bool _⟩
   | int i2 t2 =>
    simp only[aP];exact⟨SeqAt.RcAt.none_int _ _,SeqAt.RcNeAt.none_int _ _,SeqAt.EqAt.none_int _ _⟩
   | str x2 t2 =>
    simp only[aP];exact⟨SeqAt.RcAt.none_str _ _,SeqAt.RcNeAt.none_str _ _,SeqAt.EqAt.none_str _ _⟩
   | lst q2 s2 =>
    obtain⟨_,p1⟩:=isL q2;simp only[aP];exact⟨SeqAt.RcAt.none_list p1 hu0,SeqAt.RcNeAt.none_list p1 hu0,SeqAt.EqAt.none_list p1 hu0⟩
   | tup q2 s2 =>
    obtain⟨_,p1⟩:=isT q2;simp only[aP];exact⟨SeqAt.RcAt.none_tuple p1 hu0,SeqAt.RcNeAt.none_tuple p1 hu0,SeqAt.EqAt.none_tuple p1 hu0⟩
  | bl b =>
   cases sh' with
   | non =>
    simp only[aP];exact⟨SeqAt.RcAt.bool_none _,SeqAt.RcNeAt.bool_none _,SeqAt.EqAt.bool_none _⟩
   | bl b2 =>
    simp only[aP];exact⟨SeqAt.RcAt.bool_bool _ _,SeqAt.RcNeAt.bool_bool _ _,SeqAt.EqAt.bool_bool _ _⟩
   | int i2 t2 =>
    simp only[aP];exact⟨SeqAt.RcAt.bool_int _ _ _,SeqAt.RcNeAt.bool_int _ _ _,SeqAt.EqAt.bool_int _ _ _⟩
   | str x2 t2 =>
    simp only[aP];exact⟨SeqAt.RcAt.bool_str _ _ _,SeqAt.RcNeAt.bool_str _ _ _,SeqAt.EqAt.bool_str _ _ _⟩
   | lst q2 s2 =>
    obtain⟨_,p1⟩:=isL q2;simp only[aP];exact⟨SeqAt.RcAt.bool_list _ p1 hu0,SeqAt.RcNeAt.bool_list _ p1 hu0,SeqAt.EqAt.bool_list _ p1 hu0⟩
   | tup q2 s2 =>
    obtain⟨_,p1⟩:=isT q2;simp only[aP];exact⟨SeqAt.RcAt.bool_tuple _ p1 hu0,SeqAt.RcNeAt.bool_tuple _ p1 hu0,SeqAt.EqAt.bool_tuple _ p1 hu0⟩
  | int i t =>
   cases sh' with
   | non =>
    simp only[aP];exact⟨SeqAt.RcAt.int_none _ _,SeqAt.RcNeAt.int_none _ _,SeqAt.EqAt.int_none _ _⟩
   | bl b2 =>
    simp only[aP];exact⟨SeqAt.RcAt.int_bool _ _ _,SeqAt.RcNeAt.int_bool _ _ _,SeqAt.EqAt.int_bool _ _ _⟩
   | int i2 t2 =>
    simp only[aP];exact⟨SeqAt.RcAt.int_int _ _ _ _,SeqAt.RcNeAt.int_int _ _ _ _,SeqAt.EqAt.int_int _ _ _ _⟩
   | str x2 t2 =>
    simp only[aP];exact⟨SeqAt.RcAt.int_str _ _ _ _,SeqAt.RcNeAt.int_str _ _ _ _,SeqAt.EqAt.int_str _ _ _ _⟩
   | lst q2 s2 =>
    obtain⟨_,p1⟩:=isL q2;simp only[aP];exact⟨SeqAt.RcAt.int_list _ _ p1 hu0,SeqAt.RcNeAt.int_list _ _ p1 hu0,SeqAt.EqAt.int_list _ _ p1 hu0⟩
   | tup q2 s2 =>
    obtain⟨_,p1⟩:=isT q2;simp only[aP];exact⟨SeqAt.RcAt.int_tuple _ _ p1 hu0,SeqAt.RcNeAt.int_tuple _ _ p1 hu0,SeqAt.EqAt.int_tuple _ _ p1 hu0⟩
  | str x t =>
   cases sh' with
   | non =>
    simp only[aP];exact⟨SeqAt.RcAt.str_none _ _,SeqAt.RcNeAt.str_none _ _,SeqAt.EqAt.str_none _ _⟩
   | bl b2 =>
    simp only[aP];exact⟨SeqAt.RcAt.str_bool _ _ _,SeqAt.RcNeAt.str_bool _ _ _,SeqAt.EqAt.str_bool _ _ _⟩
   | int i2 t2 =>
    simp only[aP];exact⟨SeqAt.RcAt.str_int _ _ _ _,SeqAt.RcNeAt.str_int _ _ _ _,SeqAt.EqAt.str_int _ _ _ _⟩
   | str x2 t2 =>
    simp only[aP];exact⟨SeqAt.RcAt.str_str _ _ _ _,SeqAt.RcNeAt.str_str _ _ _ _,SeqAt.EqAt.str_str _ _ _ _⟩
   | lst q2 s2 =>
    obtain⟨_,p1⟩:=isL q2;simp only[aP];exact⟨SeqAt.RcAt.str_list _ _ p1 hu0,SeqAt.RcNeAt.str_list _ _ p1 hu0,SeqAt.EqAt.str_list _ _ p1 hu0⟩
   | tup q2 s2 =>
    obtain⟨_,p1⟩:=isT q2;simp only[aP];exact⟨SeqAt.RcAt.str_tuple _ _ p1 hu0,SeqAt.RcNeAt.str_tuple _ _ p1 hu0,SeqAt.EqAt.str_tuple _ _ p1 hu0⟩
  | lst q1 s1 =>
   cases sh' with
   | non =>
    obtain⟨_,p1⟩:=isL q1;simp only[aP];exact⟨SeqAt.RcAt.list_none p1 hu0,SeqAt.RcNeAt.list_none p1 hu0,SeqAt.EqAt.list_none p1 hu0⟩
   | bl b2 =>
    obtain⟨_,p1⟩:=isL q1;simp only[aP];exact⟨SeqAt.RcAt.list_bool _ p1 hu0,SeqAt.RcNeAt.list_bool _ p1 hu0,SeqAt.EqAt.list_bool _ p1 hu0⟩
   | int i2 t2 =>
    obtain⟨_,p1⟩:=isL q1;simp only[aP];exact⟨SeqAt.RcAt.list_int _ _ p1 hu0,SeqAt.RcNeAt.list_int _ _ p1 hu0,SeqAt.EqAt.list_int _ _ p1 hu0⟩
   | str x2 t2 =>
    obtain⟨_,p1⟩:=isL q1;simp only[aP];exact⟨SeqAt.RcAt.list_str _ _ p1 hu0,SeqAt.RcNeAt.list_str _ _ p1 hu0,SeqAt.EqAt.list_str _ _ p1 hu0⟩
   | lst q2 s2 =>
    refine ref rfl rfl ?_;simp only[aP];simp only[bM] at c c';exact E7 I hu0 (.inl (sub q1)) (.inl (sub q2)) s1 s2 fun {w z v u p q} m m' r r' rv ru=>(ih hu1 (all_eq_true.mp c _ m) (all_eq_true.mp c' _ m') r r' rv ru).2.2
   | tup q2 s2 =>
    refine ref rfl rfl ?_;simp only[aP];obtain⟨_,p1⟩:=isL q1;obtain⟨_,p2⟩:=isT q2;exact⟨SeqAt.RcAt.list_tuple p1 p2 hu0,SeqAt.RcNeAt.list_tuple p1 p2 hu0⟩
  | tup q1 s1 =>
   cases sh' with
   | non =>
    obtain⟨_,p1⟩:=isT q1;simp only[aP];exact⟨SeqAt.RcAt.tuple_none p1 hu0,SeqAt.RcNeAt.tuple_none p1 hu0,SeqAt.EqAt.tuple_none p1 hu0⟩
   | bl b2 =>
    obtain⟨_,p1⟩:=isT q1;simp only[aP];exact⟨SeqAt.RcAt.tuple_bool _ p1 hu0,SeqAt.RcNeAt.tuple_bool _ p1 hu0,SeqAt.EqAt.tuple_bool _ p1 hu0⟩
   | int i2 t2 =>
    obtain⟨_,p1⟩:=isT q1;simp only[aP];exact⟨SeqAt.RcAt.tuple_int _ _ p1 hu0,SeqAt.RcNeAt.tuple_int _ _ p1 hu0,SeqAt.EqAt.tuple_int _ _ p1 hu0⟩
   | str x2 t2 =>
    obtain⟨_,p1⟩:=isT q1;simp only[aP];exact⟨SeqAt.RcAt.tuple_str _ _ p1 hu0,SeqAt.RcNeAt.tuple_str _ _ p1 hu0,SeqAt.EqAt.tuple_str _ _ p1 hu0⟩
   | lst q2 s2 =>
    refine ref rfl rfl ?_;simp only[aP];obtain⟨_,p1⟩:=isT q1;obtain⟨_,p2⟩:=isL q2;exact⟨SeqAt.RcAt.tuple_list p1 p2 hu0,SeqAt.RcNeAt.tuple_list p1 p2 hu0⟩
   | tup q2 s2 =>
    refine ref rfl rfl ?_;simp only[aP];simp only[bM] at c c';exact CT I hu0 (.inl (sub q1)) (.inl (sub q2)) s1 s2 fun {w z v u p q} m m' r r' rv ru=>(ih hu1 (all_eq_true.mp c _ m) (all_eq_true.mp c' _ m') r r' rv ru).2.2
end
def fh(ce:Ce):W->W
 | .cel k=>match ce[k]? with
  | some (.lst xs)=>.lst xs
  | _=>.cel k
 | w=>w
def bV(ce:Ce):W->Option (List W)
 | .lst xs=>some xs
 | .cel k=>match ce[k]? with
  | some (.lst xs)=>some xs
  | _=>none
 | _=>none
def fi(ce:Ce):W->Option (List W)
 | .tup xs=>some xs
 | w=>bV ce w
def lx(ce:Ce):W->Option (List (Key×W))
 | .cel k=>match ce[k]? with
  | some (.dct xs)=>some xs
  | _=>none
 | _=>none
def lu(ce:Ce):W->Option (List (Key×W))
 | .cel k=>match ce[k]? with
  | some (.dct xs)=>some xs
  | some (.fzd xs)=>some xs
  | _=>none
 | _=>none
def gR:W->Option Key
 | .int i=>some (.inl i)
 | .str x=>some (.inr x)
 | _=>none
theorem av.toH(S:av G F as H ce):Le F as H as:=⟨S.sub,fun _ _ h=>h⟩
theorem wX(S:av G F as H ce)(r:Rep F as w v):Rep H as (fh ce w) v:=by
 cases w with
 | cel k =>
  simp only[fh];split
  ·rename_i xs hc;simp only[Rep] at r ⊢;obtain⟨a,rfl,h⟩:=r;obtain⟨_,vs,h2,rs⟩:=S.cell _ _ _ h hc;exact⟨a,vs,rfl,.inl h2,rs.le S.toH⟩
  ·exact r.le S.toH
 | _=>exact r.le S.toH
theorem iR(S:av G F as H ce)(r:Rep F as w v)(e:bV ce w=some xs):∃a vs,v=.ref a/\Rd H a (.lst vs)/\ag F as xs vs:=by
 cases w<;>simp only[bV,reduceCtorEq,Option.some.injEq] at e
 ·subst e;simp only[Rep] at r;obtain⟨a,vs,rfl,h,q⟩:=r;exact⟨a,vs,rfl,Rd.sub S h,q⟩
 ·split at e
  ·rename_i xs' hc;cases e;simp only[Rep] at r;obtain⟨a,rfl,h⟩:=r;obtain⟨_,vs,h2,rs⟩:=S.cell _ _ _ h hc;exact⟨a,vs,rfl,.inl h2,rs⟩
  ·cases e
theorem rS(S:av G F as H ce)(r:Rep F as w v)(e:fi ce w=some xs):∃a vs,v=.ref a/\(Rd H a (.lst vs)\/Rd H a (.tup vs))/\ag F as xs vs:=by
 cases w with
 | tup ys =>
  simp only[fi,Option.some.injEq] at e;subst e;simp only[Rep] at r;obtain⟨a,vs,rfl,h,q⟩:=r;exact⟨a,vs,rfl,.inr (.inl (S.sub _ _ h)),q⟩
 | _ =>
  obtain⟨a,vs,h1,h2,h3⟩:=iR S r e;exact⟨a,vs,h1,.inl h2,h3⟩
theorem wW{xs:List (Key×W)}(S:av G F as H ce)(r:Rep F as w v)(e:lx ce w=some xs):∃k a ps,w=.cel k/\v=.ref a/\as[k]?=some a/\H a=some (.dK ps)/\az F as xs ps:=by
 cases w<;>simp only[lx,reduceCtorEq] at e;split at e
 ·rename_i k xs' hc;cases e;simp only[Rep] at r;obtain⟨a,rfl,h⟩:=r;obtain⟨_,ps,h2,rs⟩:=S.cell _ _ _ h hc;exact⟨_,a,ps,rfl,rfl,h,h2,rs⟩
 ·cases e
theorem xD{xs:List (Key×W)}(S:av G F as H ce)(r:Rep F as w v)(e:lu ce w=some xs):∃k a ps,w=.cel k/\v=.ref a/\as[k]?=some a/\Rd H a (.dK ps)/\az F as xs ps:=by
 cases w<;>simp only[lu,reduceCtorEq] at e;split at e
 ·rename_i k xs' hc;cases e;simp only[Rep] at r;obtain⟨a,rfl,h⟩:=r;obtain⟨_,ps,h2,rs⟩:=S.cell _ _ _ h hc;exact⟨_,a,ps,rfl,rfl,h,.inl h2,rs⟩
 ·rename_i k xs' hc;cases e;simp only[Rep] at r;obtain⟨a,rfl,h⟩:=r;obtain⟨_,o,ps,_,h2,rs⟩:=S.cell _ _ _ h hc;exact⟨_,a,ps,rfl,rfl,h,.inr ⟨o,h2⟩,rs⟩
 ·cases e
theorem rR{k:Key}(r:Rep F as w v)(e:gR w=some k):v=kV k:=by cases w<;>simp only[gR,reduceCtorEq,Option.some.injEq] at e<;>subst e<;>simp only[Rep] at r<;>exact r
def p7(ng:Bool):R2:=fun x y H Q=>∃as w z,Rep H as w x/\Rep H as z y/\bM 8 w=true/\bM 8 z=true/\Q (.bl (if ng then !aP w z else aP w z)) H
theorem vN(hu:X.A.units+8<cLine):dG X (compareOp .Eq) (p7 false):=by intro pins s σ H x y v u Q I rx ry ⟨as,w,z,r1,r2,c1,c2,q⟩;exact(ua (fun _ _ h=>h) I 8 hu c1 c2 r1 r2 rx ry).1 X.prog X.w X.xe _ ⟨.bl _,H,I,rfl,q⟩
theorem Bl(hu:X.A.units+8<cLine):dG X (compareOp .NotEq) (p7 true):=by intro pins s σ H x y v u Q I rx ry ⟨as,w,z,r1,r2,c1,c2,q⟩;exact(ua (fun _ _ h=>h) I 8 hu c1 c2 r1 r2 rx ry).2.1 X.prog X.w X.xe _ ⟨.bl _,H,I,rfl,q⟩
def bD(ng:Bool)(ce:Ce)(x y:W):Option W:=if (bM 8 (fh ce x)&&bM 8 (fh ce y))=true then some (.bl (if ng then !aP (fh ce x) (fh ce y) else aP (fh ce x) (fh ce y))) else none
def Jq(ng:Bool)(ce:Ce)(x y:W):Option W:=match fi ce y with
 | some ys=>if (bM 8 (fh ce x)&&ys.all (bM 8))=true then some (.bl (if ng then !ys.any (aP · (fh ce x)) else ys.any (aP · (fh ce x)))) else none
 | none=>none
def aI(f:Ce->W->W->Option W)(a b:Sl->M W):Sl->M W:=fun sl=>au (a sl) fun x=>au (b sl) fun y=>look fun ce=>f ce x y
section
variable {a c:Expr}
def kh(r:R2)(f:Ce->W->W->Option W):Prop:=∀(G:Ga) F as H ce x y wx wy w,av G F as H ce->Rep F as wx x->Rep F as wy y->f ce wx wy=some w->∀Q:VK,(∀v,Rep F as w v->Q v H)->r x y H Q
theorem j9{r:R2}{f:Ce->W->W->Option W}(hf:kh r f)(σ:L2.St)(H:Hp)(Q:VK)(h:ar G E (aI f da db) σ H Q):k7 r (ar G E da) (ar G E db) σ H Q:=by refine oF h fun F as sl ce H2 x y wx wy S rx ry P=>?_;obtain⟨w,e,P⟩:=iW P;exact hf G F as H2 ce x y wx wy w S.st rx ry e Q fun v r=>P.done S r
theorem qR(ng:Bool):kh (p7 ng) (bD ng):=by
 intro G F as H ce x y wx wy w S rx ry e Q q;unfold bD at e;split at e
 ·rename_i hc;rw[and_eq_true] at hc;cases e;exact⟨as,_,_,wX S rx,wX S ry,hc.1,hc.2,q _ (by simp only[Rep])⟩
 ·cases e
theorem lJ(hu:X.A.units+8<cLine)(ha:PE X a (ar G E da))(hb:PE X b (ar G E db)):PE X (.Compare a [.Eq] [b] pos) (ar G E (aI (bD false) da db)):=PE.imp (wM (vN hu) ha hb (ic _)) (j9 (qR false))
theorem jW(hu:X.A.units+8<cLine)(ha:PE X a (ar G E da))(hb:PE X b (ar G E db)):PT X (.Compare a [.Eq] [b] pos) (cb G E (dB (aI (bD false) da db))):=lK (vN hu) ha hb (ic _) (j9 (qR false))
theorem jV(hu:X.A.units+8<cLine)(ha:PE X a (ar G E da))(hb:PE X b (ar G E db)):PT X (.Compare a [.NotEq] [b] pos) (cb G E (dB (aI (bD true) da db))):=lK (Bl hu) ha hb (ic _) (j9 (qR true))
theorem lQ{r:R2}(hf:mB r f):kh r (fun _=>f):=by intro G F as H ce x y wx wy w S rx ry e Q q;obtain⟨vx,vy,vw,e1,e2,e3,k⟩:=hf _ _ _ e;rw[rx.sc e1,ry.sc e2];exact k _ _ (q _ (Rep.of_sc e3))
theorem uB(ha:PE X a (ar G E da))(hb:PE X b (ar G E db)):PT X (.Compare a [.Lt] [b] pos) (cb G E (dB (aE mz da db))):=lK Be ha hb (ic _) (j9 (lQ (jX fun _ _=>rfl)))
theorem oi(ha:PE X a (ar G E da))(hb:PE X b (ar G E db)):PT X (.Compare a [.Gt] [b] pos) (cb G E (dB (aE gq da db))):=lK uJ ha hb (ic _) (j9 (lQ (jX fun _ _=>rfl)))
theorem zZ(ha:PE X a (ar G E da))(hb:PE X b (ar G E db)):PT X (.Compare a [.GtE] [b] pos) (cb G E (dB (aE tT da db))):=lK Bc ha hb (ic _) (j9 (lQ (jX fun _ _=>rfl)))
theorem qQ{j pos'}(ha:PE X a (ar G E da)):PT X (.Compare a [.Is] [.Constant .none j pos'] pos) (cb G E (dB (bR mL da))) :=
 om ⟨_,Ck ha,fun σ H Q zz_=>bg zz_ fun F as sl ce S P=>(step S P).mono fun x H1 zz_=>aW zz_ fun wx F1 as1 ce1 l1 S1 rx P1=>aG.done S1 (a:=W.bl _) P1 (by simp only[Rep];rw[rx.isN])⟩ (ic _)
theorem gY{j pos'}(ha:PE X a (ar G E da)):PT X (.Compare a [.IsNot] [.Constant .none j pos'] pos) (cb G E (dB (bR cG da))) :=
 om ⟨_,wQ ha,fun σ H Q zz_=>bg zz_ fun F as sl ce S P=>(step S P).mono fun x H1 zz_=>aW zz_ fun wx F1 as1 ce1 l1 S1 rx P1=>aG.done S1 (a:=W.bl _) P1 (by simp only[Rep];rw[rx.isN])⟩ (ic _)
def iG(a b:Sl->M W):Sl->M W:=fun sl=>au (a sl) fun x=>match x with
 | .bl true=>b sl
 | .bl false=>ret (.bl false)
 | _=>jn
def nN(a b:Sl->M W):Sl->M W:=fun sl=>au (a sl) fun x=>match x with
 | .bl true=>ret (.bl true)
 | .bl false=>b sl
 | _=>jn
def mK(a:Sl->M W):Sl->M W:=fun sl=>au (a sl) fun x=>match x with
 | .bl b=>ret (.bl (!b))
 | _=>jn
def gb(a b:Sl->M Bool):Sl->M Bool:=fun sl=>au (a sl) fun x=>match x with
 | true=>b sl
 | false=>ret false
def fx(a b:Sl->M Bool):Sl->M Bool:=fun sl=>au (a sl) fun x=>match x with
 | true=>ret true
 | false=>b sl
def eE(a:Sl->M Bool):Sl->M Bool:=fun sl=>au (a sl) fun x=>ret (!x)
def mJ(c:Sl->M Bool)(a b:Sl->M W):Sl->M W:=fun sl=>au (c sl) fun x=>match x with
 | true=>a sl
 | false=>b sl
variable {rest:List Expr} {ta tb:Sl->M Bool}
theorem lP{op}(h:PE X a (ar G E da)):PE X (.BoolOp op [a] pos) (ar G E da):=Cb h
theorem m6(ha:PE X a (ar G E da))(hb:PE X (.BoolOp .And (b::rest) pos) (ar G E db)):PE X (.BoolOp .And (a::b::rest) pos) (ar G E (iG da db)):=by
 refine PE.imp (Ca ha hb) fun σ H Q zz_=>bg zz_ fun F as sl ce S P=>(step S P).mono fun x H1 zz_=>aW zz_ fun wx F1 as1 ce1 l1 S1 rx P1=>?_;cases wx<;>first|exact(show False from P1).elim|skip
 rename_i k;simp only[Rep] at rx;subst rx;cases k
 ·exact⟨false,rfl,by rw[if_neg Bool.false_ne_true];exact aG.done S1 (a:=W.bl false) P1 (by simp only[Rep])⟩
 ·exact⟨true,rfl,by rw[if_pos rfl];exact⟨F1,as1,sl,ce1,S1,P1⟩⟩
theorem zY(ha:PE X a (ar G E da))(hb:PE X (.BoolOp .Or (b::rest) pos) (ar G E db)):PE X (.BoolOp .Or (a::b::rest) pos) (ar G E (nN da db)):=by
 refine PE.imp (A3 ha hb) fun σ H Q zz_=>bg zz_ fun F as sl ce S P=>(step S P).mono fun x H1 zz_=>aW zz_ fun wx F1 as1 ce1 l1 S1 rx P1=>?_;cases wx<;>first|exact(show False from P1).elim|skip
 rename_i k;simp only[Rep] at rx;subst rx;cases k
 ·exact⟨false,rfl,by rw[if_neg Bool.false_ne_true];exact⟨F1,as1,sl,ce1,S1,P1⟩⟩
 ·exact⟨true,rfl,by rw[if_pos rfl];exact aG.done S1 (a:=W.bl true) P1 (by simp only[Rep])⟩
theorem vM(ha:PE X a (ar G E da)):PE X (.UnaryOp .Not a pos) (ar G E (mK da)):=by
 refine PE.imp (B_ ha) fun σ H Q zz_=>bg zz_ fun F as sl ce S P=>(step S P).mono fun x H1 zz_=>aW zz_ fun wx F1 as1 ce1 l1 S1 rx P1=>?_;cases wx<;>first|exact(show False from P1).elim|skip
 rename_i k;simp only[Rep] at rx;subst rx;exact⟨k,rfl,aG.done S1 (a:=W.bl (!k)) P1 (by simp only[Rep])⟩
theorem nr(ha:PT X a (cb G E ta)):PW X (.BoolOp .And [a] pos) (cb G E ta):=DL ha
theorem j6(ha:PT X a (cb G E ta)):PW X (.BoolOp .Or [a] pos) (cb G E ta):=Cf ha
theorem kM(ha:PT X a (cb G E ta))(hb:PW X (.BoolOp .And (b::rest) pos) (cb G E tb)):PW X (.BoolOp .And (a::b::rest) pos) (cb G E (gb ta tb)):=by
 refine PW.imp (Cd ha hb) fun σ H Q zz_=>bg zz_ fun F as sl ce S P=>(step (RP:=rB) S P).mono fun x H1 zz_=>aW zz_ fun wx F1 as1 ce1 l1 S1 rx P1=>?_;have rx:wx=x:=rx;subst rx;cases wx
 ·rw[if_neg Bool.false_ne_true];exact aG.done (RP:=rB) S1 (a:=false) P1 rfl
 ·rw[if_pos rfl];exact⟨F1,as1,sl,ce1,S1,P1⟩
theorem jk(ha:PT X a (cb G E ta))(hb:PW X (.BoolOp .Or (b::rest) pos) (cb G E tb)):PW X (.BoolOp .Or (a::b::rest) pos) (cb G E (fx ta tb)):=by
 refine PW.imp (A6 ha hb) fun σ H Q zz_=>bg zz_ fun F as sl ce S P=>(step (RP:=rB) S P).mono fun x H1 zz_=>aW zz_ fun wx F1 as1 ce1 l1 S1 rx P1=>?_;have rx:wx=x:=rx;subst rx;cases wx
 ·rw[if_neg Bool.false_ne_true];exact⟨F1,as1,sl,ce1,S1,P1⟩
 ·rw[if_pos rfl];exact aG.done (RP:=rB) S1 (a:=true) P1 rfl
theorem gG(ha:PT X a (cb G E ta)):PT X (.UnaryOp .Not a pos) (cb G E (eE ta)):=by refine PT.imp (Cc ha) fun σ H Q zz_=>bg zz_ fun F as sl ce S P=>(step (RP:=rB) S P).mono fun x H1 zz_=>aW zz_ fun wx F1 as1 ce1 l1 S1 rx P1=>?_;have rx:wx=x:=rx;subst rx;exact aG.done (RP:=rB) S1 (a:=!wx) P1 rfl
theorem Bk{c:Expr}(hc:PT X c (cb G E ta))(ha:PE X a (ar G E da))(hb:PE X b (ar G E db)):PE X (.IfExp c a b pos) (ar G E (mJ ta da db)):=by
 refine PE.imp (EY hc ha hb) fun σ H Q zz_=>bg zz_ fun F as sl ce S P=>(step (RP:=rB) S P).mono fun x H1 zz_=>aW zz_ fun wx F1 as1 ce1 l1 S1 rx P1=>?_;have rx:wx=x:=rx;subst rx;cases wx
 ·rw[if_neg Bool.false_ne_true];exact⟨F1,as1,sl,ce1,S1,P1⟩
 ·rw[if_pos rfl];exact⟨F1,as1,sl,ce1,S1,P1⟩
def m4(f g:Ce->W->W->Option W)(a b c:Sl->M W):Sl->M W:=fun sl=>au (a sl) fun x=>au (b sl) fun y=>au (look fun ce=>f ce x y) fun t=>match t with
 | .bl true=>au (c sl) fun z=>look fun ce=>g ce y z
 | .bl false=>ret (.bl false)
 | _=>jn
theorem Gi{r r':R2}{f g:Ce->W->W->Option W}(hf:kh r f)(hg:kh r' g)(σ:L2.St)(H:Hp)(Q:VK)(h:ar G E (m4 f g da db dc) σ H Q):vL r r' (ar G E da) (ar G E db) (ar G E dc) σ H Q:=by
 obtain⟨F,as,sl,ce,S,P⟩:=h;refine(step S P).mono fun x H1 zz_=>aW zz_ fun wx F1 as1 ce1 l1 S1 rx P1=>(step S1 P1).mono fun y H2 zz_=>aW zz_ fun wy F2 as2 ce2 l2 S2 ry P2=>?_;have e:∃w,f ce2 wx wy=some w/\aG G E Rep F2 as2 σ sl Q ((match w with|.bl true=>au (dc sl) fun z=>look fun ce=>g ce wy z|.bl false=>ret (.bl false)|_=>jn:M W) ce2):=by
  revert P2;simp only[au,look];cases f ce2 wx wy with
  | none=>exact fun P=>P.elim
  | some w=>exact fun P=>⟨w,rfl,P⟩
 obtain⟨w,e,P3⟩:=e;refine hf G F2 as2 H2 ce2 x y wx wy w S2.st (rx.le l2) ry e _ fun v rv=>?_;cases w<;>first|exact(show False from P3).elim|skip
 rename_i k;simp only[Rep] at rv;subst rv;refine⟨k,rfl,?_⟩;cases k
 ·rw[if_neg Bool.false_ne_true];exact aG.done S2 (a:=W.bl false) P3 (by simp only[Rep])
 ·rw[if_pos rfl];refine(step S2 P3).mono fun z H3 zz_=>aW zz_ fun wz F3 as3 ce3 l3 S3 rz P4=>?_;obtain⟨w',e',P4⟩:=iW P4;exact hg G F3 as3 H3 ce3 y z wy wz w' S3.st (ry.le l3) rz e' Q fun v r=>P4.done S3 r
theorem E6{op':CmpOp}{r r':R2}{f g:Ce->W->W->Option W}(ho:dG X (compareOp op) r)(ho':dG X (compareOp op') r')(hf:kh r f)(hg:kh r' g)(ha:PE X a (ar G E da))(hb:PE X b (ar G E db))(hc:PE X c (ar G E dc))(hm:lastMarks [op,op'] [b,c]=false:=by with_unfolding_all rfl):PE X (.Compare a [op,op'] [b,c] pos) (ar G E (m4 f g da db dc)):=PE.imp (EU ho ho' ha hb hc hm) (Gi hf hg)
end
def ai:Sl->M (List W):=fun _=>ret []
def ah(a:Sl->M W)(r:Sl->M (List W)):Sl->M (List W):=fun sl=>au (a sl) fun x=>au (r sl) fun xs=>ret (x::xs)
open Classical in
def gO(w:W)(n:Nat):M W:=fun ce=>if n<=sizeLine then some (.ok w ce) else none
open Classical in
def gP(c:C)(n:Nat):M W:=fun ce=>if n<=sizeLine then some (.ok (.cel ce.length) (ce++[c])) else none
def eK(r:Sl->M (List W)):Sl->M W:=fun sl=>au (r sl) fun xs=>gO (.tup xs) xs.length
def eS(r:Sl->M (List W)):Sl->M W:=fun sl=>au (r sl) fun xs=>gO (.lst xs) xs.length
def dP(r:Sl->M (List W)):Sl->M W:=fun sl=>au (r sl) fun xs=>gP (.lst xs) xs.length
variable {es:List Expr} {dr:Sl->M (List W)}
section
variable {σ:VS.St}
theorem aw:PA X [] (eT G E ai):=PA.imp m9 fun σ H Q zz_=>bg zz_ fun F as sl ce S P=>aG.done (RP:=ag) S (a:=[]) P ag.nil
theorem aj(ha:PE X e (ar G E da))(hr:PA X es (eT G E dr))(hs:starEach (e::es) X.env=(false,eval e X.env)::starEach es X.env:=by rfl):PA X (e::es) (eT G E (ah da dr)):=by refine PA.imp (mh ha hr hs) fun σ H Q zz_=>bg zz_ fun F as sl ce S P=>(step S P).mono fun x H1 zz_=>aW zz_ fun wx F1 as1 ce1 l1 S1 rx P1=>(step (RP:=ag) S1 P1).mono fun y H2 zz_=>aW zz_ fun wy F2 as2 ce2 l2 S2 ry P2=>?_;exact aG.done (RP:=ag) S2 (a:=wx::wy) P2 (.cons (rx.le l2) ry)
theorem wV(S:SR G F as H σ sl ce)(rs:ag F as xs vs)(P:aG G E Rep F as σ sl Q (gO (.lst xs) n ce)):n<=sizeLine/\∀p,H p=none->Q (.ref p) (upd H p (.lst vs)):=by
 revert P;unfold gO;split
 ·rename_i h;intro P;refine⟨h,fun p hp=>?_⟩;obtain⟨S',l⟩:=S.st.freeze (o:=.lst vs) hp;exact P _ _ _ _ l (S.slots S' l) (by simp only[Rep];exact⟨p,vs,rfl,.inl cU,rs.le l⟩)
 ·exact fun P=>P.elim
theorem wU(S:SR G F as H σ sl ce)(rs:ag F as xs vs)(P:aG G E Rep F as σ sl Q (gO (.tup xs) n ce)):n<=sizeLine/\∀p,H p=none->Q (.ref p) (upd H p (.tup vs)):=by
 revert P;unfold gO;split
 ·rename_i h;intro P;refine⟨h,fun p hp=>?_⟩;obtain⟨S',l⟩:=S.st.freeze (o:=.tup vs) hp;exact P _ _ _ _ l (S.slots S' l) (by simp only[Rep];exact⟨p,vs,rfl,cU,rs.le l⟩)
 ·exact fun P=>P.elim
theorem w_{c:C}(S:SR G F as H σ sl ce)(hc:∀p as',Le F as F as'->cR G F as' (upd H p o) p c)(P:aG G E Rep F as σ sl Q (gP c n ce)):n<=sizeLine/\∀p,H p=none->Q (.ref p) (upd H p o):=by
 revert P;unfold gP;split
 ·rename_i h;intro P;refine⟨h,fun p hp=>?_⟩;obtain⟨S',l⟩:=S.st.alloc (c:=c) hp (hc p);exact P _ _ _ _ l (S.slots S' l) (by simp only[Rep];exact⟨p,rfl,by rw[<- S.st.len];simp⟩)
 ·exact fun P=>P.elim
theorem w9(S:SR G F as H σ sl ce)(rs:ag F as xs vs)(P:aG G E Rep F as σ sl Q (gP (.lst xs) n ce)):n<=sizeLine/\∀p,H p=none->Q (.ref p) (upd H p (.lst vs)) :=
 w_ (c:=.lst xs) S (fun p as' l=>⟨vs,cU,rs.le l⟩) P
theorem iL{x1}(h:PA X es (eT G E dr)):PE X (.Tuple es x1 pos) (ar G E (eK dr)):=by refine PE.imp (vK h) fun σ H Q zz_=>bg zz_ fun F as sl ce S P=>(step (RP:=ag) S P).mono fun x H1 zz_=>aW zz_ fun wx F1 as1 ce1 l1 S1 rx P1=>?_;have:=wU S1 rx P1;rwa [<- ag.length rx] at this
theorem gX(h:PA X es (eT G E dr)):PE X (.List es pos) (ar G E (eS dr)):=by refine PE.imp (vJ h) fun σ H Q zz_=>bg zz_ fun F as sl ce S P=>(step (RP:=ag) S P).mono fun x H1 zz_=>aW zz_ fun wx F1 as1 ce1 l1 S1 rx P1=>?_;have:=wV S1 rx P1;rwa [<- ag.length rx] at this
theorem gF(h:PA X es (eT G E dr)):PE X (.List es pos) (ar G E (dP dr)):=by refine PE.imp (vJ h) fun σ H Q zz_=>bg zz_ fun F as sl ce S P=>(step (RP:=ag) S P).mono fun x H1 zz_=>aW zz_ fun wx F1 as1 ce1 l1 S1 rx P1=>?_;have:=w9 S1 rx P1;rwa [<- ag.length rx] at this
def lI:Sl->M W:=fun _=>gP (.dct []) 0
theorem w8:PE X (.Dict [] [] pos) (ar G E lI):=by refine PE.imp Fd fun σ H Q zz_=>bg zz_ fun F as sl ce S P=>?_;exact(w_ (c:=.dct []) (o:=.dK []) S (fun p as' l=>⟨[],cU,.nil⟩) P).2
end
def gv(kvs:List (Key×W))(k:Key):Option W:=(kvs.find? fun kv=>decide (kv.1=k)).map (·.2)
def gu(kvs:List (Key×W))(k:Key)(v:W):List (Key×W) :=
 if (kvs.any fun kv=>decide (kv.1=k))=true then kvs.map (fun kv=>if kv.1=k then (kv.1,v) else kv) else kvs++[(k,v)]
variable {ps:List (Key×V)}
section
variable {kvs:List (Key×W)}
theorem az.val(r:az F as kvs ps)(k:Key):(gv kvs k=none/\gw ps k=none)\/∃w v,gv kvs k=some w/\gw ps k=some v/\Rep F as w v:=by
 induction r with
 | nil=>exact .inl ⟨rfl,rfl⟩
 | @cons p q l1 l2 h t ih =>
  obtain⟨e,rv⟩:=h
  by_cases hk:p.1=k
  ·refine .inr ⟨p.2,q.2,?_,pq (by rw[<- e];exact hk),rv⟩;simp[gv,find?_cons,hk]
  ·have e1:gv (p::l1) k=gv l1 k:=by simp only[gv,find?_cons,hk,decide_false]
   rw[e1,pj (by rw[<- e];exact hk)];exact ih
theorem az.any(r:az F as kvs ps)(k:Key):(kvs.any fun kv=>decide (kv.1=k))=(ps.any fun kv=>decide (kv.1=k)):=by
 induction r with
 | nil=>rfl
 | cons h t ih=>rw[any_cons,any_cons,ih,h.1]
theorem az.mapPut(k:Key)(rv:Rep F as w v)(r:az F as kvs ps):az F as (kvs.map fun kv=>if kv.1=k then (kv.1,w) else kv) (ps.map fun kv=>if kv.1=k then (kv.1,v) else kv):=by
 induction r with
 | nil=>exact .nil
 | @cons p q l1 l2 h t ih =>
  rw[map_cons,map_cons];refine .cons ?_ ih
  by_cases hk:p.1=k
  ·rw[if_pos hk,if_pos (by rw[<- h.1];exact hk)];exact⟨h.1,rv⟩
  ·rw[if_neg hk,if_neg (by rw[<- h.1];exact hk)];exact h
theorem az.put(r:az F as kvs ps)(k:Key)(rv:Rep F as w v):az F as (gu kvs k w) (e_ ps k v):=by
 unfold gu e_;rw[r.any k];split
 ·exact r.mapPut k rv
 ·exact Paired.app r (.cons ⟨rfl,rv⟩ .nil)
theorem az.length(r:az F as kvs ps):kvs.length=ps.length:=Paired.length r
end
def jP(ng:Bool)(ce:Ce)(x y:W):Option W:=match gR x,lx ce y with
 | some k,some kvs=>some (.bl (if ng then !(gv kvs k).isSome else (gv kvs k).isSome))
 | _,_=>none
variable {mk:List W->M W} {p2:Pos}
section
variable {a c:Expr}
theorem CS(ng:Bool)(σ:L2.St)(H:Hp)(Q:VK)(h:ar G E (aI (jP ng) da db) σ H Q) :
  ar G E da σ H fun y H1=>ar G E db σ H1 fun x H2=>∃a o,x=.ref a/\gQ H2 a y o/\Q (.bl (if ng then !o.isSome else o.isSome)) H2:=by
 obtain⟨F,as,sl,ce,S,P⟩:=h;refine(step S P).mono fun x H1 zz_=>aW zz_ fun wx F1 as1 ce1 l1 S1 rx P1=>(step S1 P1).mono fun y H2 zz_=>aW zz_ fun wy F2 as2 ce2 l2 S2 ry P2=>?_;obtain⟨w,e,P3⟩:=iW P2;unfold jP at e;split at e
 ·rename_i k kvs hk hd;cases e;obtain⟨n,a,ps,rfl,rfl,ha,hH,rk⟩:=wW S2.st ry hd;rw[rR rx hk];refine⟨a,_,rfl,gQ.kz hH,?_⟩;rcases rk.val k with ⟨e1,e2⟩|⟨w,v,e1,e2,_⟩
  ·rw[e1] at P3;rw[e2];exact P3.done S2 (by simp only[Rep];cases ng<;>rfl)
  ·rw[e1] at P3;rw[e2];exact P3.done S2 (by simp only[Rep];cases ng<;>rfl)
 ·cases e
theorem yd(hu:X.A.units+1<cLine)(ha:PE X a (ar G E da))(hb:PE X b (ar G E db))(h1:behindInMarks .NotIn b=false):PT X (.Compare a [.NotIn] [b] pos) (cb G E (dB (aI (jP true) da db))):=om ⟨_,Gp hu ha hb,CS true⟩ h1
def aJ(ce:Ce)(x y:W):Option W:=match fi ce x,y with
 | some xs,.int i=>atI xs i
 | _,_=>none
theorem ag.atI{F:Hp}{as:List Addr}{ws:List W}{vs:List V}{i:Int}{w:W}(r:ag F as ws vs)(h:L2.atI ws i=some w):∃v,L2.atI vs i=some v/\Rep F as w v:=by
 unfold L2.atI at h ⊢;rw[r.length];cases e:gn ws.length i with
 | none=>rw[e] at h;cases h
 | some j=>rw[e] at h;exact r.get h
theorem Bj(K:Frag):kh (fun x y H Q=>qa K x y H Q\/p_ K x y H Q) aJ:=by
 intro G F as H ce x y wx wy w S rx ry e Q q;unfold aJ at e;split at e
 ·rename_i xs i hs;obtain⟨a,vs,rfl,h,rs⟩:=rS S rx hs;obtain⟨v,hv,rv⟩:=rs.atI e;simp only[Rep] at ry;subst ry;rcases h with h|h
  ·exact .inl ⟨a,vs,i,v,rfl,rfl,.inl h,hv,q _ rv⟩
  ·exact .inr ⟨a,vs,i,v,rfl,rfl,.inl h,hv,q _ rv⟩
 ·cases e
theorem bA(ha:PE X a (ar G E da))(hb:PE X b (ar G E db))(hs:w6 b):PE X (.Subscript a b pos) (ar G E (aI aJ da db)):=PE.imp (Af (i7.or (Ih X.K rfl) (Ig X.K rfl)) ha hb hs) (j9 (Bj _))
def eM:Sl->M (Option Int):=fun _=>ret none
def dm(d:Sl->M W):Sl->M (Option Int):=fun sl=>au (d sl) fun w=>match w with
 | .int i=>ret (some i)
 | _=>jn
def rO:Hp->List Addr->Option Int->Option Int->Prop:=fun _ _ a b=>a=b
abbrev nX(G:Ga)(E:XK)(d:Sl->M (Option Int)):TO:=toT G E rO d
theorem PO.imp{e:Option Expr}{t t':TO}(h:PO X e t)(q:∀σ H Q,t' σ H Q->t σ H Q):PO X e t':=fun pins s σ H Q I z=>h pins s σ H Q I (q _ _ _ z)
theorem j8:PO X none (nX G E eM):=PO.imp Du fun σ H Q zz_=>bg zz_ fun F as sl ce S P=>aG.done (RP:=rO) S (a:=none) P rfl
theorem iU(h:PE X a (ar G E da)):PO X (some a) (nX G E (dm da)):=by
 refine PO.imp (Dt h) fun σ H Q zz_=>bg zz_ fun F as sl ce S P=>(step S P).mono fun x H1 zz_=>aW zz_ fun wx F1 as1 ce1 l1 S1 rx P1=>?_;cases wx<;>first|exact(show False from P1).elim|skip
 simp only[Rep] at rx;exact⟨_,rx,aG.done (RP:=rO) S1 (a:=some _) P1 rfl⟩
def fF(xs:List W)(lo hi:Option Int):List W:=(xs.drop (HT.sIx xs.length 0 lo)).take (HT.sIx xs.length xs.length hi-HT.sIx xs.length 0 lo)
theorem ag.cut(r:ag F as ws vs)(lo hi:Option Int):ag F as (fF ws lo hi) (lA vs lo hi):=by unfold fF lA;rw[r.length];exact(r.drop _).take _
def nI(mk:List W->M W)(x:W)(lo hi:Option Int):M W:=fun ce=>match bV ce x with
 | some xs=>mk (fF xs lo hi) ce
 | none=>none
def bc(xs:List W):M W:=gO (.lst xs) xs.length
def eR(xs:List W):M W:=gP (.lst xs) xs.length
def p6(xs:List W):M W:=gO (.tup xs) xs.length
def dX(mk:List W->M W)(d:Sl->M W)(l h:Sl->M (Option Int)):Sl->M W:=fun sl=>au (d sl) fun x=>au (l sl) fun lo=>au (h sl) fun hi=>nI mk x lo hi
def i6(G:Ga)(E:XK)(mk:List W->M W):Prop:=∀{F:Hp} {as:List Addr} {H:Hp} {σ:VS.St} {sl:Sl} {ce:Ce} {Q:VK} {xs:List W} {vs:List V},SR G F as H σ sl ce->ag F as xs vs->aG G E Rep F as σ sl Q (mk xs ce)->xs.length<=sizeLine/\∀p,H p=none->Q (.ref p) (upd H p (.lst vs))
theorem dM:i6 G E bc:=fun S rs P=>wV S rs P
theorem jf:i6 G E eR:=fun S rs P=>w9 S rs P
theorem jj{lo hi:Option Expr}{dl dh:Sl->M (Option Int)}(hm:i6 G E mk)(he:PE X a (ar G E da))(hl:PO X lo (nX G E dl))(hu:PO X hi (nX G E dh)):PE X (.Subscript a (.Slice lo hi none p2) pos) (ar G E (dX mk da dl dh)):=by
 refine PE.imp (EL (L2.slL X.K) he hl hu) fun σ H Q zz_=>bg zz_ fun F as sl ce S P=>(step S P).mono fun x H1 zz_=>aW zz_ fun wx F1 as1 ce1 l1 S1 rx P1=>(step (RP:=rO) S1 P1).mono fun y H2 zz_=>aW zz_ fun wy F2 as2 ce2 l2 S2 ry P2=>(step (RP:=rO) S2 P2).mono fun z H3 zz_=>aW zz_ fun wz F3 as3 ce3 l3 S3 rz P3=>?_;have ry:wy=y:=ry;have rz:wz=z:=rz;subst ry rz;unfold nI at P3;cases e:bV ce3 wx with
 | none=>rw[e] at P3;exact(show False from P3).elim
 | some xs =>
  rw[e] at P3;obtain⟨p,vs,rfl,h,rs⟩:=iR S3.st ((rx.le l2).le l3) e;exact⟨p,vs,rfl,.inl h,(hm S3 (rs.cut wy wz) P3).2⟩
open Classical in
def p5(mk:List W->M W)(x y:W):M W:=fun ce=>match bV ce x,bV ce y with
 | some xs,some ys=>if xs.length+ys.length<=sizeLine then mk (xs++ys) ce else none
 | _,_=>none
def je(mk:List W->M W)(a b:Sl->M W):Sl->M W:=fun sl=>au (a sl) fun x=>au (b sl) fun y=>p5 mk x y
def Az:R2:=fun x y H Q=>∃l b xs zs,x=.ref l/\y=.ref b/\Rd H l (.lst xs)/\Rd H b (.lst zs)/\xs.length+zs.length<=sizeLine/\∀p,H p=none->Q (.ref p) (upd H p (.lst (xs++zs)))
theorem Inv.lstR{σ:VS.St}{l:Addr}{xs:List V}(I:Inv X pins σ H s)(hH:Rd H l (.lst xs)):xs.length<=sizeLine/\∃(its:List Value) (n:Nat),Vals xs its/\xs.length=its.length/\s.heap.get? l=some { cls:=.type "list",data:=.seq its.toArray n }:=by obtain⟨z,its,n,r,e⟩:=hH.ok I.hok;exact⟨z,its,n,r,r.length,e⟩
theorem CQ:dG X (binaryOp .Add) Az:=by
 intro pins s σ H x y v u Q I rx ry h;obtain⟨l,b,xs,zs,rfl,rfl,hH,hB,hz,q⟩:=h;cases rx;cases ry;obtain⟨z,its,n,r,hl,e⟩:=Inv.lstR I hH;obtain⟨z2,its2,n2,r2,hl2,e2⟩:=Inv.lstR I hB;refine PySem.P.add_list e e2 ?_ (by rw[size_toArray,size_toArray];omega);have ea:its.toArray++its2.toArray=(its++its2).toArray:=by simp
 rw[ea];exact⟨.ref _,_,I.lnew (t':=s.toks) (r.append r2) (by rw[length_append];omega),rfl,q _ I.fresh⟩
theorem qY(hm:i6 G E mk)(ha:PE X a (ar G E da))(hb:PE X b (ar G E db)):PE X (.BinOp a .Add b pos) (ar G E (je mk da db)):=by
 refine PE.imp (u6 CQ ha hb) fun σ H Q h=>oF h fun F as sl ce H2 x y wx wy S rx ry P=>?_;unfold p5 at P;split at P
 ·rename_i xs ys h1 h2;split at P
  ·rename_i hl;obtain⟨p,vs,rfl,q1,r1⟩:=iR S.st rx h1;obtain⟨p',us,rfl,q2,r2⟩:=iR S.st ry h2;exact⟨p,p',vs,us,rfl,rfl,q1,q2,by rw[r1.length,r2.length];exact hl,(hm S (r1.append r2) P).2⟩
  ·exact(show False from P).elim
 ·exact(show False from P).elim
end
inductive Fl where
 | nx|bk|ct|rt (w:W)
inductive O where
 | go (f:Fl) (sl:Sl) (ce:Ce)|ex (x:cJ) (ce:Ce)
abbrev DS:=Sl->Ce->Option O
def Ay(D:Ends)(F:Hp)(as:List Addr)(σ:VS.St)(H:Hp):Fl->Prop
 | .nx=>D.nx σ H
 | .bk=>D.bk σ H
 | .ct=>D.ct σ H
 | .rt w=>∀v,Rep F as w v->D.rt v H
def aS(G:Ga)(E:XK)(D:Ends)(F:Hp)(as:List Addr):Option O->Prop
 | some (.go f sl' ce')=>∀σ' H' F' as',Le F as F' as'->SR G F' as' H' σ' sl' ce'->Ay D F' as' σ' H' f
 | some (.ex x ce')=>∀H' F' as' cv od,Le F as F' as'->av G F' as' H' ce'->G.xr x cv od F'->E cv od H'
 | none=>False
def cT(G:Ga)(E:XK)(d:DS):TS:=fun D σ H=>∃F as sl ce,SR G F as H σ sl ce/\aS G E D F as (d sl ce)
def bY{α:Type}(m:Option (R α))(k:α->Ce->Option O):Option O:=match m with
 | some (.ok a ce')=>k a ce'
 | some (.ex x ce')=>some (.ex x ce')
 | none=>none
variable {D:Ends}
section
variable {α β:Type} {RP:Hp->List Addr->α->β->Prop} {σ:VS.St} {D':Ends}
theorem aS.le{r:Option O}(l:Le F as F' as')(P:aS G E D F as r):aS G E D F' as' r:=by
 cases r with
 | none=>exact P
 | some r=>cases r with
  | go f sl' ce'=>exact fun σ' H' F2 as2 l2=>P σ' H' F2 as2 (l.trans l2)
  | ex x ce'=>exact fun H' F2 as2 cv od l2=>P H' F2 as2 cv od (l.trans l2)
theorem fC{d:Sl->M α}{k:α->Ce->Option O}(S:SR G F as H σ sl ce)(P:aS G E D F as (bY (d sl ce) k)) :
  toT G E RP d σ H fun b H2=>∃a F' as' ce',Le F as F' as'/\SR G F' as' H2 σ sl ce'/\RP F' as' a b/\aS G E D F' as' (k a ce'):=by
 refine⟨F,as,sl,ce,S,?_⟩;revert P;unfold bY;cases d sl ce with
 | none=>exact fun P=>P
 | some r=>cases r with
  | ok a ce'=>exact fun P b H' F' as' l S' r=>⟨a,F',as',ce',l,S',r,P.le l⟩
  | ex x ce'=>exact fun P=>P
theorem aS.nxt(S:SR G F as H σ sl ce)(P:aS G E D F as (some (.go .nx sl ce))):D.nx σ H:=P σ H F as .refl S
end
def bz:DS:=fun sl ce=>some (.go .nx sl ce)
def t_:DS:=fun sl ce=>some (.go .ct sl ce)
def aq(a b:DS):DS:=fun sl ce=>match a sl ce with
 | some (.go .nx sl' ce')=>b sl' ce'
 | r=>r
def cz(d:Sl->M W):DS:=fun sl ce=>bY (d sl ce) fun _ ce'=>some (.go .nx sl ce')
def aT(d:Sl->M W):DS:=fun sl ce=>bY (d sl ce) fun w ce'=>some (.go (.rt w) sl ce')
def bh(c:Sl->M Bool)(a b:DS):DS:=fun sl ce=>bY (c sl ce) fun t ce'=>match t with
 | true=>a sl ce'
 | false=>b sl ce'
abbrev DG:=W->Sl->Ce->Option (Sl×Ce)
def gN(i:Nat):DG:=fun w sl ce=>some (sl.set i (some w),ce)
def jd(d:Sl->M W)(g:DG):DS:=fun sl ce=>bY (d sl ce) fun w ce'=>match g w sl ce' with
 | some (sl',ce'')=>some (.go .nx sl' ce'')
 | none=>none
def aQ(i:Nat)(d:Sl->M W):DS:=fun sl ce=>bY (d sl ce) fun w ce'=>some (.go .nx (sl.set i (some w)) ce')
def mD(G:Ga)(X:Cx)(tg:Expr)(g:DG):Prop:=∃t:TG,PG X tg t/\∀F as H σ sl ce w v sl' ce' (Q:VS.St->Hp->Prop),SR G F as H σ sl ce->Rep F as w v->g w sl ce=some (sl',ce') ->
 (∀σ' H' F' as',Le F as F' as'->SR G F' as' H' σ' sl' ce'->Q σ' H')->t v σ H Q
def nV(G:Ga)(X:Cx)(tgs:List Expr)(g:List W->Sl->Ce->Option (Sl×Ce)):Prop:=∃t:kf,PGs X tgs t/\∀F as H σ sl ce ws vs sl' ce' (Q:VS.St->Hp->Prop),SR G F as H σ sl ce->ag F as ws vs->g ws sl ce=some (sl',ce') ->
 (∀σ' H' F' as',Le F as F' as'->SR G F' as' H' σ' sl' ce'->Q σ' H')->t vs σ H Q
def mX:List W->Sl->Ce->Option (Sl×Ce):=fun ws sl ce=>match ws with
 | []=>some (sl,ce)
 | _=>none
def iK(g:DG)(r:List W->Sl->Ce->Option (Sl×Ce)):List W->Sl->Ce->Option (Sl×Ce):=fun ws sl ce=>match ws with
 | w::ws=>match g w sl ce with
  | some (sl',ce')=>r ws sl' ce'
  | none=>none
 | []=>none
def gT(n:Nat)(r:List W->Sl->Ce->Option (Sl×Ce)):DG:=fun w sl ce=>match w with
 | .tup ws=>if ws.length=n then r ws sl ce else none
 | _=>none
variable {t tg:Expr} {c:Sl->M Bool} {r:List W->Sl->Ce->Option (Sl×Ce)} {pos':Pos}
section
variable {st:Stmt} {rest:List Stmt} {a b:DS} {g:DG}
theorem bX:PSs X [] (cT G E bz):=PSs.imp DK fun D σ H zz_=>bg zz_ fun F as sl ce S P=>P.nxt S
theorem Hq:PS X (.Continue pos) (cT G E t_):=PS.imp Hg fun D σ H zz_=>bg zz_ fun F as sl ce S P=>P σ H F as .refl S
theorem aH(h:PS X st (cT G E a)):PSs X [st] (cT G E a):=wO h
theorem aD(h1:PS X st (cT G E a))(h2:PSs X rest (cT G E b)):PSs X (st::rest) (cT G E (aq a b)):=by
 refine PSs.imp (xO h1 h2) fun D σ H zz_=>bg zz_ fun F as sl ce S P=>⟨F,as,sl,ce,S,?_⟩
 revert P;unfold aq;cases a sl ce with
 | none=>exact fun P=>P.elim
 | some r=>cases r with
  | ex x ce'=>exact fun P=>P
  | go f sl' ce'=>cases f with
   | nx=>exact fun P σ' H' F' as' l S'=>⟨F',as',sl',ce',S',P.le l⟩
   | bk=>exact fun P=>P
   | ct=>exact fun P=>P
   | rt w=>exact fun P=>P
theorem eZ(he:PE X e (ar G E d))(hs:swapsWith e none pos.line X.env=pure false:=by rfl):PS X (.Expr e pos) (cT G E (cz d)) :=
 PS.imp (wN he hs) fun D σ H zz_=>bg zz_ fun F as sl ce S P=>(fC S P).mono fun x H1 zz_=>aW zz_ fun wx F1 as1 ce1 l1 S1 rx P1=>P1.nxt S1
theorem bf(he:PE X e (ar G E d)):PS X (.Return (some e) pos) (cT G E (aT d)) :=
 PS.imp (B9 he) fun D σ H zz_=>bg zz_ fun F as sl ce S P=>(fC S P).mono fun x H1 zz_=>aW zz_ fun wx F1 as1 ce1 l1 S1 rx P1=>P1 σ H1 F1 as1 .refl S1 x rx
theorem bQ{sa sb:List Stmt}(hc:PT X t (cb G E c))(ha:PSs X sa (cT G E a))(hb:PSs X sb (cT G E b)):PS X (.If t sa sb pos) (cT G E (bh c a b)):=by
 refine PS.imp (AZ hc ha hb) fun D σ H zz_=>bg zz_ fun F as sl ce S P=>(fC (RP:=rB) S P).mono fun x H1 zz_=>aW zz_ fun wx F1 as1 ce1 l1 S1 rx P1=>?_;have rx:wx=x:=rx;subst rx;cases wx
 ·rw[if_neg Bool.false_ne_true];exact⟨F1,as1,sl,ce1,S1,P1⟩
 ·rw[if_pos rfl];exact⟨F1,as1,sl,ce1,S1,P1⟩
theorem bp{x:Str}(hN:X.N.Nodup)(hi:X.N[i]?=some x)(hx:Loc X.env.scope x)(he:PE X e (ar G E d))(hs:swapsWith e (some (.Name x pos')) pos.line X.env=pure false:=by rfl)(hf:X.fn x=true\/X.env.scope.names.lookup x=some .local:=by first|exact .inl rfl|exact .inr rfl|assumption):PS X (.Assign [.Name x pos'] e pos) (cT G E (aQ i d)) :=
 PS.imp (B5 hN hi hx he hs hf) fun D σ H zz_=>bg zz_ fun F as sl ce S P=>(fC S P).mono fun x H1 zz_=>aW zz_ fun wx F1 as1 ce1 l1 S1 rx P1=>P1 _ H1 F1 as1 .refl (S1.put rx i)
theorem dW{x:Str}(hN:X.N.Nodup)(hi:X.N[i]?=some x)(hx:Loc X.env.scope x)(hf:X.fn x=true\/X.env.scope.names.lookup x=some .local:=by first|exact .inl rfl|exact .inr rfl|assumption):mD G X (.Name x pos) (gN i) :=
 ⟨gp i,rN hN hi hx hf,fun F as H σ sl ce w v sl' ce' Q S r e k=>by
  cases e;exact k _ _ _ _ .refl (S.put r i)⟩
theorem rQ:nV G X [] mX:=⟨_,DJ,fun F as H σ sl ce ws vs sl' ce' Q S r e k=>by
 cases ws with
 | nil=>cases e;simp only[ag] at r;exact⟨r,k _ _ _ _ .refl S⟩
 | cons w ws=>cases e⟩
theorem mv(h1:mD G X e g)(h2:nV G X es r)(hs:(assignEach (e::es) X.env).map (·.2)=assign e X.env::(assignEach es X.env).map (·.2):=by rfl):nV G X (e::es) (iK g r):=by
 obtain⟨t,h1,q1⟩:=h1;obtain⟨u,h2,q2⟩:=h2;refine⟨_,EX h1 h2 hs,fun F as H σ sl ce ws vs sl' ce' Q S rs e k=>?_⟩;cases ws with
 | nil=>cases e
 | cons w ws =>
  simp only[ag] at rs;obtain⟨v,vs',rfl,rv,rs⟩:=rs;simp only[iK] at e;split at e
  ·rename_i sl1 ce1 eg;refine⟨v,vs',rfl,q1 F as H σ sl ce w v sl1 ce1 _ S rv eg fun σ' H' F' as' l S'=>?_⟩;exact q2 F' as' H' σ' sl1 ce1 ws vs' sl' ce' Q S' (rs.le l) e fun σ2 H2 F2 as2 l2 S2=>k _ _ _ _ (l.trans l2) S2
  ·cases e
theorem qX(hc:X.calm=true)(h:nV G X es r)(hn:(assignEach es X.env).length=n:=by rfl)(hst:(assignEach es X.env).findIdx? (·.1)=none:=by rfl):mD G X (.Tuple es k pos) (gT n r):=by
 obtain⟨t,h,q⟩:=h;refine⟨_,B8 hc h hn hst,fun F as H σ sl ce w v sl' ce' Q S rw' e k=>?_⟩;cases w<;>simp only[gT,reduceCtorEq] at e;split at e
 ·rename_i ws hl;simp only[Rep] at rw';obtain⟨a,vs,rfl,ha,rs⟩:=rw';exact⟨a,vs,rfl,.inl (.inl (S.st.sub _ _ ha)),by rw[rs.length];exact hl,q F as H σ sl ce _ vs sl' ce' Q S rs e k⟩
 ·cases e
theorem qW(he:PE X e (ar G E d))(hg:mD G X tg g)(hs:swapsWithSole [tg] e pos.line X.env=pure false:=by rfl)(hw:swappedStores [tg] e X.env=pure none:=by rfl)(h1:(assignEach [tg] X.env).map (·.2)=[assign tg X.env]:=by rfl):PS X (.Assign [tg] e pos) (cT G E (jd d g)):=by
 obtain⟨t,hg,q⟩:=hg;refine PS.imp (B6 he hg hs hw h1) fun D σ H zz_=>bg zz_ fun F as sl ce S P=>(fC S P).mono fun x H1 zz_=>aW zz_ fun wx F1 as1 ce1 l1 S1 rx P1=>?_;split at P1
 ·rename_i sl' ce'' eg;exact q F1 as1 H1 σ sl ce1 wx x sl' ce'' _ S1 rx eg fun σ' H' F' as' l S'=>P1 σ' H' F' as' l S'
 ·exact(show False from P1).elim
def jc(ce:Ce):W->Option (Nat×List W)
 | .cel k=>match ce[k]? with
  | some (.lst xs)=>some (k,xs)
  | _=>none
 | _=>none
def jO(ce:Ce):W->Option (Nat×List (Key×W))
 | .cel k=>match ce[k]? with
  | some (.dct xs)=>some (k,xs)
  | _=>none
 | _=>none
theorem ph(S:av G F as H ce)(r:Rep F as w v)(e:jc ce w=some (k,xs)):∃a vs,v=.ref a/\as[k]?=some a/\H a=some (.lst vs)/\ag F as xs vs:=by
 cases w<;>simp only[jc,reduceCtorEq] at e;split at e
 ·rename_i hc;cases e;simp only[Rep] at r;obtain⟨a,rfl,h⟩:=r;obtain⟨_,vs,h2,rs⟩:=S.cell _ _ _ h hc;exact⟨a,vs,rfl,h,h2,rs⟩
 ·cases e
theorem E5{xs:List (Key×W)}(S:av G F as H ce)(r:Rep F as w v)(e:jO ce w=some (k,xs)):∃a ps,v=.ref a/\as[k]?=some a/\H a=some (.dK ps)/\az F as xs ps:=by
 cases w<;>simp only[jO,reduceCtorEq] at e;split at e
 ·rename_i hc;cases e;simp only[Rep] at r;obtain⟨a,rfl,h⟩:=r;obtain⟨_,ps,h2,rs⟩:=S.cell _ _ _ h hc;exact⟨a,ps,rfl,h,h2,rs⟩
 ·cases e
def lH(o i:Sl->M W):DG:=fun w sl ce=>match o sl ce with
 | some (.ok ow ce1)=>match i sl ce1 with
  | some (.ok (.int j) ce2)=>match jc ce2 ow with
   | some (k,xs)=>match gn xs.length j with
    | some n=>some (sl,ce2.set k (.lst (xs.set n w)))
    | none=>none
   | none=>none
  | _=>none
 | _=>none
theorem CP{o i:Expr}(ho:PE X o (ar G E da))(hi:PE X i (ar G E db))(hA:∀v,assign (.Subscript o i pos) X.env v=(do
   let ov <- holding [v] (eval o X.env)
   let iv <- holding [v,ov] (eval i X.env)
   standAt pos
   holding [v,ov,iv] (setItem ov iv v)
   release [v,ov,iv] []):=by intro _;rfl):mD G X (.Subscript o i pos) (lH da db):=by
 refine⟨_,B7 ho hi EK hA,fun F as H σ sl ce w v sl' ce' Q S rw' e k=>?_⟩;unfold lH at e;refine⟨F,as,sl,ce,S,?_⟩;cases e1:da sl ce with
 | none=>rw[e1] at e;cases e
 | some r1=>cases r1 with
  | ex x c=>rw[e1] at e;cases e
  | ok ow ce1 =>
   rw[e1] at e;intro ov H1 F1 as1 l1 S1 ro;refine⟨F1,as1,sl,ce1,S1,?_⟩;dsimp only at e;cases e2:db sl ce1 with
   | none=>rw[e2] at e;cases e
   | some r2=>cases r2 with
    | ex x c=>rw[e2] at e;cases e
    | ok iw ce2 =>
     rw[e2] at e;intro iv H2 F2 as2 l2 S2 ri;cases iw<;>simp only[reduceCtorEq] at e;rename_i j;split at e
     ·rename_i kk xs hk;split at e
      ·rename_i n hn;cases e;simp only[Rep] at ri;subst ri;obtain⟨a,vs,rfl,ha,hH,rs⟩:=ph S2.st (ro.le l2) hk;have rset:=rs.set n ((rw'.le l1).le l2);refine⟨a,vs,j,n,rfl,rfl,hH,by rw[rs.length];exact hn,?_⟩;exact k _ _ _ _ (l1.trans l2) (S2.slots (S2.st.write (o:=.lst (vs.set n v)) (c:=.lst (xs.set n w)) ha ⟨_,cU,rset⟩) .refl)
      ·cases e
     ·cases e
open Classical in
def jL(o i v:Sl->M W):DS:=fun sl ce=>bY (v sl ce) fun w ce1=>bY (o sl ce1) fun ow ce2=>bY (i sl ce2) fun iw ce3=>match gR iw,jO ce3 ow with
 | some key,some (k,kvs)=>if kvs.length<sizeLine then some (.go .nx sl (ce3.set k (.dct (gu kvs key w)))) else none
 | _,_=>none
theorem qV{o i value:Expr}(hu:X.A.units+1<cLine)(ho:PE X o (ar G E da))(hi:PE X i (ar G E db))(hv:PE X value (ar G E dc))(hs:swapsWith value (some (.Subscript o i pos')) pos.line X.env=pure false:=by rfl) :
  PS X (.Assign [.Subscript o i pos'] value pos) (cT G E (jL da db dc)):=by
 refine PS.imp (DT hu ho hi hv hs) fun D σ H zz_=>bg zz_ fun F as sl ce S P=>(fC S P).mono fun x H1 zz_=>aW zz_ fun wx F1 as1 ce1 l1 S1 rx P1=>(fC S1 P1).mono fun y H2 zz_=>aW zz_ fun wy F2 as2 ce2 l2 S2 ry P2=>(fC S2 P2).mono fun z H3 zz_=>aW zz_ fun wz F3 as3 ce3 l3 S3 rz P3=>?_;split at P3
 ·rename_i key kk kvs hk hc;split at P3
  ·rename_i hl;obtain⟨a,ps,rfl,ha,hH,rk⟩:=E5 S3.st (ry.le l3) hc;rw[rR rz hk];have rput:=rk.put key ((rx.le l2).le l3);refine⟨a,_,rfl,iz.kz hH (by rw[<- rk.length];exact hl),?_⟩;exact P3 _ _ _ _ .refl (S3.slots (S3.st.write (o:=.dK (e_ ps key x)) (c:=.dct (gu kvs key wx)) ha ⟨_,cU,rput⟩) .refl)
  ·exact(show False from P3).elim
 ·exact(show False from P3).elim
end
inductive Src where
 | lst (xs:List W)|tup (xs:List W)|cell (k:Nat) (xs:List W)|rng (lo:Int) (n:Nat)|dky (xs:List W)
def kW:Key->W
 | .inl i=>.int i
 | .inr x=>.str x
def Src.items:Src->List W
 | .lst xs=>xs
 | .tup xs=>xs
 | .cell _ xs=>xs
 | .rng lo n=>(List.range n).map fun(i:Nat)=>W.int (lo+(i:Int))
 | .dky xs=>xs
def Src.Stays(ce:Ce):Src->Prop
 | .cell k xs=>ce[k]?=some (.lst xs)
 | _=>True
def c_(K:Frag)(F:Hp)(as:List Addr):Src->It->Prop
 | .lst xs,J=>∃a vs,J=lj K a/\Rd F a (.lst vs)/\ag F as xs vs
 | .tup xs,J=>∃a vs,J=tX K a/\Rd F a (.tup vs)/\ag F as xs vs
 | .cell k _,J=>∃a,J=lj K a/\as[k]?=some a
 | .rng lo n,J=>J=pZ lo n
 | .dky xs,J=>∃a o ps,J=Im a o ps/\F a=some (.frz o (.dK ps))/\xs=ps.map fun p=>kW p.1
theorem c_.le{K:Frag}{F F':Hp}{as as':List Addr}{s:Src}{J:It}(l:Le F as F' as')(h:c_ K F as s J):c_ K F' as' s J:=by
 cases s with
 | lst xs=>obtain⟨a,vs,e,h,r⟩:=h;exact⟨a,vs,e,l.rd h,r.le l⟩
 | tup xs=>obtain⟨a,vs,e,h,r⟩:=h;exact⟨a,vs,e,l.rd h,r.le l⟩
 | cell k xs=>obtain⟨a,e,h⟩:=h;exact⟨a,e,l.c _ _ h⟩
 | rng lo n=>exact h
 | dky xs=>obtain⟨a,o,ps,e,h,q⟩:=h;exact⟨a,o,ps,e,l.f _ _ h,q⟩
variable {K:Frag}
theorem c_.turn{s:Src}{J:It}(S:av G F as H ce)(h:c_ K F as s J)(hs:s.Stays ce)(i:Nat) :
  (i<s.items.length->J.go i H/\∀x H',J.yld i H x H'->H'=H/\∃w,s.items[i]?=some w/\Rep F as w x)/\(i=s.items.length->J.stop i H):=by
 have lst:∀{a:Addr} {vs:List V} {xs:List W},cP K H a vs->ag F as xs vs->(i<xs.length->(lj K a).go i H/\∀x H',(lj K a).yld i H x H'->H'=H/\∃w,xs[i]?=some w/\Rep F as w x)/\(i=xs.length->(lj K a).stop i H):=by intro a vs xs hq rs;have hl:=rs.length;refine⟨fun hi=>⟨⟨vs,vs[i]'(by omega),hq,by simp⟩,fun x H' y=>?_⟩,fun hi=>⟨vs,hq,by omega⟩⟩;obtain⟨e,y⟩:=y;exact⟨e,rs.get' (y vs hq)⟩
 cases s with
 | lst xs=>obtain⟨a,vs,rfl,h,r⟩:=h;exact lst (.inl (Rd.sub S h)) r
 | cell k xs =>
  obtain⟨a,rfl,h⟩:=h;obtain⟨_,vs,h2,rs⟩:=S.cell _ _ _ h hs;exact lst (.inl (.inl h2)) rs
 | tup xs =>
  obtain⟨a,vs,rfl,h,rs⟩:=h;have hq:eI K H a vs:=.inl (Rd.sub S h);have hl:=rs.length;refine⟨fun hi=>⟨⟨vs,vs[i]'(by show i<_;simp only[Src.items] at hi;omega),hq,by simp⟩,fun x H' y=>?_⟩,fun hi=>⟨vs,hq,by simp only[Src.items] at hi;omega⟩⟩;obtain⟨e,y⟩:=y;exact⟨e,rs.get' (y vs hq)⟩
 | rng lo n =>
  cases h;have hl:(Src.rng lo n).items.length=n:=by simp[Src.items]
  rw[hl];refine⟨fun hi=>⟨hi,fun x H' y=>?_⟩,fun hi=>by rw[hi];exact le_refl _⟩;obtain⟨e,rfl⟩:=y;refine⟨e,.int (lo+i),?_,by simp only[Rep]⟩;simp[Src.items,hi]
 | dky xs =>
  obtain⟨a,o,ps,rfl,h,rfl⟩:=h;have hH:=S.sub _ _ h;have hl:(Src.dky (ps.map fun p=>kW p.1)).items.length=ps.length:=by simp[Src.items]
  rw[hl];refine⟨fun hi=>⟨⟨hH,hi⟩,fun x H' y=>?_⟩,fun hi=>⟨hH,hi.symm⟩⟩;obtain⟨e,p,hp,rfl⟩:=y;refine⟨e,kW p.1,by simp only[Src.items,getElem?_map,hp,map_some],?_⟩;cases p.1<;>simp only[kW,kV,Rep]
abbrev kj(G:Ga)(E:XK)(K:Frag)(d:Sl->M Src):TI:=toT G E (c_ K) d
theorem PI.imp{t t':TI}(h:PI X tg e t)(q:∀σ H R,t' σ H R->t σ H R):PI X tg e t':=fun pins s σ H Q I z=>h pins s σ H Q I (q _ _ _ z)
def fZ(ce:Ce):W->Option Src
 | .lst xs=>some (.lst xs)
 | .cel k=>match ce[k]? with
  | some (.lst xs)=>some (.cell k xs)
  | _=>none
 | _=>none
def qh:W->Option Src
 | .tup xs=>some (.tup xs)
 | _=>none
def dY(d:Sl->M W):Sl->M Src:=fun sl=>au (d sl) fun w=>look fun ce=>fZ ce w
def iq(d:Sl->M W):Sl->M Src:=fun sl=>au (d sl) fun w=>look fun _=>qh w
open Classical in
def iF:List W->Option Src
 | [.int j]=>@ite _ (-4611686018427387904<=j/\j<4611686018427387904) (Classical.propDecidable _) (some (.rng 0 j.toNat)) none
 | _=>none
def e9(d:Sl->M (List W)):Sl->M Src:=fun sl=>au (d sl) fun ws=>look fun _=>iF ws
variable {p:Pos}
section
variable {a:Expr}
theorem fY(hl:PE X a (ar G E da)):PI X tg a (kj G E X.K (dY da)):=by
 refine PI.imp (DI hl) fun σ H R zz_=>bg zz_ fun F as sl ce S P=>(step S P).mono fun x H1 zz_=>aW zz_ fun wx F1 as1 ce1 l1 S1 rx P1=>?_;obtain⟨src,e,P2⟩:=iW P1;cases wx<;>simp only[fZ,reduceCtorEq,Option.some.injEq] at e
 ·subst e;simp only[Rep] at rx;obtain⟨a,vs,rfl,h,rs⟩:=rx;exact⟨a,rfl,⟨vs,.inl (Rd.sub S1.st h)⟩,aG.done (RP:=c_ X.K) S1 P2 ⟨a,vs,rfl,h,rs⟩⟩
 ·split at e
  ·rename_i hc;cases e;simp only[Rep] at rx;obtain⟨a,rfl,h⟩:=rx;obtain⟨_,vs,h2,rs⟩:=S1.st.cell _ _ _ h hc;exact⟨a,rfl,⟨vs,.inl (.inl h2)⟩,aG.done (RP:=c_ X.K) S1 P2 ⟨a,rfl,h⟩⟩
  ·cases e
theorem mI(hl:PE X a (ar G E da)):PI X tg a (kj G E X.K (iq da)):=by refine PI.imp (B3 hl) fun σ H R zz_=>bg zz_ fun F as sl ce S P=>(step S P).mono fun x H1 zz_=>aW zz_ fun wx F1 as1 ce1 l1 S1 rx P1=>?_;obtain⟨src,e,P2⟩:=iW P1;cases wx<;>simp only[qh,reduceCtorEq,Option.some.injEq] at e;subst e;simp only[Rep] at rx;obtain⟨a,vs,rfl,h,rs⟩:=rx;exact⟨a,rfl,⟨vs,.inl (.inl (S1.st.sub _ _ h))⟩,aG.done (RP:=c_ X.K) S1 P2 ⟨a,vs,rfl,.inl h,rs⟩⟩
theorem gU(hg:Gl X "range")(hm:X.mg "range" = none)(ha:PA X [a] (eT G E dr))(hs:starEach [a] X.env=[(false,eval a X.env)]:=by rfl):PI X tg (.Call (.Name "range" p) [a] [] pos) (kj G E X.K (e9 dr)):=by
 refine PI.imp (FW hg hm ha hs) fun σ H R zz_=>bg zz_ fun F as sl ce S P=>(step (RP:=ag) S P).mono fun x H1 zz_=>aW zz_ fun wx F1 as1 ce1 l1 S1 rx P1=>?_;obtain⟨src,e,P2⟩:=iW P1;unfold iF at e;split at e
 ·rename_i j;split at e
  ·rename_i hj;cases e;simp only[ag,Rep] at rx;obtain⟨v,r,rfl,rfl,rfl⟩:=rx;exact⟨j,rfl,by omega,by omega,aG.done (RP:=c_ X.K) S1 P2 rfl⟩
  ·cases e
 ·cases e
end
open Classical in
def f_(s:Src)(g:DG)(body:DS):List W->DS
 | []=>fun sl ce=>if s.Stays ce then some (.go .nx sl ce) else none
 | x::r=>fun sl ce=>if s.Stays ce then (match g x sl ce with
  | some (sl1,ce1)=>match body sl1 ce1 with
   | some (.go .nx sl2 ce2)=>f_ s g body r sl2 ce2
   | some (.go .ct sl2 ce2)=>f_ s g body r sl2 ce2
   | some (.go .bk sl2 ce2)=>some (.go .nx sl2 ce2)
   | o=>o
  | none=>none) else none
def dg(i:Sl->M Src)(g:DG)(body:DS):DS:=fun sl ce=>bY (i sl ce) fun s ce'=>f_ s g body s.items sl ce'
def h_(c:Sl->M Bool)(body:DS):Nat->DS
 | 0=>fun _ _=>none
 | n+1=>fun sl ce=>bY (c sl ce) fun t ce1=>match t with
  | false=>some (.go .nx sl ce1)
  | true=>match body sl ce1 with
   | some (.go .nx sl2 ce2)=>h_ c body n sl2 ce2
   | some (.go .ct sl2 ce2)=>h_ c body n sl2 ce2
   | some (.go .bk sl2 ce2)=>some (.go .nx sl2 ce2)
   | o=>o
variable {iter:Expr} {di:Sl->M Src}
section
variable {body:List Stmt} {g:DG} {b:DS}
theorem yc{N:VS.St->Hp->Prop}{k:DS}{r:Option O}(P:aS G E D F as (match r with
   | some (.go .nx sl2 ce2)=>k sl2 ce2
   | some (.go .ct sl2 ce2)=>k sl2 ce2
   | some (.go .bk sl2 ce2)=>some (.go .nx sl2 ce2)
   | o=>o))(hN:∀σ H F' as' sl ce,Le F as F' as'->SR G F' as' H σ sl ce->aS G E D F' as' (k sl ce)->N σ H):aS G E { D with nx:=N,ct:=N,bk:=D.nx } F as r:=by
 cases r with
 | none=>exact P
 | some r=>cases r with
  | ex x ce'=>exact P
  | go f sl' ce'=>cases f with
   | nx=>exact fun σ' H' F' as' l S'=>hN σ' H' F' as' sl' ce' l S' (P.le l)
   | ct=>exact fun σ' H' F' as' l S'=>hN σ' H' F' as' sl' ce' l S' (P.le l)
   | bk=>exact fun σ' H' F' as' l S'=>P σ' H' F' as' l S'
   | rt w=>exact fun σ' H' F' as' l S'=>P σ' H' F' as' l S'
theorem ff(hp:PassesOwn (model X.prog X.w) X.A X.env X.xe)(hc:X.calm=true)(hi:PI X tg iter (kj G E X.K di))(hg:mD G X tg g)(hb:PSs X body (cT G E b))(hs:∀x,foldedSetIterable iter X.env x=pure x:=by intro _;rfl):PS X (.For tg iter body [] pos) (cT G E (dg di g b)):=by
 obtain⟨tgt,hg,qg⟩:=hg;refine PS.imp (CB hp hc hi hg hb hs) fun D σ H zz_=>bg zz_ fun F as sl ce S P=>(fC (RP:=c_ X.K) S P).mono fun J H1 zz_=>aW zz_ fun s F1 as1 ce1 l1 S1 rJ P1=>?_;refine⟨fun i m σ H=>∃F as sl ce,SR G F as H σ sl ce/\c_ X.K F as s J/\m=s.items.length-i/\i<=s.items.length/\aS G E D F as (f_ s g b (s.items.drop i) sl ce),⟨s.items.length,F1,as1,sl,ce1,S1,rJ,rfl,zero_le _,P1⟩,?_⟩;rintro i m σ H ⟨F,as,sl,ce,S,rJ,rfl,hi,P⟩
 by_cases hlt:i<s.items.length
 ·rw[drop_eq_getElem_cons hlt] at P;simp only[f_] at P;split at P
  ·rename_i hst;obtain⟨t1,t2⟩:=rJ.turn S.st hst i;obtain⟨go,yl⟩:=t1 hlt;refine .inr ⟨go,_,fun σ' H' h=>h,fun x H' y=>?_⟩;obtain⟨rfl,w,hw,rw'⟩:=yl x H' y;rw[getElem?_eq_getElem hlt] at hw;cases hw;split at P
   ·rename_i sl1 ce1 eg;refine qg F as H' σ sl ce _ x sl1 ce1 _ S rw' eg fun σ' H2 F' as' l S'=>⟨F',as',sl1,ce1,S',?_⟩
    refine yc (P.le l) fun σ3 H3 F3 as3 sl3 ce3 l3 S3 P3=>?_;exact⟨s.items.length-(i+1),by omega,F3,as3,sl3,ce3,S3,rJ.le (l.trans l3),rfl,hlt,P3⟩
   ·exact(show False from P).elim
  ·exact(show False from P).elim
 ·have e:i=s.items.length:=by omega
  subst e;rw[drop_length] at P;simp only[f_] at P;split at P
  ·rename_i hst;exact .inl ⟨(rJ.turn S.st hst _).2 rfl,P.nxt S⟩
  ·exact(show False from P).elim
theorem E4(n:Nat)(hp:PassesOwn (model X.prog X.w) X.A X.env X.xe)(hc:PT X t (cb G E c))(hb:PSs X body (cT G E b)):PS X (.While t body [] pos) (cT G E (h_ c b n)):=by
 refine PS.imp (EW hp hc hb) fun D σ H zz_=>bg zz_ fun F as sl ce S P=>?_;refine⟨fun m σ H=>∃F as sl ce,SR G F as H σ sl ce/\aS G E D F as (h_ c b m sl ce),⟨n,F,as,sl,ce,S,P⟩,?_⟩;rintro m σ H ⟨F,as,sl,ce,S,P⟩;cases m with
 | zero=>exact(show False from P).elim
 | succ m =>
  refine(fC (RP:=rB) S P).mono fun x H1 zz_=>aW zz_ fun wx F1 as1 ce1 l1 S1 rx P1=>?_;have rx:wx=x:=rx;subst rx;cases wx
  ·rw[if_neg Bool.false_ne_true];exact P1.nxt S1
  ·rw[if_pos rfl];refine⟨fun σ' H'=>∃F as sl ce,SR G F as H' σ' sl ce/\aS G E D F as (h_ c b m sl ce),fun σ' H' h=>⟨m,lt_succ_self _,h⟩,F1,as1,sl,ce1,S1,?_⟩;exact yc P1 fun σ3 H3 F3 as3 sl3 ce3 l3 S3 P3=>⟨F3,as3,sl3,ce3,S3,P3⟩
end
def cY(js:List Nat)(sl:Sl):Sl:=js.map fun j=>sl.getD j none
open Classical in
def dE(s:Src)(cs:Sl)(c:Sl->M Bool)(e:Sl->M W):List W->List W->M (List W)
 | [],ys=>fun ce=>if s.Stays ce then some (.ok ys ce) else none
 | x::r,ys=>fun ce=>if s.Stays ce/\ys.length<sizeLine then au (c (some x::cs)) (fun t=>match t with
   | true=>au (e (some x::cs)) fun y=>dE s cs c e r (ys++[y])
   | false=>dE s cs c e r ys) ce else none
def cL(mk:List W->M W)(js:List Nat)(i:Sl->M Src)(c:Sl->M Bool)(e:Sl->M W):Sl->M W:=fun sl=>au (i sl) fun s=>au (dE s (cY js sl) c e s.items []) mk
def de:Sl->M Bool:=fun _=>ret true
variable {ifs:List Expr} {Y:Cx} {sl' cs:Sl}
section
variable {elt:Expr} {x:Str} {px:Pos} {scope:Scope} {js:List Nat} {caps:List Str} {e:Sl->M W}
theorem PIfs.imp{t:TT}(h:PIfs Y ifs t)(q:∀σ H Q,t' σ H Q->t σ H Q):PIfs Y ifs t':=fun pins s σ H Q I z=>h pins s σ H Q I (q _ _ _ z)
theorem jz:PIfs Y [] (cb G E de):=PIfs.imp Fj fun σ H Q zz_=>bg zz_ fun F as sl ce S P=>aG.done (RP:=rB) S (a:=true) P rfl
theorem pf(h:PT Y t (cb G E c)):PIfs Y [t] (cb G E c):=Fh h
theorem SR.cap{σ:VS.St}(S:SR G F as H σ sl ce)(js:List Nat)(r:Rep F as w v):SR G F as H (some v::gx js σ) (some w::cY js sl) ce:=by
 refine⟨S.st,by simp[gx,cY],fun i u h=>?_⟩;cases i with
 | zero=>simp at h;subst h;exact⟨v,rfl,r⟩
 | succ i =>
  simp only[cY,getElem?_cons_succ,getElem?_map] at h;cases e:js[i]? with
  | none=>rw[e] at h;cases h
  | some j =>
   rw[e] at h;have hj:sl[j]?=some (some u):=by
    have h':sl.getD j none=some u:=by simpa using h
    rw[getD_eq_getElem?_getD] at h';cases q:sl[j]? with
    | none=>rw[q] at h';cases h'
    | some z=>rw[q] at h';simp at h';rw[h']
   obtain⟨v',h1,h2⟩:=S.slot j u hj;refine⟨v',?_,h2⟩;simp only[gx,getElem?_cons_succ,getElem?_map,e,map_some,getD_eq_getElem?_getD,h1,getD_some]
theorem uA{α β γ δ:Type}{RP:Hp->List Addr->α->β->Prop}{RQ:Hp->List Addr->γ->δ->Prop}{σ σ':VS.St}{d:Sl->M α}{f:α->M γ}{Q:δ->Hp->Prop}(S:SR G F as H σ sl ce)(S':SR G F as H σ' sl' ce)(P:aG G E RQ F as σ sl Q (au (d sl') f ce)) :
  toT G E RP d σ' H fun b H2=>∃a F' as' ce',Le F as F' as'/\SR G F' as' H2 σ sl ce'/\SR G F' as' H2 σ' sl' ce'/\RP F' as' a b/\aG G E RQ F' as' σ sl Q (f a ce'):=by
 refine⟨F,as,sl',ce,S',?_⟩;revert P;unfold au;cases d sl' ce with
 | none=>exact fun P=>P
 | some r=>cases r with
  | ok a ce'=>exact fun P b H' F' as' l S2 r=>⟨a,F',as',ce',l,S.slots S2.st l,S2,r,P.le l⟩
  | ex x ce'=>exact fun P=>P
theorem ya{α β γ:Type}(m:M α)(f:α->M β)(g:β->M γ):au (au m f) g=au m fun a=>au (f a) g:=by
 funext ce;unfold au;cases m ce with
 | none=>rfl
 | some r=>cases r<;>rfl
theorem Gv{α β:Type}{m m':M α}{g:α->M β}(h:m ce=m' ce):au m g ce=au m' g ce:=by simp only[au,h]
theorem oS{s:Src}{e:Sl->M W}{x:W}{r:List W}(h:s.Stays ce/\ys.length<sizeLine):dE s cs c e (x::r) ys ce=au (c (some x::cs)) (fun t=>match t with
   | true=>au (e (some x::cs)) fun y=>dE s cs c e r (ys++[y])
   | false=>dE s cs c e r ys) ce:=by simp only[dE,if_pos h]
theorem BH{s:Src}{e:Sl->M W}{x:W}{r:List W}(h:¬(s.Stays ce/\ys.length<sizeLine)):dE s cs c e (x::r) ys ce=none:=by simp only[dE,if_neg h]
theorem vD(hm:i6 G E mk)(σ:L2.St)(H:Hp)(Q:VK)(h:ar G E (cL mk js di c e) σ H Q):pP js (kj G E X.K di) (cb G E c) (ar G E e) σ H Q:=by
 obtain⟨F,as,sl,ce,S,P⟩:=h;refine(step (RP:=c_ X.K) S P).mono fun J H1 zz_=>aW zz_ fun s F1 as1 ce1 l1 S1 rJ P1=>?_;refine⟨fun i m ys H=>∃F as ce ws,SR G F as H σ sl ce/\c_ X.K F as s J/\m=s.items.length-i/\i<=s.items.length/\ag F as ws ys/\aG G E Rep F as σ sl Q (au (dE s (cY js sl) c e (s.items.drop i) ws) mk ce),⟨s.items.length,F1,as1,ce1,[],S1,rJ,rfl,zero_le _,.nil,P1⟩,?_⟩;rintro i m ys H ⟨F,as,ce,ws,S,rJ,rfl,hi,rs,P⟩
 by_cases hlt:i<s.items.length
 ·rw[drop_eq_getElem_cons hlt] at P
  by_cases hst:s.Stays ce/\ws.length<sizeLine
  ·obtain⟨go,yl⟩:=(rJ.turn S.st hst.1 i).1 hlt;refine .inr ⟨go,by rw[rs.length];exact hst.2,_,fun ys' H' h=>h,fun x H' y=>?_⟩;obtain⟨rfl,w,hw,rw'⟩:=yl x H' y;rw[getElem?_eq_getElem hlt] at hw;cases hw;have P':=P;rw[Gv (oS hst)] at P';rw[ya] at P';refine(uA (RP:=rB) S (S.cap js rw') P').mono fun b H2 ⟨t,F2,as2,ce2,l2,S2,S2',rt,P2⟩=>?_;have rt:t=b:=rt;subst rt;cases t
   ·rw[if_neg Bool.false_ne_true];exact⟨s.items.length-(i+1),by omega,F2,as2,ce2,ws,S2,rJ.le l2,rfl,hlt,rs.le l2,P2⟩
   ·rw[if_pos rfl];dsimp only at P2;rw[ya] at P2;refine(uA (RP:=Rep) S2 S2' P2).mono fun y H3 ⟨wy,F3,as3,ce3,l3,S3,S3',ry,P3⟩=>?_;exact⟨s.items.length-(i+1),by omega,F3,as3,ce3,ws++[wy],S3,rJ.le (l2.trans l3),rfl,hlt,(rs.le (l2.trans l3)).append (.cons ry .nil),P3⟩
  ·have P':=P;simp only[au,BH hst] at P';exact(show False from P').elim
 ·have e':i=s.items.length:=by omega
  subst e';rw[drop_length] at P
  by_cases hst:s.Stays ce
  ·have eq:au (dE s (cY js sl) c e [] ws) mk ce=mk ws ce:=by simp only[au,dE,if_pos hst]
   rw[eq] at P;exact .inl ⟨(rJ.turn S.st hst _).2 rfl,(hm S rs P).2⟩
  ·have eq:au (dE s (cY js sl) c e [] ws) mk ce=none:=by simp only[au,dE,if_neg hst]
   rw[eq] at P;exact(show False from P).elim
theorem jU(hm:i6 G E mk)(B:ft X.N X.env.scope js (x::caps) scope)(hc:X.calm=true)(hx:scope.names.lookup x=some .local)(hi:PI X (.Name x px) iter (kj G E X.K di))(ht:∀C fp s₀ H₀,PIfs (dU X (x::caps) scope C fp s₀ H₀) ifs (cb G E c))(he:∀C fp s₀ H₀,PE (dU X (x::caps) scope C fp s₀ H₀) elt (ar G E e))(hs:∀v,foldedSetIterable iter X.env v=pure v:=by intro _;rfl):PE X (.ListComp elt [⟨.Name x px,iter,ifs,0⟩] scope pos) (ar G E (cL mk js di c e)):=PE.imp (Ab B hc hx hi ht he hs) (vD hm)
theorem mW{y:Str}{py spos:Pos}(hm:i6 G E mk)(B:ft X.N X.env.scope js (x::caps) scope)(hc:X.calm=true)(hx:scope.names.lookup x=some .local)(hi:PI X (.Name x px) iter (kj G E X.K di))(ht:∀C fp s₀ H₀,PIfs (dU X (x::caps) scope C fp s₀ H₀) ifs (cb G E c))(he:∀C fp s₀ H₀,PE (dU X (x::caps) scope C fp s₀ H₀) elt (ar G E e))(hN:X.N.Nodup)(hk:X.N[k]?=some y)(hy:X.env.scope.names.lookup y=some .local)(hsw:swapsWith (.ListComp elt [⟨.Name x px,iter,ifs,0⟩] scope pos) (some (.Name y py)) spos.line X.env=pure true)(hs:∀v,foldedSetIterable iter X.env v=pure v:=by intro _;rfl):PS X (.Assign [.Name y py] (.ListComp elt [⟨.Name x px,iter,ifs,0⟩] scope pos) spos) (cT G E (aQ k (cL mk js di c e))):=by refine PS.imp (Aa B hc hx hi ht he hN hk hy hsw hs) fun D σ H zz_=>bg zz_ fun F as sl ce S P=>?_;refine vD (X:=X) hm σ H _ ((fC S P).mono fun x H1 zz_=>aW zz_ fun wx F1 as1 ce1 l1 S1 rx P1=>?_);exact P1 _ H1 F1 as1 .refl (S1.put rx k)
end
mutual
def aU(n:Nat):W->Prop
 | .cel k=>k<n
 | .lst xs=>cp n xs
 | .tup xs=>cp n xs
 | .non=>True
 | .bl _=>True
 | .int _=>True
 | .str _=>True
 | .ty _=>True
def cp(n:Nat):List W->Prop
 | []=>True
 | x::xs=>aU n x/\cp n xs
end
mutual
theorem Rep.bel{F:Hp}{as:List Addr}:∀{w:W} {v:V},Rep F as w v->aU as.length w
 | .non,_,_=>by simp only[aU]
 | .bl _,_,_=>by simp only[aU]
 | .int _,_,_=>by simp only[aU]
 | .str _,_,_=>by simp only[aU]
 | .ty _,_,_=>by simp only[aU]
 | .lst xs,_,r=>by
  simp only[Rep] at r;obtain⟨a,vs,_,_,s⟩:=r;simp only[aU];exact ag.bel s
 | .tup xs,_,r=>by
  simp only[Rep] at r;obtain⟨a,vs,_,_,s⟩:=r;simp only[aU];exact ag.bel s
 | .cel k,_,r=>by
  simp only[Rep] at r;obtain⟨a,_,h⟩:=r;simp only[aU];exact eF h
theorem ag.bel{F:Hp}{as:List Addr}:∀{ws:List W} {vs:List V},ag F as ws vs->cp as.length ws
 | [],_,_=>by simp only[cp]
 | _::_,_,r=>by
  simp only[ag] at r;obtain⟨v,vs',_,h,t⟩:=r;simp only[cp];exact⟨Rep.bel h,ag.bel t⟩
end
mutual
theorem Rep.cut{F:Hp}{as as':List Addr}{n:Nat}(hl:∀k,k<n->as'[k]?=as[k]?):∀{w:W} {v:V},aU n w->Rep F as w v->Rep F as' w v
 | .non,_,_,r=>by simpa only[Rep] using r
 | .bl _,_,_,r=>by simpa only[Rep] using r
 | .int _,_,_,r=>by simpa only[Rep] using r
 | .str _,_,_,r=>by simpa only[Rep] using r
 | .ty _,_,_,r=>by simpa only[Rep] using r
 | .lst xs,_,b,r=>by
  simp only[Rep] at r ⊢;simp only[aU] at b;obtain⟨a,vs,h1,h2,s⟩:=r;exact⟨a,vs,h1,h2,ag.cutS hl b s⟩
 | .tup xs,_,b,r=>by
  simp only[Rep] at r ⊢;simp only[aU] at b;obtain⟨a,vs,h1,h2,s⟩:=r;exact⟨a,vs,h1,h2,ag.cutS hl b s⟩
 | .cel k,_,b,r=>by
  simp only[Rep] at r ⊢;simp only[aU] at b;obtain⟨a,h1,h⟩:=r;exact⟨a,h1,by rw[hl k b];exact h⟩
theorem ag.cutS{F:Hp}{as as':List Addr}{n:Nat}(hl:∀k,k<n->as'[k]?=as[k]?):∀{ws:List W} {vs:List V},cp n ws->ag F as ws vs->ag F as' ws vs
 | [],_,_,r=>by simpa only[ag] using r
 | _::_,_,b,r=>by
  simp only[ag] at r ⊢;simp only[cp] at b;obtain⟨v,vs',h1,h,t⟩:=r;exact⟨v,vs',h1,Rep.cut hl b.1 h,ag.cutS hl b.2 t⟩
end
def eB(n:Nat):C->Prop
 | .lst xs=>cp n xs
 | .dct kvs=>∀p∈kvs,aU n p.2
 | .ins _ fs=>∀p∈fs,aU n p.2
 | .exn _=>True
 | .exm _ _ _=>True
 | .dead=>True
 | .fzd kvs=>∀p∈kvs,aU n p.2
 | .dtp kvs=>∀p∈kvs,aU n p.2
 | .ndt _=>True
theorem az.bel{κ:Type}{F:Hp}{as:List Addr}{kvs:List (κ×W)}{ps:List (κ×V)}(r:az F as kvs ps):∀p∈kvs,aU as.length p.2:=by
 induction r with
 | nil=>simp
 | cons h t ih =>
  intro p hp;rcases mem_cons.mp hp with rfl|hp
  ·exact h.2.bel
  ·exact ih p hp
theorem az.cut{κ:Type}{F:Hp}{as as':List Addr}{n:Nat}(hl:∀k,k<n->as'[k]?=as[k]?){kvs:List (κ×W)}{ps:List (κ×V)}(b:∀p∈kvs,aU n p.2)(r:az F as kvs ps):az F as' kvs ps:=by
 induction r with
 | nil=>exact .nil
 | cons h t ih=>exact .cons ⟨h.1,h.2.cut hl (b _ mem_cons_self)⟩ (ih fun p hp=>b p (mem_cons_of_mem _ hp))
section
variable {c:C}
theorem cR.bel(h:cR G F as H a c):eB as.length c:=by
 cases c with
 | lst xs=>obtain⟨vs,_,r⟩:=h;exact r.bel
 | dct xs=>obtain⟨vs,_,r⟩:=h;exact r.bel
 | ins c xs=>obtain⟨dx,vs,_,r⟩:=h;exact r.bel
 | exn c=>trivial
 | exm c f n=>trivial
 | dead=>trivial
 | fzd xs=>obtain⟨o,ps,_,_,r⟩:=h;exact r.bel
 | dtp xs=>obtain⟨vs,_,r⟩:=h;exact r.bel
 | ndt ks=>trivial
theorem cR.cut(hl:∀k,k<n->as'[k]?=as[k]?)(b:eB n c)(h:cR G F as H a c):cR G F as' H a c:=by
 cases c with
 | lst xs=>obtain⟨vs,e,r⟩:=h;exact⟨vs,e,r.cutS hl b⟩
 | dct xs=>obtain⟨vs,e,r⟩:=h;exact⟨vs,e,az.cut hl b r⟩
 | ins c xs=>obtain⟨dx,vs,e,r⟩:=h;exact⟨dx,vs,e,az.cut hl b r⟩
 | exn c=>exact h
 | exm c f n=>exact h
 | dead=>exact h
 | fzd xs=>obtain⟨o,ps,e1,e2,r⟩:=h;exact⟨o,ps,e1,e2,az.cut hl b r⟩
 | dtp xs=>obtain⟨vs,e,r⟩:=h;exact⟨vs,e,az.cut hl b r⟩
 | ndt ks=>exact h
end
def fB(ce ce':Ce):Prop:=ce.length<=ce'.length/\∀(k:Nat) (c:C),k<ce.length->ce'[k]?=some c->ce[k]?=some c\/eB ce.length c
theorem iP{α:Type}{l:List α}(h:k<n):(l.take n)[k]?=l[k]?:=getElem?_take_of_lt h
theorem av.cut(S:av G F as H ce)(S':av G F' as' H' ce')(l:Le F as F' as')(h:fB ce ce'):av G F' (as'.take ce.length) H' (ce'.take ce.length)/\Le F as F' (as'.take ce.length):=by
 have hl:∀k,k<ce.length->(as'.take ce.length)[k]?=as'[k]?:=fun k hk=>iP hk;refine⟨⟨S'.sub,S'.nd.sublist (take_sublist _ _),by rw[length_take,length_take,S'.len],fun k a c h1 h2=>?_⟩,l.f,fun k a e=>?_⟩
 ·have hk:k<ce.length:=by have:=eF h2;rw[length_take] at this;omega
  rw[iP hk] at h1 h2;obtain⟨q1,q2⟩:=S'.cell k a c h1 h2;refine⟨q1,q2.cut hl ?_⟩;rcases h.2 k c hk h2 with h3|h3
  ·obtain⟨a0,e0,_,q0⟩:=S.at h3;rw[<- S.len];exact q0.bel
  ·exact h3
 ·have hk:k<ce.length:=by rw[<- S.len];exact eF e
  rw[iP hk];exact l.c k a e
open Classical in
def finC(ce ce':Ce)(w:W):Option (R W):=if fB ce ce'/\aU ce.length w then some (.ok w (ce'.take ce.length)) else none
open Classical in
def finO(ce ce':Ce)(w:W):Option (R W):=match w with
 | .cel k=>match ce'[k]? with
  | some c=>if fB ce ce'/\ce.length<=k/\eB ce.length c then some (.ok (.cel ce.length) (ce'.take ce.length++[c])) else none
  | none=>none
 | _=>none
def mP(_ce ce':Ce)(w:W):Option (R W):=some (.ok w ce')
def mQ(G:Ga)(fin:Ce->Ce->W->Option (R W)):Prop:=∀(F F':Hp) (as as':List Addr) (H H':Hp) (ce ce':Ce) (w:W) (v:V) (r:R W),av G F as H ce->av G F' as' H' ce'->Le F as F' as'->Rep F' as' w v->fin ce ce' w=some r ->
 ∃w2 ce2 as2,r=.ok w2 ce2/\Le F as F' as2/\av G F' as2 H' ce2/\Rep F' as2 w2 v
theorem uU:mQ G mP:=fun F F' as as' H H' ce ce' w v r S S' l rw' e=>by
 cases e;exact⟨w,ce',as',rfl,l,S',rw'⟩
theorem dA:mQ G finC:=fun F F' as as' H H' ce ce' w v r S S' l rw' e=>by
 unfold finC at e;split at e
 ·rename_i h;cases e;obtain⟨S2,l2⟩:=S.cut S' l h.1;exact⟨w,_,_,rfl,l2,S2,rw'.cut (fun k hk=>iP hk) h.2⟩
 ·cases e
theorem jT:mQ G finO:=fun F F' as as' H H' ce ce' w v r S S' l rw' e=>by
 cases w<;>simp only[finO,reduceCtorEq] at e;rename_i k;split at e
 ·rename_i c hc;split at e
  ·rename_i h;obtain⟨h1,h2,h3⟩:=h;cases e;obtain⟨S2,l2⟩:=S.cut S' l h1;simp only[Rep] at rw';obtain⟨a,rfl,ha⟩:=rw';obtain⟨q1,q2⟩:=S'.cell k a c ha hc;have hlen:(as'.take ce.length).length=ce.length:=by rw[length_take,S'.len];exact min_eq_left h1.1
   have hlen2:(ce'.take ce.length).length=ce.length:=by rw[length_take];exact min_eq_left h1.1
   have l3:Le F' (as'.take ce.length) F' (as'.take ce.length++[a]):=⟨fun _ _ h=>h,fun j b hb=>by rw[getElem?_append_left (eF hb)];exact hb⟩
   refine⟨_,_,as'.take ce.length++[a],rfl,l2.trans l3,⟨S'.sub,?_,by rw[length_append,length_append,hlen,hlen2];rfl,fun j b c' e1 e2=>?_⟩,?_⟩
   ·rw[nodup_append];refine⟨S2.nd,by simp,fun b hb d hd=>?_⟩;rw[mem_singleton] at hd;subst hd;rintro rfl;obtain⟨j,hj⟩:=getElem?_of_mem hb;have hj1:j<ce.length:=by have:=eF hj;omega
    rw[iP hj1] at hj;have ha':=eF ha;have hj':=eF hj;rw[getElem?_eq_getElem ha'] at ha;rw[getElem?_eq_getElem hj'] at hj;have:=oG S'.nd ha' hj' ((Option.some.inj ha).trans (Option.some.inj hj).symm);omega
   ·by_cases hj:j<ce.length
    ·rw[getElem?_append_left (by omega)] at e1 e2;obtain⟨p1,p2⟩:=S2.cell j b c' e1 e2;exact⟨p1,p2.le l3 rfl⟩
    ·rw[getElem?_append_right (by omega),hlen] at e1;rw[getElem?_append_right (by omega),hlen2] at e2;have hz:j-ce.length=0:=by
      cases q:j-ce.length with
      | zero=>rfl
      | succ m=>rw[q] at e1;simp at e1
     rw[hz] at e1 e2;simp at e1 e2;subst e1;subst e2;exact⟨q1,(q2.cut (n:=ce.length) (fun i hi=>iP hi) h3).le l3 rfl⟩
   ·simp only[Rep];exact⟨a,rfl,by rw[getElem?_append_right (by omega),hlen];simp⟩
  ·cases e
 ·cases e
open Classical in
def bE(fin:Ce->Ce->W->Option (R W))(n:Nat)(body:DS):List W->M W:=fun ws ce=>match body (ws.map some++List.replicate (n-ws.length) none) ce with
 | some (.go (.rt w) _ ce')=>fin ce ce' w
 | some (.go .nx _ ce')=>fin ce ce' .non
 | some (.ex x ce')=>if fB ce ce' then some (.ex x (ce'.take ce.length)) else none
 | _=>none
def c8(G:Ga)(E:XK)(F:Hp)(as:List Addr)(Q:VK):Option (R W)->Prop
 | some (.ok w ce')=>∀v H' F' as',Le F as F' as'->av G F' as' H' ce'->Rep F' as' w v->Q v H'
 | some (.ex x ce')=>∀H' F' as' cv od,Le F as F' as'->av G F' as' H' ce'->G.xr x cv od F'->E cv od H'
 | none=>False
def fq(G:Ga)(fe:XK->XK)(n:Nat)(d:List W->M W):Sp:=fun vs H Q E=>vs.length=n/\∃F as ws ce,av G F as H ce/\ag F as ws vs/\c8 G (fe E) F as Q (d ws ce)
theorem E3(S:av G F as H ce)(rs:ag F as ws vs)(N:List Str):SR G F as H (L2.start N vs) (ws.map some++List.replicate (N.length-ws.length) none) ce:=by
 have hl:=rs.length;refine⟨S,by unfold L2.start;simp[hl],fun i w h=>?_⟩;have hi:i<ws.length:=by
  by_cases hi:i<ws.length
  ·exact hi
  ·rw[getElem?_append_right (by simpa using hi),getElem?_replicate] at h;split at h<;>cases h
 rw[getElem?_append_left (by simpa using hi),getElem?_map] at h;cases e:ws[i]? with
 | none=>rw[e] at h;cases h
 | some w' =>
  rw[e] at h;simp only[map_some,Option.some.injEq] at h;subst h;obtain⟨v,h1,h2⟩:=rs.get e;refine⟨v,?_,h2⟩;unfold L2.start;rw[getElem?_append_left (by simp;omega),getElem?_map,h1];rfl
theorem CO{fin:Ce->Ce->W->Option (R W)}{body:DS}(hf:mQ G fin)(N:List Str)(S:av G F as H ce)(rs:ag F as ws vs)(P:c8 G E F as Q (bE fin N.length body ws ce)) :
  cT G E body { nx:=fun _ H'=>Q .non H',rt:=Q } (L2.start N vs) H:=by
 refine⟨F,as,_,ce,E3 S rs N,?_⟩;revert P;unfold bE;have key:∀{w:W} {ce':Ce},c8 G E F as Q (fin ce ce' w)->∀v H' F' as',Le F as F' as'->av G F' as' H' ce'->Rep F' as' w v->Q v H':=by
  intro w ce' P v H' F' as' l S' rw';cases e:fin ce ce' w with
  | none=>rw[e] at P;exact P.elim
  | some r =>
   obtain⟨w2,ce2,as2,rfl,l2,S2,r2⟩:=hf F F' as as' H H' ce ce' w v r S S' l rw' e;rw[e] at P;exact P v H' F' as2 l2 S2 r2
 cases body (ws.map some++List.replicate (N.length-ws.length) none) ce with
 | none=>exact fun P=>P
 | some o=>cases o with
  | ex x ce' =>
   intro P H' F' as' cv od l S' hx;dsimp only at P;split at P
   ·rename_i h;obtain⟨S2,l2⟩:=S.cut S' l h;exact P H' F' _ cv od l2 S2 hx
   ·exact P.elim
  | go f sl' ce'=>cases f with
   | nx=>exact fun P σ' H' F' as' l S'=>key P .non H' F' as' l S'.st (by simp only[Rep])
   | bk=>exact fun P=>P.elim
   | ct=>exact fun P=>P.elim
   | rt w=>exact fun P σ' H' F' as' l S' v r=>key P v H' F' as' l S'.st r
def aV(n:Nat)(f:List W->M W)(args:Sl->M (List W)):Sl->M W:=fun sl=>au (args sl) fun ws=>if ws.length=n then f ws else jn
variable {CX:iA} {fd:FuncData} {fe:XK->XK}
section
variable {E1:XK} {f:Addr} {ps:List Str} {df:List W->M W} {x:Str}
theorem c8.of{σ:VS.St}{r:Option (R W)}(S:SR G F as H σ sl ce)(P:aG G E Rep F as σ sl Q r):c8 G E F as Q r:=by
 cases r with
 | none=>exact P
 | some r=>cases r with
  | ok w ce'=>exact fun v H' F' as' l S' rv=>P v H' F' as' l (S.slots S' l) rv
  | ex y ce'=>exact P
theorem bW(Fk:ax X.prog X.w X.K X.mg X.base CX k f fd ps (fq G fe n df))(hr:aO k X.A)(hg:Gl X x)(hm:X.mg x=some (.ref f))(hk:keepIn X.K (.ref f)=true)(hb:Binds X.K fd ps [])(hx:fO CX X E1)(ha:PA X (e::es) (eT G E dr))(hfe:fe E1=E:=by rfl)(hdb:(x==("__debug__" : Str))=false:=by decide)(he:starEach (e::es) X.env=(false,eval e X.env)::starEach es X.env:=by rfl)(hpl:(backTo pos (starEach es X.env)).any (·.1)=false:=by rfl) :
  PE X (.Call (.Name x p) (e::es) [] pos) (ar G E (aV n df dr)):=by
 refine PE.imp (Dy Fk hr hg hm hk hb .nil hx ha hdb he hpl) fun σ H Q zz_=>bg zz_ fun F as sl ce S P=>(step (RP:=ag) S P).mono fun vs H1 zz_=>aW zz_ fun ws F1 as1 ce1 l1 S1 rs P1=>?_;split at P1
 ·rename_i hn;rw[append_nil];exact⟨by rw[rs.length];exact hn,F1,as1,ws,ce1,S1.st,rs,by rw[hfe];exact c8.of S1 P1⟩
 ·exact(show False from P1).elim
end
open Classical in
def cX(d:List W->M W):List W->M W:=fun ws ce=>match d ws ce with
 | some (.ok (.cel k) ce')=>match ce'[k]? with
  | some (.lst xs)=>if fB ce ce'/\k=ce.length/\cp ce.length xs then some (.ok (.lst xs) (ce'.take ce.length)) else none
  | _=>none
 | some (.ok w ce')=>some (.ok w ce')
 | r=>r
theorem hZ{P:Program}{w:World}{mg:Str->Option Value}{base:Heap}{f:Addr}{ps:List Str}{d:List W->M W}(h:ax P w K mg base CX k f fd ps (fq G fe n d)):ax P w K mg base CX k f fd ps (fq G fe n (cX d)):=by
 refine h.imp fun vs H Q E ⟨hl,F,as,ws,ce,S,rs,Pf⟩=>⟨hl,F,as,ws,ce,S,rs,?_⟩
 revert Pf;unfold cX;cases d ws ce with
 | none=>exact fun P=>P
 | some r=>cases r with
  | ex x ce'=>exact fun P=>P
  | ok w ce' =>
   cases w<;>first|exact fun P=>P|skip
   rename_i j;dsimp only;intro Pf v H' F' as' l S' rv;simp only[Rep] at rv;obtain⟨a,rfl,ha⟩:=rv;split at Pf
   ·rename_i xs hc;split at Pf
    ·rename_i h;obtain⟨h1,h2,h3⟩:=h;obtain⟨q1,vs',hH,rs'⟩:=S'.cell j a _ ha hc;have q1:=q1 rfl;obtain⟨S2,l2⟩:=S.cut S' l h1;have rs2:ag F' (as'.take ce.length) xs vs':=rs'.cutS (fun i hi=>iP hi) h3;have l3:Le F' (as'.take ce.length) (upd F' a (.lst vs')) (as'.take ce.length):=⟨gh q1,fun _ _ h=>h⟩
     refine Pf (.ref a) H' (upd F' a (.lst vs')) (as'.take ce.length) (l2.trans l3) ⟨fun b o e=>?_,S2.nd,S2.len,fun i b c e1 e2=>?_⟩ (by simp only[Rep];exact⟨a,vs',rfl,.inl cU,rs2.le l3⟩)
     ·by_cases hb:b=a
      ·subst hb;rw[cU] at e;cases e;exact hH
      ·rw[bH hb] at e;exact S2.sub _ _ e
     ·obtain⟨p1,p2⟩:=S2.cell i b c e1 e2;have hb:b≠a:=by
       rintro rfl;have hi:i<ce.length:=by have:=eF e2;rw[length_take] at this;omega
       rw[iP hi] at e1;have a1:=eF ha;have a2:=eF e1;rw[getElem?_eq_getElem a1] at ha;rw[getElem?_eq_getElem a2] at e1;have:=oG S'.nd a1 a2 ((Option.some.inj ha).trans (Option.some.inj e1).symm);omega
      exact⟨fun hn=>by rw[bH hb];exact p1 hn,p2.le l3 rfl⟩
    ·exact Pf.elim
   ·exact Pf.elim
def jS:List W->Option (List Int)
 | []=>some []
 | .int i::r=>(jS r).map (i::·)
 | _=>none
def kL:List W->Option (List Bool)
 | []=>some []
 | .bl i::r=>(kL r).map (i::·)
 | _=>none
def jR:List (Key×W)->Option (List Int)
 | []=>some []
 | (.inl i,_)::r=>(jR r).map (i::·)
 | _=>none
theorem x_:∀ns:List Int,jS (ns.map W.int)=some ns
 | []=>rfl
 | n::r=>by simp only[map_cons,jS,x_ r,map_some]
theorem yI:∀ns:List Bool,kL (ns.map W.bl)=some ns
 | []=>rfl
 | n::r=>by simp only[map_cons,kL,yI r,map_some]
theorem xT:∀{ws:List W} {ns:List Int},jS ws=some ns->ws=ns.map W.int
 | [],ns,h=>by simp only[jS,Option.some.injEq] at h;subst h;rfl
 | w::r,ns,h=>by
  cases w<;>simp only[jS,reduceCtorEq,map_eq_some_iff] at h;obtain⟨ms,h1,rfl⟩:=h;rw[xT h1,map_cons]
theorem x9:∀{ws:List W} {ns:List Bool},kL ws=some ns->ws=ns.map W.bl
 | [],ns,h=>by simp only[kL,Option.some.injEq] at h;subst h;rfl
 | w::r,ns,h=>by
  cases w<;>simp only[kL,reduceCtorEq,map_eq_some_iff] at h;obtain⟨ms,h1,rfl⟩:=h;rw[x9 h1,map_cons]
theorem sf:∀{kvs:List (Key×W)} {ns:List Int},jR kvs=some ns->kvs.map (·.1)=ns.map Sum.inl
 | [],ns,h=>by simp only[jR,Option.some.injEq] at h;subst h;rfl
 | (k,w)::r,ns,h=>by
  cases k<;>simp only[jR,reduceCtorEq,map_eq_some_iff] at h;obtain⟨ms,h1,rfl⟩:=h;rw[map_cons,sf h1,map_cons]
def fo(ns:List Int):List Int:=ns.mergeSort fun a b=>decide (a<=b)
theorem iO(ns:List Int):(fo ns).Perm ns:=mergeSort_perm ns _
theorem pJ(ns:List Int):(fo ns).Pairwise (·<=·):=by
 have:=pairwise_mergeSort (le:=fun a b:Int=>decide (a<=b)) (fun a b c=>by simp;omega) (fun a b=>by simp;omega) ns;exact this.imp fun h=>by simpa using h
theorem pE:∀{a b:List Int},a.Perm b->a.Pairwise (·<=·)->b.Pairwise (·<=·)->a=b
 | [],b,p,_,_=>by rw[nil_perm] at p;exact p.symm
 | x::a,[],p,_,_=>by have:=p.length_eq;simp at this
 | x::a,y::b,p,sa,sb=>by
  rw[pairwise_cons] at sa sb;have h1:x=y:=by
   have hx:x∈y::b:=p.subset mem_cons_self;have hy:y∈x::a:=p.symm.subset mem_cons_self;rcases mem_cons.mp hx with e|hx
   ·exact e
   ·rcases mem_cons.mp hy with e|hy
    ·exact e.symm
    ·have:=sb.1 x hx;have:=sa.1 y hy;omega
  subst h1;rw[pE (List.Perm.cons_inv p) sa.2 sb.2]
theorem vC{ms ns:List Int}(p:ms.Perm ns)(s:ms.Pairwise (·<=·)):ms=fo ns:=pE (p.trans (iO ns).symm) s (pJ ns)
def bB(f:List W->M W)(args:Sl->M (List W)):Sl->M W:=fun sl=>au (args sl) f
def Bi(G:Ga)(E:XK)(r:List V->Hp->VK->Prop)(f:List W->M W):Prop:=∀F as H σ sl ce ws vs Q,SR G F as H σ sl ce->ag F as ws vs->aG G E Rep F as σ sl Q (f ws ce)->r vs H Q
open Classical in
def b_:List W->M W:=fun ws ce=>match ws with
 | [.str x]=>if x.length<=sizeLine then some (.ok (.int x.length) ce) else none
 | [w]=>match fi ce w with
  | some xs=>some (.ok (.int xs.length) ce)
  | none=>match lx ce w with
   | some kvs=>some (.ok (.int kvs.length) ce)
   | none=>none
 | _=>none
open Classical in
def fM(mk:List W->M W):List W->M W:=fun ws ce=>match ws with
 | [w]=>match bV ce w with
  | some xs=>match jS xs with
   | some ns=>if ns.length<64 then mk ((fo ns).map W.int) ce else none
   | none=>none
  | none=>match lu ce w with
   | some kvs=>match jR kvs with
    | some ns=>if ns.length<64 then mk ((fo ns).map W.int) ce else none
    | none=>none
   | none=>none
 | _=>none
def kE(mk:List W->M W):List W->M W:=fun ws ce=>match ws with
 | [w]=>match fi ce w with
  | some xs=>mk xs ce
  | none=>match lu ce w with
   | some kvs=>match jR kvs with
    | some ns=>mk (ns.map W.int) ce
    | none=>none
   | none=>none
 | _=>none
def fk:List W->M W:=fun ws ce=>match ws with
 | [.tup xs]=>some (.ok (.tup xs) ce)
 | [w]=>match bV ce w with
  | some xs=>p6 xs ce
  | none=>none
 | _=>none
def lr:List W->M W:=fun ws ce=>match ws with
 | [w]=>match bV ce w with
  | some xs=>match kL xs with
   | some bs=>some (.ok (.bl (bs.all id)) ce)
   | none=>none
  | none=>none
 | _=>none
def Iy:List W->M W:=fun ws ce=>match ws with
 | [.int i,.int j]=>some (.ok (.int (if j<i then j else i)) ce)
 | _=>none
def Iv:List W->M W:=fun ws ce=>match ws with
 | [.int i,.int j]=>some (.ok (.int (if j>i then j else i)) ce)
 | _=>none
def iY(ce:Ce):W->Option String
 | .non=>some "NoneType"
 | .bl _=>some "bool"
 | .int _=>some "int"
 | .str _=>some "str"
 | .lst _=>some "list"
 | .tup _=>some "tuple"
 | .cel k=>match ce[k]? with
  | some (.lst _)=>some "list"
  | some (.dct _)=>some "dict"
  | _=>none
 | .ty _=>none
def qu(a b:String):Bool:=a==b||(a == "bool" && b == "int")
def kinds:List String:=["NoneType", "bool", "int", "str", "list", "tuple", "dict"]
theorem FC(K:Frag):∀a∈kinds,∀b∈["int", "bool", "list", "tuple", "str", "dict"],kitOne K (.type a) (.type b)=some (qu a b):=by
 have h:∀a∈kinds,∀b∈["int", "bool", "list", "tuple", "str", "dict"],(fun _:Unit=>kitOne K (.type a) (.type b)) ()=some (qu a b):=by intro a ha b hb;simp only[kinds,mem_cons,not_mem_nil,or_false] at ha hb;rcases ha with rfl|rfl|rfl|rfl|rfl|rfl|rfl<;>rcases hb with rfl|rfl|rfl|rfl|rfl|rfl<;>kernel_rfl
 exact h
def lp:List W->M W:=fun ws ce=>match ws with
 | [w,.ty T]=>match iY ce w with
  | some t=>if (kinds.contains t&&["int", "bool", "list", "tuple", "str", "dict"].contains T)=true then some (.ok (.bl (qu t T)) ce) else none
  | none=>none
 | _=>none
theorem aM.or{f:Value}{r r':List V->Hp->VK->Prop}(h:aM X f r)(h':aM X f r'):aM X f (fun xs H Q=>r xs H Q\/r' xs H Q):=by
 intro pins s σ H xs us Q I rx q;rcases q with q|q
 ·exact h pins s σ H xs us Q I rx q
 ·exact h' pins s σ H xs us Q I rx q
theorem gZ(h:ag F as [w] vs):∃v,vs=[v]/\Rep F as w v:=by simp only[ag] at h;obtain⟨v,r,rfl,h1,rfl⟩:=h;exact⟨v,rfl,h1⟩
theorem CN{w':W}(h:ag F as [w,w'] vs):∃v v',vs=[v,v']/\Rep F as w v/\Rep F as w' v':=by simp only[ag] at h;obtain⟨v,r,rfl,h1,v',r',rfl,h2,rfl⟩:=h;exact⟨v,v',rfl,h1,h2⟩
def uT(K:Frag):List V->Hp->VK->Prop:=fun xs H Q=>(∃x n,xs=[x]/\um K x H n/\Q (.int n) H)\/∃a kvs,xs=[V.ref a]/\H a=some (.dK kvs)/\Q (.int kvs.length) H
theorem fA(hK:X.K=K:=by rfl):aM X (.builtin "len") (uT K):=by subst hK;exact aM.or ES Gn
theorem fz(K:Frag):Bi G E (uT K) b_:=by
 intro F as H σ sl ce ws vs Q S rs P;unfold b_ at P;split at P
 ·rename_i x;split at P
  ·rename_i hl;obtain⟨v,rfl,r⟩:=gZ rs;simp only[Rep] at r;subst r;exact .inl ⟨_,_,rfl,⟨hl,rfl⟩,P.done S (by simp only[Rep])⟩
  ·exact P.elim
 ·rename_i w _;obtain⟨v,rfl,r⟩:=gZ rs;split at P
  ·rename_i xs hx;obtain⟨a,us,rfl,h,rs'⟩:=rS S.st r hx;refine .inl ⟨_,us.length,rfl,?_,P.done S (by simp only[Rep];rw[rs'.length])⟩;rcases h with h|h
   ·exact .inl ⟨us,.inl h,rfl⟩
   ·exact .inr ⟨us,.inl h,rfl⟩
  ·split at P
   ·rename_i kvs hd;obtain⟨n,a,ps,rfl,rfl,ha,hH,rk⟩:=wW S.st r hd;exact .inr ⟨a,ps,rfl,hH,P.done S (by simp only[Rep];rw[rk.length])⟩
   ·exact P.elim
 ·exact P.elim
def tZ(K:Frag):List V->Hp->VK->Prop:=fun xs H Q=>DX K xs H Q\/∃(a:Addr) (kvs:List (Key×V)) (ns:List Int),xs=[.ref a]/\Rd H a (.dK kvs)/\kvs.map (·.1)=ns.map Sum.inl/\ns.length<64 /\
  ∀ms:List Int,ms.Perm ns->ms.Pairwise (·<=·)->∀l,H l=none->Q (.ref l) (upd H l (.lst (ms.map V.int)))
theorem oh(hc:X.calm=true:=by rfl)(hK:X.K=K:=by rfl):aM X (.builtin "sorted") (tZ K):=by subst hK;exact aM.or He (HD hc)
theorem az.keys{kvs:List (Key×W)}(r:az F as kvs ps):ps.map (·.1)=kvs.map (·.1):=by
 induction r with
 | nil=>rfl
 | cons h t ih=>rw[map_cons,map_cons,ih,h.1]
theorem ou(K:Frag)(hm:i6 G E mk):Bi G E (tZ K) (fM mk):=by
 intro F as H σ sl ce ws vs Q S rs P;unfold fM at P;split at P
 ·rename_i w;obtain⟨v,rfl,r⟩:=gZ rs;split at P
  ·rename_i xs hx;split at P
   ·rename_i ns hi;split at P
    ·rename_i h64;obtain⟨a,us,rfl,h,rs'⟩:=iR S.st r hx;cases xT hi;cases rs'.of_ints;refine .inl ⟨a,ns,rfl,.inl h,h64,fun ms p s l hl=>?_⟩;rw[vC p s];exact(hm S (ag.ints (fo ns)) P).2 l hl
    ·exact P.elim
   ·exact P.elim
  ·split at P
   ·rename_i kvs hd;split at P
    ·rename_i ns hk;split at P
     ·rename_i h64;obtain⟨n,a,ps,rfl,rfl,ha,hH,rk⟩:=xD S.st r hd;refine .inr ⟨a,ps,ns,rfl,hH,by rw[rk.keys];exact sf hk,h64,fun ms p s l hl=>?_⟩;rw[vC p s];exact(hm S (ag.ints (fo ns)) P).2 l hl
     ·exact P.elim
    ·exact P.elim
   ·exact P.elim
 ·exact P.elim
def uS(K:Frag):List V->Hp->VK->Prop:=fun xs H Q=>DW K xs H Q\/∃(a:Addr) (kvs:List (Key×V)) (ns:List Int),xs=[.ref a]/\Rd H a (.dK kvs)/\kvs.map (·.1)=ns.map Sum.inl/\∀l,H l=none->Q (.ref l) (upd H l (.lst (ns.map V.int)))
theorem qJ(hc:X.calm=true:=by rfl)(hK:X.K=K:=by rfl):aM X (.type "list") (uS K):=by subst hK;exact aM.or HF (GD hc)
theorem qI(K:Frag)(hm:i6 G E mk):Bi G E (uS K) (kE mk):=by
 intro F as H σ sl ce ws vs Q S rs P;unfold kE at P;split at P
 ·rename_i w;obtain⟨v,rfl,r⟩:=gZ rs;split at P
  ·rename_i xs hx;obtain⟨a,us,rfl,h,rs'⟩:=rS S.st r hx;exact .inl ⟨a,us,rfl,h.imp .inl .inl,(hm S rs' P).2⟩
  ·split at P
   ·rename_i kvs hd;split at P
    ·rename_i ns hk;obtain⟨n,a,ps,rfl,rfl,ha,hH,rk⟩:=xD S.st r hd;exact .inr ⟨a,ps,ns,rfl,hH,by rw[rk.keys];exact sf hk,(hm S (ag.ints ns) P).2⟩
    ·exact P.elim
   ·exact P.elim
 ·exact P.elim
theorem nq(K:Frag):Bi G E (vU K) fk:=by
 intro F as H σ sl ce ws vs Q S rs P;unfold fk at P;split at P
 ·rename_i xs;obtain⟨v,rfl,r⟩:=gZ rs;have r':=r;simp only[Rep] at r;obtain⟨a,us,rfl,h,rs'⟩:=r;exact⟨a,us,rfl,.inr ⟨.inl (.inl (S.st.sub _ _ h)),P.done S r'⟩⟩
 ·rename_i w _;obtain⟨v,rfl,r⟩:=gZ rs;split at P
  ·rename_i xs hx;obtain⟨a,us,rfl,h,rs'⟩:=iR S.st r hx;exact⟨a,us,rfl,.inl ⟨.inl h,(wU S rs' P).2⟩⟩
  ·exact P.elim
 ·exact P.elim
theorem uR(K:Frag):Bi G E (ud K) lr:=by
 intro F as H σ sl ce ws vs Q S rs P;unfold lr at P;split at P
 ·obtain⟨v,rfl,r⟩:=gZ rs;split at P
  ·rename_i xs hx;split at P
   ·rename_i bs hb;obtain⟨a,us,rfl,h,rs'⟩:=iR S.st r hx;cases x9 hb;cases rs'.of_bools;exact⟨a,bs,rfl,.inl h,P.done S (by simp only[Rep])⟩
   ·exact P.elim
  ·exact P.elim
 ·exact P.elim
theorem BG(S:av G F as H ce)(r:Rep F as w v){t:String}(e:iY ce w=some t)(K:Frag):cO K H v (.type t):=by
 have lst:∀{a:Addr} {vs:List V},Rd H a (.lst vs)->cO K H (.ref a) (.type "list"):=fun {a vs} h=>by
  rcases h with h|⟨o,h⟩
  ·exact .lst h
  ·exact .frz h
 cases w with
 | non=>simp only[iY,Option.some.injEq] at e;simp only[Rep] at r;subst e r;exact .non
 | bl b=>simp only[iY,Option.some.injEq] at e;simp only[Rep] at r;subst e r;exact .bl b
 | int b=>simp only[iY,Option.some.injEq] at e;simp only[Rep] at r;subst e r;exact .int b
 | str b=>simp only[iY,Option.some.injEq] at e;simp only[Rep] at r;subst e r;exact .str b
 | ty b=>simp only[iY,reduceCtorEq] at e
 | lst xs =>
  simp only[iY,Option.some.injEq] at e;simp only[Rep] at r;obtain⟨a,vs,rfl,h,_⟩:=r;subst e;exact lst (Rd.sub S h)
 | tup xs =>
  simp only[iY,Option.some.injEq] at e;simp only[Rep] at r;obtain⟨a,vs,rfl,h,_⟩:=r;subst e;exact .tup (S.sub _ _ h)
 | cel k =>
  simp only[Rep] at r;obtain⟨a,rfl,h⟩:=r;simp only[iY] at e;split at e
  ·rename_i hc;cases e;obtain⟨_,vs,h2,rs⟩:=S.cell _ _ _ h hc;exact .lst h2
  ·rename_i hc;cases e;obtain⟨_,vs,h2,rs⟩:=S.cell _ _ _ h hc;exact .dK h2
  ·cases e
section
variable {x:Str} {id T:String} {r:List V->Hp->VK->Prop} {f:List W->M W}
theorem qt(K:Frag):Bi G E (p9 K) lp:=by
 intro F as H σ sl ce ws vs Q S rs P;unfold lp at P;split at P
 ·rename_i w T;obtain⟨v,v',rfl,r,r'⟩:=CN rs;simp only[Rep] at r';subst r';split at P
  ·rename_i t ht;split at P
   ·rename_i hk;rw[and_eq_true,contains_iff_mem,contains_iff_mem] at hk;exact⟨v,T,_,_,rfl,BG S.st r ht K,FC K t hk.1 T hk.2,P.done S (by simp only[Rep])⟩
   ·exact P.elim
  ·exact P.elim
 ·exact P.elim
theorem dH(hc:aM X (.builtin id) r)(hf:Bi G E r f)(hg:Gl X x)(hm:X.mg x=none)(hv:bootBuiltins x=some (.builtin id))(ha:PA X (e::es) (eT G E dr))(hn:x ≠ "__name__" := by decide)(hdb:(x==("__debug__" : Str))=false:=by decide)(he:starEach (e::es) X.env=(false,eval e X.env)::starEach es X.env:=by rfl)(hpl:(backTo pos (starEach es X.env)).any (·.1)=false:=by rfl):PE X (.Call (.Name x p) (e::es) [] pos) (ar G E (bB f dr)) :=
 PE.imp (xM hc hg hm hv ha hn hdb he hpl) fun σ H Q zz_=>bg zz_ fun F as sl ce S P=>(step (RP:=ag) S P).mono fun vs H1 zz_=>aW zz_ fun ws F1 as1 ce1 l1 S1 rs P1=>hf F1 as1 H1 σ sl ce1 ws vs Q S1 rs P1
theorem jw(hc:aM X (.type T) r)(hf:Bi G E r f)(hg:Gl X x)(hm:X.mg x=none)(hv:bootBuiltins x=some (.type T))(ha:PA X (e::es) (eT G E dr))(hn:x ≠ "__name__" := by decide)(hdb:(x==("__debug__" : Str))=false:=by decide)(he:starEach (e::es) X.env=(false,eval e X.env)::starEach es X.env:=by rfl)(hpl:(backTo pos (starEach es X.env)).any (·.1)=false:=by rfl):PE X (.Call (.Name x p) (e::es) [] pos) (ar G E (bB f dr)) :=
 PE.imp (yr hc hg hm hv ha hn hdb he hpl) fun σ H Q zz_=>bg zz_ fun F as sl ce S P=>(step (RP:=ag) S P).mono fun vs H1 zz_=>aW zz_ fun ws F1 as1 ce1 l1 S1 rs P1=>hf F1 as1 H1 σ sl ce1 ws vs Q S1 rs P1
open Classical in
def lG(mk:List W->M W):List W->M W:=fun ws ce=>match iF ws with
 | some (.rng lo n)=>if n<=sizeLine then mk ((List.range n).map fun(i:Nat)=>W.int (lo+(i:Int))) ce else none
 | _=>none
theorem ag.rng{F:Hp}{as:List Addr}(lo:Int):∀(l:List Nat),ag F as (l.map fun(i:Nat)=>W.int (lo+(i:Int))) (l.map fun(i:Nat)=>V.int (lo+(i:Int)))
 | []=>.nil
 | a::r=>.cons (by simp only[Rep]) (ag.rng lo r)
theorem CM{a:Expr}{pos2:Pos}(hmk:i6 G E mk)(hc:X.calm=true)(hgl:Gl X "list")(hml:X.mg "list" = none)(hg:Gl X "range")(hm:X.mg "range" = none)(ha:PA X [a] (eT G E dr))(hs:starEach [a] X.env=[(false,eval a X.env)]:=by rfl)(he:starEach [.Call (.Name "range" p2) [a] [] pos2] X.env=[(false,eval (.Call (.Name "range" p2) [a] [] pos2) X.env)]:=by rfl) :
  PE X (.Call (.Name "list" p) [.Call (.Name "range" p2) [a] [] pos2] [] pos) (ar G E (bB (lG mk) dr)):=by
 refine PE.imp (yr (HC hc) hgl hml boot_list (mh (Gj hg hm ha hs) m9 (by rw[he];rfl)) (by decide) (by decide) (by rw[he];rfl) rfl) fun σ H Q zz_=>bg zz_ fun F as sl ce S P=>(step (RP:=ag) S P).mono fun vs H1 zz_=>aW zz_ fun ws F1 as1 ce1 l1 S1 rs P1=>?_;unfold lG at P1;split at P1
 ·rename_i lo n hr;unfold iF at hr;split at hr
  ·rename_i j;split at hr
   ·rename_i hj;cases hr;split at P1
    ·rename_i hz;obtain⟨v,rfl,r1⟩:=gZ rs;simp only[Rep] at r1;subst r1;refine⟨j,rfl,fun q hq=>?_⟩;refine⟨q,0,j,rfl,cU,by omega,by omega,by omega,by omega,by rw[sub_zero];exact hz,fun l hl=>?_⟩;rw[sub_zero];obtain⟨S2,l2⟩:=S1.st.freeze (o:=.rng 0 j) hq;exact(hmk (S1.slots S2 l2) (ag.rng 0 _) (P1.le l2)).2 l hl
    ·exact(show False from P1).elim
   ·cases hr
  ·cases hr
 ·exact(show False from P1).elim
def iE(ce:Ce)(w:W):Option Unit:=(bV ce w).map fun _=>()
def c6(f:W->List W->M W)(o:Sl->M W)(args:Sl->M (List W)):Sl->M W:=fun sl=>au (o sl) fun x=>au (look fun ce=>iE ce x) fun _=>au (args sl) fun ws=>f x ws
def Mt(G:Ga)(E:XK)(r:V->List V->Hp->VK->Prop)(f:W->List W->M W):Prop:=∀F as H σ sl ce w v ws vs Q,SR G F as H σ sl ce->Rep F as w v->ag F as ws vs->aG G E Rep F as σ sl Q (f w ws ce)->r v vs H Q
variable {o:Expr} {name:Str} {apos cpos:Pos} {do':Sl->M W} {rm:V->List V->Hp->VK->Prop} {fm:W->List W->M W}
theorem xZ{σ:VS.St}{k:Unit->M W}(P:aG G E Rep F as σ sl Q (au (look fun ce=>iE ce w) k ce)):∃xs,bV ce w=some xs/\aG G E Rep F as σ sl Q (k () ce):=by
 revert P;simp only[au,look,iE];cases bV ce w with
 | none=>exact fun P=>P.elim
 | some xs=>exact fun P=>⟨xs,rfl,P⟩
theorem fy(slot:Slot "list" name id)(hty:typeOf (.builtin id)=pure (.type "method_descriptor"))(hm:nP X id rm)(hf:Mt G E rm fm)(ho:PE X o (ar G E do'))(ha:PA X (e::es) (eT G E dr))(hbase:attributeBase o name X.env (eval o X.env)=eval o X.env:=by rfl)(hfew:((backTo cpos (starEach (e::es) X.env)).all (fun x=>!x.1)&&(backToKw cpos (keywordEach [] X.env)).all (fun x=>x.1.isSome)
   && decide ((e::es).length+([]:List Keyword).length+(if ([]:List Keyword).isEmpty then 0 else 1)<30))=true:=by rfl)(hline:(apos.endLine==cpos.line)=true:=by rfl)(hs:starEach (e::es) X.env=(false,eval e X.env)::starEach es X.env:=by rfl)(hplain:(backTo cpos (starEach es X.env)).any (·.1)=false:=by rfl) :
  PE X (.Call (.Attribute o name apos) (e::es) [] cpos) (ar G E (c6 fm do' dr)):=by
 refine PE.imp (Ad PySem.F.plainAttrs_list slot hty hm ho ha hbase hfew hline hs hplain) fun σ H Q zz_=>bg zz_ fun F as sl ce S P=>(step S P).mono fun x H1 zz_=>aW zz_ fun wx F1 as1 ce1 l1 S1 rx P1=>?_;obtain⟨xs,hx,P2⟩:=xZ P1;obtain⟨a,us,rfl,h,_⟩:=iR S1.st rx hx;refine⟨.inl ⟨rfl,us,.inl h⟩,(step (RP:=ag) S1 P2).mono fun vs H2 zz_=>aW zz_ fun ws F2 as2 ce2 l2 S2 rs P3=>?_⟩;exact hf F2 as2 H2 σ sl ce2 wx _ ws vs Q S2 (rx.le l2) rs P3
def jK(f:W->List W->M W)(o:Sl->M W):Sl->M W:=fun sl=>au (o sl) fun x=>au (look fun ce=>iE ce x) fun _=>f x []
theorem oN(slot:Slot "list" name id)(hty:typeOf (.builtin id)=pure (.type "method_descriptor"))(hm:nP X id rm)(hf:Mt G E rm fm)(ho:PE X o (ar G E do'))(hbase:attributeBase o name X.env (eval o X.env)=eval o X.env:=by rfl)(hline:(apos.endLine==cpos.line)=true:=by rfl):PE X (.Call (.Attribute o name apos) [] [] cpos) (ar G E (jK fm do')):=by refine PE.imp (Bq PySem.F.plainAttrs_list slot hty hm ho hbase hline) fun σ H Q zz_=>bg zz_ fun F as sl ce S P=>(step S P).mono fun x H1 zz_=>aW zz_ fun wx F1 as1 ce1 l1 S1 rx P1=>?_;obtain⟨xs,hx,P2⟩:=xZ P1;obtain⟨a,us,rfl,h,_⟩:=iR S1.st rx hx;exact⟨.inl ⟨rfl,us,.inl h⟩,hf F1 as1 H1 σ sl ce1 wx _ [] [] Q S1 rx ag.nil P2⟩
open Classical in
def cS:W->List W->M W:=fun w ws ce=>match jc ce w,ws with
 | some (k,xs),[y]=>if xs.length<sizeLine then some (.ok .non (ce.set k (.lst (xs++[y])))) else none
 | _,_=>none
def jJ:W->List W->M W:=fun w ws ce=>match jc ce w,ws with
 | some (k,xs),[]=>match xs[xs.length-1]? with
  | some y=>some (.ok y (ce.set k (.lst xs.dropLast)))
  | none=>none
 | _,_=>none
open Classical in
def mO:W->List W->M W:=fun w ws ce=>match jc ce w,ws with
 | some (k,xs),[y]=>match bV ce y with
  | some ys=>if xs.length+ys.length<=sizeLine then some (.ok .non (ce.set k (.lst (xs++ys)))) else none
  | none=>none
 | _,_=>none
theorem fI:Mt G E w5 cS:=by
 intro F as H σ sl ce w v ws vs Q S rw' rs P;unfold cS at P;split at P
 ·rename_i k xs y hk;split at P
  ·rename_i hl;obtain⟨a,us,rfl,ha,hH,r⟩:=ph S.st rw' hk;obtain⟨u,rfl,ry⟩:=gZ rs;refine⟨a,us,u,rfl,rfl,hH,by rw[r.length];exact hl,?_⟩;exact P .non _ F as .refl (S.slots (S.st.write (o:=.lst (us++[u])) (c:=.lst (xs++[y])) ha ⟨_,cU,r.append (.cons ry .nil)⟩) .refl) (by simp only[Rep])
  ·exact(show False from P).elim
 ·exact(show False from P).elim
theorem ot:Mt G E ui jJ:=by
 intro F as H σ sl ce w v ws vs Q S rw' rs P;unfold jJ at P;split at P
 ·rename_i k xs hk;split at P
  ·rename_i y hy;obtain⟨a,us,rfl,ha,hH,r⟩:=ph S.st rw' hk;simp only[ag] at rs;obtain⟨u,hu,ru⟩:=r.get hy;refine⟨a,us,u,rfl,rs,hH,by rw[r.length];exact hu,?_⟩;exact P u _ F as .refl (S.slots (S.st.write (o:=.lst us.dropLast) (c:=.lst xs.dropLast) ha ⟨_,cU,r.dropLast⟩) .refl) ru
  ·exact(show False from P).elim
 ·exact(show False from P).elim
def uQ:V->List V->Hp->VK->Prop:=fun x vs H Q=>∃l b xs zs,x=.ref l/\vs=[.ref b]/\H l=some (.lst xs)/\Rd H b (.lst zs)/\xs.length+zs.length<=sizeLine/\Q .non (upd H l (.lst (xs++zs)))
theorem CL:nP X "list.extend" uQ:=by
 intro pins s σ H x vs v us Q I rx rv h;obtain⟨l,b,xs,zs,rfl,rfl,hH,hB,hz,q⟩:=h;cases rx;obtain⟨u,rfl,ru⟩:=rv.one;cases ru;obtain⟨z,its,n,r,hl,e⟩:=I.lstM hH;obtain⟨z2,its2,n2,r2,hl2,e2⟩:=Inv.lstR I hB;have hsz:its.toArray.size+its2.toArray.size<=sizeLine:=by rw[size_toArray,size_toArray];omega
 have hlong:¬(!its.toArray.isEmpty&&Builtin.List.listTooLong (its.toArray.size+its2.toArray.size))=true:=by rw[EJ hsz,Bool.and_false];exact Bool.false_ne_true
 refine call_meets F.slot_list_extend ⟨_,e,rfl⟩ F.entry_list_extend (F.args_list_extend_2 _ _)
  (AutoSeq1.list_extend_list_list_0 l its.toArray n b its2.toArray n2 hlong (by rw[size_toArray];omega) (by omega)) ⟨e,e2,?_⟩
 refine⟨.non,_,I.lset (its':=its++its2) hH e (by simp) (r.append r2) ?_,rfl,q⟩;rw[length_append];omega
theorem Ax:Mt G E uQ mO:=by
 intro F as H σ sl ce w v ws vs Q S rw' rs P;unfold mO at P;split at P
 ·rename_i k xs y hk;split at P
  ·rename_i ys hy;split at P
   ·rename_i hl;obtain⟨a,us,rfl,ha,hH,r⟩:=ph S.st rw' hk;obtain⟨u,rfl,ry⟩:=gZ rs;obtain⟨b,zs,rfl,hb,r2⟩:=iR S.st ry hy;refine⟨a,b,us,zs,rfl,rfl,hH,hb,by rw[r.length,r2.length];exact hl,?_⟩;exact P .non _ F as .refl (S.slots (S.st.write (o:=.lst (us++zs)) (c:=.lst (xs++ys)) ha ⟨_,cU,r.append r2⟩) .refl) (by simp only[Rep])
   ·exact(show False from P).elim
  ·exact(show False from P).elim
 ·exact(show False from P).elim
variable {a:Expr}
theorem Fu{i:Int}(hg:Gl X x)(hm:∃t,X.mg x=some (.int i t))(hd:(x==("__debug__" : Str))=false:=by decide):PE X (.Name x pos) (ar G E (dC (.int i))):=by obtain⟨t,hm⟩:=hm;exact lz (rP (v:=.int i) hg hm ⟨t,rfl⟩ hd) rfl
theorem qr{n:String}(hg:Gl X x)(hm:X.mg x=none)(hv:bootBuiltins x=some (.type n))(hn:x ≠ "__name__" := by decide)(hd:(x==("__debug__" : Str))=false:=by decide):PE X (.Name x pos) (ar G E (dC (.ty n))):=lz (wR (v:=.ty n) hg hm hv rfl hn hd) rfl
end
section
variable {a:Expr}
def eQ:W->W->Option W:=i2 fun i j=>.bl (decide (i=j))
def zT:W->W->Option W:=i2 fun i j=>.bl (!decide (i=j))
theorem vB:mB zo eQ:=by intro x y w e;cases x<;>cases y<;>simp only[eQ,i2,Option.some.injEq,reduceCtorEq] at e;subst e;exact⟨_,_,_,rfl,rfl,rfl,fun H Q hq=>⟨rfl,by simpa using hq⟩⟩
theorem vA(ha:PE X a (ar G E da))(hb:PE X b (ar G E db)):PE X (.Compare a [.Eq] [b] pos) (ar G E (aE eQ da db)):=vP u5 vB ha hb (ic _)
theorem kK(ha:PE X a (ar G E da))(hb:PE X b (ar G E db)):PT X (.Compare a [.Eq] [b] pos) (cb G E (dB (aE eQ da db))):=lK u5 ha hb (ic _) (j9 (lQ vB))
def m3(k v:Sl->M W):Sl->M W:=fun sl ce=>match au (k sl) (fun kw=>au (v sl) fun vw=>ret (kw,vw)) (ce++[.dct []]) with
 | some (.ok (kw,vw) ce2)=>match gR kw,ce2[ce.length]? with
  | some key,some (.dct [])=>some (.ok (.cel ce.length) (ce2.set ce.length (.dct [(key,vw)])))
  | _,_=>none
 | some (.ex x ce2)=>some (.ex x ce2)
 | none=>none
theorem Ft{k v:Expr}{dk dv:Sl->M W}(hk:PE X k (ar G E dk))(hv:PE X v (ar G E dv)):PE X (.Dict [some k] [v] pos) (ar G E (m3 dk dv)):=by
 refine PE.imp (DP (Fc hk hv DR) rfl rfl (by intro h;cases h) (by simp)) fun σ H Q zz_=>bg zz_ fun F as sl ce S P=>?_;intro p hp;obtain⟨S1,l1⟩:=S.st.alloc (o:=.dK []) (c:=.dct []) hp (fun as' l=>⟨[],cU,.nil⟩);have hlen:as.length=ce.length:=S.st.len;have P':aG G E (fun F as (a:W×W) (b:V×V)=>Rep F as a.1 b.1/\Rep F as a.2 b.2) F (as++[p]) σ sl (fun b H2=>H2 p=some (.dK [])/\∃kvs:List (Key×V),[b]=kvs.map (fun kv=>(kV kv.1,kv.2))/\kvs.length<=15/\Q (.ref p) (upd H2 p (.dK (kN [] kvs))))
   (au (dk sl) (fun kw=>au (dv sl) fun vw=>ret (kw,vw)) (ce++[.dct []])):=by
  unfold m3 at P;cases e:au (dk sl) (fun kw=>au (dv sl) fun vw=>ret (kw,vw)) (ce++[.dct []]) with
  | none=>rw[e] at P;exact P.elim
  | some r=>cases r with
   | ex x ce2=>rw[e] at P;exact fun H' F' as' cv od l=>P H' F' as' cv od (l1.trans l)
   | ok a ce2 =>
    obtain⟨kw,vw⟩:=a;rw[e] at P;dsimp only at P;split at P
    ·rename_i key hkey hcell;intro b H' F' as' l S' r;obtain⟨kv,vv⟩:=b;have hp':as'[ce.length]?=some p:=l.c _ _ (by rw[<- hlen];simp);obtain⟨_,ps,h2,rk⟩:=S'.st.cell _ _ _ hp' hcell;cases rk;have rput:az F' as' [(key,vw)] [(key,vv)]:=.cons ⟨rfl,r.2⟩ .nil;refine⟨h2,[(key,vv)],?_,by simp,?_⟩
     ·simp only[map_cons,map_nil];rw[show kv=kV key from rR r.1 hkey]
     ·exact P (.ref p) _ F' as' (l1.trans l) (S'.slots (S'.st.write (o:=.dK (kN [] [(key,vv)])) (c:=.dct [(key,vw)]) hp' ⟨_,cU,rput⟩) .refl) (by simp only[Rep];exact⟨p,rfl,hp'⟩)
    ·exact P.elim
 refine(step (S.slots S1 l1) P').mono fun x H1 zz_=>aW zz_ fun wx F1 as1 ce1 l2 S2 rx P1=>(step S2 P1).mono fun y H2 zz_=>aW zz_ fun wy F2 as2 ce2 l3 S3 ry P2=>?_;exact aG.done (RP:=fun F as (a:W×W) (b:V×V)=>Rep F as a.1 b.1/\Rep F as a.2 b.2) (a:=(wx,wy)) (b:=(x,y)) S3 P2 ⟨rx.le l3,ry⟩
end
def nK(K:Frag):Bool:=K.all fun p=>match p.2.cls with
 | .type "list" => false
 | _=>true
theorem BF(h:nK K=true){o:Obj}(e:K.lookup a=some o):o.cls≠.type "list" := by
 intro hc;have hm:∀{l:Frag},l.lookup a=some o->(a,o)∈l:=by
  intro l
  induction l with
  | nil=>intro e;cases e
  | cons p r ih =>
   intro e;obtain⟨b,q⟩:=p
   by_cases hb:a=b
   ·subst hb;have:List.lookup a ((a,q)::r)=some q:=by simp[List.lookup]
    rw[this] at e;cases e;exact mem_cons_self
   ·have:List.lookup a ((b,q)::r)=List.lookup a r:=by
     have hb':(a==b)=false:=by simpa using hb
     simp[List.lookup,hb']
    rw[this] at e;exact mem_cons_of_mem _ (ih e)
 have:=all_eq_true.mp h _ (hm e);simp only[hc] at this;cases this
def spLaw(G:Frag->Ga)(d:List W->M W)(K:Frag):Sp:=fun vs H Q E=>nK K=true->fq (G K) (fun _=>E0) 1 d vs H Q E
theorem law_sp{G:Frag->Ga}{d:List W->M W}(main:∀ns:List Int,ns.length<=n->∃ce',d [.lst (ns.map W.int)] []=some (.ok (.bl true) ce'))(K:Frag)(H:Hp)(a:Addr)(ns:List Int)(hl:ns.length<=n)(_hO:mM H)(hS:cP K H a (ns.map V.int)):spLaw G d K [.ref a] H (fun v _=>v=.bl true) fun _ _ _=>False:=by
 intro nl;rcases hS with hS|⟨o,its,m,hk,hc,_⟩
 ·obtain⟨ce',e⟩:=main ns hl;refine⟨rfl,H,[],[.lst (ns.map W.int)],[],⟨fun _ _ h=>h,by simp,rfl,fun k a c h _=>by simp at h⟩,.cons (by simp only[Rep];exact⟨a,_,rfl,hS,ag.ints ns⟩) .nil,?_⟩;rw[e];intro v H' F' as' _ _ r;simpa only[Rep] using r
 ·exact absurd hc (BF nl hk)
section
variable {α β:Type}
theorem gf{m:M α}{f:α->M β}{a:α}(h:m ce=some (.ok a ce')):au m f ce=f a ce':=by simp only[au,h]
theorem wa{a b:DS}(h:a sl ce=some (.go .nx sl' ce')):aq a b sl ce=b sl' ce':=by simp only[aq,h]
theorem CK{a b:DS}(h:a sl ce=some (.go (.rt w) sl' ce')):aq a b sl ce=some (.go (.rt w) sl' ce'):=by simp only[aq,h]
end
variable {l:Ce}
section
variable {c:C}
theorem nU(ce l:Ce)(j:Nat):(ce++l)[ce.length+j]?=l[j]?:=by rw[getElem?_append_right (le_add_right _ _),add_sub_cancel_left]
theorem uP(ce l:Ce):(ce++l)[ce.length]?=l[0]?:=nU ce l 0
theorem tY(ce l:Ce)(j:Nat)(c:C):(ce++l).set (ce.length+j) c=ce++l.set j c:=by rw[set_append_right _ _ (le_add_right _ _),add_sub_cancel_left]
theorem uO(ce l:Ce)(c:C):(ce++l).set ce.length c=ce++l.set 0 c:=tY ce l 0 c
theorem cA(ce l:Ce):fB ce (ce++l):=⟨by rw[length_append];omega,fun k c hk h=>.inl (by rwa [getElem?_append_left hk] at h)⟩
theorem se(ce l:Ce):(ce++l).take ce.length=ce:=take_left
theorem bZ(n:Nat):∀ns:List Int,cp n (ns.map W.int)
 | []=>by simp only[map_nil,cp]
 | a::r=>by simp only[map_cons,cp,aU];exact⟨trivial,bZ n r⟩
end
theorem Fs{c:C}(h:l[j]?=some c)(hb:eB ce.length c):finO ce (ce++l) (.cel (ce.length+j))=some (.ok (.cel ce.length) (ce++[c])):=by
 have e:(ce++l)[ce.length+j]?=some c:=by rw[nU];exact h
 simp only[finO,e];rw[if_pos ⟨cA ce l,le_add_right _ _,hb⟩,se]
theorem mr(hb:aU ce.length w):finC ce (ce++l) w=some (.ok w ce):=by unfold finC;rw[if_pos ⟨cA ce l,hb⟩,se]
theorem fg(hb:aU ce.length w):finC ce ce w=some (.ok w ce):=by have:=mr (l:=[]) hb;rwa [append_nil] at this
theorem jv{d:List W->M W}(h:d ws ce=some (.ok (.cel ce.length) (ce++[.lst xs])))(hb:cp ce.length xs):cX d ws ce=some (.ok (.lst xs) ce):=by
 have e:(ce++[C.lst xs])[ce.length]?=some (.lst xs):=by rw[uP];rfl
 simp only[cX,h,e];rw[if_pos ⟨cA ce _,rfl,hb⟩,se]
end VS
open PySem PySem.Spec PyProof.Rows L2 VS
variable {n k j p fu:Nat} {xs ws ys:List W} {v d da db:Sl->M W} {ow iw y w':W} {key:Key} {F' js l:List Nat} {mk:List W->M W} {di:Sl->M Src} {ce0 ce' c1 c2 c3 c':Ce} {fin:Ce->Ce->W->Option (R W)} {body:DS} {sl':Sl} {Q:O->Prop} {ra:Sl->M (List W)} {m:List Int} {X:Cx} {G:Ga} {pos:Pos}
namespace VS
section
variable {α β:Type}
@[simp] theorem oq(m:M α)(f:α->M β)(ce:Ce):au m f ce=match m ce with|some (.ok a ce')=>f a ce'|some (.ex x ce')=>some (.ex x ce')|none=>none:=rfl
@[simp] theorem Aw(m:Option (R α))(k:α->Ce->Option O):bY m k=match m with|some (.ok a ce')=>k a ce'|some (.ex x ce')=>some (.ex x ce')|none=>none:=rfl
@[simp] theorem uN(a:α)(ce:Ce):ret a ce=some (.ok a ce):=rfl
@[simp] theorem vz(f:Ce->Option α)(ce:Ce):look f ce=(f ce).map fun a=>R.ok a ce:=rfl
end
variable (a b c:Sl->M W) (ta tb:Sl->M Bool) (s t:DS) (sl:Sl) (ce:Ce) (i:Nat) (w:W)
@[simp] theorem oM:ae i sl ce=match sl[i]? with|some (some w)=>some (.ok w ce)|_=>none:=rfl
@[simp] theorem Iu:dC w sl ce=some (.ok w ce):=rfl
@[simp] theorem Jg(f:W->W->Option W):aE f a b sl ce=au (a sl) (fun x=>au (b sl) fun y=>look fun _=>f x y) ce:=rfl
@[simp] theorem BE(f:Ce->W->W->Option W):aI f a b sl ce=au (a sl) (fun x=>au (b sl) fun y=>look fun ce=>f ce x y) ce:=rfl
@[simp] theorem Jf(f:W->Option W):bR f a sl ce=au (a sl) (fun x=>look fun _=>f x) ce:=rfl
@[simp] theorem Ir:dB a sl ce=au (a sl) (fun w=>look fun _=>match w with|.bl b=>some b|_=>none) ce:=rfl
@[simp] theorem Ja:g_ a sl ce=au (a sl) (fun w=>look fun ce=>fG ce w) ce:=rfl
@[simp] theorem Jn:gb ta tb sl ce=au (ta sl) (fun x=>match x with|true=>tb sl|false=>ret false) ce:=rfl
@[simp] theorem I_:fx ta tb sl ce=au (ta sl) (fun x=>match x with|true=>ret true|false=>tb sl) ce:=rfl
@[simp] theorem Jm:eE ta sl ce=au (ta sl) (fun x=>ret (!x)) ce:=rfl
@[simp] theorem I9:aq s t sl ce=match s sl ce with|some (.go .nx sl' ce')=>t sl' ce'|r=>r:=rfl
@[simp] theorem Jl:bz sl ce=some (.go .nx sl ce):=rfl
@[simp] theorem IZ:aQ i a sl ce=bY (a sl ce) fun w ce'=>some (.go .nx (sl.set i (some w)) ce'):=rfl
@[simp] theorem IY:aT a sl ce=bY (a sl ce) fun w ce'=>some (.go (.rt w) sl ce'):=rfl
@[simp] theorem Av:cz a sl ce=bY (a sl ce) fun _ ce'=>some (.go .nx sl ce'):=rfl
@[simp] theorem Je:bh ta s t sl ce=bY (ta sl ce) fun x ce'=>match x with|true=>s sl ce'|false=>t sl ce':=rfl
@[simp] theorem vt:ai sl ce=some (.ok [] ce):=rfl
@[simp] theorem v_(r:Sl->M (List W)):ah a r sl ce=au (a sl) (fun x=>au (r sl) fun xs=>ret (x::xs)) ce:=rfl
@[simp] theorem Au(f:List W->M W)(r:Sl->M (List W)):bB f r sl ce=au (r sl) f ce:=rfl
@[simp] theorem Jk(n:Nat)(f:List W->M W)(r:Sl->M (List W)):aV n f r sl ce=au (r sl) (fun ws=>if ws.length=n then f ws else jn) ce:=rfl
@[simp] theorem IW(r:Sl->M (List W)):eK r sl ce=au (r sl) (fun xs=>gO (.tup xs) xs.length) ce:=rfl
@[simp] theorem IV(r:Sl->M (List W)):eS r sl ce=au (r sl) (fun xs=>gO (.lst xs) xs.length) ce:=rfl
@[simp] theorem Jj(r:Sl->M (List W)):dP r sl ce=au (r sl) (fun xs=>gP (.lst xs) xs.length) ce:=rfl
@[simp] theorem Ji:lI sl ce=gP (.dct []) 0 ce:=rfl
@[simp] theorem Jd(h:n<=sizeLine):gO w n ce=some (.ok w ce):=if_pos h
@[simp] theorem IG(c:C)(h:n<=sizeLine):gP c n ce=some (.ok (.cel ce.length) (ce++[c])):=if_pos h
@[simp] theorem qH(h:xs.length<=sizeLine):bc xs ce=some (.ok (.lst xs) ce):=if_pos h
@[simp] theorem IU(h:xs.length<=sizeLine):eR xs ce=some (.ok (.cel ce.length) (ce++[.lst xs])):=if_pos h
@[simp] theorem BD(h:xs.length<=sizeLine):p6 xs ce=some (.ok (.tup xs) ce):=if_pos h
@[simp] theorem As(f:W->List W->M W)(r:Sl->M (List W)):c6 f a r sl ce=au (a sl) (fun x=>au (look fun ce=>iE ce x) fun _=>au (r sl) fun ws=>f x ws) ce:=rfl
@[simp] theorem IT(f:W->List W->M W):jK f a sl ce=au (a sl) (fun x=>au (look fun ce=>iE ce x) fun _=>f x []) ce:=rfl
@[simp] theorem Iq:gN i w sl ce=some (sl.set i (some w),ce):=rfl
theorem vq{o i:Sl->M W}{sl:Sl}{ce ce1 ce2 ce3:Ce}{w:W}{kvs:List (Key×W)}(h1:v sl ce=some (.ok w ce1))(h2:o sl ce1=some (.ok ow ce2))(h3:i sl ce2=some (.ok iw ce3))(h4:gR iw=some key)(h5:jO ce3 ow=some (k,kvs))(h6:kvs.length<sizeLine) :
  jL o i v sl ce=some (.go .nx sl (ce3.set k (.dct (gu kvs key w)))):=by
 simp only[jL,bY,h1,h2,h3,h4,h5,if_pos h6]
theorem oo{w:W}{ce:Ce}(h:jc ce w=some (k,xs))(hl:xs.length<sizeLine):cS w [y] ce=some (.ok .non (ce.set k (.lst (xs++[y])))):=by simp only[cS,h,if_pos hl]
@[simp] theorem IS(x y:Int):cK (.int x) (.int y)=some (.int (x+y)):=rfl
@[simp] theorem IQ(x y:Int):eD (.int x) (.int y)=some (.int (x-y)):=rfl
@[simp] theorem IF(x y:Int):mz (.int x) (.int y)=some (.bl (decide (x<y))):=rfl
@[simp] theorem IE(x y:Int):jH (.int x) (.int y)=some (.bl (decide (x<=y))):=rfl
@[simp] theorem ID(x y:Int):gq (.int x) (.int y)=some (.bl (decide (y<x))):=rfl
@[simp] theorem IC(x y:Int):tT (.int x) (.int y)=some (.bl (decide (y<=x))):=rfl
@[simp] theorem IP(x y:Int):eQ (.int x) (.int y)=some (.bl (decide (x=y))):=rfl
@[simp] theorem IM(x y:Int):zT (.int x) (.int y)=some (.bl (!decide (x=y))):=rfl
@[simp] theorem IL(x:Int):fH (.int x)=some (.int (-x)):=rfl
theorem mZ{x y:Int}(h:d_ x y):eL (.int x) (.int y)=some (.int (x*y)):=by simp only[eL,jG,if_pos h]
theorem hX{x y:Int}(h:0<y):bG (.int x) (.int y)=some (.int (x % y)):=by simp only[bG,jG,if_pos h]
theorem BC{x y:Int}(h:0<y/\y<1073741824):ko (.int x) (.int y)=some (.int (x / y)):=by have h':qk x y:=h;simp only[ko,jG,if_pos h']
@[simp] theorem IK(xs:List W):fi ce (.tup xs)=some xs:=rfl
@[simp] theorem IJ(xs:List W):fi ce (.lst xs)=some xs:=rfl
@[simp] theorem II(xs:List W):bV ce (.lst xs)=some xs:=rfl
theorem eX{ce:Ce}(h:ce[k]?=some (.lst xs)):bV ce (.cel k)=some xs:=by simp only[bV,h]
theorem j5{ce:Ce}(h:ce[k]?=some (.lst xs)):fi ce (.cel k)=some xs:=by simp only[fi,bV,h]
theorem BB{ce:Ce}{xs:List (Key×W)}(h:ce[k]?=some (.dct xs)):lx ce (.cel k)=some xs:=by simp only[lx,h]
theorem kJ{ce:Ce}(h:ce[k]?=some (.lst xs)):jc ce (.cel k)=some (k,xs):=by simp only[jc,h]
theorem qG{ce:Ce}{xs:List (Key×W)}(h:ce[k]?=some (.dct xs)):jO ce (.cel k)=some (k,xs):=by simp only[jO,h]
@[simp] theorem IH(j:Int):gR (.int j)=some (.inl j):=rfl
theorem Fq{α:Type}{xs:List α}:atI xs (j:Int)=xs[j]?:=by
 unfold atI gn
 by_cases h:j<xs.length
 ·rw[if_pos (by omega),if_pos (by omega)];simp
 ·rw[if_pos (by omega),if_neg (by omega),getElem?_eq_none (by omega)];rfl
theorem g9{x:W}{ce:Ce}(h:fi ce x=some xs)(hy:y=.int j):aJ ce x y=xs[j]?:=by subst hy;simp only[aJ,h];exact Fq
theorem j4(c0:C):(ce++[c0])[ce.length]?=some c0:=by rw[uP];rfl
def nW(n:Nat):W:=.int (n:Int)
def wT(l:List Nat):W:=.tup (l.map nW)
def wB(b:List (List Nat)):W:=.tup (b.map wT)
def kvs(F:List Nat):List (Key×W):=F.map fun(x:Nat)=>((Sum.inl (x:Int):Key),W.bl true)
def dI(F:List Nat):List Int:=F.map fun(x:Nat)=>(x:Int)
theorem CJ(F:List Nat)(y:Nat):(gv (kvs F) (.inl (y:Int))).isSome=decide (y∈F):=by
 induction F with
 | nil=>rfl
 | cons x F ih =>
  by_cases h:x=y
  ·subst h;simp[kvs,gv]
  ·have h':¬((x:Int)=(y:Int)):=by omega
   have e:gv (kvs (x::F)) (.inl (y:Int))=gv (kvs F) (.inl (y:Int)):=by simp[kvs,gv,find?_cons,h']
   have hm:(y∈x::F)↔y∈F:=by simp[Ne.symm h]
   rw[e,ih];simp[hm]
theorem rF(F:List Nat)(y:Nat)(h:y∉F):gu (kvs F) (.inl (y:Int)) (.bl true)=kvs (F++[y]):=by
 have e:((kvs F).any fun kv=>decide (kv.1=(.inl (y:Int):Key)))=false:=by rw[eq_false_iff];intro q;obtain⟨p,hp,e⟩:=any_eq_true.mp q;obtain⟨x,hx,rfl⟩:=mem_map.mp hp;have e:=of_decide_eq_true e;have:(x:Int)=y:=Sum.inl.inj e;exact h (by rw[<- ofNat_inj.mp this];exact hx)
 unfold gu;rw[e];simp[kvs]
theorem sX(F:List Nat):(kvs F).length=F.length:=by simp[kvs]
theorem Fp(F:List Nat):jR (kvs F)=some (dI F):=by
 induction F with
 | nil=>rfl
 | cons x F ih=>simp only[kvs,dI,map_cons,jR] at ih ⊢;rw[ih];rfl
theorem nG(F:List Nat):(dI F).length=F.length:=by simp[dI]
theorem BA(F:List Nat):F.map nW=(dI F).map W.int:=by simp[dI,nW]
theorem xS(F:List Nat):jS (F.map nW)=some (dI F):=by rw[BA,x_]
theorem FA{F:List Nat}(h:F.Perm F'):fo (dI F)=fo (dI F') :=
 pE ((iO _).trans ((show(dI F).Perm (dI F') from h.map _).trans (iO _).symm)) (pJ _) (pJ _)
theorem Hv{F:List Nat}(h:F.Nodup)(h':F'.Nodup)(e:∀x,x∈F↔x∈F'):F.Perm F':=by rw[perm_iff_count];intro x;rw[h.count,h'.count];simp[e x]
theorem gI:∀{n:Nat} {F:List Nat},F.Nodup->(∀x∈F,x<n)->F.length<=n
 | 0,F,_,hl=>by
  cases F with
  | nil=>simp
  | cons a r=>exact absurd (hl a mem_cons_self) (not_lt_zero _)
 | n+1,F,h,hl=>by
  by_cases hn:n∈F
  ·have h1:=gI (n:=n) (h.erase n) fun x hx=>by
    have hx':=(List.Nodup.mem_erase_iff h).mp hx;have:=hl x hx'.2;have:=hx'.1;omega
   rw[length_erase_of_mem hn] at h1;have:=length_pos_of_mem hn;omega
  ·have h1:=gI (n:=n) h fun x hx=>by
    have:=hl x hx;have:x≠n:=fun e=>hn (e▸hx);omega
   omega
inductive Reach (b:List (List Nat)) (ok:Nat->Prop) (s:Nat):Nat->Prop where
 | refl:Reach b ok s s
 | step {x y:Nat} (h:Reach b ok s x) (hy:y∈b.getD x []) (o:ok y):Reach b ok s y
structure Comp (b:List (List Nat)) (ok:Nat->Prop) (s:Nat) (F:List Nat):Prop where
 nd:F.Nodup
 st:s∈F
 lt:∀x∈F,x<b.length
 cl:∀x∈F,∀y∈b.getD x [],ok y->y∈F
 re:∀x∈F,Reach b ok s x
theorem Comp.mem{b:List (List Nat)}{ok:Nat->Prop}{s:Nat}{F:List Nat}(h:Comp b ok s F)(x:Nat):x∈F↔Reach b ok s x:=by
 refine⟨h.re x,fun r=>?_⟩
 induction r with
 | refl=>exact h.st
 | step _ hy o ih=>exact h.cl _ ih _ hy o
def Bd(b:List (List Nat)):Prop:=∀r∈b,∀x∈r,x<b.length
theorem Bd.get{b:List (List Nat)}(h:Bd b){x y:Nat}(hy:y∈b.getD x []):y<b.length:=by
 rw[getD_eq_getElem?_getD] at hy;cases e:b[x]? with
 | none=>rw[e] at hy;simp at hy
 | some r=>rw[e] at hy;exact h r (mem_of_getElem? e) y (by simpa using hy)
structure Row (row:List Nat) (ok:Nat->Prop) (F F':List Nat) (r new:List Nat):Prop where
 app:F'=F++new
 nd:F'.Nodup
 mem:∀y∈new,y∈row/\ok y
 done:∃d,row=d++r/\∀y∈d,ok y->y∈F'
theorem ji{ce:Ce}{x:W}(h:fi ce x=some xs):aJ ce x (nW j)=xs[j]?:=g9 h rfl
theorem sd(T:List Int)(n:Nat):(T.map W.int).all (bM n)=true:=by rw[all_eq_true];intro w hw;obtain⟨x,_,rfl⟩:=mem_map.mp hw;cases n<;>rfl
theorem v9(a b:Int):aP (.int a) (.int b)=decide (a=b):=by simp[aP];rfl
theorem xY:∀(l m:List Int),bw (l.map W.int) (m.map W.int)=decide (l=m)
 | [],[]=>by simp[bw]
 | [],_::_=>by simp[bw]
 | _::_,[]=>by simp[bw]
 | a::l,b::m=>by
  simp only[map_cons,bw,v9,xY l m]
  by_cases h1:a=b<;>by_cases h2:l=m<;>simp[h1,h2]
theorem fw:(36:Nat)<sizeLine:=by decide
theorem vp{s:Src}{cs:Sl}{e:Sl->M W}{ce:Ce}(hst:s.Stays ce)(P:W->W->Prop):∀(l ys:List W),(∀x∈l,∃y,P x y/\e (some x::cs) ce=some (.ok y ce))->ys.length+l.length<=sizeLine ->
  ∃zs,dE s cs de e l ys ce=some (.ok (ys++zs) ce)/\PySem.Paired P l zs
 | [],ys,_,_=>⟨[],by simp only[dE,if_pos hst,append_nil],.nil⟩
 | x::r,ys,h,hz=>by
  have hl:ys.length<sizeLine:=by simp only[length_cons] at hz;omega
  obtain⟨y,py,ey⟩:=h x mem_cons_self;obtain⟨zs,ez,pz⟩:=vp hst P r (ys++[y]) (fun z hz=>h z (mem_cons_of_mem _ hz)) (by simp only[length_append,length_cons,length_nil] at hz ⊢;omega);refine⟨y::zs,?_,.cons py pz⟩;rw[oS ⟨hst,hl⟩];show au (ret true) _ ce=_;rw[gf (m:=ret true) rfl];show au (e (some x::cs)) (fun y=>dE s cs de e r (ys++[y])) ce=_;rw[gf ey,ez,append_assoc];rfl
theorem Bz{e:Sl->M W}{sl:Sl}{ce:Ce}{s:Src}(hi:di sl ce0=some (.ok s ce))(hst:s.Stays ce)(P:W->W->Prop)(h:∀x∈s.items,∃y,P x y/\e (some x::cY js sl) ce=some (.ok y ce))(hz:s.items.length<=sizeLine) :
  ∃zs,cL mk js di de e sl ce0=mk zs ce/\PySem.Paired P s.items zs:=by
 obtain⟨zs,e1,p⟩:=vp hst P s.items [] h (by simpa using hz);refine⟨zs,?_,p⟩;show au (di sl) (fun s=>au (dE s (cY js sl) de e s.items []) mk) ce0=_;rw[gf hi,gf e1,nil_append]
theorem xX{s:Src}{cs:Sl}(hst:∀ce,s.Stays ce):∀(l ys:List W) (ce:Ce),ys.length+l.length<=sizeLine ->
  dE s cs de (dP ai) l ys ce=some (.ok (ys++(List.range l.length).map fun i=>W.cel (ce.length+i)) (ce++List.replicate l.length (C.lst [])))
 | [],ys,ce,_=>by simp[dE,if_pos (hst ce)]
 | x::r,ys,ce,hz=>by
  have hl:ys.length<sizeLine:=by simp only[length_cons] at hz;omega
  have ih:=xX (s:=s) (cs:=cs) hst r (ys++[W.cel ce.length]) (ce++[C.lst []]) (by simp only[length_append,length_cons,length_nil] at hz ⊢;omega);rw[oS ⟨hst ce,hl⟩];show au (ret true) _ ce=_;rw[gf (m:=ret true) rfl];have ex:dP ai (some x::cs) ce=some (.ok (W.cel ce.length) (ce++[C.lst []])):=by simp
  show au (dP ai (some x::cs)) (fun y=>dE s cs de (dP ai) r (ys++[y])) ce=_;rw[gf ex,ih];have e1:(List.range (r.length+1)).map (fun i=>W.cel (ce.length+i))=W.cel ce.length::(List.range r.length).map fun i=>W.cel ((ce++[C.lst []]).length+i):=by rw[range_succ_eq_map,map_cons,map_map];congr 1;apply map_congr_left;intro i _;simp only[Function.comp,length_append,length_cons,length_nil];congr 1;omega
  have e2:ce++List.replicate (r.length+1) (C.lst [])=ce++[C.lst []]++List.replicate r.length (C.lst []):=by rw[replicate_succ,append_assoc];rfl
  rw[length_cons,e1,e2,append_assoc];rfl
theorem By(h:n<=1000):iF [nW n]=some (.rng 0 n):=by
 have h1:(-4611686018427387904:Int)<=(n:Int)/\(n:Int)<4611686018427387904:=by omega
 simp only[iF,nW,if_pos h1,toNat_natCast]
theorem Bx{d:Sl->M (List W)}{sl:Sl}{ce:Ce}(hd:d sl ce=some (.ok [nW n] ce'))(h:n<=1000):e9 d sl ce=some (.ok (.rng 0 n) ce'):=by show au (d sl) (fun ws=>look (fun _=>iF ws)) ce=_;rw[gf hd];show(iF [nW n]).map _=_;rw[By h];rfl
theorem rE(k:Int)(h:0<n):∃j:Nat,j<n/\k % (n:Int)=j:=by have h1:=emod_nonneg k (b:=(n:Int)) (by omega);have h2:=emod_lt_of_pos k (b:=(n:Int)) (by omega);exact⟨(k % (n:Int)).toNat,by omega,by omega⟩
theorem oK{k:Int}(h:0<n)(e:k % (n:Int)=j):bG (.int k) (.int (n:Int))=some (nW j):=by rw[hX (by omega),e];rfl
theorem vo{ce:Ce}{sl:Sl}{w:W}{r:Option (R W)}(h:body (ws.map some++List.replicate (n-ws.length) none) ce=some (.go (.rt w) sl ce'))(hf:fin ce ce' w=r):bE fin n body ws ce=r:=by unfold bE;rw[h];exact hf
theorem Fo{s:Src}{g:DG}{sl:Sl}{ce:Ce}(hst:s.Stays ce):f_ s g body [] sl ce=some (.go .nx sl ce):=by simp only[f_,if_pos hst]
theorem oR{g:DG}{sl:Sl}{ce:Ce}{src:Src}(hi:di sl ce=some (.ok src ce0)):dg di g body sl ce=f_ src g body src.items sl ce0:=by simp only[dg,bY,hi]
theorem CI{i:Nat}{sl:Sl}{ce:Ce}{w:W}(h:d sl ce=some (.ok w ce')):aQ i d sl ce=some (.go .nx (sl.set i (some w)) ce'):=by simp only[aQ,bY,h]
theorem uM{c:Sl->M Bool}{a b:DS}{sl:Sl}{ce:Ce}(h:c sl ce=some (.ok true ce')):bh c a b sl ce=a sl ce':=by simp only[bh,bY,h]
theorem uL{c:Sl->M Bool}{a b:DS}{sl:Sl}{ce:Ce}(h:c sl ce=some (.ok false ce')):bh c a b sl ce=b sl ce':=by simp only[bh,bY,h]
theorem sN(n:Nat):(Src.rng 0 n).items=(List.range n).map nW:=by simp only[Src.items,Int.zero_add];rfl
theorem aL(n:Nat):∀l:List Nat,cp n (l.map nW)
 | []=>by simp only[map_nil,cp]
 | a::r=>by simp only[map_cons,cp,nW,aU];exact⟨trivial,aL n r⟩
theorem Bw(n:Nat)(b:List (List Nat)):aU n (wB b):=by
 simp only[wB,aU]
 induction b with
 | nil=>simp only[map_nil,cp]
 | cons r b ih=>simp only[map_cons,cp,wT,aU];exact⟨aL n r,ih⟩
def cD(r:List Nat):List Nat:=(fo (dI r)).map Int.toNat
theorem pd(r:List Nat):(fo (dI r)).map W.int=(cD r).map nW:=by unfold cD;rw[map_map];apply map_congr_left;intro x hx;have hx':=(iO (dI r)).subset hx;obtain⟨y,_,rfl⟩:=mem_map.mp hx';show W.int (y:Int)=W.int (((y:Int).toNat:Nat):Int);simp
theorem pb(r:List Nat)(x:Nat):x∈cD r↔x∈r:=by
 unfold cD;constructor
 ·intro h;obtain⟨z,hz,rfl⟩:=mem_map.mp h;obtain⟨y,hy,rfl⟩:=mem_map.mp ((iO (dI r)).subset hz);simpa using hy
 ·intro h;refine mem_map.mpr ⟨(x:Int),(iO (dI r)).symm.subset (mem_map.mpr ⟨x,h,rfl⟩),by simp⟩
theorem Reach.trans{b:List (List Nat)}{ok:Nat->Prop}{s x y:Nat}(h:Reach b ok s x)(h':Reach b ok x y):Reach b ok s y:=by
 induction h' with
 | refl=>exact h
 | step _ hy o ih=>exact .step ih hy o
theorem Reach.okOf{b:List (List Nat)}{ok:Nat->Prop}{s x:Nat}(hs:ok s)(h:Reach b ok s x):ok x:=by
 cases h with
 | refl=>exact hs
 | step _ _ o=>exact o
theorem Reach.symm{b:List (List Nat)}{ok:Nat->Prop}{s x:Nat}(sym:∀i j,j∈b.getD i []->i∈b.getD j [])(hs:ok s)(h:Reach b ok s x):Reach b ok x s:=by
 induction h with
 | refl=>exact .refl
 | step h hy o ih=>exact Reach.trans (.step .refl (sym _ _ hy) (h.okOf hs)) ih
theorem Paired.nth{α β:Type}{P:α->β->Prop}{l:List α}{m:List β}(h:PySem.Paired P l m):l.length=m.length/\∀(i:Nat) (a:α) (b:β),l[i]?=some a->m[i]?=some b->P a b:=by refine⟨length h,fun i a b h1 h2=>?_⟩;obtain⟨b',e,p⟩:=L2.Paired.at2 h i a h1;rw[h2] at e;cases e;exact p
def Run(s:DS)(sl:Sl)(ce:Ce)(Q:O->Prop):Prop:=∃o,s sl ce=some o/\Q o
def Nx(P:Sl->Ce->Prop):O->Prop
 | .go .nx sl ce=>P sl ce
 | .go .ct sl ce=>P sl ce
 | _=>False
def Rt(P:W->Ce->Prop):O->Prop
 | .go (.rt w) _ ce=>P w ce
 | _=>False
def NR(P:Sl->Ce->Prop)(T:W->Ce->Prop):O->Prop
 | .go .nx sl ce=>P sl ce
 | .go .ct sl ce=>P sl ce
 | .go (.rt w) _ ce=>T w ce
 | _=>False
section
variable {s a b:DS} {sl:Sl} {ce:Ce} {Q':O->Prop} {e:Sl->M W} {w x:W} {i:Nat} {p q:Bool} {ta tb:Sl->M Bool}
theorem Run.mono(h:Run s sl ce Q)(m:∀o,Q o->Q' o):Run s sl ce Q':=by obtain⟨o,e,q⟩:=h;exact⟨o,e,m o q⟩
theorem Bv{o:O}(h:s sl ce=some o)(q:Q o):Run s sl ce Q:=⟨o,h,q⟩
theorem kc(q:Q (.go .nx sl ce)):Run bz sl ce Q:=⟨_,rfl,q⟩
theorem bP(h:e sl ce=some (.ok w ce'))(q:Q (.go (.rt w) sl ce')):Run (aT e) sl ce Q:=⟨_,by simp only[aT,bY,h],q⟩
theorem j2(h:e sl ce=some (.ok w ce'))(q:Q (.go .nx sl ce')):Run (cz e) sl ce Q:=⟨_,by simp only[cz,bY,h],q⟩
theorem gC(h:ta sl ce=some (.ok p ce'))(ht:p=true->Run a sl ce' Q)(hf:p=false->Run b sl ce' Q):Run (bh ta a b) sl ce Q:=by
 cases p with
 | true=>obtain⟨o,e,q⟩:=ht rfl;exact⟨o,by rw[uM h];exact e,q⟩
 | false=>obtain⟨o,e,q⟩:=hf rfl;exact⟨o,by rw[uL h];exact e,q⟩
theorem hV(h:a sl ce=some (.go .nx sl' ce'))(q:Run b sl' ce' Q):Run (aq a b) sl ce Q:=by obtain⟨o,e,q⟩:=q;exact⟨o,by rw[wa h];exact e,q⟩
theorem bu(h:e sl ce=some (.ok w ce'))(q:Run b (sl.set i (some w)) ce' Q):Run (aq (aQ i e) b) sl ce Q:=hV (CI h) q
theorem jZ(h:e sl ce=some (.ok w ce'))(q:Run b sl ce' Q):Run (aq (cz e) b) sl ce Q:=hV (by simp only[cz,bY,h]) q
theorem Gz{c:DS}:aq (aq a b) c=aq a (aq b c):=by
 funext sl ce;simp only[aq];cases a sl ce with
 | none=>rfl
 | some o=>cases o with
  | ex x c=>rfl
  | go f sl' ce'=>cases f<;>rfl
theorem fL{c:DS}(h:Run (aq a (aq b c)) sl ce Q):Run (aq (aq a b) c) sl ce Q:=by rw[Gz];exact h
theorem cy{c:DS}(h:Run c sl ce Q):Run (aq bz c) sl ce Q:=h
theorem ju{c:DS}(h:Run (aT e) sl ce Q):Run (aq (aT e) c) sl ce Q:=by
 obtain⟨o,e',q⟩:=h;refine⟨o,?_,q⟩;simp only[aq];simp only[aT,bY] at e' ⊢;cases h:e sl ce with
 | none=>rw[h] at e';cases e'
 | some r=>rw[h] at e';cases r<;>exact e'
theorem bU{c:DS}(h:ta sl ce=some (.ok p ce'))(ht:p=true->Run (aq a c) sl ce' Q)(hf:p=false->Run (aq b c) sl ce' Q):Run (aq (bh ta a b) c) sl ce Q:=by
 cases p with
 | true=>obtain⟨o,e,q⟩:=ht rfl;exact⟨o,by rw[<- e];simp only[aq,uM h],q⟩
 | false=>obtain⟨o,e,q⟩:=hf rfl;exact⟨o,by rw[<- e];simp only[aq,uL h],q⟩
end
section
variable {α:Type} {en:α->W} {src:Src} {g:DG} {b:DS}
theorem o_(xs:List α)(R:List α->Sl->Ce->Prop)(T:W->Ce->Prop)(step:∀d x r sl ce,d++x::r=xs->R d sl ce->src.Stays ce/\∃sl1,g (en x) sl ce=some (sl1,ce)/\Run body sl1 ce (NR (R (d++[x])) T))(hst:∀sl ce,R xs sl ce->src.Stays ce) :
  ∀(r d:List α) (sl:Sl) (ce:Ce),d++r=xs->R d sl ce->Run (f_ src g body (r.map en)) sl ce fun o=>(∃sl' ce',o=.go .nx sl' ce'/\R xs sl' ce')\/∃w sl' ce',o=.go (.rt w) sl' ce'/\T w ce'
 | [],d,sl,ce,e,h=>by
  rw[append_nil] at e;subst e;exact⟨_,Fo (hst _ _ h),.inl ⟨_,_,rfl,h⟩⟩
 | x::r,d,sl,ce,e,h=>by
  obtain⟨hs,sl1,e1,o,e2,q⟩:=step d x r sl ce e h;have go:∀sl2 ce2,R (d++[x]) sl2 ce2->Run (f_ src g body (r.map en)) sl2 ce2 fun o=>(∃sl' ce',o=.go .nx sl' ce'/\R xs sl' ce')\/∃w sl' ce',o=.go (.rt w) sl' ce'/\T w ce':=fun sl2 ce2 h2=>o_ xs R T step hst r (d++[x]) sl2 ce2 (by rw[append_assoc];exact e) h2;cases o with
  | ex x c=>exact q.elim
  | go f sl2 ce2 =>
   cases f with
   | nx =>
    obtain⟨o,e3,q3⟩:=go sl2 ce2 q;exact⟨o,by simp only[map_cons,f_,if_pos hs,e1,e2];exact e3,q3⟩
   | ct =>
    obtain⟨o,e3,q3⟩:=go sl2 ce2 q;exact⟨o,by simp only[map_cons,f_,if_pos hs,e1,e2];exact e3,q3⟩
   | bk=>exact q.elim
   | rt w=>exact⟨.go (.rt w) sl2 ce2,by simp only[map_cons,f_,if_pos hs,e1,e2],.inr ⟨w,sl2,ce2,rfl,q⟩⟩
theorem v8{sl:Sl}{ce:Ce}{i:Nat}{xs:List α}(hi:di sl ce=some (.ok src ce0))(hx:src.items=xs.map en)(R:List α->Sl->Ce->Prop)(h0:R [] sl ce0)(step:∀d x r sl ce,d++x::r=xs->x∈xs->R d sl ce->src.Stays ce/\Run body (sl.set i (some (en x))) ce (Nx (R (d++[x]))))(hst:∀sl ce,R xs sl ce->src.Stays ce)(fin:∀sl ce,R xs sl ce->Q (.go .nx sl ce)):Run (dg di (gN i) body) sl ce Q:=by
 obtain⟨o,e,q⟩:=o_ (g:=gN i) (body:=body) (en:=en) (src:=src) xs R (fun _ _=>False) (fun d x r sl ce e h=>by
  obtain⟨h1,h2⟩:=step d x r sl ce e (by rw[<- e];simp) h;exact⟨h1,_,rfl,h2.mono fun o q=>by
   cases o with
   | ex x c=>exact q.elim
   | go f sl2 ce2=>cases f<;>first|exact q|exact q.elim⟩) hst xs [] sl ce0 rfl h0
 rcases q with ⟨sl',ce',rfl,h⟩|⟨w,sl',ce',rfl,h⟩
 ·exact⟨_,by rw[oR hi,hx];exact e,fin _ _ h⟩
 ·exact h.elim
theorem rD{sl:Sl}{ce:Ce}{i:Nat}{xs:List α}(hi:di sl ce=some (.ok src ce0))(hx:src.items=xs.map en)(R:List α->Sl->Ce->Prop)(h0:R [] sl ce0)(step:∀d x r sl ce,d++x::r=xs->x∈xs->R d sl ce->src.Stays ce/\Run body (sl.set i (some (en x))) ce (Nx (R (d++[x]))))(hst:∀sl ce,R xs sl ce->src.Stays ce)(fin:∀sl ce,R xs sl ce->Run b sl ce Q):Run (aq (dg di (gN i) body) b) sl ce Q:=by
 obtain⟨o,e,q⟩:=v8 (Q:=fun o=>∃sl' ce',o=.go .nx sl' ce'/\Run b sl' ce' Q) (body:=body) (i:=i) hi hx R h0 step hst fun sl ce h=>⟨sl,ce,rfl,fin sl ce h⟩
 obtain⟨sl',ce',rfl,h⟩:=q;exact hV e h
theorem Fz{σ:Type}{c:Sl->M Bool}{sl:Sl}{ce:Ce}(R:σ->Sl->Ce->Prop)(m:σ->Nat)(s0:σ)(h0:R s0 sl ce)(hm:m s0<fu)(step:∀s sl ce,R s sl ce->∃p,c sl ce=some (.ok p ce)/\(p=true->Run body sl ce (Nx fun sl2 ce2=>∃s2,m s2<m s/\R s2 sl2 ce2))/\(p=false->Q (.go .nx sl ce))):Run (h_ c body fu) sl ce Q:=by
 induction fu generalizing s0 sl ce with
 | zero=>exact absurd hm (not_lt_zero _)
 | succ fu ih =>
  obtain⟨p,e,ht,hf⟩:=step s0 sl ce h0;cases p with
  | false=>exact⟨_,by simp only[h_,bY,e],hf rfl⟩
  | true =>
   obtain⟨o,e2,q⟩:=ht rfl;cases o with
   | ex x c=>exact q.elim
   | go f sl2 ce2 =>
    cases f with
    | nx =>
     obtain⟨s2,hs,r⟩:=q;obtain⟨o,e3,q3⟩:=ih s2 r (by omega);exact⟨o,by simp only[h_,bY,e,e2];exact e3,q3⟩
    | ct =>
     obtain⟨s2,hs,r⟩:=q;obtain⟨o,e3,q3⟩:=ih s2 r (by omega);exact⟨o,by simp only[h_,bY,e,e2];exact e3,q3⟩
    | bk=>exact q.elim
    | rt w=>exact q.elim
theorem CH{a b:DS}{sl:Sl}{ce:Ce}(h:Run a sl ce fun o=>∃sl' ce',o=.go .nx sl' ce'/\Run b sl' ce' Q):Run (aq a b) sl ce Q:=by obtain⟨o,e,sl',ce',rfl,q⟩:=h;exact hV e q
end
section
variable {sl:Sl} {ce:Ce} {a b:Sl->M W} {w x:W} {i:Nat} {p q:Bool} {ta tb:Sl->M Bool} {src:Src}
theorem ao(h:sl[i]?=some (some w)):ae i sl ce=some (.ok w ce):=by simp only[ae,h]
theorem aN:dC w sl ce=some (.ok w ce):=rfl
theorem ck{f:W->W->Option W}(ha:a sl ce=some (.ok x c1))(hb:b sl c1=some (.ok y c2))(h:f x y=some w):aE f a b sl ce=some (.ok w c2):=by simp only[aE,au,look,ha,hb,h,map_some]
theorem bO{f:Ce->W->W->Option W}(ha:a sl ce=some (.ok x c1))(hb:b sl c1=some (.ok y c2))(h:f c2 x y=some w):aI f a b sl ce=some (.ok w c2):=by simp only[aI,au,look,ha,hb,h,map_some]
theorem cM{f:W->Option W}(ha:a sl ce=some (.ok x c1))(h:f x=some w):bR f a sl ce=some (.ok w c1):=by simp only[bR,au,look,ha,h,map_some]
theorem bt(ha:a sl ce=some (.ok (.bl p) c1)):dB a sl ce=some (.ok p c1):=by simp only[dB,au,look,ha,map_some]
theorem oJ(ha:a sl ce=some (.ok x c1))(h:fG c1 x=some p):g_ a sl ce=some (.ok p c1):=by simp only[g_,au,look,ha,h,map_some]
theorem me(ha:ta sl ce=some (.ok p c1))(hb:p=true->tb sl c1=some (.ok q c1)):gb ta tb sl ce=some (.ok (p&&q) c1):=by
 cases p with
 | true=>simp only[gb,au,ha,hb rfl,Bool.true_and]
 | false=>simp only[gb,au,ha,Bool.false_and];rfl
theorem kI(ha:ta sl ce=some (.ok p c1))(hb:p=false->tb sl c1=some (.ok q c1)):fx ta tb sl ce=some (.ok (p||q) c1):=by
 cases p with
 | true=>simp only[fx,au,ha,Bool.true_or];rfl
 | false=>simp only[fx,au,ha,hb rfl,Bool.false_or]
theorem gE(ha:ta sl ce=some (.ok p c1)):eE ta sl ce=some (.ok (!p) c1):=by simp only[eE,au,ha];rfl
theorem vn(hc:ta sl ce=some (.ok p c1))(ht:p=true->a sl c1=some (.ok x c1))(hf:p=false->b sl c1=some (.ok y c1)):mJ ta a b sl ce=some (.ok (if p=true then x else y) c1):=by
 cases p with
 | true=>simp only[mJ,au,hc,ht rfl,if_true]
 | false=>simp[mJ,au,hc,hf rfl]
theorem aB:ai sl ce=some (.ok [] ce):=rfl
theorem ay(ha:a sl ce=some (.ok x c1))(hr:ra sl c1=some (.ok xs c2)):ah a ra sl ce=some (.ok (x::xs) c2):=by simp only[ah,au,ha,hr];rfl
theorem dO{f:List W->M W}(hr:ra sl ce=some (.ok ws c1))(h:f ws c1=some (.ok w c2)):bB f ra sl ce=some (.ok w c2):=by simp only[bB,au,hr,h]
theorem cE{f:List W->M W}(hr:ra sl ce=some (.ok ws c1))(hl:ws.length=n)(h:f ws c1=some (.ok w c2)):aV n f ra sl ce=some (.ok w c2):=by simp only[aV,au,hr,if_pos hl,h]
theorem jY(hr:ra sl ce=some (.ok ws c1))(hl:ws.length<=sizeLine):eK ra sl ce=some (.ok (.tup ws) c1):=by simp only[eK,au,hr,gO,if_pos hl]
theorem gB(hr:ra sl ce=some (.ok ws c1))(hl:ws.length<=sizeLine):eS ra sl ce=some (.ok (.lst ws) c1):=by simp only[eS,au,hr,gO,if_pos hl]
theorem iT(hr:ra sl ce=some (.ok ws c1))(hl:ws.length<=sizeLine):dP ra sl ce=some (.ok (.cel c1.length) (c1++[.lst ws])):=by simp only[dP,au,hr,gP,if_pos hl]
theorem CG:lI sl ce=some (.ok (.cel ce.length) (ce++[.dct []])):=by simp[lI,gP]
theorem gS{f:W->List W->M W}(ha:a sl ce=some (.ok x c1))(hl:bV c1 x=some ys)(hr:ra sl c1=some (.ok ws c2))(h:f x ws c2=some (.ok w c3)):c6 f a ra sl ce=some (.ok w c3):=by simp only[c6,au,ha,look,iE,hl,hr,h,map_some]
theorem oI{f:W->List W->M W}(ha:a sl ce=some (.ok x c1))(hl:bV c1 x=some ys)(h:f x [] c1=some (.ok w c3)):jK f a sl ce=some (.ok w c3):=by simp only[jK,au,ha,look,iE,hl,h,map_some]
theorem n6(ha:a sl ce=some (.ok x c1))(h:fZ c1 x=some src):dY a sl ce=some (.ok src c1):=by simp only[dY,au,ha,look,h,map_some]
theorem uK(ha:a sl ce=some (.ok x c1))(h:qh x=some src):iq a sl ce=some (.ok src c1):=by simp only[iq,au,ha,look,h,map_some]
theorem qF(ha:ra sl ce=some (.ok [nW n] c1))(h:n<=1000):e9 ra sl ce=some (.ok (.rng 0 n) c1):=Bx ha h
theorem u3{α:Type}{c:Sl->M Bool}{e:Sl->M W}{en:α->W}{zs:List α}{t:α->Bool}{g:α->W}(hi:di sl ce=some (.ok src c1))(hx:src.items=zs.map en)(hst:src.Stays c1)(hc:∀x∈zs,c (some (en x)::cY js sl) c1=some (.ok (t x) c1))(he:∀x∈zs,t x=true->e (some (en x)::cY js sl) c1=some (.ok (g x) c1))(hz:zs.length<=sizeLine)(hm:mk ((zs.filter t).map g) c1=some (.ok w c2)):cL mk js di c e sl ce=some (.ok w c2):=by
 have key:∀(l:List α) (ys:List W),(∀x∈l,x∈zs)->ys.length+l.length<=sizeLine->dE src (cY js sl) c e (l.map en) ys c1=some (.ok (ys++(l.filter t).map g) c1):=by
  intro l
  induction l with
  | nil=>intro ys _ _;simp only[map_nil,dE,if_pos hst,filter_nil,append_nil]
  | cons x r ih =>
   intro ys hl hz;simp only[length_cons] at hz;rw[map_cons,oS ⟨hst,by omega⟩,gf (hc x (hl x mem_cons_self))];cases ht:t x with
   | true =>
    show au (e (some (en x)::cY js sl)) (fun y=>dE src (cY js sl) c e (r.map en) (ys++[y])) c1=_;rw[gf (he x (hl x mem_cons_self) ht),ih _ (fun y hy=>hl y (mem_cons_of_mem _ hy)) (by simp only[length_append,length_cons,length_nil];omega),filter_cons_of_pos ht,map_cons,append_assoc];rfl
   | false =>
    show dE src (cY js sl) c e (r.map en) ys c1=_;rw[ih _ (fun y hy=>hl y (mem_cons_of_mem _ hy)) (by omega),filter_cons_of_neg (by simp[ht])]
 show au (di sl) (fun s=>au (dE s (cY js sl) c e s.items []) mk) ce=_;rw[gf hi,hx,gf (key zs [] (fun _ h=>h) (by simpa using hz)),nil_append];exact hm
theorem kS(h:xs.length<=sizeLine):bc xs ce=some (.ok (.lst xs) ce):=if_pos h
theorem ma(h:xs.length<=sizeLine):eR xs ce=some (.ok (.cel ce.length) (ce++[.lst xs])):=if_pos h
theorem BL{o i:Sl->M W}{kvs:List (Key×W)}(h1:v sl ce=some (.ok w c1))(h2:o sl c1=some (.ok ow c2))(h3:i sl c2=some (.ok iw c3))(h4:gR iw=some key)(h5:jO c3 ow=some (k,kvs))(h6:kvs.length<sizeLine)(q:Q (.go .nx sl (c3.set k (.dct (gu kvs key w))))):Run (jL o i v) sl ce Q:=⟨_,vq h1 h2 h3 h4 h5 h6,q⟩
theorem CF{o i:Sl->M W}{s:DS}{kvs:List (Key×W)}(h1:v sl ce=some (.ok w c1))(h2:o sl c1=some (.ok ow c2))(h3:i sl c2=some (.ok iw c3))(h4:gR iw=some key)(h5:jO c3 ow=some (k,kvs))(h6:kvs.length<sizeLine)(q:Run s sl (c3.set k (.dct (gu kvs key w))) Q):Run (aq (jL o i v) s) sl ce Q:=hV (vq h1 h2 h3 h4 h5 h6) q
end
structure Own (b ce:Ce) (l:List (Nat×C)):Prop where
 cut:∃t,ce=b++t
 get:∀p∈l,ce[p.1]?=some p.2
 ge:∀p∈l,b.length<=p.1
 nd:(l.map Prod.fst).Nodup
namespace Own
variable {b ce:Ce} {l:List (Nat×C)} {k1 k2 k3:Nat} {c c' q1 q2 q3:C}
theorem start(b:Ce):Own b b []:=⟨⟨[],by simp⟩,by simp,by simp,by simp⟩
theorem alloc(h:Own b ce l)(c:C):Own b (ce++[c]) ((ce.length,c)::l):=by
 obtain⟨⟨t,e⟩,h2,h3,h4⟩:=h;have lt:∀p∈l,p.1<ce.length:=fun p hp=>by
  have:=h2 p hp;exact(List.getElem?_eq_some_iff.mp this).1
 refine⟨⟨t++[c],by rw[e,append_assoc]⟩,fun p hp=>?_,fun p hp=>?_,?_⟩
 ·rcases mem_cons.mp hp with rfl|hp
  ·exact j4 _ _
  ·rw[getElem?_append_left (lt p hp)];exact h2 p hp
 ·rcases mem_cons.mp hp with rfl|hp
  ·simp[e]
  ·exact h3 p hp
 ·simp only[map_cons,nodup_cons];exact⟨fun q=>by obtain⟨p,hp,e⟩:=mem_map.mp q;have:=lt p hp;omega,h4⟩
theorem perm{l':List (Nat×C)}(h:Own b ce l)(p:l.Perm l'):Own b ce l' :=
 ⟨h.cut,fun q hq=>h.get q (p.symm.subset hq),fun q hq=>h.ge q (p.symm.subset hq),(p.map _).nodup h.nd⟩
theorem g0(h:Own b ce ((k,c)::l)):ce[k]?=some c:=h.get _ mem_cons_self
theorem g1(h:Own b ce ((k1,q1)::(k,c)::l)):ce[k]?=some c:=h.get (k,c) (by simp)
theorem drop(h:Own b ce ((k,c)::l)):Own b ce l:=⟨h.cut,fun p hp=>h.get p (mem_cons_of_mem _ hp),fun p hp=>h.ge p (mem_cons_of_mem _ hp),(nodup_cons.mp h.nd).2⟩
theorem set0(h:Own b ce ((k,c)::l))(c':C):Own b (ce.set k c') ((k,c')::l):=by
 have hk:k<ce.length:=(List.getElem?_eq_some_iff.mp h.g0).1;obtain⟨⟨t,e⟩,h2,h3,h4⟩:=h;have hb:=h3 (k,c) mem_cons_self;have hn:∀p∈l,p.1≠k:=fun p hp q=>(nodup_cons.mp h4).1 (mem_map.mpr ⟨p,hp,q⟩);refine⟨⟨t.set (k-b.length) c',?_⟩,fun p hp=>?_,fun p hp=>?_,h4⟩
 ·rw[e,set_append_right _ _ hb]
 ·rcases mem_cons.mp hp with rfl|hp
  ·simp[hk]
  ·rw[getElem?_set_ne (Ne.symm (hn p hp))];exact h2 p (mem_cons_of_mem _ hp)
 ·rcases mem_cons.mp hp with rfl|hp
  ·exact hb
  ·exact h3 p (mem_cons_of_mem _ hp)
theorem set1(h:Own b ce ((k1,q1)::(k,c)::l))(c':C):Own b (ce.set k c') ((k1,q1)::(k,c')::l):=((h.perm (.swap _ _ _)).set0 c').perm (.swap _ _ _)
theorem finC(h:Own b ce l){w:W}(hb:aU b.length w):finC b ce w=some (.ok w b):=by obtain⟨t,rfl⟩:=h.cut;exact mr hb
theorem finO(h:Own b ce ((k,c)::l))(hb:eB b.length c):finO b ce (.cel k)=some (.ok (.cel b.length) (b++[c])):=by have g:=h.g0;have ge:=h.ge _ mem_cons_self;obtain⟨t,rfl⟩:=h.cut;obtain⟨j,hj⟩:=exists_eq_add_of_le ge;have hj':k=b.length+j:=hj;subst hj';exact Fs (by rw[<- nU b t j];exact g) hb
end Own
theorem lU{ce:Ce}{r:Option (R W)}(h:Run body (ws.map some++List.replicate (n-ws.length) none) ce (Rt fun w ce'=>fin ce ce' w=r)):bE fin n body ws ce=r:=by
 obtain⟨o,e,q⟩:=h;cases o with
 | ex x c=>exact q.elim
 | go f sl c=>cases f with
  | rt w=>exact vo e q
  | nx=>exact q.elim
  | bk=>exact q.elim
  | ct=>exact q.elim
section
variable {ce:Ce} {b:List (List Nat)} {is:List Int}
abbrev wS(is:List Int):W:=.tup (is.map W.int)
abbrev wL(l:List Nat):W:=.lst (l.map nW)
abbrev sW(ns:List Int):W:=.lst (ns.map W.int)
theorem BK(h:p<b.length):aJ ce (wB b) (nW p)=some (wT (b.getD p [])):=by rw[ji (xs:=b.map wT) rfl,getElem?_map,getD_eq_getElem?_getD,getElem?_eq_getElem h];rfl
theorem vm(h:p<l.length):aJ ce (wL l) (nW p)=some (nW (l.getD p 0)):=by rw[ji (xs:=l.map nW) rfl,getElem?_map,getD_eq_getElem?_getD,getElem?_eq_getElem h];rfl
theorem kH(h:p<is.length):aJ ce (wS is) (nW p)=some (.int (is.getD p 0)):=by rw[ji (xs:=is.map W.int) rfl,getElem?_map,getD_eq_getElem?_getD,getElem?_eq_getElem h];rfl
theorem CD:b_ [wL l] ce=some (.ok (nW l.length) ce):=by simp[b_];rfl
theorem nk:b_ [wB b] ce=some (.ok (nW b.length) ce):=by simp[b_,wB];rfl
theorem CC{F:List Nat}(g:ce[k]?=some (.dct (kvs F))){ng:Bool}:jP ng ce (nW p) (.cel k)=some (.bl (if ng then !decide (p∈F) else decide (p∈F))):=by have ky:gR (nW p)=some (.inl (p:Int)):=rfl;simp only[jP,ky,BB g,CJ]
theorem jo(g:ce[k]?=some (.lst xs))(h:xs.length<sizeLine):cS (.cel k) [y] ce=some (.ok .non (ce.set k (.lst (xs++[y])))):=oo (kJ g) h
end
def ins(F:List Nat)(y:Nat):List Nat:=if y∈F then F else F++[y]
theorem dR{F:List Nat}{y x:Nat}:x∈ins F y↔x∈F\/x=y:=by
 unfold ins;split
 ·rename_i h;exact⟨.inl,fun q=>q.elim id fun e=>e▸h⟩
 ·simp
theorem vk{F:List Nat}{y:Nat}(h:F.Nodup):(ins F y).Nodup:=by
 unfold ins;split
 ·exact h
 ·rename_i hn;rw[nodup_append];exact⟨h,by simp,fun a ha b hb=>by rw[mem_singleton] at hb;subst hb;intro q;subst q;exact hn ha⟩
theorem v7(F:List Nat)(y:Nat):gu (kvs F) (.inl (y:Int)) (.bl true)=kvs (ins F y):=by
 unfold ins;split
 ·rename_i h;have e:((kvs F).any fun kv=>decide (kv.1=(.inl (y:Int):Key)))=true:=any_eq_true.mpr ⟨(.inl (y:Int),.bl true),mem_map.mpr ⟨y,h,rfl⟩,by simp⟩;unfold gu;rw[e];simp only[if_true]
  conv=>rhs;rw[<- map_id (kvs F)]
  apply map_congr_left;intro p hp;obtain⟨x,hx,rfl⟩:=mem_map.mp hp;simp only[id];split
  ·rename_i q;simp at q;rw[q]
  ·rfl
 ·rename_i h;exact rF F y h
theorem r_{F:List Nat}(nd:F.Nodup)(lt:∀x∈F,x<n):cD F=(List.range n).filter fun x=>decide (x∈F):=by
 have h:fo (dI F)=dI ((List.range n).filter fun x=>decide (x∈F)):=by
  refine pE ((iO _).trans ?_) (pJ _) ?_
  ·refine List.Perm.map _ (Hv nd (List.Pairwise.filter _ nodup_range) fun x=>?_);simp only[mem_filter,mem_range,decide_eq_true_eq];exact⟨fun h=>⟨lt x h,h⟩,fun h=>h.2⟩
  ·unfold dI;rw[pairwise_map];exact(List.Pairwise.filter _ pairwise_lt_range).imp fun h=>by omega
 unfold cD;rw[h];unfold dI;rw[map_map]
 conv=>rhs;rw[<- map_id (List.filter _ _)]
 apply map_congr_left;intro x _;simp
theorem xR{ce:Ce}{F:List Nat}(g:ce[k]?=some (.dct (kvs F)))(h:F.length<64):fM mk [.cel k] ce=mk ((cD F).map nW) ce:=by
 have l:bV ce (.cel k)=none:=by simp only[bV,g]
 have g':lu ce (.cel k)=some (kvs F):=by simp only[lu,g]
 simp only[fM,l,g',Fp,nG,if_pos h,pd]
theorem Eo{ce:Ce}(g:ce[k]?=some (.lst (l.map nW)))(h:l.length<64):fM mk [.cel k] ce=mk ((cD l).map nW) ce:=by simp only[fM,eX g,xS,nG,if_pos h,pd]
inductive bT (ce:Ce):W->List W->Prop where
 | fr (xs:List W):bT ce (.lst xs) xs
 | cl {k:Nat} {xs:List W} (h:ce[k]?=some (.lst xs)):bT ce (.cel k) xs
namespace bT
variable {ce:Ce} {w:W}
theorem src(h:bT ce w xs):∃s,fZ ce w=some s/\s.items=xs/\s.Stays ce:=by
 cases h with
 | fr=>exact⟨.lst xs,rfl,rfl,trivial⟩
 | cl h=>exact⟨.cell _ xs,by simp only[fZ,h],rfl,h⟩
end bT
theorem r9{ce:Ce}{w:W}(h:bT ce w xs)(hz:xs.length<=sizeLine):fk [w] ce=some (.ok (.tup xs) ce):=by
 cases h with
 | fr=>exact if_pos hz
 | cl h=>simp only[fk,eX h];exact if_pos hz
theorem rA{ce:Ce}{w:W}(h:fi ce w=some xs):kE mk [w] ce=mk xs ce:=by simp only[kE,h]
def iI(di:Sl->M Src)(sl:Sl)(ce c1:Ce)(xs:List W):Prop:=∃s,di sl ce=some (.ok s c1)/\s.items=xs/\s.Stays c1
def bx(di:Sl->M Src)(sl:Sl)(ce c1:Ce)(xs:List W):Prop:=∃s,di sl ce=some (.ok s c1)/\s.items=xs/\∀c,s.Stays c
section
variable {sl:Sl} {ce:Ce} {a:Sl->M W} {w:W}
theorem bx.is(h:bx di sl ce c1 xs):iI di sl ce c1 xs:=by obtain⟨s,h1,h2,h3⟩:=h;exact⟨s,h1,h2,h3 _⟩
theorem jQ(h:a sl ce=some (.ok (.lst xs) c1)):bx (dY a) sl ce c1 xs:=⟨.lst xs,n6 h rfl,rfl,fun _=>trivial⟩
theorem n5(h:a sl ce=some (.ok (.tup xs) c1)):bx (iq a) sl ce c1 xs:=⟨.tup xs,uK h rfl,rfl,fun _=>trivial⟩
theorem qE(h:a sl ce=some (.ok (wT l) c1)):bx (iq a) sl ce c1 (l.map nW):=n5 h
theorem gW(h:ra sl ce=some (.ok [nW n] c1))(hn:n<=1000):bx (e9 ra) sl ce c1 ((List.range n).map nW):=⟨.rng 0 n,qF h hn,sN n,fun _=>trivial⟩
theorem qy(h:a sl ce=some (.ok w c1))(hw:bT c1 w xs):iI (dY a) sl ce c1 xs:=by obtain⟨s,h1,h2,h3⟩:=hw.src;exact⟨s,n6 h h1,h2,h3⟩
variable {α:Type} {en:α->W} {zs:List α} {t:α->Bool} {g:α->W} {c:Sl->M Bool} {e:Sl->M W}
theorem tS(hi:iI di sl ce c1 (zs.map en))(hz:zs.length<=sizeLine)(hc:∀x∈zs,c (some (en x)::cY js sl) c1=some (.ok (t x) c1))(he:∀x∈zs,t x=true->e (some (en x)::cY js sl) c1=some (.ok (g x) c1)) :
  cL bc js di c e sl ce=some (.ok (.lst ((zs.filter t).map g)) c1):=by
 obtain⟨s,h1,h2,h3⟩:=hi;exact u3 h1 h2 h3 hc he hz (kS (by rw[length_map];exact le_trans (length_filter_le _ _) hz))
theorem pQ(hi:iI di sl ce c1 (zs.map en))(hz:zs.length<=sizeLine)(hc:∀x∈zs,c (some (en x)::cY js sl) c1=some (.ok (t x) c1))(he:∀x∈zs,t x=true->e (some (en x)::cY js sl) c1=some (.ok (g x) c1)) :
  cL eR js di c e sl ce=some (.ok (.cel c1.length) (c1++[.lst ((zs.filter t).map g)])):=by
 obtain⟨s,h1,h2,h3⟩:=hi;exact u3 h1 h2 h3 hc he hz (ma (by rw[length_map];exact le_trans (length_filter_le _ _) hz))
theorem xQ(zs:List α):zs.filter (fun _=>true)=zs:=filter_eq_self.mpr fun _ _=>rfl
theorem nS(hi:iI di sl ce c1 (zs.map en))(hz:zs.length<=sizeLine)(he:∀x∈zs,e (some (en x)::cY js sl) c1=some (.ok (g x) c1)) :
  cL bc js di de e sl ce=some (.ok (.lst (zs.map g)) c1):=by
 have h:=tS (t:=fun _=>true) (js:=js) hi hz (c:=de) (fun _ _=>rfl) (fun x hx _=>he x hx);rwa [xQ] at h
theorem qf(hi:iI di sl ce c1 (zs.map en))(hz:zs.length<=sizeLine)(he:∀x∈zs,e (some (en x)::cY js sl) c1=some (.ok (g x) c1)) :
  cL eR js di de e sl ce=some (.ok (.cel c1.length) (c1++[.lst (zs.map g)])):=by
 have h:=pQ (t:=fun _=>true) (js:=js) hi hz (c:=de) (fun _ _=>rfl) (fun x hx _=>he x hx);rwa [xQ] at h
theorem uZ{f:α->Int}(hi:iI di sl ce c1 (zs.map en))(hz:zs.length<=sizeLine)(he:∀x∈zs,e (some (en x)::cY js sl) c1=some (.ok (.int (f x)) c1)):cL bc js di de e sl ce=some (.ok (sW (zs.map f)) c1):=by rw[nS hi hz he,sW,map_map];rfl
theorem qe(hi:iI di sl ce c1 (zs.map en))(hz:zs.length<=sizeLine)(hc:∀x∈zs,c (some (en x)::cY js sl) c1=some (.ok (t x) c1)):cL bc js di c (ae 0) sl ce=some (.ok (.lst ((zs.filter t).map en)) c1) :=
 tS hi hz hc fun _ _ _=>rfl
theorem uh(hi:iI di sl ce c1 (zs.map en))(hz:zs.length<=sizeLine)(hc:∀x∈zs,c (some (en x)::cY js sl) c1=some (.ok (t x) c1)):cL eR js di c (ae 0) sl ce=some (.ok (.cel c1.length) (c1++[.lst ((zs.filter t).map en)])) :=
 pQ hi hz hc fun _ _ _=>rfl
theorem o9{i:Nat}(hi:bx di sl ce c1 (zs.map en))(R:List α->Sl->Ce->Prop)(h0:R [] sl c1)(step:∀d x r sl ce,d++x::r=zs->x∈zs->R d sl ce->Run body (sl.set i (some (en x))) ce (Nx (R (d++[x]))))(fin:∀sl ce,R zs sl ce->Q (.go .nx sl ce)):Run (dg di (gN i) body) sl ce Q:=by obtain⟨s,h1,h2,h3⟩:=hi;exact v8 h1 h2 R h0 (fun d x r sl ce e m h=>⟨h3 _,step d x r sl ce e m h⟩) (fun _ _ _=>h3 _) fin
theorem kX{b:DS}{i:Nat}(hi:bx di sl ce c1 (zs.map en))(R:List α->Sl->Ce->Prop)(h0:R [] sl c1)(step:∀d x r sl ce,d++x::r=zs->x∈zs->R d sl ce->Run body (sl.set i (some (en x))) ce (Nx (R (d++[x]))))(fin:∀sl ce,R zs sl ce->Run b sl ce Q):Run (aq (dg di (gN i) body) b) sl ce Q:=by obtain⟨s,h1,h2,h3⟩:=hi;exact rD h1 h2 R h0 (fun d x r sl ce e m h=>⟨h3 _,step d x r sl ce e m h⟩) (fun _ _ _=>h3 _) fin
end
theorem oQ(ce:Ce)(x y:Int)(ng:Bool):bD ng ce (.int x) (.int y)=some (.bl (if ng then !decide (x=y) else decide (x=y))):=by have d1:fh ce (.int x)=.int x:=rfl;have d2:fh ce (.int y)=.int y:=rfl;have c:∀i:Int,bM 8 (.int i)=true:=fun _=>rfl;simp only[bD,d1,d2,c,Bool.and_self,if_true,v9]
theorem dj{ce:Ce}{w:W}(sl:Sl)(e:ws.map some++List.replicate (n-ws.length) none=sl)(h:Run body sl ce (Rt fun v ce'=>fin ce ce' v=some (.ok w c'))):bE fin n body ws ce=some (.ok w c'):=by subst e;exact lU h
section
variable {ce:Ce} {i j:Int} {w:W}
theorem nM:bD false ce (.int i) (.int j)=some (.bl (decide (i=j))):=oQ _ _ _ _
theorem ug:bD true ce (.int i) (.int j)=some (.bl (!decide (i=j))):=oQ _ _ _ _
theorem Aq(g:ce[k]?=some (.dct (kvs l))):jP true ce (nW p) (.cel k)=some (.bl (!decide (p∈l))):=CC g
end
section
variable {x:W} {i j:Int} {ce:Ce}
theorem l_(hx:x=.int i)(hy:y=.int j):cK x y=some (.int (i+j)):=by subst hx;subst hy;rfl
theorem oP(hx:x=.int i)(hy:y=.int j):eD x y=some (.int (i-j)):=by subst hx;subst hy;rfl
theorem vj(hx:x=.int i)(hy:y=.int j):mz x y=some (.bl (decide (i<j))):=by subst hx;subst hy;rfl
theorem qD(hx:x=.int i)(hy:y=.int j):gq x y=some (.bl (decide (j<i))):=by subst hx;subst hy;rfl
theorem kR(hx:x=.int i)(hy:y=.int j):eQ x y=some (.bl (decide (i=j))):=by subst hx;subst hy;rfl
theorem nj(hx:x=.int i)(hy:y=.int j)(h:0<j):bG x y=some (.int (i % j)):=by subst hx;subst hy;exact hX h
theorem rq(hx:x=.int i)(hy:y=.int j)(h:0<j/\j<1073741824):ko x y=some (.int (i / j)):=by subst hx;subst hy;exact BC h
theorem rp(hx:x=.int i)(hy:y=.int j)(h:d_ i j):eL x y=some (.int (i*j)):=by subst hx;subst hy;exact mZ h
theorem BJ(hx:x=.int i):gR x=some (.inl i):=by subst hx;rfl
end
section
variable {ce:Ce} {w:W}
theorem jt{P:W->Ce->Prop}{sl:Sl}(h:P w ce):Rt P (.go (.rt w) sl ce):=h
end
section
variable {ce:Ce} {sl:Sl} {a:Sl->M W} {α:Type} {en:α->W} {zs:List α}
theorem o8(l:List Nat):(cD l).length=l.length:=by rw[cD,length_map,(iO _).length_eq,nG]
theorem Fy{σ:Type}{c:Sl->M Bool}{b:DS}(R:σ->Sl->Ce->Prop)(m:σ->Nat)(s0:σ)(h0:R s0 sl ce)(hm:m s0<fu)(step:∀s sl ce,R s sl ce->∃p,c sl ce=some (.ok p ce)/\(p=true->Run body sl ce (Nx fun sl2 ce2=>∃s2,m s2<m s/\R s2 sl2 ce2))/\(p=false->Run b sl ce Q)):Run (aq (h_ c body fu) b) sl ce Q :=
 CH (Fz R m s0 h0 hm fun s sl ce h=>by
  obtain⟨p,e,ht,hf⟩:=step s sl ce h;exact⟨p,e,ht,fun q=>⟨sl,ce,rfl,hf q⟩⟩)
end
theorem oO(n:Nat):∀cs:List (List Nat),cp n (cs.map wL)
 | []=>by simp only[map_nil,cp]
 | a::r=>by simp only[map_cons,cp,wL,aU];exact⟨aL n a,oO n r⟩
section
variable {ce:Ce} {b:List (List Nat)}
theorem uY(g:ce[k]?=some (.lst (m.map W.int)))(h:m.length<=sizeLine):fk [.cel k] ce=some (.ok (wS m) ce):=r9 (.cl g) (by rw[length_map];exact h)
theorem uX(h:b.length<=sizeLine):fk [.lst (b.map wT)] ce=some (.ok (wB b) ce):=r9 (.fr _) (by rw[length_map];exact h)
theorem uW(h:m.length<=sizeLine):fk [sW m] ce=some (.ok (wS m) ce):=r9 (.fr _) (by rw[length_map];exact h)
end
section
variable {ce:Ce} {l':List Nat}
end
section
variable {E:XK} {a b:Expr}
def Ip(ng:Bool):W->W->Option W
 | .bl c,.bl d=>some (.bl (if ng then c != d else c==d))
 | _,_=>none
end
end VS
variable {b:List (List Nat)} {sl:Sl} {ce:Ce} {i:Nat} {vl:Nat->Int}
namespace VS
section
variable {a b:Sl->M W} {w x:W} {i:Int} {p q:Bool}
theorem En(ha:a sl (ce++[.dct []])=some (.ok x (ce++[.dct []])))(hb:b sl (ce++[.dct []])=some (.ok y (ce++[.dct []])))(hk:gR x=some key):m3 a b sl ce=some (.ok (.cel ce.length) (ce++[.dct [(key,y)]])):=by
 have g:(ce++[C.dct []])[ce.length]?=some (.dct []):=j4 _ _;have s:(ce++[C.dct []]).set ce.length (.dct [(key,y)])=ce++[.dct [(key,y)]]:=by rw[uO];rfl
 simp only[m3,au,ha,hb,ret,hk,g,s]
theorem oB(g:ce[k]?=some (.lst xs))(e:xs=ys++[y]):jJ (.cel k) [] ce=some (.ok y (ce.set k (.lst ys))):=by subst e;simp[jJ,kJ g]
theorem v5(g:ce[k]?=some (.lst xs)):fG ce (.cel k)=some (!xs.isEmpty):=by simp only[fG,g]
theorem Dj(g:ce[k]?=some (.lst xs))(h:bV ce w=some ys)(hz:xs.length+ys.length<=sizeLine):mO (.cel k) [w] ce=some (.ok .non (ce.set k (.lst (xs++ys)))):=by simp only[mO,kJ g,h,if_pos hz]
theorem jr(ha:a sl ce=some (.ok (.int i) c1)):dm a sl ce=some (.ok (some i) c1):=by simp only[dm,au,ha];rfl
theorem qB{bs:List Bool}:lr [.lst (bs.map W.bl)] ce=some (.ok (.bl (bs.all id)) ce):=by simp only[lr,bV,yI]
variable {α:Type} {en:α->W} {zs:List α} {e:Sl->M W}
theorem uV{f:α->Bool}(hi:iI di sl ce c1 (zs.map en))(hz:zs.length<=sizeLine)(he:∀x∈zs,e (some (en x)::cY js sl) c1=some (.ok (.bl (f x)) c1)):cL bc js di de e sl ce=some (.ok (.lst ((zs.map f).map W.bl)) c1):=by rw[nS hi hz he,map_map];rfl
theorem Fx{i:Nat}(hi:bx di sl ce c1 (zs.map en))(R:List α->Sl->Ce->Prop)(T:W->Ce->Prop)(h0:R [] sl c1)(step:∀d x r sl ce,d++x::r=zs->x∈zs->R d sl ce->Run body (sl.set i (some (en x))) ce (NR (R (d++[x])) T))(tell:∀w sl ce,T w ce->Q (.go (.rt w) sl ce))(fin:∀sl ce,R zs sl ce->Q (.go .nx sl ce)):Run (dg di (gN i) body) sl ce Q:=by
 obtain⟨s,h1,h2,h3⟩:=hi;obtain⟨o,e,q⟩:=o_ (g:=gN i) (body:=body) (en:=en) (src:=s) zs R T (fun d x r sl ce e h=>⟨h3 _,_,rfl,step d x r sl ce e (by rw[<- e];simp) h⟩) (fun _ _ _=>h3 _) zs [] sl c1 rfl h0;rcases q with ⟨sl',ce',rfl,h⟩|⟨w,sl',ce',rfl,h⟩
 ·exact⟨_,by rw[oR h1,h2];exact e,fin _ _ h⟩
 ·exact⟨_,by rw[oR h1,h2];exact e,tell _ _ _ h⟩
theorem Em{a b:DS}(h:Run a sl ce fun o=>(∃sl' ce',o=.go .nx sl' ce'/\Run b sl' ce' Q)\/∃w sl' ce',o=.go (.rt w) sl' ce'/\Q o):Run (aq a b) sl ce Q:=by
 obtain⟨o,e,⟨sl',ce',rfl,q⟩|⟨w,sl',ce',rfl,q⟩⟩:=h
 ·exact hV e q
 ·exact⟨_,CK e,q⟩
theorem pC{b:DS}{i:Nat}(hi:bx di sl ce c1 (zs.map en))(R:List α->Sl->Ce->Prop)(T:W->Ce->Prop)(h0:R [] sl c1)(step:∀d x r sl ce,d++x::r=zs->x∈zs->R d sl ce->Run body (sl.set i (some (en x))) ce (NR (R (d++[x])) T))(tell:∀w sl ce,T w ce->Q (.go (.rt w) sl ce))(fin:∀sl ce,R zs sl ce->Run b sl ce Q):Run (aq (dg di (gN i) body) b) sl ce Q :=
 Em (Fx hi R T h0 step (fun w sl ce h=>.inr ⟨w,sl,ce,rfl,tell w sl ce h⟩) fun sl ce h=>.inl ⟨sl,ce,rfl,fin sl ce h⟩)
end
inductive cx:Sl->Nat->Option W->Sl->Prop where
 | zero {x w:Option W} {r:Sl}:cx (x::r) 0 w (w::r)
 | succ {x w:Option W} {r r':Sl} {i:Nat} (h:cx r i w r'):cx (x::r) (i+1) w (x::r')
theorem cx.eq{w:Option W}(h:cx sl i w sl'):sl.set i w=sl':=by
 induction h with
 | zero=>rfl
 | succ _ ih=>rw[set_cons_succ,ih]
theorem zk{b:DS}{w:Option W}(hs:cx sl i w sl')(h:Run b sl' ce Q):Run b (sl.set i w) ce Q:=by rw[hs.eq];exact h
section
variable {s x y:Nat}
abbrev dQ(vl:Nat->Int)(s y:Nat):Prop:=vl y=vl s
abbrev Sym(b:List (List Nat)):Prop:=∀i j,j∈b.getD i []->i∈b.getD j []
open Classical in
def aR(b:List (List Nat))(vl:Nat->Int)(s:Nat):List Nat:=(List.range b.length).filter fun y=>decide (Reach b (dQ vl s) s y)
def dN(b:List (List Nat))(vl:Nat->Int)(s:Nat):Bool:=(aR b vl s).all fun y=>decide (s<=y)
def g6(b:List (List Nat))(vl:Nat->Int):List (List Nat):=((List.range b.length).filter (dN b vl)).map (aR b vl)
theorem Reach.lt(hb:Bd b)(hs:s<b.length){ok:Nat->Prop}(h:Reach b ok s x):x<b.length:=by
 cases h with
 | refl=>exact hs
 | step _ hy _=>exact hb.get hy
open Classical in
theorem kQ(hb:Bd b)(hs:s<b.length):x∈aR b vl s↔Reach b (dQ vl s) s x:=by unfold aR;rw[mem_filter,mem_range,decide_eq_true_eq];exact⟨fun h=>h.2,fun h=>⟨h.lt hb hs,h⟩⟩
theorem cu(h:x∈aR b vl s):x<b.length:=mem_range.mp (mem_filter.mp h).1
theorem BI:(aR b vl s).Nodup:=List.Pairwise.filter _ nodup_range
theorem Di:(aR b vl s).length<=b.length:=by have:=length_filter_le (fun y=>@decide (Reach b (dQ vl s) s y) (Classical.propDecidable _)) (List.range b.length);rw[length_range] at this;exact this
theorem mq(hb:Bd b)(hs:s<b.length):s∈aR b vl s:=(kQ hb hs).mpr .refl
theorem cB(hb:Bd b)(hs:s<b.length)(h:x∈aR b vl s):vl x=vl s:=Reach.okOf (ok:=dQ vl s) rfl ((kQ hb hs).mp h)
open Classical in
theorem Dh{F:List Nat}(c:Comp b (dQ vl s) s F):cD F=aR b vl s:=by rw[r_ c.nd c.lt];unfold aR;apply filter_congr;intro x _;rw[Bool.eq_iff_iff,decide_eq_true_eq,decide_eq_true_eq];exact c.mem x
theorem vi(h:vl x=vl s):dQ vl x=dQ vl s:=by funext y;unfold dQ;rw[h]
open Classical in
theorem kG(hb:Bd b)(sym:Sym b)(hs:s<b.length)(h:x∈aR b vl s):aR b vl x=aR b vl s:=by have v:=cB hb hs h;have r:=(kQ hb hs).mp h;unfold aR;apply filter_congr;intro y _;rw[Bool.eq_iff_iff,decide_eq_true_eq,decide_eq_true_eq,vi v];exact⟨fun q=>r.trans q,fun q=>(Reach.symm (ok:=dQ vl s) sym rfl r).trans q⟩
theorem xC(hb:Bd b)(sym:Sym b)(hs:s<b.length)(h:x∈aR b vl s):s∈aR b vl x:=by rw[kG hb sym hs h];exact mq hb hs
theorem sD(hb:Bd b)(sym:Sym b)(hs:s<b.length):∃m,m∈aR b vl s/\dN b vl m=true/\aR b vl m=aR b vl s:=by
 have key:∀(k:Nat) (s:Nat),s<=k->s<b.length->∃m,m∈aR b vl s/\dN b vl m=true/\aR b vl m=aR b vl s:=by
  intro k
  induction k with
  | zero =>
   intro s hk hs;refine⟨s,mq hb hs,?_,rfl⟩;unfold dN;rw[all_eq_true];intro y _;exact decide_eq_true (by omega)
  | succ k ih =>
   intro s hk hs
   by_cases h:dN b vl s=true
   ·exact⟨s,mq hb hs,h,rfl⟩
   ·unfold dN at h;rw[all_eq_true] at h;obtain⟨y,hy⟩:=Classical.not_forall.mp h;obtain⟨hy,hn⟩:=Classical.not_imp.mp hy;have hn':¬s<=y:=fun q=>hn (decide_eq_true q);obtain⟨m,h1,h2,h3⟩:=ih y (by omega) (cu hy);have e:=kG hb sym hs hy;exact⟨m,by rw[<- e];exact h1,h2,by rw[h3,e]⟩
 exact key s s (le_refl _) hs
theorem kP(hb:Bd b){c:List Nat}:c∈g6 b vl↔∃s,s<b.length/\dN b vl s=true/\c=aR b vl s:=by
 unfold g6;rw[mem_map];constructor
 ·rintro⟨s,hs,rfl⟩;obtain⟨h1,h2⟩:=mem_filter.mp hs;exact⟨s,mem_range.mp h1,h2,rfl⟩
 ·rintro⟨s,h1,h2,rfl⟩;exact⟨s,mem_filter.mpr ⟨mem_range.mpr h1,h2⟩,rfl⟩
theorem vZ:(g6 b vl).length<=b.length:=by unfold g6;rw[length_map];have:=length_filter_le (dN b vl) (List.range b.length);rw[length_range] at this;exact this
theorem mn(hb:Bd b)(hs:s<b.length)(h:dN b vl s=true):(aR b vl s).getD 0 0=s:=by
 have hmem:=mq (vl:=vl) hb hs;unfold dN at h;rw[all_eq_true] at h;have fo:(aR b vl s).Pairwise (·<·):=List.Pairwise.filter _ pairwise_lt_range;cases e:aR b vl s with
 | nil=>rw[e] at hmem;simp at hmem
 | cons a r =>
  rw[e] at hmem h fo;have h1:s<=a:=of_decide_eq_true (h a (by simp));rcases mem_cons.mp hmem with h2|h2
  ·simp[h2]
  ·have:=(pairwise_cons.mp fo).1 s h2;omega
end
end VS
variable {F H:Hp} {f:Addr} {P:Program} {w:World} {as:List Addr} {K:Frag} {mg:Str->Option Value} {base:Heap} {CX:iA} {fd:FuncData} {ps:List Str} {fe:XK->XK}
namespace VS
mutual
def fD(n:Nat)(ce:Ce):Nat->W->Option W
 | 0,.cel k=>if k<n then some (.cel k) else none
 | 0,.lst _=>none
 | 0,.tup _=>none
 | d+1,.cel k=>if k<n then some (.cel k) else match ce[k]? with
  | some (.lst xs)=>(gA n ce d xs).map .lst
  | _=>none
 | d+1,.lst xs=>(gA n ce d xs).map .lst
 | d+1,.tup xs=>(gA n ce d xs).map .tup
 | _,w=>some w
def gA(n:Nat)(ce:Ce):Nat->List W->Option (List W)
 | _,[]=>some []
 | d,x::xs=>match fD n ce d x,gA n ce d xs with
  | some y,some ys=>some (y::ys)
  | _,_=>none
end
section
variable {F2:Hp} {as2:List Addr}
theorem xB{d}(h:∀{w w2:W} {v:V},fD n ce d w=some w2->Rep F as w v->Rep F2 as2 w2 v):∀{ws ws2:List W} {vs:List V},gA n ce d ws=some ws2->ag F as ws vs->ag F2 as2 ws2 vs
 | [],ws2,vs,e,r=>by
  simp only[gA,Option.some.injEq] at e;subst e;simp only[ag] at r;subst r;exact .nil
 | x::xs,ws2,vs,e,r=>by
  simp only[gA] at e;simp only[ag] at r;obtain⟨v,r',rfl,q,s⟩:=r;split at e
  ·rename_i y ys e1 e2;cases e;exact .cons (h e1 q) (xB h e2 s)
  ·cases e
theorem El(S:av G F as H ce)(hF:∀a o,F a=some o->F2 a=some o)(hc:∀(k:Nat) (a:Addr) (xs:List W) (vs:List V),n<=k->as[k]?=some a->ce[k]?=some (.lst xs)->H a=some (.lst vs)->F2 a=some (.lst vs))(ha:∀(k:Nat) (a:Addr),k<n->as[k]?=some a->as2[k]?=some a):∀(d:Nat) {w w2:W} {v:V},fD n ce d w=some w2->Rep F as w v->Rep F2 as2 w2 v:=by
 have rd:∀{a:Addr} {o:HO},Rd F a o->Rd F2 a o:=fun r=>by
  rcases r with r|⟨u,r⟩
  ·exact .inl (hF _ _ r)
  ·exact .inr ⟨u,hF _ _ r⟩
 have low:∀{k:Nat} {v:V},k<n->Rep F as (.cel k) v->Rep F2 as2 (.cel k) v:=fun hk r=>by
  simp only[Rep] at r ⊢;obtain⟨a,rfl,q⟩:=r;exact⟨a,rfl,ha _ _ hk q⟩
 intro d
 induction d with
 | zero =>
  intro w w2 v e r;cases w<;>simp only[fD,Option.some.injEq,reduceCtorEq] at e
  case cel k =>
   split at e
   ·rename_i hk;cases e;exact low hk r
   ·cases e
  all_goals (subst e;simp only[Rep] at r ⊢;exact r)
 | succ d ih =>
  have ihs:∀{ws ws2:List W} {vs:List V},gA n ce d ws=some ws2->ag F as ws vs->ag F2 as2 ws2 vs:=fun e r=>xB ih e r;intro w w2 v e r;cases w<;>simp only[fD,Option.some.injEq] at e
  case cel k =>
   split at e
   ·rename_i hk;cases e;exact low hk r
   ·rename_i hk;split at e
    ·rename_i xs hx;obtain⟨ys,e1,rfl⟩:=map_eq_some_iff.mp e;simp only[Rep] at r;obtain⟨a,rfl,q⟩:=r;obtain⟨_,vs,h2,rs⟩:=S.cell _ _ _ q hx;simp only[Rep];exact⟨a,vs,rfl,.inl (hc k a xs vs (by omega) q hx h2),ihs e1 rs⟩
    ·cases e
  case lst xs =>
   obtain⟨ys,e1,rfl⟩:=map_eq_some_iff.mp e;simp only[Rep] at r ⊢;obtain⟨a,vs,rfl,h2,rs⟩:=r;exact⟨a,vs,rfl,rd h2,ihs e1 rs⟩
  case tup xs =>
   obtain⟨ys,e1,rfl⟩:=map_eq_some_iff.mp e;simp only[Rep] at r ⊢;obtain⟨a,vs,rfl,h2,rs⟩:=r;exact⟨a,vs,rfl,hF _ _ h2,ihs e1 rs⟩
  all_goals (subst e;simp only[Rep] at r ⊢;exact r)
end
open Classical in
def ku(d:List W->M W):List W->M W:=fun ws ce=>match d ws ce with
 | some (.ok w ce')=>if fB ce ce' then match fD ce.length ce' 6 w with
  | some w2=>some (.ok w2 (ce'.take ce.length))
  | none=>none
  else none
 | r=>r
open Classical in
theorem vY{d:List W->M W}(h:ax P w K mg base CX k f fd ps (fq G fe n d)):ax P w K mg base CX k f fd ps (fq G fe n (ku d)):=by
 refine h.imp fun vs H Q E ⟨hl,F,as,ws,ce,S,rs,Pf⟩=>⟨hl,F,as,ws,ce,S,rs,?_⟩
 revert Pf;unfold ku;cases d ws ce with
 | none=>exact fun P=>P
 | some r=>cases r with
  | ex x ce'=>exact fun P=>P
  | ok w ce' =>
   dsimp only;intro Pf v H' F' as' l S' rv;split at Pf
   ·rename_i h1;split at Pf
    ·rename_i w2 e2;obtain⟨S2,l2⟩:=S.cut S' l h1
     let isC:Addr->Prop:=fun a=>∃(k:Nat) (xs:List W),ce.length<=k/\as'[k]?=some a/\ce'[k]?=some (.lst xs)
     let F2:Hp:=fun a=>if isC a then H' a else F' a
     have sub:∀a o,F' a=some o->F2 a=some o:=fun a o e=>by
      have:¬isC a:=by rintro⟨k,xs,_,e1,e3⟩;have:=(S'.cell k a _ e1 e3).1 rfl;rw[this] at e;cases e
      show(if isC a then H' a else F' a)=_;rw[if_neg this];exact e
     have l3:Le F' (as'.take ce.length) F2 (as'.take ce.length):=⟨sub,fun _ _ h=>h⟩
     refine Pf v H' F2 (as'.take ce.length) (l2.trans l3) ⟨fun b o e=>?_,S2.nd,S2.len,fun i b c e1 e3=>?_⟩ ?_
     ·have e:(if isC b then H' b else F' b)=some o:=e;split at e
      ·exact e
      ·exact S'.sub _ _ e
     ·obtain⟨p1,p2⟩:=S2.cell i b c e1 e3;refine⟨fun hn=>?_,p2.le l3 rfl⟩;show(if isC b then H' b else F' b)=none;rw[if_neg]
      ·exact p1 hn
      ·rintro⟨k,xs,hk,e4,_⟩;have hi:i<ce.length:=by have:=eF e3;rw[length_take] at this;omega
       rw[iP hi] at e1;have a1:=eF e4;have a2:=eF e1;rw[getElem?_eq_getElem a1] at e4;rw[getElem?_eq_getElem a2] at e1;have:=oG S'.nd a1 a2 ((Option.some.inj e4).trans (Option.some.inj e1).symm);omega
     ·refine El S' sub (fun k a xs vs hk e1 e3 e4=>?_) (fun k a hk e1=>by rw[iP hk];exact e1) 6 e2 rv;show(if isC a then H' a else F' a)=_;rw[if_pos ⟨k,xs,hk,e1,e3⟩];exact e4
    ·exact Pf.elim
   ·exact Pf.elim
section
variable {E:XK} {a b:Expr}
end
end VS
variable {q:Nat} {c:Ce}
namespace VS
section
variable {e o i:Sl->M W} {w x:W} {b:DS} {ij:Int}
theorem Dg(h:j<n):gn n (j:Int)=some j:=by unfold gn;rw[if_pos (by omega),if_pos (by omega)];simp
theorem zx(he:e sl ce=some (.ok w c1))(ho:o sl c1=some (.ok (.cel k) c2))(hi:i sl c2=some (.ok (.int ij) c3))(g:c3[k]?=some (.lst xs))(hj:gn xs.length ij=some j) :
  jd e (lH o i) sl ce=some (.go .nx sl (c3.set k (.lst (xs.set j w)))):=by
 simp only[jd,bY,he,lH,ho,hi,kJ g,hj]
theorem Ek(he:e sl ce=some (.ok w c1))(ho:o sl c1=some (.ok (.cel k) c2))(hi:i sl c2=some (.ok (.int ij) c3))(g:c3[k]?=some (.lst xs))(hj:gn xs.length ij=some j)(q:Q (.go .nx sl (c3.set k (.lst (xs.set j w))))) :
  Run (jd e (lH o i)) sl ce Q:=⟨_,zx he ho hi g hj,q⟩
abbrev g2(p q:Nat):DG:=gT 2 (iK (gN p) (iK (gN q) mX))
theorem uw:g2 p q (.tup [x,y]) sl ce=some ((sl.set p (some x)).set q (some y),ce):=rfl
theorem xA(he:e sl ce=some (.ok (.tup [x,y]) c1))(q':Run b ((sl.set p (some x)).set q (some y)) c1 Q):Run (aq (jd e (g2 p q)) b) sl ce Q :=
 hV (sl':=(sl.set p (some x)).set q (some y)) (ce':=c1) (by simp only[jd,bY,he,uw]) q'
variable {α:Type} {fa fb:α->W} {zs:List α}
theorem Ej(hi:bx di sl ce c1 (zs.map fun z=>.tup [fa z,fb z]))(R:List α->Sl->Ce->Prop)(h0:R [] sl c1)(step:∀d x r sl ce,d++x::r=zs->x∈zs->R d sl ce->Run body ((sl.set p (some (fa x))).set q (some (fb x))) ce (Nx (R (d++[x]))))(fin:∀sl ce,R zs sl ce->Run b sl ce Q):Run (aq (dg di (g2 p q) body) b) sl ce Q:=by
 obtain⟨s,h1,h2,h3⟩:=hi;obtain⟨o,e,q'⟩:=o_ (g:=g2 p q) (body:=body) (en:=fun z=>W.tup [fa z,fb z]) (src:=s) zs R (fun _ _=>False) (fun d x r sl ce e h=>⟨h3 _,_,uw,(step d x r sl ce e (by rw[<- e];simp) h).mono fun o q=>by
   cases o with
   | ex x c=>exact q.elim
   | go f sl2 ce2=>cases f<;>first|exact q|exact q.elim⟩) (fun _ _ _=>h3 _) zs [] sl c1 rfl h0
 rcases q' with ⟨sl',ce',rfl,h⟩|⟨w,sl',ce',rfl,h⟩
 ·exact hV (by rw[oR h1,h2];exact e) (fin _ _ h)
 ·exact h.elim
end
structure ki (ce b:Ce):Prop where
 len:b.length=ce.length
 cell:∀(k:Nat) (c:C),b[k]?=some c->ce[k]?=some c\/eB ce.length c
theorem ki.refl(ce:Ce):ki ce ce:=⟨rfl,fun _ _ h=>.inl h⟩
theorem ki.cut{b t:Ce}(h:ki ce b):fB ce (b++t):=⟨by rw[length_append,h.len];omega,fun k c hk e=>h.cell k c (by rwa [getElem?_append_left (by rw[h.len];exact hk)] at e)⟩
theorem ki.take{b t:Ce}(h:ki ce b):(b++t).take ce.length=b:=by rw[<- h.len];exact take_left
namespace Own
variable {b:Ce} {l:List (Nat×C)} {x:C} {w:W}
theorem frzD'{d:List W->M W}{w2:W}(e:d ws ce=some (.ok w c))(h:Own b c l)(g:ki ce b)(ht:fD ce.length c 6 w=some w2):ku d ws ce=some (.ok w2 b):=by obtain⟨⟨t,rfl⟩,_⟩:=h;simp only[ku,e,ht,g.take];exact if_pos g.cut
end Own
def pW(p:Nat×Nat):W:=.tup [nW p.1,nW p.2]
theorem rn(d:Nat)(k:Nat):fD n ce d (nW k)=some (nW k):=by cases d<;>simp only[nW,fD]
theorem r6(d:Nat):∀l:List (Nat×Nat),gA n ce (d+1) (l.map pW)=some (l.map pW)
 | []=>by simp only[map_nil,gA]
 | a::r=>by simp only[map_cons,gA,pW,fD,rn,r6 d r,map_some]
def Cls(ce:Ce)(ks:List Nat)(cs:List (List Nat)):Prop:=PySem.Paired (fun k c=>ce[k]?=some (.lst (c.map nW))) ks cs
end VS
variable {e:Expr} {es:List Expr} {name:Str} {apos cpos:Pos} {dr:Sl->M (List W)}
namespace VS
open MeetsSeq (EqGives)
section
variable {E:XK} {o:Expr} {do':Sl->M W} {id:String} {rm:V->List V->Hp->VK->Prop} {fm:W->List W->M W}
end
section
variable {E:XK} {tg a:Expr}
end
end VS
namespace VS
section
variable {a b:Sl->M W} {w x:W}
theorem oA(ha:a sl ce=some (.ok (.bl true) c1))(hb:b sl c1=some (.ok w c2)):iG a b sl ce=some (.ok w c2):=by simp only[iG,au,ha,hb]
end
theorem zw(ng:Bool)(l m:List Int):bD ng ce (wS l) (wS m)=some (.bl (if ng then !decide (l=m) else decide (l=m))):=by have d:∀l:List Int,fh ce (wS l)=wS l:=fun _=>rfl;have c:∀l:List Int,bM 8 (wS l)=true:=fun l=>sd l 7;simp only[bD,d,c,Bool.and_self,if_true];simp only[aP,xY]
end VS
namespace VS
section
variable {E:XK} {a b:Expr}
end
end VS
variable {E:Value->Shared->Prop} {s:Shared} {prog:Program} {A:Around}
namespace VS
open HT
section
variable {E:XK} {a:Expr}
end
end VS
namespace VS
def nR:List W->M W:=fun ws ce=>match ws with
 | [.int i]=>some (.ok (.int i) ce)
 | [.bl k]=>some (.ok (.int (if k then 1 else 0)) ce)
 | _=>none
theorem Ap{E:XK}:Bi G E (fun xs H Q=>(∃i,xs=[.int i]/\Q (.int i) H)\/∃k,xs=[.bl k]/\Q (.int (if k then 1 else 0)) H) nR:=by
 intro F as H σ sl ce ws vs Q S rs P;revert P;unfold nR;split
 ·intro P;obtain⟨v,rfl,r⟩:=gZ rs;simp only[Rep] at r;subst r;exact .inl ⟨_,rfl,P.done S (by simp only[Rep])⟩
 ·intro P;obtain⟨v,rfl,r⟩:=gZ rs;simp only[Rep] at r;subst r;exact .inr ⟨_,rfl,P.done S (by simp only[Rep])⟩
 ·exact fun P=>P.elim
end VS
variable {a S:Addr} {h h':Heap} {N:Addr->Prop} {env:Env} {outer:List Env} {oe:Obj} {vs:Array Value} {a0:Value} {pins:List (Addr×Obj)} {qual cn:Str} {st b0:Stmt} {sp:Sp} {e1 e2:Expr} {np hpos pos':Pos} {suite:List Stmt} {th:Value->TS}
namespace L2
def DQ{α:Type}:Sem α->Prop
 | .pure _=>True
 | .raise _=>True
 | .unsupported _=>True
 | .finish _=>True
 | .rule _ k=>DQ (k ())
 | .at _ k=>DQ (k ())
 | .load _ _ k=>∀o,DQ (k o)
 | .update _ _ f k=>(∀o:Obj,(f o).dict=o.dict/\((f o).isFreed=true->o.isFreed=true))/\DQ (k ())
 | .alloc _ k=>∀a,DQ (k a)
 | .loadIfAlive _ k=>∀o,DQ (k o)
 | .point _ k=>DQ (k ())
 | .fresh k=>∀t,DQ (k t)
 | .ask k=>∀t,DQ (k t)
 | .handled _ k=>∀t,DQ (k t)
 | .stack k=>∀t,DQ (k t)
 | _=>False
theorem DQ.bind{α β:Type}:∀{t:Sem α} {f:α->Sem β},DQ t->(∀a,DQ (f a))->DQ (t >>= f):=by
 intro t f;show DQ t->(∀a,DQ (f a))->DQ (Sem.bind t f);intro ht hf
 induction t with
 | pure a=>exact hf a
 | raise v=>trivial
 | unsupported x=>trivial
 | finish x=>trivial
 | rule s k ih=>exact ih () ht
 | «at» s k ih=>exact ih () ht
 | load a p k ih=>exact fun o=>ih o (ht o)
 | update a p g k ih=>exact⟨ht.1,ih () ht.2⟩
 | alloc o k ih=>exact fun a=>ih a (ht a)
 | loadIfAlive a k ih=>exact fun o=>ih o (ht o)
 | point l k ih=>exact ih () ht
 | fresh k ih=>exact fun o=>ih o (ht o)
 | ask k ih=>exact fun o=>ih o (ht o)
 | handled b k ih=>exact fun o=>ih o (ht o)
 | stack k ih=>exact fun o=>ih o (ht o)
 | _=>exact ht.elim
def i8(e:Addr)(d:Option Addr)(h:Heap):Prop:=∃o,h.get? e=some o/\o.dict=d
theorem Ao{e:Addr}{u:Obj}(x:h.get? e=some u):u.isFreed=false:=by
 unfold Heap.get? at x;split at x
 ·cases x
 ·rename_i y z;cases q:u.isFreed with
  | false=>rfl
  | true =>
   exfalso;obtain⟨c,d,dt,sl⟩:=u;unfold Obj.isFreed at q;cases dt<;>simp at q;exact z c d sl x
theorem i8.push{e:Addr}{d:Option Addr}(x:i8 e d h)(o:Obj):i8 e d (h.push o):=by obtain⟨u,e1,e2⟩:=x;exact⟨u,Heap.get?_push_of_some _ e1,e2⟩
theorem i8.update{e:Addr}{d:Option Addr}(x:i8 e d h)(a:Addr)(f:Obj->Obj)(hf:∀o:Obj,(f o).dict=o.dict/\((f o).isFreed=true->o.isFreed=true)):i8 e d (h.update a f):=by
 obtain⟨u,e1,e2⟩:=x
 by_cases q:e=a
 ·subst q;refine⟨f u,Heap.get?_update_self f e1 ?_,(hf u).1.trans e2⟩;cases q:(f u).isFreed with
  | false=>rfl
  | true =>
   have:=(hf u).2 q;rw[Ao e1] at this;cases this
 ·exact⟨u,(Heap.get?_update_ne _ _ _ _ q).trans e1,e2⟩
theorem An{α:Type}{M:Model}{Γ:PySem.Ctx}{e:Addr}{d:Option Addr}(t:Sem α):DQ t->∀(Q:α->Pos->Shared->Prop) (E:Value->Pos->Shared->Prop) (p:Pos) (s:Shared),Sem.wp M Γ t Q E p s->i8 e d s.heap->Sem.wp M Γ t (fun a x s'=>Q a x s'/\i8 e d s'.heap) E p s:=by
 induction t with
 | pure a=>intro _ Q E p s h x;simp only[Sem.wp] at h ⊢;exact⟨h,x⟩
 | raise v=>intro _ Q E p s h x;simp only[Sem.wp] at h ⊢;exact h
 | unsupported v=>intro _ Q E p s h x;simp only[Sem.wp] at h ⊢
 | finish v=>intro _ Q E p s h x;simp only[Sem.wp] at h ⊢
 | rule tag k ih=>intro dq Q E p s h x;simp only[Sem.wp] at h ⊢;exact ih () dq Q E p s h x
 | «at» p' k ih=>intro dq Q E p s h x;simp only[Sem.wp] at h ⊢;exact ih () dq Q E _ s h x
 | load a pt k ih =>
  intro dq Q E p s h x;simp only[Sem.wp] at h ⊢;obtain⟨o,e1,h⟩:=h;exact⟨o,e1,ih o (dq o) Q E p s h x⟩
 | update a pt f k ih =>
  intro dq Q E p s h x;simp only[Sem.wp] at h ⊢;exact⟨h.1,ih () dq.2 Q E p _ h.2 (x.update a f dq.1)⟩
 | alloc o k ih=>intro dq Q E p s h x;simp only[Sem.wp] at h ⊢;exact ih _ (dq _) Q E p _ h (x.push o)
 | loadIfAlive a k ih=>intro dq Q E p s h x;simp only[Sem.wp] at h ⊢;exact ih _ (dq _) Q E p _ h x
 | point l k ih=>intro dq Q E p s h x;simp only[Sem.wp] at h ⊢;exact ih () dq Q E p _ h x
 | fresh k ih=>intro dq Q E p s h x;simp only[Sem.wp] at h ⊢;exact ih _ (dq _) Q E p _ h x
 | ask k ih=>intro dq Q E p s h x;simp only[Sem.wp] at h ⊢;exact ih _ (dq _) Q E p _ h x
 | handled b k ih=>intro dq Q E p s h x;simp only[Sem.wp] at h ⊢;exact ih _ (dq _) Q E p _ h x
 | stack k ih=>intro dq Q E p s h x;simp only[Sem.wp] at h ⊢;exact ih _ (dq _) Q E p _ h x
 | _=>intro dq;exact dq.elim
theorem vh{α:Type}{M:Model}{t:Sem α}{Q:α->Shared->Prop}{e:Addr}{d:Option Addr}(dq:DQ t)(h:wpAny M A t Q E s)(x:i8 e d s.heap):wpAny M A t (fun a s'=>Q a s'/\i8 e d s'.heap) E s :=
 fun Γ p hin=>An t dq _ _ p s (h Γ p hin) x
theorem Ha(v:Value):DQ (fieldsOf v):=by
 unfold fieldsOf;split
 ·exact DQ.bind (fun _=>trivial) fun o=>by
   split
   ·exact trivial
   ·exact trivial
 ·exact trivial
theorem o7(v:Value)(i:Nat):DQ (field v i):=by
 unfold field;exact DQ.bind (Ha v) fun o=>by
  split
  ·exact trivial
  ·exact trivial
theorem lb(g:Array Value->Array Value)(o:Obj):(Obj.mapFields g o).dict=o.dict/\((Obj.mapFields g o).isFreed=true->o.isFreed=true):=by obtain⟨c,d,dt,sl⟩:=o;cases dt<;>exact⟨rfl,fun h=>h⟩
theorem HI(a:Addr)(i:Nat)(v:Value):DQ (updateField a i v):=by
 unfold updateField;exact DQ.bind (fun _=>trivial) fun o=>by
  split
  ·split
   ·exact⟨lb _,trivial⟩
   ·exact trivial
  ·exact trivial
theorem sP(v:Value)(i:Nat)(x:Value):DQ (setField v i x):=by
 unfold setField;split
 ·exact HI _ _ _
 ·exact trivial
theorem Hd(e:Value)(f:Option Addr):DQ (setFlight e f):=by
 unfold setFlight;exact DQ.bind (o7 _ _) fun tb=>by
  split
  ·exact sP _ _ _
  ·exact trivial
theorem Fw(env:Env)(outer:List Env):DQ (behindIsImport env outer):=by
 unfold behindIsImport;split
 ·exact trivial
 ·split
  ·exact trivial
  ·exact DQ.bind (o7 _ _) fun _=>trivial
theorem Ei:DQ underTheClaimsCaller:=by unfold underTheClaimsCaller;exact DQ.bind (fun _=>trivial) fun _=>trivial
theorem Df(env:Env)(b:Bool)(l:List Env):DQ (keptBack env b l):=by
 unfold keptBack;split
 ·split
  ·exact trivial
  ·exact DQ.bind Ei fun _=>trivial
 ·exact trivial
theorem xy:∀l:List Env,DQ (readyFrames l)
 | []=>trivial
 | env::outer=>by
  rw[readyFrames.eq_2];split
  ·exact DQ.bind (fun _=>trivial) fun o=>by
    split
    ·exact trivial
    ·exact DQ.bind (Fw _ _) fun b=>DQ.bind (Df _ _ _) fun v=>DQ.bind ⟨fun o=>⟨rfl,fun h=>by obtain⟨c,d,dt,sl⟩:=o;cases dt<;>exact h⟩,trivial⟩ fun _=>xy outer
  ·exact trivial
theorem G4(env:Env):DQ (PySem.frameOf env):=by
 unfold PySem.frameOf;refine DQ.bind ?_ fun l=>DQ.bind ?_ fun o=>?_
 ·unfold frameEnvs;exact DQ.bind (fun _=>trivial) fun _=>trivial
 ·unfold frameObject;split
  ·exact trivial
  ·exact DQ.bind (xy _) fun _=>trivial
 ·split
  ·exact trivial
  ·exact trivial
theorem Eh(f:Addr)(b:Bool):DQ (entryPlaceOf f b):=by
 unfold entryPlaceOf;exact DQ.bind (fun _=>trivial) fun l=>by
  split
  ·exact trivial
  ·exact trivial
theorem De(t:String)(vs:List Value):DQ (newFields t vs):=by
 have a:DQ (newObjAsIs (.type t) (.fields vs.toArray)):=by unfold newObjAsIs;exact DQ.bind (fun _=>trivial) fun _=>trivial
 unfold newFields newObj;dsimp only;split
 ·exact DQ.bind trivial fun _=>a
 ·exact a
theorem Dd(e:Value)(env:Env):DQ (noteFrame e env):=by
 unfold noteFrame;split
 ·refine DQ.bind (o7 _ _) fun hd=>?_;rename_i f _;have jp:∀x:Unit,DQ (do
   let a <- PySem.frameOf env
   let pl <- entryPlaceOf f (hd != Value.none)
   let b <- EntryCells.newEntry hd a Value.none (rawInt ↑f) Value.none pl
   setField e 1 b):=fun _=>DQ.bind (G4 _) fun a=>DQ.bind (Eh _ _) fun pl=>DQ.bind (De _ _) fun b=>sP _ _ _
  dsimp only;split
  ·refine DQ.bind (o7 _ _) fun x=>?_;split
   ·exact trivial
   ·exact DQ.bind (sP _ _ _) fun x=>jp x
  ·exact jp ()
 ·exact trivial
theorem aC.there{o:HO}(x:aC P w H h a o):∃u,h.get? a=some u:=by
 cases o with
 | lst xs=>obtain⟨_,_,_,_,e⟩:=x;exact⟨_,e⟩
 | tup xs=>obtain⟨_,_,_,u,e,_⟩:=x;exact⟨_,e⟩
 | dK kvs=>obtain⟨_,_,_,_,o,_,_,e,_⟩:=x;exact⟨_,e⟩
 | dT kvs=>obtain⟨_,_,_,_,o,_,_,e,_⟩:=x;exact⟨_,e⟩
 | set S n=>obtain⟨o,_,_,_,e,_⟩:=x;exact⟨_,e⟩
 | ins C dx fs=>obtain⟨_,_,_,e,_⟩:=x;exact⟨_,e⟩
 | own y=>exact x
 | xd fs=>obtain⟨_,⟨_,_,_,e,_⟩,_⟩:=x;exact⟨_,e⟩
 | rng lo hi=>obtain⟨_,_,_,e⟩:=x;exact⟨_,e⟩
 | frz ob u=>obtain⟨e,_⟩:=x;exact⟨_,e⟩
 | tbl ps=>exact⟨_,x⟩
 | met f y=>exact⟨_,x⟩
 | ext φ=>exact x.2.1
def Fl(N:Addr->Prop)(a:Addr)(cls:Value)(H:Hp)(h:Heap):Prop :=
 ∃oe vs a0,N a/\H a=none/\h.get? a=some oe/\VS.Tg cls oe/\oe.data=.fields vs/\vs[0]?=some a0 /\
  (vs[1]?=some .none\/∃T oT ts,vs[1]?=some (.ref T)/\N T/\H T=none/\T≠a/\h.get? T=some oT/\oT.data=.fields ts/\ts[3]?=some .none)
theorem Fl.mono{N':Addr->Prop}{cls:Value}(f:Fl N a cls H h)(k:∀b,N b->N' b):Fl N' a cls H h:=by obtain⟨oe,vs,a0,n,h1,h2,h3,h4,h5,h6⟩:=f;refine⟨oe,vs,a0,k _ n,h1,h2,h3,h4,h5,h6.imp id fun⟨T,oT,ts,e1,e2,e⟩=>⟨T,oT,ts,e1,k _ e2,e⟩⟩
theorem Eg{M:Model}{B:Heap}{L:Addr}{Q:Unit->Shared->Prop}(hfr:A.frames=some (env::outer))(hl:s.heap.FunFrames B (env::outer))(hf:env.frame=some L)(he:s.heap.get? a=some oe)(hkb:B.StaysIn s.heap)(hen:B.get? a=none)(hd:oe.data=.fields vs)(h0:vs[0]?=some a0)(h1:vs[1]?=some .none\/∃T oT ts,vs[1]?=some (.ref T)/\B.get? T=none/\T≠a/\s.heap.get? T=some oT/\oT.data=.fields ts/\ts[3]?=some .none)(hQ:∀h',Heap.NotedW B (env::outer) a oe.cls a0 (rawInt L) s.heap h'->Q () { s with heap:=h' }):wpAny M A (noteFrame (.ref a) env) Q E s:=by
 rcases h1 with h1|⟨T,oT,ts,h1,hnT,hTe,hT,hdT,h3⟩
 ·unfold noteFrame;simp only[hf];refine wpAny_bind (wpAny_field he hd h1 ?_);rw[if_neg (by decide)];exact wpAny_entryW hfr hl hf he hkb hen hd (Array.getElem?_eq_some_iff.mp h1).1 h0 hQ
 ·exact wpAny_noteFrame_onW hfr hl hf ⟨oe,vs,T,oT,ts,he,⟨rfl,h0⟩,hd,h1,hnT,hTe,hT,hdT,h3⟩ hkb hen hQ
structure iu (stk:List Addr) (N:Addr->Prop) (H:Hp) (a:Addr) (cls:Value) (h h':Heap):Prop where
 keep:∀b o,h.get? b=some o->b∉stk->(H b≠none\/¬N b\/∀vs,o.data≠.fields vs)->h'.get? b=some o
 slot:∀b o,h.get? b=some o->b∈stk->∃sl,h'.get? b=some { o with slots:=sl }
 fl:Fl (fun b=>N b\/h.get? b=none) a cls H h'
theorem flown{M:Model}{A':Around}{σ:St}{cls:Value}{Q:Unit->Shared->Prop}(I:Inv X pins σ H s)(hst:X.stack=X.env::X.outer)(hf:X.env.frame=some X.env.locals)(f:Fl N a cls H s.heap)(hQ:∀h',iu (cW X.stack) N H a cls s.heap h'->Q () { s with heap:=h' }) :
  wpAny M X.A (noteFrame (.ref a) X.env) (fun _ s₂=>wpAny M A' (setFlight (.ref a) none) Q E s₂) E s:=by
 obtain⟨oe,vs,a0,na,ha,he,tg,hd,h0,h1⟩:=f;have hstk:=I.stack;have hfree:=I.stkFree;have hfr:=I.ok.frames;obtain⟨hid,hh1,hh2,hh3,hh4⟩:∃hid:List Addr,(∀b∈cW X.stack,b∈hid)/\a∈hid/\(∀b∈hid,b∈cW X.stack\/(N b/\H b=none/\∃o vs,s.heap.get? b=some o/\o.data=.fields vs)) /\
   (vs[1]?=some .none\/∃T oT ts,vs[1]?=some (.ref T)/\T∈hid/\T≠a/\s.heap.get? T=some oT/\oT.data=.fields ts/\ts[3]?=some .none):=by
  rcases h1 with h1|⟨T,oT,ts,h1,nT,hT,hTa,r⟩
  ·refine⟨cW X.stack++[a],fun b hb=>mem_append_left _ hb,mem_append_right _ (by simp),fun b hb=>?_,.inl h1⟩;rcases mem_append.mp hb with hb|hb
   ·exact .inl hb
   ·rw[mem_singleton] at hb;subst hb;exact .inr ⟨na,ha,_,_,he,hd⟩
  ·obtain⟨hT1,hT2,hT3⟩:=r;refine⟨cW X.stack++[a,T],fun b hb=>mem_append_left _ hb,mem_append_right _ (by simp),fun b hb=>?_,.inr ⟨T,oT,ts,h1,mem_append_right _ (by simp),hTa,hT1,hT2,hT3⟩⟩;rcases mem_append.mp hb with hb|hb
   ·exact .inl hb
   ·rcases mem_cons.mp hb with rfl|hb
    ·exact .inr ⟨na,ha,_,_,he,hd⟩
    ·rw[mem_singleton] at hb;subst hb;exact .inr ⟨nT,hT,_,_,hT1,hT2⟩
 have hin:∀env∈X.env::X.outer,∀b,env.frame=some b->b∈hid:=fun env he b hb=>hh1 b (mem_filterMap.mpr ⟨env,by rw[hst];exact he,hb⟩);have hl:s.heap.FunFrames (hideAll s.heap hid) (X.env::X.outer):=PySem.W.funFrames_hide (by rw[<- hst];exact hstk) hin;have n0:wpAny M X.A (noteFrame (.ref a) X.env) (fun _ s2=>∃h1,s2={ s with heap:=h1 }/\Heap.NotedW (hideAll s.heap hid) (X.env::X.outer) a oe.cls a0 (rawInt X.env.locals) s.heap h1) E s :=
  Eg (by rw[hfr,hst]) hl hf he (fun b o q=>of_hideAll _ q) (hideAll_none _ hh2) hd h0 (hh4.imp id fun⟨T,oT,ts,e1,e2,e3,e4⟩=>⟨T,oT,ts,e1,hideAll_none _ e2,e3,e4⟩) fun h1 z=>⟨h1,rfl,z⟩
 refine wpAny_mono (vh (e:=a) (d:=oe.dict) (Dd _ _) n0 ⟨oe,he,rfl⟩) (fun _ s2 ⟨⟨h1,es,z⟩,dz⟩=>?_) fun _ _ z=>z;subst es;obtain⟨z1,z2,z3,z4⟩:=z;have n1:wpAny M A' (setFlight (.ref a) none) (fun _ s3=>∃h2,s3={ s with heap:=h2 }/\(hideAll s.heap hid).FlyingW (X.env::X.outer) a oe.cls a0 h2/\h1.UpToSlots h2) E { s with heap:=h1 } :=
  wpAny_landsW (base:=hideAll s.heap hid) (l:=X.env::X.outer) (cls:=oe.cls) (a0:=a0) ⟨z1,hideAll_none _ hh2,z2,z3⟩ fun h2 y1 y2=>⟨h2,rfl,y1,y2⟩
 refine wpAny_mono (vh (e:=a) (d:=oe.dict) (Hd _ _) n1 dz) (fun _ s3 ⟨⟨h2,es,y1,y2⟩,dz2⟩=>?_) fun _ _ z=>z;subst es;refine hQ h2 ?_;have up:∀b o,s.heap.get? b=some o->(∀vs,o.data≠.fields vs)->∃sl,h2.get? b=some { o with slots:=sl }:=fun b o e n=>by
  obtain⟨s1,e1⟩:=z4 b o e n;obtain⟨s2,e2⟩:=y2 b _ e1 n;exact⟨s2,e2⟩
 have sl:∀b o,s.heap.get? b=some o->b∈cW X.stack->∃sl,h2.get? b=some { o with slots:=sl }:=fun b o e hb=>by
  obtain⟨_,o',e',n⟩:=hstk.mem hb;rw[e] at e';cases e';exact up b o e n
 obtain⟨y1,y3,y4,oe',vs',T',oT',ts',t1,⟨t2,t3⟩,t4,t5,t6,t7,t8,t9,t10⟩:=y1;refine⟨fun b o e hb hc=>?_,sl,oe',vs',a0,.inl na,ha,t1,tg.same t2 (by obtain⟨u,e1,e2⟩:=dz2;rw[t1] at e1;cases e1;exact e2),t4,t3,.inr ⟨T',oT',ts',t5,?_,?_,t7,t8,t9,t10⟩⟩
 ·refine y1 b o (hideAll_get _ e fun hm=>?_);rcases hh3 b hm with q|⟨q1,q2,o',vs',q3,q4⟩
  ·exact hb q
  ·rcases hc with hc|hc|hc
   ·exact hc q2
   ·exact hc q1
   ·rw[e] at q3;cases q3;exact hc _ q4
 all_goals
  cases q:s.heap.get? T' with
  | none =>
   first
    | exact .inr q
    | (cases q2:H T' with
       | none=>rfl
       | some u=>obtain⟨u',e'⟩:=(I.hok T' u q2).there;rw[q] at e';cases e')
  | some o =>
   have hm:T'∈hid:=by apply Classical.byContradiction;intro hm;have:=hideAll_get _ q hm;rw[t6] at this;cases this
   rcases hh3 T' hm with hs|⟨q1,q2,_⟩
   ·exfalso;obtain⟨_,o',e',n⟩:=hstk.mem hs;rw[q] at e';cases e';obtain⟨s2,e2⟩:=up T' o q n;rw[t8] at e2;cases e2;exact n _ t9
   ·first|exact .inl q1|exact q2
def aZ(P:Program)(w:World):iA:=fun outer H s E e s'=>∃a cls H',e=.ref a/\s'.os=s.os/\AllBare s'.gens/\Un (cW outer) [] H H' s.heap s'.heap/\cg P w H' s'.heap/\Fl (fun b=>s.heap.get? b=none) a cls H' s'.heap/\E cls none H'
def Nw(X:Cx)(pins:List (Addr×Obj))(b:Addr):Prop:=X.s₀.heap.get? b=none/\∀p∈X.pn++pins,p.1≠b
def dZ(X:Cx)(E:XK):Prop:=∀(pins:List (Addr×Obj)) (σ:St) (H:Hp) (s:Shared) (a:Addr) (cls:Value),Inv X pins σ H s->Fl (Nw X pins) a cls H s.heap->E cls none H->X.xe (.ref a) s
theorem kD{σ:St}{b:Addr}(hx:X.ex=[])(I:Inv X pins σ H s)(h:s.heap.get? b=none):Nw X pins b:=by
 refine⟨?_,fun p hp e=>?_⟩
 ·cases q:X.s₀.heap.get? b with
  | none=>rfl
  | some o =>
   obtain⟨o',e⟩:=I.base.there b o q (by rw[hx];simp);rw[h] at e;cases e
 ·obtain⟨e1,_⟩:=I.pin p hp;rw[e,h] at e1;cases e1
theorem dZ.passes{E:XK}(h:dZ X E)(hx:X.ex=[]):fO (aZ X.prog X.w) X E:=fun pins σ H s e s' I z=>by
 obtain⟨a,cls,H',rfl,ho,hg,u,hok,f,q⟩:=z;exact h pins σ H' s' a cls (I.call' ho u hok hg (fun b z=>absurd z (by simp))) (f.mono fun b hb=>kD hx I hb) q
theorem rj:fO (aZ X.prog X.w) X E0:=fun _ _ _ _ _ _ _ z=>by
 obtain⟨_,_,_,_,_,_,_,_,_,q⟩:=z;exact q.elim
theorem aa{N:List Str}{scope:Scope}{cd:Value}{E:XK} :
  dZ (gy (aZ P w) P w K mg base N qual scope f cd A outer s H E) E:=by
 intro pins σ H1 s1 a cls I fl q;show wpAny (model P w) _ (leaving _ _) _ _ s1;unfold leaving;refine wpAny_bind (flown I rfl rfl fl fun h' F=>?_);have hb:=I.base;have hstk:=I.stack;have hlt:∀b o,s.heap.get? b=some o->b≠(gy (aZ P w) P w K mg base N qual scope f cd A outer s H E).env.locals:=fun b o e q=>absurd (Heap.lt_size e) (by rw[q];exact not_lt.mpr I.ok.above);have hfs:∀b,b∈cW (gy (aZ P w) P w K mg base N qual scope f cd A outer s H E).stack->b=(gy (aZ P w) P w K mg base N qual scope f cd A outer s H E).env.locals\/b∈cW outer:=fun b hb=>mem_cons.mp (I.stkSub b hb);have hout:∀b,b∈cW outer->b∈cW (gy (aZ P w) P w K mg base N qual scope f cd A outer s H E).stack:=fun b hb=>by
  obtain⟨env,h1,h2⟩:=mem_filterMap.mp hb;exact mem_filterMap.mpr ⟨env,mem_cons_of_mem _ h1,h2⟩
 refine⟨a,cls,H1,rfl,I.os,I.bare,⟨fun b o e n h1 h2=>?_,fun b o e n h1 h2=>?_,fun b o e n h2=>hb.free b o e n h2,fun b o e h2=>?_,hb.tups,hb.frzs,hb.tbls⟩,fun b o e=>?_,F.fl.mono fun b hb'=>?_,q⟩
 ·have e1:=hb.keep b o e n h1 h2;refine F.keep b o e1 (fun hm=>?_) (.inr<|.inl fun hn=>by have z:s.heap.get? b=none:=hn.1;rw[z] at e;cases e);rcases hfs b hm with z|z
  ·exact hlt b o e z
  ·exact h1 z
 ·obtain⟨sl,e1⟩:=hb.slot b o e n h1 h2;obtain⟨s2,e2⟩:=F.slot b _ e1 (hout b h1);exact⟨s2,e2⟩
 ·obtain⟨o',e1⟩:=hb.there b o e h2
  by_cases hm:b∈cW (gy (aZ P w) P w K mg base N qual scope f cd A outer s H E).stack
  ·obtain⟨s2,e2⟩:=F.slot b o' e1 hm;exact⟨_,e2⟩
  ·exact⟨o',F.keep b o' e1 hm (.inr<|.inl fun hn=>by have z:s.heap.get? b=none:=hn.1;rw[z] at e;cases e)⟩
 ·refine(I.hok b o e).stay (fun c u hc r=>?_) (fun _ q=>q) fun _ _ q=>q;have hH:H1 c≠none:=by
   rcases hc with rfl|hc
   ·rw[e];simp
   ·rw[hc];simp
  exact F.keep c u r (fun hm=>hH (I.stkFree c hm)) (.inl hH)
 ·rcases hb' with hb'|hb'
  ·exact hb'.1
  ·exact(kD (pins:=pins) rfl I hb').1
theorem bJ.okX{x:Str}{N:List Str}(F:bJ K x qual st f fd)(S:ak N ps (aX st))(len:∀vs H Q E,sp vs H Q E->vs.length=ps.length)(hbody:∀(cdv:Value) (A:Around) (outer:List Env) (s:Shared) (H:Hp) (vs:List V) (Q:VK) (E:XK),aO k (A.deeper (envOfC qual (aX st) s.heap.objs.size f cdv))->sp vs H Q E ->
   ∃t,PSs (gy (aZ P w) P w K mg base N qual (aX st) f cdv A outer s H E) (j_ st) t/\t { nx:=fun _ H'=>Q .non H',rt:=Q } (start N vs) H):ax P w K mg base (aZ P w) (k+1) f fd ps sp:=by
 obtain⟨oc,od,kV,doc,pm,an,cdv,ct,osl,rfl,lk,hcd⟩:=F.ex;refine Ah lk hcd S len fun A outer s H vs Q E hr hsp=>?_;obtain⟨t,h,q⟩:=hbody cdv A outer s H vs Q E hr hsp;exact⟨t,h,q⟩
def g7:List Value:=[.type "ValueError",.type "Exception",.type "BaseException",.type "object"]
def XC(K:Frag)(C:Addr):Prop:=excIn K C g7 "ValueError.__new__" = true
theorem XC.obj{C:Addr}(q:XC K C)(X:K.In h):∃bm N nm qn bs hdct sn sub ab col dd k0 k1 k2 k3 k5 mN,
  h.get? C=some (excClassObj nm qn C N bs bm hdct sn sub ab col dd k0 k1 k2 k3 k5 "ValueError.__new__")/\h.Ns N mN/\mN "__init__" = none/\OwnTail h g7 bm:=by
 unfold XC excIn at q;split at q
 case h_2=>cases q
 rename_i dd cd sl ho;split at q
 case h_2=>cases q
 rename_i C' bm k0 k1 k2 k3 n k5 hm hs;simp only[and_eq_true,beq_iff_eq,not_eq_true'] at q;obtain⟨⟨⟨⟨⟨rfl,rfl⟩,hdel⟩,ht⟩,hok⟩,hni⟩:=q;obtain⟨nm,bs,mro,ns,qn,hd,sn,sub,ab,col,del⟩:=cd;dsimp only at hm hdel hok hni;subst hm hdel;have hsl:sl=#[k0,k1,k2,k3,some (.builtin "ValueError.__new__"),k5]:=by obtain⟨l⟩:=sl;simp only at hs;rw[hs]
 subst hsl;exact⟨bm,ns,nm,qn,bs,hd,sn,sub,ab,col,dd,k0,k1,k2,k3,k5,_,X _ _ ho,.of_isNs (PySem.W.isNs_of_in X hok),PySem.W.nsMap_none_of_in X hok hni,tail_of_in X ht⟩
def PM(X:Cx)(e:Expr)(t:St->Prop):Prop:=∀(pins:List (Addr×Obj)) (s:Shared) (σ:St) (H:Hp),Inv X pins σ H s->t σ->wpAny (model X.prog X.w) X.A (eval e X.env) (fun u s'=>(∃y tk,u=.str y tk/\y.length<=1000)/\Inv X pins σ H s') X.xe s
def PX(X:Cx)(e:Expr)(t:St->Prop):Prop:=∀(pins:List (Addr×Obj)) (s:Shared) (σ:St) (H:Hp),Inv X pins σ H s->t σ->wpAny (model X.prog X.w) X.A (eval e X.env) (fun u s'=>Inv X pins σ H s') X.xe s
def pU(X:Cx)(es:List Expr)(t:St->Prop):Prop:=∀(out:Str) (pins:List (Addr×Obj)) (s:Shared) (σ:St) (H:Hp),out.length+1000*es.length<=sizeLine->Inv X pins σ H s->t σ->wpAny (model X.prog X.w) X.A (joinParts out (evalEach es X.env)) (fun u s'=>Inv X pins σ H s') X.xe s
theorem mY{x:Str}(hx:x.length<=1000:=by decide):PM X (.Constant (.str x) j pos) (fun _=>True):=fun pins s σ H I _=>Calls.Constant_str ⟨⟨x,_,rfl,hx⟩,I.tok _⟩
theorem AX{e:Expr}{pos:Pos}{n:Int}{σ:St}(hn:n.natAbs<1000)(I:Inv X pins σ H s)(tk:Tok) :
  wpAny (model X.prog X.w) X.A (formatField (.int n tk) Str.empty) (fun u s'=>(∃y tk,u=.str y tk/\y.length<=1000)/\Inv X pins σ H s') X.xe s:=by
 have hl:n.natAbs.log2<100:=by
  by_cases h0:n.natAbs=0
  ·rw[h0];decide
  ·exact(log2_lt h0).mpr (lt_of_lt_of_le hn (by decide))
 refine formatField_int_small (by omega) ⟨⟨_,_,rfl,?_⟩,I.tok _⟩;have e:=int_text_length_le (k:=100) (by decide) hl;show(Str.ofString (toString n)).length<=1000;rw[PySem.ofString_length];omega
theorem qA{x:Str}{p:Pos}(i:Nat)(hN:X.N[i]?=some x:=by rfl)(hv:lh X.env.scope x:=by first|exact Or.inl rfl|exact Or.inr (Or.inl rfl)|exact Or.inr (Or.inr rfl))(hd:(x==("__debug__" : Str))=false:=by decide)(hcd:(x==("__classdict__" : Str))=false:=by decide):PM X (.FormattedValue (.Name x p) (-1) none pos) (fun σ=>∃n:Int,σ[i]?=some (some (.int n))/\n.natAbs<1000):=fun pins s σ H I ⟨n,e,hn⟩=>by
 refine FormattedValue_plain (aK (lW (pos:=p) hN hv hd hcd pins s σ H (fun v H'=>v=.int n/\H'=H) I ⟨.int n,e,rfl,rfl⟩) fun u s1 ⟨v,H1,I1,r,hv,hH⟩=>?_);subst hv;subst hH;obtain⟨tk,rfl⟩:∃tk,u=.int n tk:=r;exact AX (e:=.Name x p) (pos:=pos) hn I1 tk
theorem rh:pU X [] (fun _=>True):=fun out pins s σ H hl I _=>joinParts_nil (I.tok _) (by simpa using hl)
theorem kb{t t':St->Prop}(h1:PM X e t)(h2:pU X es t'):pU X (e::es) (fun σ=>t σ/\t' σ):=fun out pins s σ H hl I q=>by
 show wpAny _ _ (joinParts out (eval e X.env::evalEach es X.env)) _ _ _;refine joinParts_cons (aK (h1 pins s σ H I q.1) fun u s1 ⟨⟨y,tk,hu,hy⟩,I1⟩=>?_);subst hu;have hz:(out++y).length=out.length+y.length:=strLen_append _ _;simp only[length_cons] at hl;exact⟨by omega,h2 (out++y) pins s1 σ H (by omega) I1 q.2⟩
theorem oy{x:Str}:PX X (.Constant (.str x) j pos) (fun _=>True):=fun pins s σ H I _=>Calls.Constant_str (I.tok _)
theorem rg{t:St->Prop}(h:pU X (e1::e2::es) t)(hl:1000*(es.length+2)<=sizeLine:=by decide):PX X (.JoinedStr (e1::e2::es) pos) t:=fun pins s σ H I q =>
 JoinedStr_many (h Str.empty pins s σ H (by show 0+1000*(es.length+2)<=sizeLine;rw[zero_add];exact hl) I q)
theorem Ef{E:XK}{C:Addr}{x:Str}{t:St->Prop}(hx:dZ X E)(hex:X.ex=[])(xc:XC X.K C)(hg:Gl X x)(hm:X.mg x=some (.ref C))(hh:X.A.handled=none)(ha:PX X e t)(he:starEach [e] X.env=[(false,eval e X.env)]:=by rfl)(hd:(x==("__debug__" : Str))=false:=by decide) :
  PS X (.Raise (some (.Call (.Name x np) [e] [] cpos)) none pos) (fun _ σ H=>t σ/\E (.ref C) none H):=by
 intro pins s σ H D I hq;obtain⟨bm,N,nm,qn,bs,hdct,sn,sub,ab,col,dd,k0,k1,k2,k3,k5,mN,hC,hN,hni,T⟩:=xc.obj I.ok.mod.kin;refine wpAny_Raise_call_subU (C:=C) (nm:=nm) (q:=qn) (N:=N) (bs:=bs) (bm:=bm) (hdct:=hdct) (sn:=sn) (sub:=sub) (ab:=ab) (col:=col) (dd:=dd) (k0:=k0) (k1:=k1) (k2:=k2) (k3:=k3) (k5:=k5)
  excBase_ValueError (by decide) excBase_ValueError (mN:=mN) (T.hasType excBase_ValueError.hasBase) hh (by rw[he];rfl) hni (iS I hg hm ⟨rfl,?_⟩ hd)
 rw[he];refine Calls.evalArgs_plain (Calls.spliced_cons (aK (ha pins s σ H I hq.1) fun u s1 I1=>Calls.spliced_nil ?_));refine⟨rfl,(by show 1<=sizeLine;decide),I1.bk _ _ hC,hN.keeps I1.bk,T.keeps I1.bk,fun h' b hm=>?_⟩;obtain⟨tt,e1,e2,e3⟩:=hm.there;refine hx pins σ H { s1 with heap:=h' } b (.ref C) (I1.kept (t':=s1.toks) hm.keeps) ⟨_,_,_,kD hex I1 hm.new,?_,e1,rfl,rfl,rfl,.inl rfl⟩ hq.2;cases q:H b with
 | none=>rfl
 | some o=>obtain⟨u,e⟩:=(I1.hok b o q).there;rw[hm.new] at e;cases e
section
variable {σ:St} {cls:Value}
theorem Inv.flown(I:Inv X pins σ H s)(hex:X.ex=[])(F:iu (cW X.stack) (Nw X pins) H a cls s.heap h'):Inv X pins σ H { s with heap:=h' }:=by
 have neL:∀b o,X.s₀.heap.get? b=some o->b≠X.env.locals:=fun b o e=>ne_of_lt (lt_of_lt_of_le (Heap.lt_size e) I.ok.above);have hs0:∀b o,X.s₀.heap.get? b=some o->¬Nw X pins b:=fun b o e n=>by rw[n.1] at e;cases e
 have stk:∀b,b≠X.env.locals->b∉X.fs->b∉cW X.stack:=fun b h1 h2=>I.stkNe h1 h2;have anyK:∀b o,s.heap.get? b=some o->(¬Nw X pins b\/∀vs,o.data≠.fields vs)->∃sl,h'.get? b=some { o with slots:=sl }:=fun b o e hn=>by
  by_cases hm:b∈cW X.stack
  ·exact F.slot b o e hm
  ·exact⟨o.slots,F.keep b o e hm (.inr hn)⟩
 have cellK:∀x c,X.env.cells.lookup x=some c->∀v,s.heap.IsCell c v->h'.IsCell c v:=fun x c e v ⟨o,ho,hd⟩=>by
  obtain⟨sl,q⟩:=anyK c o ho (.inr fun vs q=>by rw[hd] at q;cases q);exact⟨_,q,hd⟩
 refine⟨I.ok,I.os,I.bare,⟨fun b o e n hb hx=>?_,fun b o e n hb hx=>?_,I.base.free,fun b o e hx=>?_,I.base.tups,I.base.frzs,I.base.tbls⟩,?_,fun x c e=>?_,I.free,I.freeC,fun p hp=>?_,fun b o e=>?_,I.len⟩
 ·exact F.keep b o (I.base.keep b o e n hb hx) (stk b (neL b o e) hb) (.inr (.inl (hs0 b o e)))
 ·obtain⟨sl,e1⟩:=I.base.slot b o e n hb hx;obtain⟨sl',e2⟩:=anyK b _ e1 (.inl (hs0 b o e));exact⟨sl',e2⟩
 ·obtain⟨o',e1⟩:=I.base.there b o e hx;obtain⟨sl',e2⟩:=anyK b _ e1 (.inl (hs0 b o e));exact⟨_,e2⟩
 ·obtain⟨m,hn,hl⟩:=I.loc;obtain⟨oL,es,ep,hoL,hdL,r⟩:=id hn;obtain⟨sl,q⟩:=anyK _ oL hoL (.inr fun vs q=>by rw[hdL] at q;cases q);refine⟨m,⟨_,es,ep,q,hdL,r⟩,fun i x v e1 e2 e3=>?_⟩;obtain⟨u,r,l⟩:=hl i x v e1 e2 e3;refine⟨u,r,?_⟩;rcases l with l|⟨k,c,e,z⟩
  ·exact .inl l
  ·exact .inr ⟨k,c,e,cellK x c e _ z⟩
 ·obtain⟨v,z⟩:=I.cell x c e;exact⟨v,cellK x c e v z⟩
 ·obtain⟨e,n,ne,nf,d⟩:=I.pin p hp;exact⟨F.keep p.1 p.2 e (stk _ ne nf) (.inr (.inl fun hn=>hn.2 p hp rfl)),n,ne,nf,d⟩
 ·refine(I.hok b o e).stay (fun c u hc r=>?_) (fun _ q=>q) fun _ _ q=>q;have hH:H c≠none:=by
   rcases hc with rfl|hc
   ·rw[e];simp
   ·rw[hc];simp
  exact F.keep c u r (fun hm=>hH (I.stkFree c hm)) (.inl hH)
theorem Fl.nw(I:Inv X pins σ H s)(hex:X.ex=[])(F:iu (cW X.stack) (Nw X pins) H a cls s.heap h'):Fl (Nw X pins) a cls H h':=F.fl.mono fun b hb=>hb.elim id fun hb=>kD hex I hb
theorem zf{M:Model}{Q:Unit->Shared->Prop}(f:Fl N a cls H s.heap)(h:Q () s):wpAny M A (setFlight (.ref a) none) Q E s:=by
 obtain⟨oe,vs,a0,_,_,he,_,hd,h0,h1⟩:=f;unfold setFlight;rcases h1 with h1|⟨T,oT,ts,h1,_,_,_,hT,hdT,h3⟩
 ·refine wpAny_bind (wpAny_field he hd h1 ?_);rw[if_neg (by decide)];exact wpAny_pure h
 ·refine wpAny_bind (wpAny_field he hd h1 ?_);rw[if_pos (show(Value.ref T != Value.none)=true from by simp)];refine wpAny_setField hT hdT (Array.getElem?_eq_some_iff.mp h3).1 ?_;show Q () { s with heap:=s.heap.update T (Obj.mapFields (·.setIfInBounds 3 Value.none)) };rw[Heap.update_setField_same s.heap T oT ts 3 Value.none hT hdT h3];exact h
theorem Inv.trackX(I:Inv X pins σ H s)(hN:∀b,N b->Nw X pins b)(f:Fl N a cls H s.heap):Inv X pins σ (upd H a (.ext (VS.XPhi a cls))) s:=by
 obtain⟨oe,vs,a0,na,ha,he,hc,hd,h0,_⟩:=f;obtain⟨n1,n2⟩:=hN a na;obtain⟨m,hn,hl⟩:=id I.loc;obtain⟨oL,es,ep,hoL,hdL,r⟩:=id hn;have hne:a≠X.env.locals:=by rintro rfl;rw[he] at hoL;cases hoL;rw[hd] at hdL;cases hdL
 have up:∀b,b≠a->∀{o:Option HO},H b=o->upd H a (.ext (VS.XPhi a cls)) b=o:=fun b hb o e=>by rw[bH hb];exact e
 refine⟨I.ok,I.os,I.bare,⟨I.base.keep,I.base.slot,fun b o e n hx=>?_,I.base.there,fun b xs e=>?_,fun b o u e=>?_,fun b ps e=>?_⟩,I.loc,I.cell,?_,fun x c e=>?_,fun p hp=>?_,I.hok.track ha ⟨⟨oe,vs,he,hc,hd,a0,h0⟩,⟨oe,he⟩,fun h1 h2 ⟨o,vs,e1,e2,e3⟩ k=>⟨o,vs,k _ e1,e2,e3⟩⟩,I.len⟩
 ·refine up b ?_ (I.base.free b o e n hx);rintro rfl;rw[n1] at e;cases e
 ·have:=I.base.tups b xs e;exact up b (ee this ha) this
 ·have:=I.base.frzs b o u e;exact up b (ee this ha) this
 ·obtain⟨m,this⟩:=I.base.tbls b ps e;exact⟨m,up b (ee this ha) this⟩
 ·exact up _ (Ne.symm hne) I.free
 ·refine up c ?_ (I.freeC x c e);rintro rfl;obtain⟨v,o,ho,hd'⟩:=I.cell x c e;rw[he] at ho;cases ho;rw[hd] at hd';cases hd'
 ·obtain⟨e,n,r⟩:=I.pin p hp;exact⟨e,up _ (n2 p hp) n,r⟩
theorem pB{M:Model}{n:Str}{Q:Unit->Shared->Prop}(I:Inv X pins σ H s)(hN:X.N.Nodup)(hi:X.N[i]?=some n)(hk:X.env.scope.names.lookup n=some .local)(h:∀s',Inv X pins (σ.set i none) H s'->Q () s'):wpAny M A (do bindName X.env n .none;unbindBehindTheSuite X.env n pos) Q E s:=by
 obtain⟨m,hn,hl⟩:=id I.loc;have hcls:(X.env.scope.kind==.class||(X.env.scope.kind==.module&&X.env.locals != X.env.globals))=false:=by rw[I.ok.kind];rfl
 refine wpAny_nameGoes_keeps hk hn hcls fun h' v hn' hs=>h _ ?_;refine⟨I.ok,I.os,I.bare,⟨fun b o e n hb hx=>?_,fun b o e n hb hx=>?_,I.base.free,fun b o e hx=>?_,I.base.tups,I.base.frzs,I.base.tbls⟩,⟨_,hn',fun j y v' e1 e2 e3=>?_⟩,fun y c e=>?_,I.free,I.freeC,fun p hp=>?_,fun b ob e=>?_,by simpa using I.len⟩
 ·exact(hs.2 b (ne_of_lt (lt_of_lt_of_le (Heap.lt_size e) I.ok.above))).trans (I.base.keep b o e n hb hx)
 ·obtain⟨sl,e1⟩:=I.base.slot b o e n hb hx;exact⟨sl,(hs.2 b (ne_of_lt (lt_of_lt_of_le (Heap.lt_size e) I.ok.above))).trans e1⟩
 ·obtain⟨o',e1⟩:=I.base.there b o e hx;exact⟨o',(hs.2 b (ne_of_lt (lt_of_lt_of_le (Heap.lt_size e) I.ok.above))).trans e1⟩
 ·by_cases hj:j=i
  ·subst hj
   by_cases hjl:j<σ.length
   ·rw[getElem?_set_self hjl] at e2;cases e2
   ·rw[getElem?_eq_none (by simpa using hjl)] at e2;cases e2
  ·rw[getElem?_set_ne (Ne.symm hj)] at e2;obtain⟨u',r',q⟩:=hl j y v' e1 e2 e3;refine⟨u',r',?_⟩;rcases q with ⟨k,e⟩|⟨k,c,e,z⟩
   ·refine .inl ⟨k,?_⟩;have:y≠n:=fun e=>hj (sF hN e1 (e▸hi));simp[this,e]
   ·exact .inr ⟨k,c,e,z.sameBut hs (I.cne y c e)⟩
 ·obtain⟨w',z⟩:=I.cell y c e;exact⟨w',z.sameBut hs (I.cne y c e)⟩
 ·obtain⟨e,n,ne,nf,d⟩:=I.pin p hp;exact⟨(hs.2 p.1 ne).trans e,n,ne,nf,d⟩
 ·refine(I.hok b ob e).stay (fun c w' hc q=>(hs.2 c ?_).trans q) (fun _ q=>q) fun _ _ q=>q;rintro rfl;rcases hc with rfl|hc
  ·rw[I.free] at e;cases e
  ·rw[I.free] at hc;cases hc
end
abbrev Cx.hnd(X:Cx)(a:Addr):Cx:={ X with A:=X.A.mark (some (.ref a)),calm:=false,xe:=fun _ _=>False }
section
variable {σ:St}
theorem Cx.Ok.hnd(ok:X.Ok)(a:Addr):(X.hnd a).Ok :=
 ⟨ok.mod,ok.kind,ok.glob,ok.blt,ok.above,ok.inj,ok.has,ok.cab,fun h=>absurd (show false=true from h) Bool.false_ne_true,ok.frames,ok.stk,ok.exf,ok.bs,ok.bsz,ok.noex,ok.exfs,ok.funs,ok.frf⟩
theorem Inv.hnd(I:Inv X pins σ H s)(a:Addr):Inv (X.hnd a) pins σ H s:=⟨I.ok.hnd a,I.os,I.bare,I.base,I.loc,I.cell,I.free,I.freeC,I.pin,I.hok,I.len⟩
theorem Inv.unhnd(ok:X.Ok)(I:Inv (X.hnd a) pins σ H s):Inv X pins σ H s:=⟨ok,I.os,I.bare,I.base,I.loc,I.cell,I.free,I.freeC,I.pin,I.hok,I.len⟩
theorem SP.unhnd{D:Ends}{f:Flow}{s':Shared}(ok:X.Ok)(h:SP (X.hnd a) pins D f s'):SP X pins D f s':=by
 cases f with
 | next=>obtain⟨σ',H',I,q⟩:=h;exact⟨σ',H',I.unhnd ok,q⟩
 | brk=>obtain⟨σ',H',I,q⟩:=h;exact⟨σ',H',I.unhnd ok,q⟩
 | cont=>obtain⟨σ',H',I,q⟩:=h;exact⟨σ',H',I.unhnd ok,q⟩
 | ret u=>obtain⟨v,σ',H',I,r,q⟩:=h;exact⟨v,σ',H',I.unhnd ok,r,q⟩
end
theorem HH{M:Model}{Q:Bool->Shared->Prop}{C:Addr}{b:Bool}(X:K.In s.heap)(he:s.heap.get? a=some oe)(hcls:oe.cls=.ref C)(xs:XC K S)(hm:mroIn K C (.ref S)=some b)(h:Q b s):wpAny M A (excMatches (.ref a) (.ref S)) Q E s:=by
 obtain⟨bm,N,nm,qn,bs,hdct,sn,sub,ab,col,dd,k0,k1,k2,k3,k5,mN,hC,hN,hni,T⟩:=xs.obj X;have hL:=PySem.W.looks_mroIn (M:=M) X hm;obtain⟨hp,g,d,tk,os⟩:=s;have hcB:(Value.ref S::bm).contains (.type "BaseException")=true:=by rw[contains_cons,T.hasType excBase_ValueError.hasBase,Bool.or_true]
 have f:=tc_notTuple;unfold excMatches
 repeat (first|with_reducible refine hL.at ?_|(with_reducible refine wpAny_loadPart_at he ?_;rw[hcls])|with_reducible refine wpAny_loadPart_at hC ?_|(with_reducible refine wpAny_isSubtype_exc hC ?_;rw[hcB])|wp_step)
 cases b<;>(wp_walk;exact h)
section
def PH(X:Cx)(h:ExceptHandler)(th:Value->TS):Prop:=∀(pins:List (Addr×Obj)) (s:Shared) (σ:St) (H:Hp) (D:Ends) (a:Addr) (cls:Value),Inv X pins σ H s->Fl (Nw X pins) a cls H s.heap->th cls D σ H ->
 wpAny (model X.prog X.w) X.A (handleBy (.ref a) X.env [h]) (SP X pins D) X.xe s
def vg(D:Ends)(i:Nat):Ends:={ nx:=fun σ' H'=>D.nx (σ'.set i none) H',rt:=D.rt,bk:=fun σ' H'=>D.bk (σ'.set i none) H',ct:=fun σ' H'=>D.ct (σ'.set i none) H' }
theorem Am{n:Str}{ts:TS}(hN:X.N.Nodup)(hi:X.N[i]?=some n)(hk:X.env.scope.names.lookup n=some .local)(hg:Gl X cn)(hm:X.mg cn=some (.ref S))(xs:XC X.K S)(hs:∀a,PSs (X.hnd a) (b0::suite) ts)(hd:(cn==("__debug__" : Str))=false:=by decide) :
  PH X (.ExceptHandler (some (.Name cn np)) (some n) (b0::suite) hpos) (fun cls D σ H=>(∃C,VS.tgC cls=some C/\mroIn X.K C (.ref S)=some true)/\∀a,H a=none->ts (vg D i) (σ.set i (some (.ref a))) (upd H a (.ext (VS.XPhi a cls)))):=by
 intro pins s σ H D a cls I fl ⟨⟨C,hC,hmr⟩,hq⟩;refine wpAny_handleBy_cons (codeAny_handlers_test (iS (X:=X.hnd a) (I.hnd a) hg hm ?_ hd)) (by intro q;cases q);obtain⟨oe,vs,a0,_,ha,he,hc,_⟩:=id fl;refine HH I.kIn he (hc.cls hC) xs hmr ?_;refine codeAny_handlers_suite_as (zf fl (pv (I.trackX (fun _ z=>z) fl) hN hi (.inl hk) (show RelV (.ref a) (.ref a) from rfl) (fun s2 I2=>?_) (.inr hk)));refine wpAny_mono (hs a pins s2 _ _ (vg D i) (I2.hnd a) (hq a ha)) (fun f s3 z=>?_) fun _ _ z=>z.elim;have z':=SP.unhnd I.ok z;cases f with
 | next=>obtain⟨σ',H',I3,q⟩:=z';exact pB I3 hN hi hk fun s4 I4=>⟨_,H',I4,q⟩
 | brk=>obtain⟨σ',H',I3,q⟩:=z';exact pB I3 hN hi hk fun s4 I4=>⟨_,H',I4,q⟩
 | cont=>obtain⟨σ',H',I3,q⟩:=z';exact pB I3 hN hi hk fun s4 I4=>⟨_,H',I4,q⟩
 | ret u=>obtain⟨v,σ',H',I3,r,q⟩:=z';exact pB I3 hN hi hk fun s4 I4=>⟨v,_,H',I4,r,q⟩
def XP(X:Cx)(pins:List (Addr×Obj))(σ:St)(E:XK)(e:Value)(s':Shared):Prop:=∃a cls H',e=.ref a/\Inv X pins σ H' s'/\Fl (Nw X pins) a cls H' s'.heap/\E cls none H'
def pX(X:Cx)(e:Expr)(t:XK->TE):Prop:=∀(pins:List (Addr×Obj)) (s:Shared) (σ:St) (H:Hp) (Q:VK) (E:XK),Inv X pins σ H s->t E σ H Q->wpAny (model X.prog X.w) X.A (eval e X.env) (EP X pins σ Q) (XP X pins σ E) s
def PB(X:Cx)(b:List Stmt)(t:XK->TS):Prop:=∀(pins:List (Addr×Obj)) (s:Shared) (σ:St) (H:Hp) (D:Ends) (E:XK),Inv X pins σ H s->t E D σ H->wpAny (model X.prog X.w) X.A (execs b X.env) (SP X pins D) (XP X pins σ E) s
theorem vf{b:List Stmt}{h:ExceptHandler}{t:XK->TS}(hst:X.stack=X.env::X.outer)(hf:X.env.frame=some X.env.locals)(hex:X.ex=[])(hb:PB X b t)(hh:PH X h th) :
  PS X (.Try b [h] [] [] pos) (fun D σ H=>t (fun cls _ H'=>th cls D σ H') D σ H):=by
 intro pins s σ H D I q;refine wpAny_Try_except (wpAny_mono (hb pins s σ H D _ I q) (fun f s1 z=>?_) fun e s1 ⟨a,cls,H',e1,I1,fl,z⟩=>?_)
 ·cases f with
  | next=>exact wpAny_execs_nil z
  | brk=>exact z
  | cont=>exact z
  | ret u=>exact z
 ·subst e1;exact flown I1 hst hf fl fun h' F=>hh pins _ σ H' D a cls (I1.flown hex F) (Fl.nw I1 hex F) z
variable {x:Str} {p:Pos} {t:TA}
theorem Ee(F:ax X.prog X.w X.K X.mg X.base (aZ X.prog X.w) k f fd ps sp)(hr:aO k X.A)(hex:X.ex=[])(hg:Gl X x)(hm:X.mg x=some (.ref f))(hk:keepIn X.K (.ref f)=true)(hb:Binds X.K fd ps [])(ha:PA X.nox (e::es) t)(hdb:(x==("__debug__" : Str))=false:=by decide)(he:starEach (e::es) X.env=(false,eval e X.env)::starEach es X.env:=by rfl)(hpl:(backTo pos (starEach es X.env)).any (·.1)=false:=by rfl) :
  pX X (.Call (.Name x p) (e::es) [] pos) (fun E σ H Q=>t σ H fun vs H1=>sp vs H1 Q E):=by
 intro pins s σ H Q E I h;refine wpAny_Call_Name_kw (iS I hg hm ?_ hdb);refine callWith_K (h₀:=X.base) I.ok.mod.kin hk (wpAny_mono (ha pos pins s σ H _ (I.wish _) h) (fun us s1 ⟨vs,H1,I1,r,q⟩=>⟨I1.unwish.kIn,?_⟩) fun _ _ z=>z.elim) he hpl;have I1:=I1.unwish;have hl:(us++[]).length=ps.length:=by rw[append_nil,<- r.length];exact F.len _ _ _ _ q
 have hb':=hb s1 us I1.kIn hl;rw[append_nil] at hb';refine wpAny_call (codeAny_mono (F.run X.A X.stack s1 H1 ⟨us,[]⟩ us vs Q E hr I1.env0 hb' r q) fun r s' hq=>?_);cases r with
 | error e =>
  obtain⟨a,cls,H',rfl,ho,hgn,u,hok,fl,z⟩:=hq;exact⟨a,cls,H',rfl,I1.call' ho u hok hgn (fun b z=>absurd z (by simp)),fl.mono fun b hb=>kD hex I1 hb,z⟩
 | ok fl =>
  cases fl with
  | ret u=>exact I1.after hq
  | next=>exact False.elim hq
  | brk=>exact False.elim hq
  | cont=>exact False.elim hq
variable {te:XK->TE}
theorem Dc(he:pX X e te)(hs:swapsWith e none pos.line X.env=pure false:=by rfl):PB X [.Expr e pos] (fun E D σ H=>te E σ H fun _ H1=>D.nx σ H1):=by intro pins s σ H D E I h;exact wpAny_execs_cons (wpAny_Expr_any (wpAny_mono (he pins s σ H _ E I h) (fun v s1 ⟨x,H1,I1,r1,q1⟩=>wpAny_execs_nil ⟨σ,H1,I1,q1⟩) fun _ _ z=>z) I.quiet hs)
theorem AW(hN:X.N.Nodup)(hi:X.N[i]?=some x)(hx:Loc X.env.scope x)(he:pX X e te)(hs:swapsWith e (some (.Name x pos')) pos.line X.env=pure false:=by rfl)(hf:X.fn x=true\/X.env.scope.names.lookup x=some .local:=by first|exact .inl rfl|exact .inr rfl|assumption):PB X [.Assign [.Name x pos'] e pos] (fun E D σ H=>te E σ H fun v H1=>D.nx (σ.set i (some v)) H1):=by intro pins s σ H D E I h;refine wpAny_execs_cons (wpAny_Assign_Name (wpAny_mono (he pins s σ H _ E I h) (fun v s1 ⟨y,H1,I1,r1,q1⟩=>?_) fun _ _ z=>z) hs);exact pv I1 hN hi hx r1 (fun s2 I2=>wpAny_execs_nil ⟨_,H1,I2,q1⟩) hf
end
end L2
variable {g:Array GenState} {os:OsState}
namespace L2
open PySem.W PySem.Builtin PySem.Builtin.ObjectAttr PySem.Builtin.Getset_descriptor
section
variable {d:Drawn} {t:Nat} {C:Addr} {o:Obj}
theorem AV{tp:Value}{R:Result->Shared->Prop}(X:K.In h)(hx:h.get? a=some o)(hc:o.cls=.ref C)(hm:mroIn K C (.type "object")=some true)(hq:R (.ok (.ret (.ref C))) ⟨h,g,d,t,os⟩) :
  codeAny (model prog w) A (.call (.builtin "getset_descriptor.__get__") ⟨[.builtin "object.__class__",.ref a,tp],[]⟩) R ⟨h,g,d,t,os⟩:=by
 have L0:Looks (model prog w) h (typeOf (.ref a)) (.ref C):=hc▸(Looks.ld hx).andThen .now;have L1:=looks_mroIn (M:=model prog w) X hm;refine codeAny_call_builtin KF.slot_gs.plain KF.entry_gs (KF.slot_gs.check _ _ _ _ _ _ _ _ KF.type_class (KF.args_gs _ _ _) ?_);unfold Builtin.«getset_descriptor.__get__» descrGet;rw[dga_obj];refine wpAny_bind (wpAny_pure ?_);unfold descrGetter descrCheckInstance descrNameAndClass isInstance;simp only[KF.owner_class]
 repeat lk
 refine⟨Code.quiet_builtin _ (by decide +kernel),codeAny_builtin KF.entry_class ?_⟩;unfold Builtin.«object.__class__» shownTypeOf
 repeat lk
 exact hq
theorem Ed{tk:Tok}{Q:Fin->Shared->Prop}(X:K.In h)(hx:h.get? a=some o)(hc:o.cls=.ref C)(hcl:findIn K (.ref C) "__class__" = some (some (.builtin "object.__class__")))(hm:mroIn K C (.type "object")=some true)(hq:Q (.done (.ret (.ref C))) ⟨h,g,d,t,os⟩) :
  wpAny (model prog w) A (Builtin.«object.__getattribute__» ⟨[.ref a,.str "__class__" tk],[]⟩) Q E ⟨h,g,d,t,os⟩:=by
 have hT5:(⟨h,g,d,t,os⟩:Shared).TypeIs (.builtin "object.__class__") "getset_descriptor" := PySem.F.typeOf_object_class;have f5:=PySem.F.typeOf_object_class;have f6:=PySem.F.slot_gs_get.lookup;have f7:=PySem.F.slot_gs_set.lookup;have L2:=looks_findIn (M:=model prog w) X hcl
 repeat (any_goals (first|assumption|(with_reducible refine wpAny_loadPart_at hx ?_;rw[hc])|with_reducible refine L2.at ?_|wp_step))
 refine AV X hx hc hm ?_
 repeat (any_goals (first|assumption|wp_step))
theorem Ec{M:Model}{nameV:Value}{Q:Unit->Shared->Prop}(X:K.In h)(hx:h.get? a=some o)(hc:o.cls=.ref C)(hb:mroIn K C (.type "BaseException")=some true)(hq:Q () ⟨h,g,d,t,os⟩) :
  wpAny M A (checkBuiltinCall "BaseException.__getattribute__" ⟨[.ref a,nameV],[]⟩) Q E ⟨h,g,d,t,os⟩:=by
 have hk:builtinKind "BaseException.__getattribute__" = some .slot:=by decide +kernel
 have hsplit:splitId "BaseException.__getattribute__" = some ("BaseException", "__getattribute__"):=by decide +kernel
 have ha:=PySem.F.args_bexc_ga (.ref a) nameV;have L1:=looks_mroIn (M:=M) X hb;simp only[checkBuiltinCall,hk,hsplit];refine wpAny_bind ?_
 ·unfold isInstance
  repeat (first|(with_reducible refine wpAny_loadPart_at hx ?_;rw[hc])|with_reducible refine L1.at ?_|wp_step)
  exact hq
theorem Al{tk:Tok}{Q:Value->Shared->Prop}(X:K.In h)(hx:h.get? a=some o)(hc:o.cls=.ref C)(hga:findIn K (.ref C) "__getattribute__" = some (some (.builtin "BaseException.__getattribute__")))(hgh:findIn K (.ref C) "__getattr__" = some none)(hcl:findIn K (.ref C) "__class__" = some (some (.builtin "object.__class__")))(hm:mroIn K C (.type "object")=some true)(hb:mroIn K C (.type "BaseException")=some true)(hq:Q (.ref C) ⟨h,g,d,t,os⟩) :
  wpAny (model prog w) A (getAttrBy (.ref a) (.str "__class__" tk) false) Q E ⟨h,g,d,t,os⟩:=by
 have f3:=PySem.F.attr_ValueError.ga.bind (.ref a);have hx2:(Value.builtin "BaseException.__getattribute__" == Value.builtin "object.__getattribute__")=false:=by decide +kernel
 have hx1:(onTheHeap (Value.ref C)&&Value.builtin "BaseException.__getattribute__" == Value.builtin "object.__getattribute__")=false:=by rw[hx2];rfl
 have L1:=looks_findIn (M:=model prog w) X hga;have L2:=looks_findIn (M:=model prog w) X hgh
 repeat (any_goals (first|assumption|(with_reducible refine wpAny_loadPart_at hx ?_;rw[hc])|with_reducible refine L1.at ?_|with_reducible refine L2.at ?_|wp_step))
 refine codeAny_call_builtin PySem.F.attr_ValueError.ga.plain PySem.F.entry_bexc_ga (Ec X hx hc hb (Ed X hx hc hcl hm ?_))
 repeat (any_goals (first|assumption|wp_step))
theorem C_{Q:Option Value->Shared->Prop}(X:K.In h)(hx:h.get? a=some o)(hc:o.cls=.ref C)(hga:findIn K (.ref C) "__getattribute__" = some (some (.builtin "BaseException.__getattribute__")))(hgh:findIn K (.ref C) "__getattr__" = some none)(hcl:findIn K (.ref C) "__class__" = some (some (.builtin "object.__class__")))(hm:mroIn K C (.type "object")=some true)(hb:mroIn K C (.type "BaseException")=some true)(hq:Q (some (.ref C)) ⟨h,g,d,t+1,os⟩) :
  wpAny (model prog w) A (getAttr? (.ref a) "__class__") Q E ⟨h,g,d,t,os⟩:=by
 unfold getAttr? getAttrBy?;refine wpAny_bind (wpAny_mkText (wpAny_bind (wpAny_attempt (Al X hx hc hga hgh hcl hm hb (wpAny_pure hq)))))
def lC(K:Frag)(C:Addr):Bool:=findIn K (.ref C) "__getattribute__" == some (some (.builtin "BaseException.__getattribute__"))&&findIn K (.ref C) "__getattr__" == some none &&
 findIn K (.ref C) "__class__" == some (some (.builtin "object.__class__"))&&mroIn K C (.type "object")==some true&&mroIn K C (.type "BaseException")==some true&&(clsIn K C).isSome
theorem C9{C:Addr}(q:lC K C=true):findIn K (.ref C) "__getattribute__" = some (some (.builtin "BaseException.__getattribute__"))/\findIn K (.ref C) "__getattr__" = some none /\
  findIn K (.ref C) "__class__" = some (some (.builtin "object.__class__"))/\mroIn K C (.type "object")=some true/\mroIn K C (.type "BaseException")=some true/\(clsIn K C).isSome=true:=by
 unfold lC at q;simp only[and_eq_true,beq_iff_eq] at q;obtain⟨⟨⟨⟨⟨q2,q3⟩,q4⟩,q5⟩,q6⟩,q7⟩:=q;exact⟨q2,q3,q4,q5,q6,q7⟩
theorem rZ{t:Value}(ht:VS.tgC t=some C)(q:lC K C=true):KitX K (.ref a) (.ref C) (VS.XPhi a t):=by
 obtain⟨q2,q3,q4,q5,q6,q7⟩:=C9 q;obtain⟨cdD,hcD⟩:=isSome_iff_exists.mp q7;refine⟨fun M h X p=>?_,fun M h X p=>?_,fun h tp dd its n sl X htp=>?_,fun {prog w A E Q s} X p k=>?_⟩
 ·obtain⟨o,vs,e1,e2,_⟩:=p;exact(e2.cls ht)▸(Looks.ld e1).andThen .now
 ·unfold clsIn at hcD;split at hcD
  ·rename_i c' d' cd' sl' ho;intro A' Q' E' s' k q;unfold isType loadHead;exact wpAny_bind (wpAny_loadPart (k _ _ (X _ _ ho)) (wpAny_pure q))
  ·cases hcD
 ·refine eq_false_iff.mpr fun q=>?_;have e:C=tp:=Value.ref.inj (beq_iff_eq.mp q);subst e;unfold clsIn at hcD;split at hcD
  ·rename_i c' d' cd' sl' ho;have z:=(X _ _ ho).symm.trans htp;cases z
  ·cases hcD
 ·obtain⟨o,vs,e1,e2,_⟩:=p;obtain⟨hh,gg,dd,tt,oss⟩:=s;exact C_ X e1 (e2.cls ht) q2 q3 q4 q5 q6 k
end
end L2
namespace L2
def qd(K:Frag):List V->Hp->VK->Prop:=fun xs H Q=>∃a C t,VS.tgC t=some C/\lC K C=true/\H a=some (.ext (VS.XPhi a t)) /\
 ((∃S b,xs=[.ref a,.ref S]/\kitOne K (.ref C) (.ref S)=some b/\Q (.bl b) H)\/(∃T b,xs=[.ref a,.ty T]/\kitOne K (.ref C) (.type T)=some b/\Q (.bl b) H) \/
   (∃(tp:Addr) (Ss:List Addr) (b:Bool),xs=[.ref a,.ref tp]/\H tp=some (.tup (Ss.map V.ref))/\kitAny K (.ref C) (Ss.map Value.ref)=some b/\Q (.bl b) H))
theorem xW:∀{Ss:List Addr} {us:List Value},Vals (Ss.map V.ref) us->us=Ss.map Value.ref
 | [],us,h=>by cases h;rfl
 | S::r,us,h=>by
  cases h with
  | cons h1 h2 =>
   rw[xW h2];exact congrArg (·::_) h1
theorem Eb:aM X (.builtin "isinstance") (qd X.K):=by
 intro pins s σ H xs us Q I r h;obtain⟨a,C,tg,ht,xc,hH,h⟩:=h;have hp:VS.XPhi a tg s.heap:=(I.hok a _ hH).1;have fin:∀b tk,Q (.bl b) H->EP X pins σ Q (.bool b) { s with toks:=tk }:=fun b tk q=>⟨.bl b,H,I.tok tk,rfl,q⟩
 rcases h with ⟨S,b,rfl,e,q⟩|⟨T,b,rfl,e,q⟩|⟨tp,Ss,b,rfl,hT,e,q⟩
 ·obtain⟨u,w',rfl,rx,ry⟩:=og r;cases rx;cases ry;exact kia_one (rZ ht xc) I.kIn hp e (by intro z;cases z) fun tk=>fin b tk q
 ·obtain⟨u,w',rfl,rx,ry⟩:=og r;cases rx;cases ry;exact kia_one (rZ ht xc) I.kIn hp e (by intro z;cases z) fun tk=>fin b tk q
 ·obtain⟨u,w',rfl,rx,ry⟩:=og r;cases rx;cases ry;obtain⟨_,its,rv,⟨oc,od,odt,osl⟩,e1,e2,⟨n,e3⟩,_⟩:=I.hok tp _ hT;dsimp only at e2 e3;subst e2;subst e3;rw[xW rv] at e1;exact PySem.W.kia_tup (rZ ht xc) I.kIn hp e1 e (by intro z;cases z) fun tk=>fin b tk q
end L2
variable {od:Option Addr} {nm:Str} {anc cns:List Str} {E':XK} {df:List W->M W} {epos p2:Pos} {hd:cJ->DS} {D:Ends}
namespace VS
def clOf(K:Frag)(nm:Str):Addr:=match nsIn K mainGlobals nm with
 | some (some (.ref C))=>C
 | _=>0
def mw(K:Frag):cJ->Value->Option Addr->Hp->Prop:=fun x cv od F=>od=none/\match x.fld with
 | none=>cv=.ref (clOf K x.nm)
 | some (f,w)=>∃(D:Addr) (n:Int),cv=.int (D:Int) (clOf K x.nm)/\w=.int n/\F D=some (.ext (ub D f n))
abbrev Gy(K:Frag):Ga:=⟨K,clOf K,mw K⟩
theorem ve{x:cJ}{cv:Value}(h:mw K x cv od F):tgC cv=some (clOf K x.nm):=by
 obtain⟨_,h⟩:=h;split at h
 ·subst h;rfl
 ·obtain⟨D,n,rfl,_⟩:=h;rfl
abbrev ir:=List (Str×Bool×List Str)
def qc(K:Frag)(tb:ir):Bool:=tb.all fun p=>nsIn K mainGlobals p.1==some (some (.ref (clOf K p.1)))&&(!p.2.1||excIn K (clOf K p.1) g7 "ValueError.__new__")&&lC K (clOf K p.1)&&kitOne K (.ref (clOf K p.1)) (.type "ValueError")==some true &&
 tb.all fun q=>kitOne K (.ref (clOf K p.1)) (.ref (clOf K q.1))==some (p.2.2.contains q.1)&&mroIn K (clOf K p.1) (.ref (clOf K q.1))==some (p.2.2.contains q.1)
structure XT (K:Frag) (mg:Str->Option Value) (tb:ir):Prop where
 ok:qc K tb=true
 mg:∀p∈tb,mg p.1=some (.ref (clOf K p.1))
variable {tb:ir}
theorem Ak(X:K.In h)(G:h.Ns mainGlobals mg)(ok:qc K tb=true):XT K mg tb:=by refine⟨ok,fun p hp=>?_⟩;have:=all_eq_true.mp ok p hp;simp only[and_eq_true,beq_iff_eq] at this;exact mg_of X G this.1.1.1.1
theorem XT.x(T:XT K mg tb){fl:Bool}(h:(nm,fl,anc)∈tb):lC K (clOf K nm)=true/\kitOne K (.ref (clOf K nm)) (.type "ValueError")=some true /\
  ∀q∈tb,kitOne K (.ref (clOf K nm)) (.ref (clOf K q.1))=some (anc.contains q.1)/\mroIn K (clOf K nm) (.ref (clOf K q.1))=some (anc.contains q.1):=by
 have:=all_eq_true.mp T.ok _ h;simp only[and_eq_true,beq_iff_eq,all_eq_true] at this;exact⟨this.1.1.2,this.1.2,fun q hq=>this.2 q hq⟩
theorem XT.xc(T:XT K mg tb)(h:(nm,true,anc)∈tb):XC K (clOf K nm):=by have:=all_eq_true.mp T.ok _ h;simp only[Bool.not_true,Bool.false_or,and_eq_true,beq_iff_eq,all_eq_true] at this;exact this.1.1.1.2
def iH(tb:ir)(nm:Str):Option (List Str):=match tb.find? (fun p=>p.1==nm) with
 | some p=>some p.2.2
 | none=>none
theorem nB(h:iH tb nm=some anc):∃fl,(nm,fl,anc)∈tb:=by
 unfold iH at h;split at h
 ·rename_i p e;cases h;have h1:=mem_of_find?_eq_some e;have h2:=find?_some e;simp only[beq_iff_eq] at h2;obtain⟨a,b,c⟩:=p;dsimp only at h2;subst h2;exact⟨b,h1⟩
 ·cases h
def kr(tb:ir)(nm:Str):Option (List Str):=match tb.find? (fun p=>p.1==nm&&p.2.1) with
 | some p=>some p.2.2
 | none=>none
theorem nA(h:kr tb nm=some anc):(nm,true,anc)∈tb:=by
 unfold kr at h;split at h
 ·rename_i p e;cases h;have h1:=mem_of_find?_eq_some e;have h2:=find?_some e;simp only[and_eq_true,beq_iff_eq] at h2;obtain⟨a,b,c⟩:=p;dsimp only at h2;obtain⟨rfl,rfl⟩:=h2;exact h1
 ·cases h
def noX{α:Type}(m:M α):M α:=fun ce=>match m ce with
 | some (.ok a ce')=>some (.ok a ce')
 | _=>none
section
variable {α β:Type} {E:XK} {RP:Hp->List Addr->α->β->Prop}
theorem toT.noX{d:Sl->M α}{σ:VS.St}{H:Hp}{Q:β->Hp->Prop}(h:toT G E RP (fun sl=>VS.noX (d sl)) σ H Q):toT G E' RP d σ H Q:=by
 obtain⟨F,as,sl,ce,S,P⟩:=h;refine⟨F,as,sl,ce,S,?_⟩;unfold VS.noX at P;dsimp only at P;split at P
 ·rename_i a ce' e;rw[e];exact P
 ·exact(show False from P).elim
def dw{α:Type}(d:Sl->M α):Sl->M α:=fun sl=>noX (d sl)
theorem vd(h:PE X e (ar G E0 d)):PE X e (ar G E (dw d)):=PE.imp h fun _ _ _ z=>z.noX
theorem AU{d:Sl->M Bool}(h:PT X e (cb G E0 d)):PT X e (cb G E (dw d)):=PT.imp h fun _ _ _ z=>z.noX
end
def k8(sl:Sl)(i:Nat):Bool:=match sl[i]? with
 | some (some (.int n))=>decide (n.natAbs<1000)
 | _=>false
def eW(nm:Str)(l:List Nat):DS:=fun sl ce=>if l.all (k8 sl)=true then some (.ex ⟨nm,none⟩ ce) else none
section
variable {E:XK} {x:Str} {t:L2.St->Prop}
theorem mm(hx:dZ X E)(hK:X.K=K)(T:XT K X.mg tb)(hm:kr tb x=some anc)(hex:X.ex=[])(hg:Gl X x)(hh:X.A.handled=none)(ha:PX X e t)(ht:∀σ:L2.St,(∀i∈l,∃n:Int,σ[i]?=some (some (.int n))/\n.natAbs<1000)->t σ)(he:starEach [e] X.env=[(false,eval e X.env)]:=by rfl)(hd:(x==("__debug__" : Str))=false:=by decide) :
  PS X (.Raise (some (.Call (.Name x np) [e] [] cpos)) none pos) (cT (Gy K) E (eW x l)):=by
 have hmem:=nA hm;have hx':=T.xc hmem;refine PS.imp (Ef (E:=E) (C:=clOf K x) hx hex (by rw[hK];exact hx') hg (T.mg _ hmem) hh ha he hd) fun D σ H zz_=>bg zz_ fun F as sl ce S P=>?_;unfold eW at P;split at P
 ·rename_i h;refine⟨ht σ fun i hi=>?_,P H F as (.ref (clOf K x)) none .refl S.st ⟨rfl,rfl⟩⟩;have:=all_eq_true.mp h i hi;unfold k8 at this;split at this
  ·rename_i n e;obtain⟨v,e1,e2⟩:=S.slot i _ e;simp only[Rep] at e2;subst e2;exact⟨n,e1,of_decide_eq_true this⟩
  ·cases this
 ·exact(show False from P).elim
end
def nQ(d:DS):DS:=fun sl ce=>match d sl ce with
 | some (.go f sl' ce')=>some (.go f sl' ce')
 | _=>none
def uf(put:Option Nat)(sl:Sl)(w:W):Sl:=match put with
 | some i=>sl.set i (some w)
 | none=>sl
def qb(put:Option Nat)(σ:VS.St)(v:V):VS.St:=match put with
 | some i=>σ.set i (some v)
 | none=>σ
def fv(c:Sl->M W)(put:Option Nat)(ok:cJ->Bool)(hd:cJ->DS):DS:=fun sl ce=>match c sl ce with
 | some (.ok w ce')=>some (.go .nx (uf put sl w) ce')
 | some (.ex x ce')=>if ok x=true then hd x sl ce' else none
 | none=>none
def AD(i:Nat):Option O->Option O
 | some (.go f sl ce)=>some (.go f (sl.set i none) ce)
 | _=>none
def nL(x:cJ):C:=match x.fld with
 | none=>.exn x.nm
 | some (f,.int n)=>.exm x.nm f n
 | _=>.dead
def pS(i:Nat)(d:DS):cJ->DS:=fun x sl ce=>AD i (d (sl.set i (some (.cel ce.length))) (ce++[nL x]))
def gD(tb:ir)(cn:Str)(x:cJ):Bool:=match iH tb x.nm with
 | some anc=>anc.contains cn&&tb.any (fun p=>p.1==cn)
 | none=>false
theorem GZ(T:XT K mg tb){x:cJ}(h:gD tb cn x=true):mroIn K (clOf K x.nm) (.ref (clOf K cn))=some true:=by
 unfold gD at h;split at h
 ·rename_i anc e;simp only[and_eq_true,any_eq_true,beq_iff_eq] at h;obtain⟨h1,p,hp,rfl⟩:=h;have:=((T.x (nB e).choose_spec).2.2 p hp).2;rw[h1] at this;exact this
 ·cases h
theorem SR.unset{σ:VS.St}(S:SR G F as H σ sl ce)(i:Nat):SR G F as H (σ.set i none) (sl.set i none) ce:=by
 refine⟨S.st,by rw[length_set,length_set];exact S.len,fun j u e=>?_⟩
 by_cases hj:i=j
 ·subst hj;have hi:i<sl.length:=by have:=eF e;rwa [length_set] at this
  rw[getElem?_set_self hi] at e;cases e
 ·rw[getElem?_set_ne hj] at e;obtain⟨v,h1,h2⟩:=S.slot j u e;exact⟨v,by rw[getElem?_set_ne hj];exact h1,h2⟩
section
variable {E:XK} {x:Str} {p:Pos} {h:ExceptHandler} {ok:cJ->Bool} {ds:DS}
def pV(K:Frag)(E:XK)(X:Cx)(h:ExceptHandler)(ok:cJ->Bool)(hd:cJ->DS):Prop:=∃th:Value->TS,PH X h th/\∀D σ H F as sl ce (x:cJ) (cv:Value),SR (Gy K) F as H σ sl ce->mw K x cv none F->ok x=true->aS (Gy K) E D F as (hd x sl ce)->th cv D σ H
theorem Fv(P:aS G E D F as (nQ ds sl ce)):aS G E' D F as (ds sl ce):=by
 unfold nQ at P;split at P
 ·rename_i e;rw[e];exact P
 ·exact(show False from P).elim
theorem uv(hK:X.K=K)(T:XT K X.mg tb)(hm:kr tb cn=some anc)(hN:X.N.Nodup)(hi:X.N[i]?=some nm)(hk:X.env.scope.names.lookup nm=some .local)(hg:Gl X cn)(hs:∀a,PSs (X.hnd a) (b0::suite) (cT (Gy K) E0 ds))(hd:(cn==("__debug__" : Str))=false:=by decide):pV K E X (.ExceptHandler (some (.Name cn np)) (some nm) (b0::suite) hpos) (gD tb cn) (pS i ds):=by
 have hmem:=nA hm;refine⟨_,Am hN hi hk hg (T.mg _ hmem) (by rw[hK];exact T.xc hmem) hs hd,fun D σ H F as sl ce x cv S xr hx P=>⟨⟨_,ve xr,by rw[hK];exact GZ T hx⟩,fun a ha=>?_⟩⟩;obtain⟨S2,l2⟩:=S.st.alloc (G:=Gy K) (o:=.ext (XPhi a cv)) ha (c:=nL x) (fun as' _=>by
  obtain⟨_,xr⟩:=xr;unfold nL;split at xr
  ·rename_i e;rw[e];subst xr;exact cU
  ·rename_i e;obtain⟨D,n,rfl,rfl,hF⟩:=xr;rw[e];exact⟨D,cU,hF⟩)
 have S3:SR (Gy K) F (as++[a]) (upd H a (.ext (XPhi a cv))) σ sl (ce++[nL x]):=S.slots S2 l2;have hr:Rep F (as++[a]) (.cel ce.length) (.ref a):=by simp only[Rep];exact⟨a,rfl,by rw[<- S.st.len];simp⟩
 refine⟨F,as++[a],_,_,S3.put hr i,?_⟩;unfold pS at P;revert P;cases ds (sl.set i (some (.cel ce.length))) (ce++[nL x]) with
 | none=>exact fun P=>P
 | some o=>cases o with
  | ex y ce'=>exact fun P=>(show False from P).elim
  | go f sl' ce' =>
   intro P σ' H' F' as' l S';have q:=P (σ'.set i none) H' F' as' (l2.trans l) (S'.unset i);cases f with
   | nx=>exact q
   | bk=>exact q
   | ct=>exact q
   | rt w=>exact q
theorem C8{G:Ga}{σ:VS.St}{put:Option Nat}(hh:∀D σ H F as sl ce (x:cJ) (cv:Value),SR (Gy K) F as H σ sl ce->mw K x cv none F->ok x=true->aS (Gy K) E D F as (hd x sl ce)->th cv D σ H)(S:SR (Gy K) F as H σ sl ce)(P:aS (Gy K) E D F as (fv (aV n df (dw dr)) put ok hd sl ce)) :
  eT (Gy K) E0 dr σ H fun vs H1=>fq (Gy K) (fun E=>E) n df vs H1 (fun v H2=>D.nx (qb put σ v) H2) (fun cls _ H'=>th cls D σ H'):=by
 refine⟨F,as,sl,ce,S,?_⟩;unfold fv aV dw noX au at P;dsimp only at P;cases e:dr sl ce with
 | none=>rw[e] at P;exact(show False from P).elim
 | some r=>cases r with
  | ex y ce'=>rw[e] at P;exact(show False from P).elim
  | ok ws ce1 =>
   rw[e] at P;dsimp only at P;intro vs H1 F1 as1 l1 S1 rs;split at P
   ·rename_i w ce2 e2;split at e2
    ·rename_i hl;refine⟨by rw[rs.length];exact hl,F1,as1,ws,ce1,S1.st,rs,?_⟩;rw[e2];intro v H2 F2 as2 l2 S2 rv;have S3:=S1.slots S2 l2;cases put with
     | none=>exact P σ H2 F2 as2 (l1.trans l2) S3
     | some i=>exact P _ H2 F2 as2 (l1.trans l2) (S3.put rv i)
    ·cases e2
   ·rename_i x ce2 e2;split at e2
    ·rename_i hl;refine⟨by rw[rs.length];exact hl,F1,as1,ws,ce1,S1.st,rs,?_⟩;rw[e2];split at P
     ·rename_i hok;intro H2 F2 as2 cv od l2 S2 hx;obtain⟨rfl,hx⟩:=hx;exact hh D σ H2 F2 as2 sl ce2 x cv (S1.slots S2 l2) ⟨rfl,hx⟩ hok (P.le (l1.trans l2))
     ·exact(show False from P).elim
    ·cases e2
   ·exact(show False from P).elim
theorem C7{y:Str}(hst:X.stack=X.env::X.outer)(hf:X.env.frame=some X.env.locals)(hex:X.ex=[])(hN:X.N.Nodup)(hi:X.N[i]?=some y)(hx:Loc X.env.scope y)(Fk:ax X.prog X.w X.K X.mg X.base (aZ X.prog X.w) k f fd ps (fq (Gy K) (fun E=>E) n df))(hr:aO k X.A)(hg:Gl X x)(hm:X.mg x=some (.ref f))(hk:keepIn X.K (.ref f)=true)(hb:Binds X.K fd ps [])(ha:PA X.nox (e::es) (eT (Gy K) E0 dr))(hh:pV K E X h ok hd)(hdb:(x==("__debug__" : Str))=false:=by decide)(he:starEach (e::es) X.env=(false,eval e X.env)::starEach es X.env:=by rfl)(hpl:(backTo cpos (starEach es X.env)).any (·.1)=false:=by rfl)(hs:swapsWith (.Call (.Name x p) (e::es) [] cpos) (some (.Name y pos')) epos.line X.env=pure false:=by rfl)(hfn:X.fn y=true\/X.env.scope.names.lookup y=some .local:=by first|exact .inl rfl|exact .inr rfl|assumption) :
  PS X (.Try [.Assign [.Name y pos'] (.Call (.Name x p) (e::es) [] cpos) epos] [h] [] [] pos) (cT (Gy K) E (fv (aV n df (dw dr)) (some i) ok hd)):=by
 obtain⟨th,hh1,hh2⟩:=hh;exact PS.imp (vf hst hf hex (AW hN hi hx (Ee Fk hr hex hg hm hk hb ha hdb he hpl) hs hfn) hh1) fun D σ H zz_=>bg zz_ fun F as sl ce S P=>C8 (G:=Gy K) hh2 S P
end
def kC(ce:Ce):W->Option Str
 | .cel k=>match ce[k]? with
  | some (.exn nm)=>some nm
  | some (.exm nm _ _)=>some nm
  | _=>none
 | _=>none
def mH(tb:ir)(ce:Ce)(w:W)(cn:Str):Option W:=(kC ce w).bind fun nm=>(iH tb nm).bind fun anc=>if tb.any (fun p=>p.1==cn)=true then some (.bl (anc.contains cn)) else none
def mG(tb:ir)(ce:Ce)(w:W):Option W:=(kC ce w).bind fun nm=>(iH tb nm).bind fun _=>some (.bl true)
def mF(tb:ir)(ce:Ce)(w:W)(cns:List Str):Option W:=(kC ce w).bind fun nm=>(iH tb nm).bind fun anc=>if (cns.all fun cn=>tb.any fun p=>p.1==cn)=true then some (.bl (cns.any anc.contains)) else none
def i_(f:Ce->W->Option W)(d:Sl->M W):Sl->M W:=fun sl=>au (d sl) fun w=>look fun ce=>f ce w
section
variable {E:XK} {p:Pos} {w:W} {v:V}
theorem rY{σ:VS.St}(S:SR (Gy K) F as H σ sl ce)(r:Rep F as w v)(h:kC ce w=some nm):∃a t,v=.ref a/\tgC t=some (clOf K nm)/\H a=some (.ext (XPhi a t)):=by
 unfold kC at h;split at h
 ·rename_i k;split at h
  ·rename_i nm' e;cases h;simp only[Rep] at r;obtain⟨a,rfl,ha⟩:=r;obtain⟨_,q⟩:=S.st.cell k a _ ha e;exact⟨a,_,rfl,rfl,q⟩
  ·rename_i nm' f n e;cases h;simp only[Rep] at r;obtain⟨a,rfl,ha⟩:=r;obtain⟨_,D,q,_⟩:=S.st.cell k a _ ha e;exact⟨a,_,rfl,rfl,q⟩
  ·cases h
 ·cases h
theorem qO{f:Ce->W->Option W}{x2:Expr}{t2:TE}(hK:X.K=K)(hx:PE X e (ar (Gy K) E d))(h2:PE X x2 t2)(hg:Gl X "isinstance")(hm:X.mg "isinstance" = none)(hf:∀F as H σ sl ce w w' v (Q:VK),SR (Gy K) F as H σ sl ce->Rep F as w v->f ce w=some w'->(∀H' v',(∀b o,H b=some o->H' b=some o)->SR (Gy K) F as H' σ sl ce->Rep F as w' v'->Q v' H')->t2 σ H fun u H2=>qd K [v,u] H2 Q)(he:starEach [e,x2] X.env=(false,eval e X.env)::starEach [x2] X.env:=by rfl)(he2:starEach [x2] X.env=(false,eval x2 X.env)::starEach [] X.env:=by rfl)(hpl:(backTo pos (starEach [x2] X.env)).any (·.1)=false:=by rfl) :
  PE X (.Call (.Name "isinstance" p) [e,x2] [] pos) (ar (Gy K) E (i_ f d)):=by
 refine PE.imp (xM (r:=qd K) (hK▸Eb) hg hm boot_isinstance (mh hx (mh h2 m9 he2) he) (he:=he) (hpl:=hpl)) fun σ H Q zz_=>bg zz_ fun F as sl ce S P=>?_;refine(step S P).mono fun v H1 zz_=>aW zz_ fun w F1 as1 ce1 l1 S1 r1 P1=>?_;obtain⟨w',e1,P2⟩:=iW P1;exact hf F1 as1 H1 σ sl ce1 w w' v Q S1 r1 e1 fun H' v' _ S' r'=>P2 v' H' F1 as1 .refl S' r'
theorem C6(hK:X.K=K)(T:XT K X.mg tb)(hin:tb.any (fun p=>p.1==cn)=true)(hx:PE X e (ar (Gy K) E d))(hg:Gl X "isinstance")(hm:X.mg "isinstance" = none)(hgc:Gl X cn)(hd:(cn==("__debug__" : Str))=false:=by decide)(he:starEach [e,.Name cn p2] X.env=(false,eval e X.env)::starEach [.Name cn p2] X.env:=by rfl)(he2:starEach [.Name cn p2] X.env=(false,eval (.Name cn p2) X.env)::starEach [] X.env:=by rfl)(hpl:(backTo pos (starEach [.Name cn p2] X.env)).any (·.1)=false:=by rfl) :
  PE X (.Call (.Name "isinstance" p) [e,.Name cn p2] [] pos) (ar (Gy K) E (i_ (fun ce w=>mH tb ce w cn) d)):=by
 obtain⟨q,hq,hqn⟩:=any_eq_true.mp hin;have hqn:=beq_iff_eq.mp hqn;have hmg:X.mg cn=some (.ref (clOf K cn)):=hqn▸T.mg q hq;refine qO hK hx (rP (v:=.ref (clOf K cn)) hgc hmg rfl hd) hg hm (fun F as H σ sl ce w w' v Q S r e1 k=>?_) he he2 hpl;unfold mH at e1;obtain⟨nm,h1,e1⟩:=bind_eq_some_iff.mp e1;obtain⟨anc,h2,e1⟩:=bind_eq_some_iff.mp e1;rw[if_pos hin] at e1;cases e1;obtain⟨a,tg,rfl,ht,ha⟩:=rY S r h1;obtain⟨t1,t2,t3⟩:=T.x (nB h2).choose_spec;exact⟨a,_,tg,ht,t1,ha,.inl ⟨_,_,rfl,hqn▸(t3 q hq).1,k H _ (fun _ _ z=>z) S (by simp only[Rep])⟩⟩
theorem C5(hK:X.K=K)(T:XT K X.mg tb)(hx:PE X e (ar (Gy K) E d))(hg:Gl X "isinstance")(hm:X.mg "isinstance" = none)(hgc:Gl X "ValueError")(hmv:X.mg "ValueError" = none)(he:starEach [e,.Name "ValueError" p2] X.env=(false,eval e X.env)::starEach [.Name "ValueError" p2] X.env:=by rfl)(he2:starEach [.Name "ValueError" p2] X.env=(false,eval (.Name "ValueError" p2) X.env)::starEach [] X.env:=by rfl)(hpl:(backTo pos (starEach [.Name "ValueError" p2] X.env)).any (·.1)=false:=by rfl) :
  PE X (.Call (.Name "isinstance" p) [e,.Name "ValueError" p2] [] pos) (ar (Gy K) E (i_ (fun ce w=>mG tb ce w) d)):=by
 refine qO hK hx (wR (v:=.ty "ValueError") hgc hmv (by decide +kernel) rfl) hg hm (fun F as H σ sl ce w w' v Q S r e1 k=>?_) he he2 hpl;unfold mG at e1;obtain⟨nm,h1,e1⟩:=bind_eq_some_iff.mp e1;obtain⟨anc,h2,e1⟩:=bind_eq_some_iff.mp e1;cases e1;obtain⟨a,tg,rfl,ht,ha⟩:=rY S r h1;obtain⟨t1,t2,t3⟩:=T.x (nB h2).choose_spec;exact⟨a,_,tg,ht,t1,ha,.inr (.inl ⟨_,_,rfl,t2,k H _ (fun _ _ z=>z) S (by simp only[Rep])⟩)⟩
def pY(X:Cx)(K:Frag)(es:List Expr)(cns:List Str):Prop:=PA X es (fun _ H Q=>Q (cns.map fun c=>V.ref (clOf K c)) H)
theorem C4:pY X K [] []:=m9
theorem ny(hm:X.mg cn=some (.ref (clOf K cn)))(hg:Gl X cn)(h:pY X K es cns)(hs:starEach (.Name cn p::es) X.env=(false,eval (.Name cn p) X.env)::starEach es X.env:=by rfl)(hd:(cn==("__debug__" : Str))=false:=by decide):pY X K (.Name cn p::es) (cn::cns) :=
 PA.imp (mh (rP (v:=.ref (clOf K cn)) hg hm rfl hd) h hs) fun σ H Q z=>z
theorem FJ{C:Value}{f:Str->Bool}(h:∀c∈cns,kitOne K C (.ref (clOf K c))=some (f c)):kitAny K C (cns.map fun c=>Value.ref (clOf K c))=some (cns.any f):=by
 induction cns with
 | nil=>rfl
 | cons c r ih =>
  simp only[map_cons,kitAny,h c mem_cons_self,any_cons];cases f c with
  | true=>rfl
  | false=>simpa using ih fun c hc=>h c (mem_cons_of_mem _ hc)
theorem C3{x1}(hK:X.K=K)(T:XT K X.mg tb)(hin:(cns.all fun cn=>tb.any fun p=>p.1==cn)=true)(hl:cns.length<=sizeLine)(hx:PE X e (ar (Gy K) E d))(hcs:pY X K es cns)(hg:Gl X "isinstance")(hm:X.mg "isinstance" = none)(he:starEach [e,.Tuple es x1 p2] X.env=(false,eval e X.env)::starEach [.Tuple es x1 p2] X.env:=by rfl)(he2:starEach [.Tuple es x1 p2] X.env=(false,eval (.Tuple es x1 p2) X.env)::starEach [] X.env:=by rfl)(hpl:(backTo pos (starEach [.Tuple es x1 p2] X.env)).any (·.1)=false:=by rfl) :
  PE X (.Call (.Name "isinstance" p) [e,.Tuple es x1 p2] [] pos) (ar (Gy K) E (i_ (fun ce w=>mF tb ce w cns) d)):=by
 refine qO hK hx (vK hcs) hg hm (fun F as H σ sl ce w w' v Q S r e1 k=>?_) he he2 hpl;unfold mF at e1;obtain⟨nm,h1,e1⟩:=bind_eq_some_iff.mp e1;obtain⟨anc,h2,e1⟩:=bind_eq_some_iff.mp e1;rw[if_pos hin] at e1;cases e1;obtain⟨a,tg,rfl,ht,ha⟩:=rY S r h1;obtain⟨t1,t2,t3⟩:=T.x (nB h2).choose_spec;refine⟨by rw[length_map];exact hl,fun tp htp=>?_⟩;have keep:∀b o,H b=some o->upd H tp (.tup (cns.map fun c=>V.ref (clOf K c))) b=some o:=fun b o q=>by rw[bH (ee q htp)];exact q
 obtain⟨S2,l2⟩:av (Gy K) F as (upd H tp (.tup (cns.map fun c=>V.ref (clOf K c)))) ce/\True:=by refine⟨⟨fun b o q=>keep b o (S.st.sub b o q),S.st.nd,S.st.len,fun j b c q1 q2=>?_⟩,trivial⟩;obtain⟨z1,z2⟩:=S.st.cell j b c q1 q2;obtain⟨o,ho⟩:=z2.tracked;exact⟨z1,z2.le .refl (by rw[ho];exact keep b o ho)⟩
 have hS:SR (Gy K) F as (upd H tp (.tup (cns.map fun c=>V.ref (clOf K c)))) σ sl ce:=⟨S2,S.len,S.slot⟩
 have hka:∀c∈cns,kitOne K (.ref (clOf K nm)) (.ref (clOf K c))=some (anc.contains c):=fun c hc=>by
  obtain⟨q,hq,hqn⟩:=any_eq_true.mp (all_eq_true.mp hin c hc);have hqn:=beq_iff_eq.mp hqn;exact hqn▸(t3 q hq).1
 exact⟨a,_,tg,ht,t1,keep a _ ha,.inr (.inr ⟨tp,cns.map (clOf K),_,rfl,by rw[cU,map_map];rfl,by rw[map_map];exact FJ (f:=anc.contains) hka,k _ _ keep hS (by simp only[Rep])⟩)⟩
end
theorem XT.at(T:XT K mg tb)(h:tb.any (fun p=>p.1==cn)=true):mg cn=some (.ref (clOf K cn)):=by obtain⟨q,hq,hqn⟩:=any_eq_true.mp h;exact beq_iff_eq.mp hqn▸T.mg q hq
theorem AS(F:ax P w K mg base (aZ P w) k f fd ps sp):ax P w K mg base CX0 k f fd ps (fun vs H Q _=>sp vs H Q E0):=by
 refine⟨fun vs H Q E h=>F.len vs H Q E0 h,fun A outer s H args us vs Q E hr he hb hv hs=>codeAny_mono (F.run A outer s H args us vs Q E0 hr he hb hv hs) fun r s' h=>?_⟩;cases r with
 | error e=>obtain⟨_,_,_,_,_,_,_,_,_,z⟩:=h;exact z
 | ok fl=>cases fl<;>exact h
theorem C2{G:Frag->Ga}{d:List W->M W}(nl:nK K=true)(h:ax P w K mg base (aZ P w) k f fd ps (fq (G K) (fun E=>E) 1 d)):ax P w K mg base CX0 k f fd ps (spLaw G d K):=(AS h).imp fun _ _ _ _ q=>q nl
def Xt(T:cJ->Ce->Prop):O->Prop
 | .ex x ce=>T x ce
 | _=>False
section
variable {a b:DS} {x:cJ}
theorem FI(h:l.all (k8 sl)=true)(q:Q (.ex ⟨nm,none⟩ ce)):Run (eW nm l) sl ce Q:=⟨_,by unfold eW;rw[if_pos h],q⟩
theorem wA(h:Run a sl ce (Xt fun x c=>Q (.ex x c))):Run (aq a b) sl ce Q:=by
 obtain⟨o,e,q⟩:=h;cases o with
 | ex x c=>exact⟨_,by simp only[aq,e],q⟩
 | go f sl' c=>exact(show False from q).elim
theorem pA(h:l.all (k8 sl)=true)(q:Q (.ex ⟨nm,none⟩ ce)):Run (aq (eW nm l) b) sl ce Q:=wA (FI h q)
variable {f:List W->M W} {e:Sl->M W}
theorem Ea(h:ra sl ce=some (.ok ws c1))(hn:ws.length=n)(hf:f ws c1=some (.ex x ce)):aV n f ra sl ce=some (.ex x ce):=by simp only[aV,au,h,hn,if_true,hf]
theorem iJ{α:Type}{d:Sl->M α}{v:α}(h:d sl ce=some (.ok v c1)):dw d sl ce=some (.ok v c1):=by simp only[dw,noX,h]
theorem nv(sl:Sl)(e:ws.map some++List.replicate (n-ws.length) none=sl)(h:Run body sl ce (Xt fun y c'=>y=x/\∃t,c'=ce++t)):bE fin n body ws ce=some (.ex x ce):=by
 subst e;obtain⟨o,e,q⟩:=h;cases o with
 | go f sl' c=>exact(show False from q).elim
 | ex y c =>
  obtain⟨rfl,t,rfl⟩:=q;have hc:fB ce (ce++t):=⟨by simp,fun k c hk e=>.inl (by rw[getElem?_append_left hk] at e;exact e)⟩
  simp only[bE,e];rw[if_pos hc];simp
theorem xx{c:Sl->M W}{put:Option Nat}{ok:cJ->Bool}{w:W}(h:c sl ce=some (.ok w c1))(q:Run b (uf put sl w) c1 Q):Run (aq (fv c put ok hd) b) sl ce Q:=hV (by simp only[fv,h]) q
theorem xw{c:Sl->M W}{put:Option Nat}{ok:cJ->Bool}(h:c sl ce=some (.ex x c1))(hok:ok x=true)(e:hd x sl c1=some (.go .nx sl' c2))(q:Run b sl' c2 Q):Run (aq (fv c put ok hd) b) sl ce Q :=
 hV (by simp only[fv,h];rw[if_pos hok];exact e) q
variable {α:Type} {en:α->W} {src:Src} {g:DG} {zs:List α}
end
end VS
namespace L2
end L2
namespace VS
section
variable {E:XK}
end
end VS
namespace L2
end L2
namespace VS
section
variable {E:XK}
end
end VS
namespace HT
end HT
variable {ts:TO} {te:TE}
namespace L2
section
variable {st:Expr}
end
end L2
variable {dc:Sl->M W}
namespace VS
section
variable {E:XK} {a:Expr}
end
theorem us1(h:∀a,bindArgs fd { pos:=[a] }=pure (ps.zip [a])):∀us:List Value,us.length=1->bindArgs fd { pos:=us }=pure (ps.zip us)
 | [a],_=>h a
theorem us2(h:∀a b,bindArgs fd { pos:=[a,b] }=pure (ps.zip [a,b])):∀us:List Value,us.length=2->bindArgs fd { pos:=us }=pure (ps.zip us)
 | [a,b],_=>h a b
theorem us3(h:∀a b c,bindArgs fd { pos:=[a,b,c] }=pure (ps.zip [a,b,c])):∀us:List Value,us.length=3->bindArgs fd { pos:=us }=pure (ps.zip us)
 | [a,b,c],_=>h a b c
theorem us4(h:∀a b c d,bindArgs fd { pos:=[a,b,c,d] }=pure (ps.zip [a,b,c,d])):∀us:List Value,us.length=4->bindArgs fd { pos:=us }=pure (ps.zip us)
 | [a,b,c,d],_=>h a b c d
theorem us5(h:∀a b c d e,bindArgs fd { pos:=[a,b,c,d,e] }=pure (ps.zip [a,b,c,d,e])):∀us:List Value,us.length=5->bindArgs fd { pos:=us }=pure (ps.zip us)
 | [a,b,c,d,e],_=>h a b c d e
section
variable {κ:Type} [DecidableEq κ] {kvs:List (κ×W)} {ps:List (κ×V)}
end
section
variable {w:W} {v:V}
end
section
variable {E:XK} {a b c:Expr}
end
section
variable {a b o i:Sl->M W} {x w:W}
end
end VS
namespace L2
open PySem.MeetsSeq
open PySem.AutoSeq1 (wpAny_loadPart')
end L2
namespace VS
section
variable {E:XK}
end
end VS
namespace L2
section
variable {st:Expr}
end
end L2
namespace VS
section
variable {E:XK} {a:Expr}
end
end VS
namespace L2
def Il(xs:Array Nat):Prop:=xs.toList.Pairwise (·<·)
structure Ik (t:SetTable):Prop where
 dum:t.dummies=#[]
 ris:t.plain=true->Il t.place
end L2
variable {t:SetTable} {I:Addr} {ep:Nat} {pos2:Pos}
namespace L2
def iv:Value->Int
 | .int k _=>k
 | _=>0
section
variable {ds:List Int} {led:Bool}
def Io(prog:Program)(w:World)(h:Heap)(a:Addr)(ds:List Int)(led:Bool):Prop :=
 ∃o es ep t,h.get? a=some o/\o.ExactSet/\o.data=.set es ep t/\ElemsOf (intKind prog w) es.toList/\es.size<scanBound/\t.fits es.size=true/\Ik t/\t.led=led/\(∀e∈es.toList,∃k tk,e.2=.int k tk)/\(es.toList.map fun e=>iv e.2).Perm ds
end
section
variable {R:Result->Shared->Prop} {fp wr:List Addr} {G:Array GenState->Array GenState->Prop} {P:Nat->Value->Prop} {St:Nat->Shared->Prop}
end
section
variable {o:Obj} {es:Array (Int×Value)}
end
section
variable {T:Addr} {o:Obj} {es:Array (Int×Value)} {sl sl':Nat} {x:Value} {Q:Option Value->Shared->Prop}
end
section
variable {T:Addr} {o:Obj} {es:Array (Int×Value)} {ds:List Int}
end
section
variable {ds:List Int}
end
section
variable {t:TA} {p:Pos}
end
end L2
namespace VS
section
variable {E:XK} {p:Pos}
end
end VS
namespace L2
open PySem.AutoSeq1 (wpAny_loadPart')
end L2
namespace L2
open PySem.MeetsSeq PySem.MeetsSeq3
open PySem.AutoSeq1 (wpAny_loadPart')
end L2
namespace L2
end L2
namespace VS
section
variable {E:XK}
end
section
variable {E:XK} {a b c:Expr}
end
section
variable {E:XK}
end
end VS
variable {p1 tpos:Pos}
namespace L2
theorem yR{M:Model}(X:K.In h)(xs:XC K S):PySem.W.Looks M h (isExcClass (.ref S)) true:=by
 obtain⟨bm,N,nm,qn,bs,hdct,sn,sub,ab,col,dd,k0,k1,k2,k3,k5,mN,hC,hN,hni,T⟩:=xs.obj X;have hcB:(Value.ref S::bm).contains (.type "BaseException")=true:=by rw[contains_cons,T.hasType excBase_ValueError.hasBase,Bool.or_true]
 intro A Q E s k q;obtain⟨hh,g,d,tk,os⟩:=s;have k:∀b o,h.get? b=some o->hh.get? b=some o:=k;have hC:=k _ _ hC;have f:=tc_notTuple;unfold isExcClass
 repeat (first|with_reducible refine wpAny_loadPart_at hC ?_|(with_reducible refine wpAny_isSubtype_exc hC ?_;rw[hcB])|wp_step)
 exact q
open PySem.W in
theorem HM{M:Model}{Q:Bool->Shared->Prop}{C S1 S2 tp:Addr}{b1 b2:Bool}(X:K.In s.heap)(he:s.heap.get? a=some oe)(hcls:oe.cls=.ref C)(x1:XC K S1)(x2:XC K S2)(hp:s.heap.get? tp=some { cls:=.type "tuple",data:=.seq [Value.ref S1,.ref S2].toArray })(m1:mroIn K C (.ref S1)=some b1)(m2:mroIn K C (.ref S2)=some b2)(h:Q (b1||b2) s):wpAny M A (excMatches (.ref a) (.ref tp)) Q E s:=by
 have e1:=yR (M:=M) X x1;have e2:=yR (M:=M) X x2;have S1':=PySem.W.looks_mroIn (M:=M) X m1;have S2':=PySem.W.looks_mroIn (M:=M) X m2;have LT0:Looks M s.heap (isInstance (.ref tp) (.type "tuple")) true:=((Looks.ld hp).andThen .now).andThen (Looks.of_pure isSubtype_tuple_tuple);have LT:Looks M s.heap (typeOf (.ref a)) (.ref C):=by rw[<- hcls];exact(Looks.ld he).andThen .now
 obtain⟨hh,g,d,tk,os⟩:=s;unfold excMatches;refine wpAny_bind (LT0.at ?_);dsimp only;rw[if_pos rfl]
 first
  | refine wpAny_bind (wpAny_seqItems hp rfl ?_)
  | refine wpAny_bind (wpAny_bind (wpAny_seqItems hp rfl (wpAny_pure ?_)))
 dsimp only[getD_some,Option.getD];cases b1<;>cases b2<;>((repeat (first|simp only[forIn_cons,forIn_nil,Bool.not_true,false_eq_true,if_false,if_true]|lk));exact h)
theorem Fl.push{cls:Value}{o:Obj}{x:HO}(f:Fl N a cls H h):Fl N a cls (upd H h.objs.size x) (h.push o):=by obtain⟨oe,vs,a0,n,h1,h2,h3,h4,h5,h6⟩:=f;refine⟨oe,vs,a0,n,by rw[bH (ne_of_lt (Heap.lt_size h2))];exact h1,Heap.get?_push_of_some _ h2,h3,h4,h5,h6.imp id ?_⟩;rintro⟨T,oT,ts,e1,e2,e3,e4,e5,e6⟩;exact⟨T,oT,ts,e1,e2,by rw[bH (ne_of_lt (Heap.lt_size e5))];exact e3,e4,Heap.get?_push_of_some _ e5,e6⟩
theorem AR{S1 S2:Addr}{c1 c2:Str}{x1}{ts:TS}(g1:Gl X c1)(m1:X.mg c1=some (.ref S1))(s1:XC X.K S1)(g2:Gl X c2)(m2:X.mg c2=some (.ref S2))(s2:XC X.K S2)(hs:∀a,PSs (X.hnd a) (b0::suite) ts)(d1:(c1==("__debug__" : Str))=false:=by decide)(d2:(c2==("__debug__" : Str))=false:=by decide)(st1:starEach [.Name c1 p1,.Name c2 p2] X.env=(false,eval (.Name c1 p1) X.env)::starEach [.Name c2 p2] X.env:=by rfl)(st2:starEach [.Name c2 p2] X.env=(false,eval (.Name c2 p2) X.env)::starEach [] X.env:=by rfl) :
  PH X (.ExceptHandler (some (.Tuple [.Name c1 p1,.Name c2 p2] x1 tpos)) none (b0::suite) hpos) (fun cls D σ H=>(∃C q1 q2,VS.tgC cls=some C/\mroIn X.K C (.ref S1)=some q1/\mroIn X.K C (.ref S2)=some q2/\(q1||q2)=true)/\∀t,H t=none->ts D σ (upd H t (.tup [V.ref S1,V.ref S2]))):=by
 intro pins s σ H D a cls I fl ⟨⟨C,q1,q2,hC,r1,r2,hq12⟩,hq⟩;refine wpAny_handleBy_cons (codeAny_handlers_test (wpAny_Tuple_spliced ?_)) (by intro q;cases q);show wpAny _ _ (spliced (backTo tpos (starEach [.Name c1 p1,.Name c2 p2] (X.hnd a).env))) _ _ s;have st1:starEach [.Name c1 p1,.Name c2 p2] (X.hnd a).env=(false,eval (.Name c1 p1) (X.hnd a).env)::starEach [.Name c2 p2] (X.hnd a).env:=st1;have st2:starEach [.Name c2 p2] (X.hnd a).env=(false,eval (.Name c2 p2) (X.hnd a).env)::starEach [] (X.hnd a).env:=st2;rw[st1];refine Calls.spliced_cons (iS (X:=X.hnd a) (I.hnd a) g1 m1 ?_ d1);rw[st2];refine Calls.spliced_cons (iS (X:=X.hnd a) (I.hnd a) g2 m2 ?_ d2);refine Calls.spliced_nil ⟨(show 2<=sizeLine by decide),?_⟩;obtain⟨oe,vs,a0,_,_,he,hc,_⟩:=id fl;have I':Inv X pins σ (upd H s.heap.objs.size (.tup [V.ref S1,V.ref S2])) { s with heap:=s.heap.push { cls:=.type "tuple",data:=.seq [Value.ref S1,.ref S2].toArray } } :=
  I.laid (t':=s.toks) (fun b u e=>Heap.get?_push_of_some _ e) (le_refl _) ⟨(show 2<=sizeLine by decide),[.ref S1,.ref S2],.cons rfl (.cons rfl .nil),⟨_,Heap.get?_push_size _ rfl,rfl,⟨_,rfl⟩,rfl⟩⟩
 refine HM I'.kIn (Heap.get?_push_of_some _ he) (hc.cls hC) s1 s2 (Heap.get?_push_size _ rfl) r1 r2 ?_;rw[hq12];have hf:H s.heap.objs.size=none:=I.hok.fresh (le_refl _);exact codeAny_handlers_suite (zf (fl.push (x:=.tup [V.ref S1,V.ref S2])) (wpAny_mono (hs a pins _ σ _ D (I'.hnd a) (hq _ hf)) (fun f s2 z=>z.unhnd I.ok) fun _ _ z=>z.elim))
end L2
variable {tb:ir}
namespace VS
section
variable {E:XK} {c1 c2:Str} {ds:DS}
theorem yH(T:XT K mg tb){x:cJ}(h:iH tb x.nm=some anc){an:List Str}(hc:kr tb cn=some an):mroIn K (clOf K x.nm) (.ref (clOf K cn))=some (anc.contains cn) :=
 ((T.x (nB h).choose_spec).2.2 _ (nA hc)).2
theorem AQ{a1 a2:List Str}{x1}(hK:X.K=K)(T:XT K X.mg tb)(h1:kr tb c1=some a1)(h2:kr tb c2=some a2)(g1:Gl X c1)(g2:Gl X c2)(hs:∀a,PSs (X.hnd a) (b0::suite) (cT (Gy K) E0 ds))(d1:(c1==("__debug__" : Str))=false:=by decide)(d2:(c2==("__debug__" : Str))=false:=by decide)(st1:starEach [.Name c1 p1,.Name c2 p2] X.env=(false,eval (.Name c1 p1) X.env)::starEach [.Name c2 p2] X.env:=by rfl)(st2:starEach [.Name c2 p2] X.env=(false,eval (.Name c2 p2) X.env)::starEach [] X.env:=by rfl) :
  pV K E X (.ExceptHandler (some (.Tuple [.Name c1 p1,.Name c2 p2] x1 tpos)) none (b0::suite) hpos) (fun x=>gD tb c1 x||gD tb c2 x) (fun _=>nQ ds):=by
 have e1:=nA h1;have e2:=nA h2;refine⟨_,AR g1 (T.mg _ e1) (by rw[hK];exact T.xc e1) g2 (T.mg _ e2) (by rw[hK];exact T.xc e2) hs d1 d2 st1 st2,fun D σ H F as sl ce x cv S xr hx P=>?_⟩;obtain⟨anc,ha⟩:∃anc,iH tb x.nm=some anc:=by
  cases q:iH tb x.nm with
  | some anc=>exact⟨anc,rfl⟩
  | none=>simp only[gD,q] at hx;cases hx
 refine⟨⟨_,anc.contains c1,anc.contains c2,ve xr,by rw[hK];exact yH T ha h1,by rw[hK];exact yH T ha h2,by simp only[gD,ha,or_eq_true,and_eq_true] at hx;rw[or_eq_true];exact hx.imp And.left And.left⟩,fun t ht=>?_⟩;have keep:∀b o,H b=some o->upd H t (.tup [V.ref (clOf K c1),V.ref (clOf K c2)]) b=some o:=fun b o q=>by rw[bH (ee q ht)];exact q
 have S2:av (Gy K) F as (upd H t (.tup [V.ref (clOf K c1),V.ref (clOf K c2)])) ce:=by refine⟨fun b o q=>keep b o (S.st.sub b o q),S.st.nd,S.st.len,fun j b c q1 q2=>?_⟩;obtain⟨z1,z2⟩:=S.st.cell j b c q1 q2;obtain⟨o,ho⟩:=z2.tracked;exact⟨z1,z2.le .refl (by rw[ho];exact keep b o ho)⟩
 exact⟨F,as,sl,ce,⟨S2,S.len,S.slot⟩,Fv P⟩
end
end VS
variable {ta:TE} {us:List Value} {pl:Sem Bool}
namespace L2
section
variable {C:Addr} {x m:Str} {p:Pos} {o:Expr} {t:TA}
theorem C1{σ:St}{Q:VK}{E:XK}{vs:List V}(F:ax X.prog X.w X.K X.mg X.base (aZ X.prog X.w) k f fd ps sp)(hr:aO k X.A)(hex:X.ex=[])(hb:Binds X.K fd ps [])(I:Inv X pins σ H s)(r:Vals vs us)(q:sp vs H Q E):wpAny (model X.prog X.w) X.A (call (.ref f) us) (EP X pins σ Q) (XP X pins σ E) s:=by
 have hl:(us++[]).length=ps.length:=by rw[append_nil,<- r.length];exact F.len _ _ _ _ q
 have hb':=hb s us I.kIn hl;rw[append_nil] at hb';refine wpAny_call (codeAny_mono (F.run X.A X.stack s H ⟨us,[]⟩ us vs Q E hr I.env0 hb' r q) fun r s' hq=>?_);cases r with
 | error e =>
  obtain⟨a,cls,H',rfl,ho,hgn,u,hok,fl,z⟩:=hq;exact⟨a,cls,H',rfl,I.call' ho u hok hgn (fun b z=>absurd z (by simp)),fl.mono fun b hb=>kD hex I hb,z⟩
 | ok fl =>
  cases fl with
  | ret u=>exact I.after hq
  | next=>exact False.elim hq
  | brk=>exact False.elim hq
  | cont=>exact False.elim hq
theorem D_(he:PE X.nox o ta)(c:Cls X.K C)(hm:Meth X.K C m f)(F:ax X.prog X.w X.K X.mg X.base (aZ X.prog X.w) k f fd ps sp)(hr:aO k X.A)(hex:X.ex=[])(hb:Binds X.K fd ps [])(ha:PA X.nox (e::es) t)(hst:starEach (e::es) X.env=(false,eval e X.env)::starEach es X.env:=by rfl)(hpl:(backTo pos (starEach es X.env)).any (·.1)=false:=by rfl)(ht:eval (.Call (.Attribute o m apos) (e::es) [] pos) X.env=(do
   let ov <- eval o X.env
   standAt apos.atName
   let (f,first) <- holding [ov] (getMethod ov m pl)
   callWith pos f first (backTo pos (starEach (e::es) X.env)) (backToKw pos (keywordEach [] X.env))):=by rfl) :
  pX X (.Call (.Attribute o m apos) (e::es) [] pos) (fun E=>fun σ H Q=>ta σ H fun x H1=>∃a dx fs,x=.ref a/\H1 a=some (.ins C dx fs)/\fs.lookup m=none/\t σ H1 fun vs H2=>sp (x::vs) H2 Q E):=by
 intro pins s σ H Q E I h;refine methodCall_KW (pl:=pl) (wpAny_mono (he pins s σ H _ (I.wish _) h) (fun u s1 ⟨x,H1,I1,rx,a,dx,fs,ex,ea,l,q⟩=>?_) fun _ _ z=>z.elim) ht;subst ex;obtain rfl:u=Value.ref a:=rx;have I1:=I1.unwish;refine sY I1 ea c hm l ?_;refine callWith_K (first:=[.ref a]) (h₀:=X.base) I.ok.mod.kin hm.kp (wpAny_mono (ha pos pins s1 σ H1 _ (I1.wish _) q) (fun us s2 ⟨vs,H2,I2,r,q2⟩=>⟨I2.unwish.kIn,?_⟩) fun _ _ z=>z.elim) hst hpl;exact C1 (us:=.ref a::us) (vs:=.ref a::vs) F hr hex hb I2.unwish (.cons rfl r) q2
end
end L2
variable {value:Expr}
namespace VS
def putA(f:Str)(v:W):List (Str×W)->List (Str×W)
 | []=>[(f,v)]
 | (g,x)::r=>if g=f then (g,v)::r else (g,x)::putA f v r
section
variable {fs:List (Str×W)} {ps:List (Str×V)}
theorem az.look{w:W}{f:Str}(r:az F as fs ps)(e:fs.lookup f=some w):∃v,ps.lookup f=some v/\Rep F as w v:=by
 induction r with
 | nil=>cases e
 | @cons p q l1 l2 h t ih =>
  obtain⟨a,x⟩:=p;obtain⟨b,y⟩:=q;obtain⟨e1,rv⟩:=h;dsimp only at e1 rv;subst e1;rw[lookup_cons] at e ⊢;split at e
  ·rename_i h;cases e;exact⟨y,rfl,rv⟩
  ·rename_i h;exact ih e
theorem az.lookN{f:Str}(r:az F as fs ps)(e:fs.lookup f=none):ps.lookup f=none:=by
 induction r with
 | nil=>rfl
 | @cons p q l1 l2 h t ih =>
  obtain⟨a,x⟩:=p;obtain⟨b,y⟩:=q;obtain⟨e1,rv⟩:=h;dsimp only at e1 rv;subst e1;rw[lookup_cons] at e ⊢;split at e
  ·cases e
  ·exact ih e
theorem az.putA{w:W}{v:V}(r:az F as fs ps)(f:Str)(rv:Rep F as w v):az F as (VS.putA f w fs) (eU f v ps):=by
 induction r with
 | nil=>exact .cons ⟨rfl,rv⟩ .nil
 | @cons p q l1 l2 h t ih =>
  obtain⟨a,x⟩:=p;obtain⟨b,y⟩:=q;obtain⟨e1,rx⟩:=h;dsimp only at e1 rx;subst e1;simp only[VS.putA,eU];split
  ·exact .cons ⟨rfl,rv⟩ t
  ·exact .cons ⟨rfl,rx⟩ ih
end
def jh(ce:Ce)(c:Str):W->Option (Nat×List (Str×W))
 | .cel k=>match ce[k]? with
  | some (.ins c' fs)=>if c'=c then some (k,fs) else none
  | _=>none
 | _=>none
section
variable {E:XK} {σ:VS.St} {w:W} {v:V} {c:Str} {fs:List (Str×W)}
theorem rX(S:av G F as H ce)(r:Rep F as w v)(h:jh ce c w=some (k,fs)):∃a dx ps,v=.ref a/\as[k]?=some a/\H a=some (.ins (G.cl c) dx ps)/\az F as fs ps:=by
 unfold jh at h;split at h
 ·rename_i j;split at h
  ·rename_i c' fs' e;split at h
   ·rename_i hc;cases h;subst hc;simp only[Rep] at r;obtain⟨a,rfl,ha⟩:=r;obtain⟨_,dx,ps,h1,h2⟩:=S.cell _ a _ ha e;exact⟨a,dx,ps,rfl,ha,h1,h2⟩
   ·cases h
  ·cases h
 ·cases h
end
def cC(c f:Str)(d:Sl->M W):Sl->M W:=fun sl=>au (d sl) fun x=>look fun ce=>match jh ce c x with
 | some p=>p.2.lookup f
 | none=>none
def hJ(c f:Str)(d v:Sl->M W):DS:=fun sl ce=>bY (v sl ce) fun w ce1=>bY (d sl ce1) fun x ce2=>match jh ce2 c x with
 | some (k,fs)=>if fs.length<1000 then some (.go .nx sl (ce2.set k (.ins c (putA f w fs)))) else none
 | none=>none
def bj(c m:Str)(n:Nat)(df:List W->M W)(d:Sl->M W)(dr:Sl->M (List W)):Sl->M W:=fun sl=>au (d sl) fun x=>au (look fun ce=>match jh ce c x with
 | some p=>if p.2.lookup m=none then some () else none
 | none=>none) fun _=>au (dr sl) fun ws=>if ws.length+1=n then df (x::ws) else jn
def qx(k:Nat):Option (R W)->Option (R W)
 | some (.ok .non ce')=>some (.ok (.cel k) ce')
 | some (.ex x ce')=>some (.ex x ce')
 | _=>none
def lM(c:Str)(n:Nat)(df:List W->M W)(dr:Sl->M (List W)):Sl->M W:=fun sl=>au (dr sl) fun ws ce=>if ws.length+1=n then qx ce.length (df (.cel ce.length::ws) (ce++[.ins c []])) else none
section
variable {E E1:XK} {x c m:Str} {p:Pos} {o:Expr} {dv:Sl->M W}
theorem eG(hc:L2.Cls X.K (G.cl c))(hn:L2.NoAttr X.K (G.cl c) m)(he:PE X e (ar G E d))(hb:attributeBase e m X.env (eval e X.env)=eval e X.env:=by rfl):PE X (.Attribute e m pos) (ar G E (cC c m d)):=by
 refine PE.imp (Bt he hb) fun σ H Q zz_=>bg zz_ fun F as sl ce S P=>(step S P).mono fun x H1 zz_=>aW zz_ fun wx F1 as1 ce1 l1 S1 rx P1=>?_;obtain⟨w,e1,P2⟩:=iW P1;split at e1
 ·rename_i q hq;obtain⟨j,fs⟩:=q;obtain⟨a,dx,ps,rfl,ha,hH,rk⟩:=rX S1.st rx hq;obtain⟨v,e4,rv⟩:=rk.look e1;exact⟨a,_,dx,ps,v,rfl,hH,hc,hn,e4,P2.done S1 rv⟩
 ·cases e1
theorem lO(hc:L2.Cls X.K (G.cl c))(hn:L2.NoAttr X.K (G.cl c) m)(ho:PE X o (ar G E d))(hv:PE X value (ar G E dv))(hs:swapsWith value (some (.Attribute o m pos')) pos.line X.env=pure false:=by rfl) :
  PS X (.Assign [.Attribute o m pos'] value pos) (cT G E (hJ c m d dv)):=by
 refine PS.imp (Bs ho hv hs) fun D σ H zz_=>bg zz_ fun F as sl ce S P=>(fC S P).mono fun y H1 zz_=>aW zz_ fun wy F1 as1 ce1 l1 S1 ry P1=>(fC S1 P1).mono fun x H2 zz_=>aW zz_ fun wx F2 as2 ce2 l2 S2 rx P2=>?_;split at P2
 ·rename_i j fs hq;split at P2
  ·rename_i hl;obtain⟨a,dx,ps,rfl,ha,hH,rk⟩:=rX S2.st rx hq;refine⟨a,_,dx,ps,rfl,hH,hc,hn,by rw[<- Paired.length rk];exact hl,?_⟩;exact P2 _ _ _ _ .refl (S2.slots (S2.st.write (o:=.ins (G.cl c) dx (eU m y ps)) (c:=.ins c (putA m wy fs)) ha ⟨_,_,cU,rk.putA m (ry.le l2)⟩) .refl)
  ·exact(show False from P2).elim
 ·exact(show False from P2).elim
theorem rW{σ:VS.St}{Q:VK}(S:SR G F as H σ sl ce)(P:aG G E Rep F as σ sl Q (bj c m n df d dr sl ce)) :
  ar G E d σ H fun x H1=>∃a dx fs,x=.ref a/\H1 a=some (.ins (G.cl c) dx fs)/\fs.lookup m=none/\eT G E dr σ H1 fun vs H2=>vs.length+1=n/\∃F2 as2 ws ce2,SR G F2 as2 H2 σ sl ce2/\ag F2 as2 ws (x::vs)/\aG G E Rep F2 as2 σ sl Q (df ws ce2):=by
 refine(step S P).mono fun x H1 zz_=>aW zz_ fun wx F1 as1 ce1 l1 S1 rx P1=>?_;unfold au at P1;unfold look at P1;dsimp only at P1;split at P1
 ·rename_i u ce' e1;cases hq:jh ce1 c wx with
  | none=>rw[hq] at e1;cases e1
  | some q =>
   obtain⟨j,fs⟩:=q;rw[hq] at e1;dsimp only at e1;split at e1
   ·rename_i hl;cases e1;obtain⟨a,dx,ps,rfl,ha,hH,rk⟩:=rX S1.st rx hq;refine⟨a,dx,ps,rfl,hH,rk.lookN hl,?_⟩;refine(step (RP:=ag) S1 P1).mono fun vs H2 zz_=>aW zz_ fun ws F2 as2 ce2 l2 S2 rs P2=>?_;split at P2
    ·rename_i hn;exact⟨by rw[rs.length];exact hn,F2,as2,wx::ws,ce2,S2,.cons (rx.le l2) rs,P2⟩
    ·exact(show False from P2).elim
   ·cases e1
 ·rename_i e1;cases hq:jh ce1 c wx with
  | none=>rw[hq] at e1;cases e1
  | some q=>rw[hq] at e1;dsimp only at e1;split at e1<;>cases e1
 ·exact P1.elim
theorem kO(hc:L2.Cls X.K (G.cl c))(hm:L2.Meth X.K (G.cl c) m f)(Fk:ax X.prog X.w X.K X.mg X.base CX k f fd ps (fq G fe n df))(hr:aO k X.A)(hb:Binds X.K fd ps [])(hx:fO CX X E1)(he:PE X o (ar G E d))(ha:PA X (e::es) (eT G E dr))(hfe:fe E1=E:=by rfl)(hst:starEach (e::es) X.env=(false,eval e X.env)::starEach es X.env:=by rfl)(hpl:(backTo pos (starEach es X.env)).any (·.1)=false:=by rfl)(ht:eval (.Call (.Attribute o m apos) (e::es) [] pos) X.env=(do
   let ov <- eval o X.env
   standAt apos.atName
   let (f,first) <- holding [ov] (getMethod ov m pl)
   callWith pos f first (backTo pos (starEach (e::es) X.env)) (backToKw pos (keywordEach [] X.env))):=by rfl) :
  PE X (.Call (.Attribute o m apos) (e::es) [] pos) (ar G E (bj c m n df d dr)):=by
 refine PE.imp (Dx he hc hm Fk hr hb .nil hx ha hst hpl ht) fun σ H Q zz_=>bg zz_ fun F as sl ce S P=>(rW S P).mono fun x H1 h=>?_;obtain⟨a,dx,fs,e1,e2,e3,h⟩:=h;refine⟨a,dx,fs,e1,e2,e3,h.mono fun vs H2 h=>?_⟩;obtain⟨hn,F2,as2,ws,ce2,S2,rs,P2⟩:=h;rw[append_nil];exact⟨hn,F2,as2,ws,ce2,S2.st,rs,by rw[hfe];exact c8.of S2 P2⟩
theorem cV(hc:L2.Cls X.K (G.cl c))(hm:L2.Meth X.K (G.cl c) m f)(Fk:ax X.prog X.w X.K X.mg X.base CX k f fd ps (fq G fe n df))(hr:aO k X.A)(hb:Binds X.K fd ps [])(hx:fO CX X E1)(he:PE X o (ar G E d))(hfe:fe E1=E:=by rfl)(ht:eval (.Call (.Attribute o m apos) [] [] pos) X.env=(do
   let ov <- eval o X.env
   standAt apos.atName
   let (f,first) <- holding [ov] (getMethod ov m pl)
   callWith pos f first (backTo pos (starEach [] X.env)) (backToKw pos (keywordEach [] X.env))):=by rfl) :
  PE X (.Call (.Attribute o m apos) [] [] pos) (ar G E (bj c m n df d ai)):=by
 refine PE.imp (EN he hc hm Fk hr hb .nil hx ht) fun σ H Q zz_=>bg zz_ fun F as sl ce S P=>(rW S P).mono fun x H1 h=>?_;obtain⟨a,dx,fs,e1,e2,e3,h⟩:=h;refine⟨a,dx,fs,e1,e2,e3,?_⟩;obtain⟨F1,as1,sl1,ce1,S1,P1⟩:=h;obtain⟨hn,F2,as2,ws,ce2,S2,rs,P2⟩:=P1 [] H1 F1 as1 .refl S1 .nil;show fq G fe n df [x] H1 Q E1;exact⟨hn,F2,as2,ws,ce2,S2.st,rs,by rw[hfe];exact c8.of S2 P2⟩
theorem av.other{q:Addr}{ho:HO}(S:av G F as H ce)(hp:H q=none):av G F as (upd H q ho) ce:=by
 refine⟨fun a u e=>?_,S.nd,S.len,fun k a c' h1 h2=>?_⟩
 ·rw[bH (ee (S.sub _ _ e) hp)];exact S.sub _ _ e
 ·obtain⟨q1,q2⟩:=S.cell k a c' h1 h2;obtain⟨u,hu⟩:=q2.tracked;exact⟨q1,q2.le .refl (bH (ee hu hp))⟩
theorem D9{σ:VS.St}{Q:VK}{vs:List V}{x dx:Addr}(S:SR G F as H σ sl ce)(rs:ag F as ws vs)(hx:H x=none)(hdx:H dx=none)(hne:dx≠x)(hl:ws.length+1=n)(P:aG G E Rep F as σ sl Q (qx ce.length (df (.cel ce.length::ws) (ce++[.ins c []])))):fq G (fun _=>E) n df (.ref x::vs) (upd (upd H dx (.own x)) x (.ins (G.cl c) dx [])) (fun v H2=>v=.non/\Q (.ref x) H2) E:=by
 have hx':upd H dx (.own x) x=none:=by rw[bH (fun z=>hne z.symm)];exact hx
 obtain⟨S2,l2⟩:=(S.st.other (ho:=.own x) hdx).alloc (o:=.ins (G.cl c) dx []) hx' (c:=.ins c []) (fun as' _=>⟨dx,[],cU,.nil⟩);have hr:Rep F (as++[x]) (.cel ce.length) (.ref x):=by simp only[Rep];exact⟨x,rfl,by rw[<- S.st.len];simp⟩
 refine⟨by rw[length_cons,rs.length];exact hl,F,as++[x],_,_,S2,.cons hr (rs.le l2),?_⟩;revert P;cases df (.cel ce.length::ws) (ce++[.ins c []]) with
 | none=>exact fun P=>P
 | some r=>cases r with
  | ex y ce'=>exact fun P H' F' as' cv od l S' hx=>P H' F' as' cv od (l2.trans l) S' hx
  | ok w ce' =>
   cases w<;>first|exact fun P=>(show False from P).elim|skip
   intro P v H' F' as' l S' rv;simp only[Rep] at rv;exact⟨rv,P (.ref x) H' F' as' (l2.trans l) (S.slots S' (l2.trans l)) (hr.le l)⟩
theorem wu(M:L2.Mk X.K (G.cl c) f)(Fk:ax X.prog X.w X.K X.mg X.base CX k f fd ps (fq G fe n df))(hr:aO (k+1) X.A)(hg:Gl X c)(hm:X.mg c=some (.ref (G.cl c)))(hb:Binds X.K fd ps [])(hx:fO CX X E1)(ha:PA X (e::es) (eT G E dr))(hfe:fe E1=E:=by rfl)(hdb:(c==("__debug__" : Str))=false:=by decide)(he:starEach (e::es) X.env=(false,eval e X.env)::starEach es X.env:=by rfl)(hpl:(backTo pos (starEach es X.env)).any (·.1)=false:=by rfl) :
  PE X (.Call (.Name c p) (e::es) [] pos) (ar G E (lM c n df dr)):=by
 refine PE.imp (Dw M Fk hr hg hm hb .nil hx ha hdb he hpl) fun σ H Q zz_=>bg zz_ fun F as sl ce S P=>(step (RP:=ag) S P).mono fun vs H1 zz_=>aW zz_ fun ws F1 as1 ce1 l1 S1 rs P1=>?_;intro y dy hy hdy hne;split at P1
 ·rename_i hn;rw[append_nil];have q:=D9 S1 rs hy hdy hne hn P1;obtain⟨h1,F2,as2,ws2,ce2,S2,rs2,P2⟩:=q;exact⟨h1,F2,as2,ws2,ce2,S2,rs2,by rw[hfe];exact P2⟩
 ·exact(show False from P1).elim
end
section
variable {E:XK} {x c m:Str} {p:Pos} {o:Expr} {h:ExceptHandler} {ok:cJ->Bool}
theorem D8{σ:VS.St}{put:Option Nat}{g:Sl->M W}(hh:∀D σ H F as sl ce (x:cJ) (cv:Value),SR (Gy K) F as H σ sl ce->mw K x cv none F->ok x=true->aS (Gy K) E D F as (hd x sl ce)->th cv D σ H)(S:SR (Gy K) F as H σ sl ce)(P:aS (Gy K) E D F as (fv g put ok hd sl ce)):aG (Gy K) (fun cls _ H'=>th cls D σ H') Rep F as σ sl (fun v H2=>D.nx (qb put σ v) H2) (g sl ce):=by
 unfold fv at P;cases e:g sl ce with
 | none=>rw[e] at P;exact P
 | some r=>cases r with
  | ok w ce' =>
   rw[e] at P;intro b H' F' as' l S' rv;cases put with
   | none=>exact P _ _ _ _ l S'
   | some i=>exact P _ _ _ _ l (S'.put rv i)
  | ex y ce' =>
   rw[e] at P;dsimp only at P;split at P
   ·rename_i hok;intro H' F' as' cv od l S' hx;obtain⟨rfl,hx⟩:=hx;exact hh D σ H' F' as' sl ce' y cv (S.slots S' l) ⟨rfl,hx⟩ hok (P.le l)
   ·exact(show False from P).elim
theorem D7{σ:VS.St}{put:Option Nat}(hh:∀D σ H F as sl ce (x:cJ) (cv:Value),SR (Gy K) F as H σ sl ce->mw K x cv none F->ok x=true->aS (Gy K) E D F as (hd x sl ce)->th cv D σ H)(S:SR (Gy K) F as H σ sl ce)(P:aS (Gy K) E D F as (fv (bj c m n df (dw d) (dw dr)) put ok hd sl ce)) :
  ar (Gy K) E0 d σ H fun x H1=>∃a dx fs,x=.ref a/\H1 a=some (.ins (clOf K c) dx fs)/\fs.lookup m=none/\eT (Gy K) E0 dr σ H1 fun vs H2=>fq (Gy K) (fun E=>E) n df (x::vs) H2 (fun v H2=>D.nx (qb put σ v) H2) (fun cls _ H'=>th cls D σ H'):=by
 refine(rW S (D8 hh S P)).noX.mono fun x H1 h=>?_;obtain⟨a,dx,fs,e1,e2,e3,h⟩:=h;refine⟨a,dx,fs,e1,e2,e3,h.noX.mono fun vs H2 h=>?_⟩;obtain⟨hn,F2,as2,ws,ce2,S2,rs,P2⟩:=h;exact⟨hn,F2,as2,ws,ce2,S2.st,rs,c8.of S2 P2⟩
theorem xu(hst:X.stack=X.env::X.outer)(hf:X.env.frame=some X.env.locals)(hex:X.ex=[])(hc:L2.Cls X.K (clOf K c))(hm:L2.Meth X.K (clOf K c) m f)(Fk:ax X.prog X.w X.K X.mg X.base (aZ X.prog X.w) k f fd ps (fq (Gy K) (fun E=>E) n df))(hr:aO k X.A)(hb:Binds X.K fd ps [])(ho:PE X.nox o (ar (Gy K) E0 d))(ha:PA X.nox (e::es) (eT (Gy K) E0 dr))(hh:pV K E X h ok hd)(hst2:starEach (e::es) X.env=(false,eval e X.env)::starEach es X.env:=by rfl)(hpl:(backTo cpos (starEach es X.env)).any (·.1)=false:=by rfl)(ht:eval (.Call (.Attribute o m apos) (e::es) [] cpos) X.env=(do
   let ov <- eval o X.env
   standAt apos.atName
   let (f,first) <- holding [ov] (getMethod ov m pl)
   callWith cpos f first (backTo cpos (starEach (e::es) X.env)) (backToKw cpos (keywordEach [] X.env))):=by rfl)(hs:swapsWith (.Call (.Attribute o m apos) (e::es) [] cpos) none epos.line X.env=pure false:=by rfl) :
  PS X (.Try [.Expr (.Call (.Attribute o m apos) (e::es) [] cpos) epos] [h] [] [] pos) (cT (Gy K) E (fv (bj c m n df (dw d) (dw dr)) none ok hd)):=by
 obtain⟨th,hh1,hh2⟩:=hh;exact PS.imp (vf hst hf hex (Dc (D_ ho hc hm Fk hr hex hb ha hst2 hpl ht) hs) hh1) fun D σ H zz_=>bg zz_ fun F as sl ce S P=>D7 hh2 S P
end
section
variable {a b:DS} {w u:W} {c f m:Str} {fs:List (Str×W)} {x:cJ}
theorem fK{p:List (Str×W)}(h:p.length<=j):(putA f w p).length<=j+1:=by
 induction p generalizing j with
 | nil=>simp[putA]
 | cons a r ih =>
  obtain⟨g,y⟩:=a;rw[length_cons] at h;simp only[putA];split
  ·rw[length_cons];omega
  ·rw[length_cons];have:=ih (j:=j-1) (by omega);omega
theorem qw(g:ce[k]?=some (.ins c fs)):jh ce c (.cel k)=some (k,fs):=by simp only[jh,g,if_true]
theorem eA(h:d sl ce=some (.ok (.cel k) c1))(g:c1[k]?=some (.ins c fs))(l:fs.lookup f=some w):cC c f d sl ce=some (.ok w c1):=by simp only[cC,au,h,look,qw g,l,map_some]
theorem vc(hv:v sl ce=some (.ok w c1))(h:d sl c1=some (.ok (.cel k) c2))(g:c2[k]?=some (.ins c fs))(hl:fs.length<1000):hJ c f d v sl ce=some (.go .nx sl (c2.set k (.ins c (putA f w fs)))):=by simp only[hJ,bY,hv,h,qw g,if_pos hl]
theorem D6(hv:v sl ce=some (.ok w c1))(h:d sl c1=some (.ok (.cel k) c2))(g:c2[k]?=some (.ins c fs))(hl:fs.length<1000)(q:Q (.go .nx sl (c2.set k (.ins c (putA f w fs))))):Run (hJ c f d v) sl ce Q:=⟨_,vc hv h g hl,q⟩
theorem nu(hv:v sl ce=some (.ok w c1))(h:d sl c1=some (.ok (.cel k) c2))(g:c2[k]?=some (.ins c fs))(hl:fs.length<1000)(q:Run b sl (c2.set k (.ins c (putA f w fs))) Q):Run (aq (hJ c f d v) b) sl ce Q:=hV (vc hv h g hl) q
theorem AO(h:d sl ce=some (.ok (.cel k) c1))(g:c1[k]?=some (.ins c fs))(l:fs.lookup m=none)(hr:dr sl c1=some (.ok ws c2))(hn:ws.length+1=n):bj c m n df d dr sl ce=df (.cel k::ws) c2:=by simp only[bj,au,h,look,qw g,l,if_true,map_some,hr,hn]
theorem bI{r:Option (R W)}(h:d sl ce=some (.ok (.cel k) c1))(g:c1[k]?=some (.ins c fs))(l:fs.lookup m=none)(hr:dr sl c1=some (.ok ws c2))(hn:ws.length+1=n)(hf:df (.cel k::ws) c2=r):bj c m n df d dr sl ce=r:=(AO h g l hr hn).trans hf
theorem C0(hr:dr sl ce=some (.ok ws c1))(hn:ws.length+1=n)(hf:df (.cel c1.length::ws) (c1++[.ins c []])=some (.ok .non c2)):lM c n df dr sl ce=some (.ok (.cel c1.length) c2):=by simp only[lM,au,hr,if_pos hn,hf,qx]
theorem AN{q:Bool}(h:d sl ce=some (.ok (.bl q) c1)):mK d sl ce=some (.ok (.bl (!q)) c1):=by simp only[mK,au,h,ret]
theorem n4{r:R W}(sl:Sl)(e:ws.map some++List.replicate (n-ws.length) none=sl)(h:Run body sl ce fun o=>∃sl' c',o=.go .nx sl' c'/\fin ce c' .non=some r):bE fin n body ws ce=some r:=by subst e;obtain⟨o,e,sl',c',rfl,hf⟩:=h;simp only[bE,e,hf]
end
end VS
namespace L2
section
variable {c:Expr} {a b:List Stmt} {tc:TT} {ta tb:XK->TS}
end
end L2
namespace VS
section
variable {E:XK} {x y:Str} {p:Pos} {t:Expr} {h:ExceptHandler} {ok:cJ->Bool} {sa sb:List Stmt} {da db d:DS} {c:Sl->M Bool}
end
section
variable {d b:DS} {ok:cJ->Bool} {x:cJ}
end
end VS
namespace L2
open AutoSeq1 (wpAny_loadPart')
end L2
namespace VS
section
variable {E:XK} {p:Pos}
end
end VS
variable {bm:List Value} {hdct ab:Bool} {sn:List Str} {col:Option Bool} {dd:Option Addr} {newId:String} {SA:Addr}
namespace L2
open PySem.W
section
variable {R:Result->Shared->Prop} {d:Drawn} {t:Nat}
variable {q:Str} {C N:Addr} {bs bmB:List Value} {sub:List Value} {k0 k1 k2 k3 k5:Option Value} {B Bn nid initId inN:String} {bmN:List Value}
abbrev lN(C T:Addr):Obj:={ cls:=.ref C,data:=.fields #[.ref T,.none,.none,.none,.bool false,.none] }
theorem D5{rest:List Value}{init:Value}(Fn:ExcBaseFacts Bn newId inN bmN)(hBn:bmB.contains (.type Bn)=true)(F:ExcBaseFacts B nid initId bmB)(T:OwnTail h bmB bm)(hC:h.get? C=some (excClassObj nm q C N bs bm hdct sn sub ab col dd k0 k1 k2 k3 k5 newId))(self:Looks (model prog w) h (isSubtype (.ref C) (.ref C)) true)(call:Looks (model prog w) h (specialOf (.ref C) "__call__") (some (.builtin "type.__call__")))(typ:Looks (model prog w) h (isInstance (.ref C) (.type "type")) true)(hi:Looks (model prog w) h (typeLookup (.ref C) "__init__") (some init))(hb:∀self,Looks (model prog w) h (bindSpecial init self) (init,[self]))(hrest:rest.length<=sizeLine)(hq:codeAny (model prog w) (A.under (.builtin "type.__call__" ⟨.ref C::rest,[]⟩)) (.call init ⟨.ref (h.objs.size+1)::rest,[]⟩) (InitBack (h.objs.size+1) R) ⟨(h.push { cls:=.type "tuple",data:=.seq rest.toArray }).push (lN C h.objs.size),g,d,t,os⟩) :
  codeAny (model prog w) A (.call (.ref C) ⟨rest,[]⟩) R ⟨h,g,d,t,os⟩:=by
 refine codeAny_of_tree ?_;show wpAny _ _ (callAny (.ref C) _) _ _ _;refine nd_load hC ?_;show wpAny _ _ (callAny.viaDunder (.ref C) _) _ _ _;unfold callAny.viaDunder;refine wpAny_bind (call.at ?_);dsimp only;rw[tc_bind];refine wpAny_bind (wpAny_pure (wpAny_bind (wpAny_pure ?_)));refine wpAny_pure (a:=Fin.again (.call (.builtin "type.__call__") ⟨.ref C::rest,[]⟩)) (And.intro rfl ?_);refine codeAny_call_builtin_at (Code.quiet_builtin _ (by decide +kernel)) entry_typeCall (check_slot tc_kind tc_split typ (tc_args _ _ _) ?_);unfold Builtin.«type.__call__»;have e4:(Value.ref C::bm).isEmpty=false:=rfl;have hm:Looks (model prog w) h (mroOf (.ref C)) (Value.ref C::bm):=((Looks.ld (part:=none) hC).andThen .now).andThen .now
 repeat (first|simp only[e4,false_eq_true,if_false]|with_reducible refine wpAny_madeBy_exc hC ?_|with_reducible refine wpAny_call ?_|lk)
 refine codeAny_call_builtin_code (Code.quiet_builtin _ Fn.quiet) (wpAny_check_new_subU Fn hBn T hC ?_);refine codeAny_exc_new_subU Fn hBn F T hC ?_ hrest;have k:∀b o,h.get? b=some o->((h.push { cls:=.type "tuple",data:=.seq rest.toArray }).push (lN C h.objs.size)).get? b=some o:=fun b o e=>Heap.get?_push_of_some _ (Heap.get?_push_of_some _ e);have hx:((h.push { cls:=.type "tuple",data:=.seq rest.toArray }).push (lN C h.objs.size)).get? (h.objs.size+1)=some (lN C h.objs.size):=by heap_get
 have t1:Looks (model prog w) ((h.push { cls:=.type "tuple",data:=.seq rest.toArray }).push (lN C h.objs.size)) (typeOf (.ref (h.objs.size+1))) (.ref C):=(Looks.ld hx).andThen .now;have s1:=self.keeps k;have i1:=hi.keeps k;have b1:=(hb (.ref (h.objs.size+1))).keeps k;unfold isInstance callSpecial? specialOf
 repeat (first|with_reducible refine wpAny_call ?_|lk)
 refine codeAny_mono hq fun r s' z=>?_;rcases r with e|(v|_|_|_)<;>first|exact z|exact z.elim|skip
 obtain⟨rfl,z⟩:=z;exact wpAny_pure (wpAny_pure z)
theorem D4(F:ExcBaseFacts B nid initId bmB)(T:OwnTail h bmB bm){e:Addr}{rest:List Value}{Q:Value->Shared->Prop}(hC:h.get? C=some (excClassObj nm q C N bs bm hdct sn sub ab col dd k0 k1 k2 k3 k5 newId))(he:h.get? e=some oe)(hcls:oe.cls=.ref C)(hd:oe.data=.fields vs)(h0:vs[0]?=some a0)(hrest:rest.length<=sizeLine)(hq:Q .none ⟨(h.push { cls:=.type "tuple",data:=.seq rest.toArray }).update e (Obj.mapFields (·.setIfInBounds 0 (.ref h.objs.size))),g,d,t,os⟩) :
  wpAny (model prog w) A (PySem.call (.builtin initId) (.ref e::rest)) Q E ⟨h,g,d,t,os⟩:=by
 refine wpAny_call (codeAny_call_builtin F.init.plain F.initEntry (wpAny_check_init_subU F T hC he hcls ?_))
 wp_walk
 rw[hd];refine wpAny_pure ?_;rw[h0];refine wpAny_pure ?_;refine wpAny_bind (wpAny_setField (Heap.get?_push_of_some _ he) hd (Array.getElem?_eq_some_iff.mp h0).1 ?_);have fin:∀s',s'=(⟨(h.push { cls:=.type "tuple",data:=.seq rest.toArray }).update e (Obj.mapFields (·.setIfInBounds 0 (.ref h.objs.size))),g,d,t,os⟩:Shared)->Q .none s':=fun s' e=>by rw[e];exact hq
 cases a0 with
 | ref a1=>exact wpAny_letGo (wpAny_pure (fin _ rfl))
 | _=>exact wpAny_pure (wpAny_pure (fin _ rfl))
end
def kq(K:Frag)(C:Addr):Bool:=match K.lookup C with
 | some ⟨.type "type",_,.cls cd,sl⟩=>(match cd.mro,sl.toList with
  | .ref C'::bm,[_,_,_,_,some (.builtin n),_]=>C'==C&&n == "ValueError.__new__" && !cd.hasDel&&tailIn K g7 bm&&nsOkIn K cd.ns
  | _,_=>false)
 | _=>false
theorem o6{C:Addr}(q:kq K C=true)(X:K.In h):∃bm N nm qn bs hdct sn sub ab col dd k0 k1 k2 k3 k5,
  h.get? C=some (excClassObj nm qn C N bs bm hdct sn sub ab col dd k0 k1 k2 k3 k5 "ValueError.__new__")/\OwnTail h g7 bm:=by
 unfold kq at q;split at q
 case h_2=>cases q
 rename_i dd cd sl ho;split at q
 case h_2=>cases q
 rename_i C' bm k0 k1 k2 k3 n k5 hm hs;simp only[and_eq_true,beq_iff_eq,not_eq_true'] at q;obtain⟨⟨⟨⟨rfl,rfl⟩,hdel⟩,ht⟩,hok⟩:=q;obtain⟨nm,bs,mro,ns,qn,hd,sn,sub,ab,col,del⟩:=cd;dsimp only at hm hdel hok;subst hm hdel;have hsl:sl=#[k0,k1,k2,k3,some (.builtin "ValueError.__new__"),k5]:=by obtain⟨l⟩:=sl;simp only at hs;rw[hs]
 subst hsl;exact⟨bm,ns,nm,qn,bs,hd,sn,sub,ab,col,dd,k0,k1,k2,k3,k5,X _ _ ho,tail_of_in X ht⟩
def cH(a C:Addr)(h:Heap):Prop:=∃t sl,h.get? a=some ⟨.ref C,none,.fields #[.ref t,.none,.none,.none,.bool false,.none],sl⟩
def bS(a C:Addr)(h:Heap):Prop:=∃D t sl,h.get? a=some ⟨.ref C,some D,.fields #[.ref t,.none,.none,.none,.bool false,.none],sl⟩
theorem cH.ok{C:Addr}(x:cH a C h):aC P w H h a (.ext (cH a C)):=by refine⟨x,?_,fun h1 h2 ⟨t,sl,e1⟩ k=>⟨t,sl,k _ e1⟩⟩;obtain⟨t,sl,e⟩:=x;exact⟨_,e⟩
theorem bS.ok{C:Addr}(x:bS a C h):aC P w H h a (.ext (bS a C)):=by refine⟨x,?_,fun h1 h2 ⟨D,t,sl,e1⟩ k=>⟨D,t,sl,k _ e1⟩⟩;obtain⟨D,t,sl,e⟩:=x;exact⟨_,e⟩
theorem AM{o:HO}(h:H a=some o):upd H a o=H:=by
 funext b
 by_cases hb:b=a
 ·subst hb;rw[cU,h]
 ·rw[bH hb]
theorem FH{ap:Pos}{C:Addr}{x:Str}{t1:TE}{t2:St->Prop}(hg:Gl X x)(hm:X.mg x=some (.ref SA))(hga:specialIn X.K (.ref SA) "__getattribute__" = some (some (.builtin "type.__getattribute__")))(hr:readsIn X.K SA (.type "type")=true)(hf:findCls X.K (.ref SA) (.type "type") "__init__" = some (.val (.builtin "ValueError.__init__")))(qC:kq X.K C=true)(h1:PE X e1 t1)(h2:PX X e2 t2)(hd:(x==("__debug__" : Str))=false:=by decide)(ht:eval (.Call (.Attribute (.Name x np) "__init__" ap) [e1,e2] [] pos) X.env=(do
   let ov <- eval (.Name x np) X.env
   standAt ap.atName
   let (f,first) <- holding [ov] (getMethod ov "__init__" pl)
   callWith pos f first (backTo pos (starEach [e1,e2] X.env)) (backToKw pos (keywordEach [] X.env))):=by rfl)(he:starEach [e1,e2] X.env=[(false,eval e1 X.env),(false,eval e2 X.env)]:=by rfl) :
  PE X (.Call (.Attribute (.Name x np) "__init__" ap) [e1,e2] [] pos) (fun σ H Q=>t1 σ H fun v H1=>∃a,v=.ref a/\H1 a=some (.ext (cH a C))/\t2 σ/\Q .non H1):=by
 intro pins s σ H Q I h;refine methodCall_KW (pl:=pl) (iS I hg hm ?_ hd) ht;refine method_cls I.kIn hga (cls_value I.kIn hr hf (by decide +kernel) ?_);have I0:Inv X pins σ H { s with toks:=s.toks+1 }:=I.tok _;show wpAny _ _ (callWith pos (.builtin "ValueError.__init__") [] (backTo pos (starEach [e1,e2] X.env)) []) _ _ _;rw[he];refine Calls.callWith_builtin rfl (Calls.evalArgs_plain (Calls.spliced_cons (aK (h1 pins _ σ H _ I0 h) fun u s1 ⟨v,H1,I1,rv,a,ev,ha,ht2,hq⟩=>?_)));refine Calls.spliced_cons (aK (h2 pins s1 σ H1 I1 ht2) fun u2 s2 I2=>Calls.spliced_nil ?_);subst ev;obtain rfl:u=Value.ref a:=rv;obtain⟨bm,N,nm,qn,bs,hdct,sn,sub,ab,col,dd,k0,k1,k2,k3,k5,hC,T⟩:=o6 qC I2.kIn;obtain⟨tt,osl,hx⟩:=(show aC X.prog X.w H1 s2.heap a (.ext (cH a C)) from I2.hok a _ ha).1;obtain⟨hh,g,d,tk,os⟩:=s2;refine D4 (rest:=[u2]) (a0:=.ref tt) excBase_ValueError T hC hx rfl rfl rfl (by show 1<=sizeLine;decide) ?_;have hx':=Heap.get?_push_of_some { cls:=.type "tuple",data:=.seq [u2].toArray } hx;have hs:=Heap.get?_update_self (Obj.mapFields (·.setIfInBounds 0 (.ref hh.objs.size))) hx' rfl;have I3:=I2.write (x:=a) (e:=a) (o:=.ext (cH a C)) (t':=tk) (h':=(hh.push { cls:=.type "tuple",data:=.seq [u2].toArray }).update a (Obj.mapFields (·.setIfInBounds 0 (.ref hh.objs.size)))) (by rw[ha];trivial) (.inl rfl)
  (fun b u hb e=>(Heap.get?_update_other _ _ (Ne.symm hb)).trans (Heap.get?_push_of_some _ e)) ⟨_,hs⟩ (cH.ok ⟨hh.objs.size,osl,hs⟩)
 rw[AM ha] at I3;exact⟨.non,H1,I3,rfl,hq⟩
end L2
variable {cd:ClassData} {tv:TE}
namespace L2
open PySem.W PySem.Builtin PySem.Builtin.ObjectAttr
theorem CZ(self:Value):refuseLoop self "__setattr__" g7=pure ():=by kernel_rfl
theorem Ds(T:OwnTail h g7 bm)(self:Value):refuseLoop self "__setattr__" bm=pure ():=by
 induction T with
 | base=>exact CZ self
 | own _ _ _ _ ih=>rw[refuseLoop_ref];exact ih
section
variable {C:Addr}
theorem Dr{v:Value}{sl:Array (Option Value)}{Q:Unit->Shared->Prop}(X:K.In s.heap)(hx:s.heap.get? a=some ⟨.ref C,none,.fields vs,sl⟩)(hs:findIn K (.ref C) "__setattr__" = some (some (.builtin "object.__setattr__")))(hc:clsIn K C=some cd)(hm:cd.mro=.ref C::bm)(hd:cd.hasDict=true)(T:OwnTail s.heap g7 bm)(ht:takerIn K C name=some none)(h:∀h' tk D,(∀b u,b≠a->s.heap.get? b=some u->h'.get? b=some u)->h'.get? a=some ⟨.ref C,some D,.fields vs,sl⟩->Q () { s with heap:=h',toks:=tk }) :
  wpAny (model prog w) A (setAttr (.ref a) name v) Q E s:=by
 have J:InstAt s.heap a ⟨.ref C,none,.fields vs,sl⟩ C none:=⟨hx,rfl,rfl,trivial⟩
 refine set_plain X J hs ?_;have SF:=PySem.F.store_object;have sub:Looks (model prog w) s.heap (isInstance (.ref a) (.type "object")) true:=J.type.andThen (looks_mroIn X (by unfold mroIn;rw[hc,bind_some,hm,if_neg (by simp),contains_cons,T.hasType (show g7.contains (.type "object")=true by decide)];simp));refine codeAny_call_builtin SF.slot.plain SF.entry (@check_slot (model prog w) _ _ { s with toks:=s.toks+1 } "object.__setattr__" "object" "__setattr__" (.ref a) [.str name s.toks,v] [] _ SF.kind SF.split sub (SF.args (.ref a) (.str name s.toks) v) ?_);obtain⟨attr,ha,hr⟩:=bind_eq_some_iff.mp ht;have hmL:Looks (model prog w) s.heap (mroOf (.ref C)) cd.mro:=(looks_clsIn X hc).andThen .now;have L3:Looks (model prog w) s.heap (storeTaker? attr) none:=by
  cases attr with
  | none=>exact .now
  | some a =>
   obtain⟨b,hb,he⟩:=map_eq_some_iff.mp hr;refine(looks_takesIn X hb).andThen ?_;cases b
   ·exact .now
   ·cases he
 rw[osa_eq,refuse_eq];refine wpAny_bind (wpAny_bind (J.type.here (s:={ s with toks:=s.toks+1 }) (wpAny_bind (hmL.here (s:={ s with toks:=s.toks+1 }) ?_))));rw[hm,refuseLoop_ref,Ds T];refine wpAny_pure (wpAny_bind (J.type.here (s:={ s with toks:=s.toks+1 }) (wpAny_bind ((looks_findIn X ha).here (s:={ s with toks:=s.toks+1 }) (wpAny_bind (L3.here (s:={ s with toks:=s.toks+1 }) ?_))))));refine wpAny_bind (wpAny_pure (wpAny_bind (wpAny_bind (wpAny_loadPart hx (wpAny_bind (here (s:={ s with toks:=s.toks+1 }) (looks_clsIn X hc) ?_))))));rw[hd];have hx₁:(s.heap.push { cls:=.type "dict",data:=.dict #[] }).get? a=some ⟨.ref C,none,.fields vs,sl⟩:=Heap.get?_push_of_some _ hx;have hxs:a≠s.heap.objs.size:=ne_of_lt (Heap.lt_size hx);refine wpAny_bind (wpAny_alloc' ?_);refine wpAny_bind (wpAny_update' hx₁ ?_);refine wpAny_pure ?_;have hgd:((s.heap.push { cls:=.type "dict",data:=.dict #[] }).update a fun o=>{ cls:=o.cls,dict:=some s.heap.objs.size,data:=o.data,slots:=o.slots }).get? s.heap.objs.size=some { cls:=.type "dict",data:=.dict #[] } :=
  (Heap.get?_update_ne _ _ _ _ hxs.symm).trans (Heap.get?_push_at rfl rfl)
 have hnd:((s.heap.push { cls:=.type "dict",data:=.dict #[] }).update a fun o=>{ cls:=o.cls,dict:=some s.heap.objs.size,data:=o.data,slots:=o.slots }).Ns s.heap.objs.size (fun _=>none) :=
  ⟨_,#[],_,hgd,rfl,fun e he=>absurd he (by simp),fun _=>rfl⟩
 show wpAny _ _ (storeInDict s.heap.objs.size (.str name s.toks) name v) _ _ _;unfold storeInDict newKeyGuard;refine wpAny_bind (wpAny_pure (wpAny_bind (wpAny_nsSet1 (Heap.Ns1.of_empty hnd) fun h' hn' hs=>?_)));obtain⟨oD,esD,epD,hoD,hdD,hcD⟩:=hn'.count (Within.cons name v Within.nil);refine wpAny_bind (wpAny_lookBehind hoD (by rw[hdD];exact pastItsLine_dict (le_trans hcD (by rw[length_cons,length_nil,sizeLine_eq];omega))) ?_);refine wpAny_pure (h h' _ s.heap.objs.size (fun b u hb e=>?_) ?_)
 ·exact(hs.2 b (ne_of_lt (Heap.lt_size e))).trans ((Heap.get?_update_ne _ _ _ _ hb).trans (Heap.get?_push_of_some _ e))
 ·exact(hs.2 a hxs).trans (Heap.get?_update_self _ hx₁ rfl)
end
section
variable {o:Expr} {f:Str} {C:Addr}
theorem EI(ha:PE X o ta)(hv:PE X value tv)(hs:swapsWith value (some (.Attribute o f pos')) pos.line X.env=pure false)(hsa:findIn X.K (.ref C) "__setattr__" = some (some (.builtin "object.__setattr__")))(qC:kq X.K C=true)(hd:(clsIn X.K C).any (·.hasDict)=true)(ht:takerIn X.K C f=some none) :
  PS X (.Assign [.Attribute o f pos'] value pos) (fun D σ H=>tv σ H fun y H1=>ta σ H1 fun x H2=>∃a,x=.ref a/\H2 a=some (.ext (cH a C))/\D.nx σ (upd H2 a (.ext (bS a C)))):=by
 intro pins s σ H D I h;refine plainObj_wpAny_Assign_Attribute (aK (hv pins s σ H _ I h) fun u s1 ⟨y,H1,I1,ry,q⟩=>aK (ha pins s1 σ H1 _ I1 q) fun ov s2 ⟨x,H2,I2,rx,a,ex,ea,q2⟩=>?_) hs;subst ex;obtain rfl:ov=Value.ref a:=rx;obtain⟨bm,N,nm,qn,bs,hdct,sn,sub,ab,col,dd,k0,k1,k2,k3,k5,hC,T⟩:=o6 qC I2.kIn;obtain⟨tt,osl,hx⟩:=(show aC X.prog X.w H2 s2.heap a (.ext (cH a C)) from I2.hok a _ ea).1;obtain⟨cd,hc,hdc⟩:=any_some hd;have hm:cd.mro=.ref C::bm:=by
  unfold clsIn at hc;split at hc
  ·rename_i ho;cases hc;have:=I2.kIn _ _ ho;rw[hC] at this;cases this;rfl
  ·cases hc
 refine Dr I2.kIn hx hsa hc hm hdc T ht fun h' tk D' hk hx'=>?_;have I3:=I2.write (x:=a) (e:=a) (o:=.ext (bS a C)) (t':=tk) (h':=h') (by rw[ea];trivial) (.inl rfl) hk ⟨_,hx'⟩ (bS.ok ⟨D',tt,osl,hx'⟩);exact⟨σ,_,I3,q2⟩
end
section
variable {M:Model} {q:Str} {C N:Addr} {bs:List Value} {sub:List Value} {k0 k1 k2 k3 k5:Option Value}
theorem sC{x:Sem Value}{Q:Flow->Shared->Prop}(hbase:bm.contains (.type "BaseException")=true)(hh:A.handled=none)(h:wpAny M A x (fun v s₁=>∃e D t sl,v=.ref e/\s₁.heap.get? C=some (excClassObj nm q C N bs bm hdct sn sub ab col dd k0 k1 k2 k3 k5 newId)/\s₁.heap.get? e=some ⟨.ref C,D,.fields #[.ref t,.none,.none,.none,.bool false,.none],sl⟩/\E (.ref e) s₁) E s) :
  wpAny M A (raiseStmt env (some x) none) Q E s:=by
 have hcB:(Value.ref C::bm).contains (.type "BaseException")=true:=by rw[contains_cons,hbase,Bool.or_true]
 unfold raiseStmt;refine wpAny_bind (wpAny_mono h (fun v s₁ h₁=>?_) fun _ _ x=>x);obtain⟨e,D,t,sl,rfl,hC,he,hE⟩:=h₁;obtain⟨hp,g,d,tk,os⟩:=s₁
 repeat (first|with_reducible refine wpAny_loadPart_at he ?_|with_reducible refine wpAny_loadPart_at hC ?_|(with_reducible refine wpAny_isSubtype_exc hC ?_;rw[hcB])|wp_step)
 exact wpAny_raiseNew_none hh hE
end
section
variable {σ:St} {φ:Heap->Prop}
theorem Inv.untrack(I:Inv X pins σ (upd H a (.ext φ)) s)(ha:H a=none):Inv X pins σ H s:=by
 have dn:∀{b:Addr} {o:HO},(∀ψ,o≠.ext ψ)->upd H a (.ext φ) b=some o->H b=some o:=fun {b o} hn e=>by
  by_cases hb:b=a
  ·subst hb;rw[cU] at e;cases e;exact absurd rfl (hn φ)
  ·rw[bH hb] at e;exact e
 have dz:∀{b:Addr},upd H a (.ext φ) b=none->H b=none:=fun {b} e=>by
  by_cases hb:b=a
  ·subst hb;exact ha
  ·rw[bH hb] at e;exact e
 refine⟨I.ok,I.os,I.bare,⟨I.base.keep,I.base.slot,fun b o e n hx=>dz (I.base.free b o e n hx),I.base.there,fun b xs e=>dn (fun ψ z=>by cases z) (I.base.tups b xs e),fun b o u e=>dn (fun ψ z=>by cases z) (I.base.frzs b o u e),fun b ps e=>?_⟩,I.loc,I.cell,dz I.free,fun x c e=>dz (I.freeC x c e),fun p hp=>?_,fun b o e=>?_,I.len⟩
 ·obtain⟨m,q⟩:=I.base.tbls b ps e;exact⟨m,dn (fun ψ z=>by cases z) q⟩
 ·obtain⟨e,n,r⟩:=I.pin p hp;exact⟨e,dz n,r⟩
 ·have hb:b≠a:=fun z=>by rw[z,ha] at e;cases e
  exact(I.hok b o (by rw[bH hb];exact e)).stay (fun _ _ _ r=>r) (fun c q=>dn (fun ψ z=>by cases z) q) fun c xs q=>dn (fun ψ z=>by cases z) q
end
structure XI (K:Frag) (C f:Addr):Prop where
 exc:kq K C=true
 init:findIn K (.ref C) "__init__" = some (some (.ref f))
 fn:isFn K (.ref f)=true
 call:specialIn K (.ref C) "__call__" = some (some (.builtin "type.__call__"))
 typ:instIn K (.ref C) (.type "type")=some true
 self:mroIn K C (.ref C)=some true
 kp:keepIn K (.ref C)=true
theorem Dq{E:XK}{C:Addr}{σ:St}{vs:List V}{Q:Value->Shared->Prop}(M:XI X.K C f)(F:ax X.prog X.w X.K X.mg X.base CX k f fd ps sp)(hr:aO (k+1) X.A)(hb:Binds X.K fd ps [])(hpx:fO CX X E)(I:Inv X pins σ H s)(r:Vals vs us)(hl:us.length<=sizeLine){R:Prop}(hq:sp (.ref (s.heap.objs.size+1)::vs) (upd H (s.heap.objs.size+1) (.ext (cH (s.heap.objs.size+1) C))) (fun v H2=>v=.non/\H2=upd H (s.heap.objs.size+1) (.ext (bS (s.heap.objs.size+1) C))/\R) E)(hR:R->∀s',Inv X pins σ (upd H (s.heap.objs.size+1) (.ext (bS (s.heap.objs.size+1) C))) s'->Q (.ref (s.heap.objs.size+1)) s') :
  wpAny (model X.prog X.w) X.A (PySem.call (.ref C) us) Q X.xe s:=by
 obtain⟨bm,N,nm,qn,bs,hdct,sn,sub,ab,col,dd,k0,k1,k2,k3,k5,hC,T⟩:=o6 M.exc I.kIn;have hn:H (s.heap.objs.size+1)=none:=I.hok.fresh (le_succ _);have I2:Inv X pins σ (upd H (s.heap.objs.size+1) (.ext (cH (s.heap.objs.size+1) C))) { s with heap:=(s.heap.push { cls:=.type "tuple",data:=.seq us.toArray }).push (lN C s.heap.objs.size) } :=
  I.laid (t':=s.toks) (fun b o e=>Heap.get?_push_of_some _ (Heap.get?_push_of_some _ e)) (le_succ _) (cH.ok ⟨s.heap.objs.size,_,by heap_get⟩)
 have r2:Vals (V.ref (s.heap.objs.size+1)::vs) (Value.ref (s.heap.objs.size+1)::us):=.cons rfl r;have hlen:(Value.ref (s.heap.objs.size+1)::us).length=ps.length:=by have e:=r2.length;rw[F.len _ _ _ _ hq] at e;exact e.symm
 obtain⟨hh,g,d,tk,os⟩:=s;refine wpAny_call (D5 (init:=.ref f) excBase_ValueError (by decide) excBase_ValueError T hC (looks_mroIn I.kIn M.self) (looks_specialIn I.kIn M.call) (looks_instIn I.kIn M.typ) (looks_findIn I.kIn M.init) (fun self=>bind_fn I.kIn self (beq_iff_eq.mp M.fn)) hl ?_);refine codeAny_mono (F.run _ X.stack _ _ ⟨Value.ref (hh.objs.size+1)::us,[]⟩ (Value.ref (hh.objs.size+1)::us) _ _ E (hr.make C us []) (I2.env0.make C us []) (by have:=hb _ (Value.ref (hh.objs.size+1)::us) I2.kIn (by simpa using hlen);simpa using this) r2 hq) fun r s' hq'=>?_;cases r with
 | error e=>exact hpx pins σ _ _ e s' I2 hq'
 | ok fl =>
  cases fl with
  | ret u =>
   obtain⟨v,H',I3,rv,ev,eH,q3⟩:=I2.after hq';subst ev;rw[eH] at I3;exact⟨rv,hR q3 s' I3⟩
  | next=>exact False.elim hq'
  | brk=>exact False.elim hq'
  | cont=>exact False.elim hq'
theorem FG{E:XK}{C:Addr}{x:Str}(hx:dZ X E)(hex:X.ex=[])(M:XI X.K C f)(F:ax X.prog X.w X.K X.mg X.base CX k f fd ps sp)(hr:aO (k+1) X.A)(hb:Binds X.K fd ps [])(hpx:fO CX X E)(hg:Gl X x)(hm:X.mg x=some (.ref C))(hh:X.A.handled=none)(he:PE X e te)(hs:starEach [e] X.env=[(false,eval e X.env)]:=by rfl)(hd:(x==("__debug__" : Str))=false:=by decide) :
  PS X (.Raise (some (.Call (.Name x np) [e] [] cpos)) none pos) (fun _ σ H=>te σ H fun y H1=>∀a,H1 a=none->sp [.ref a,y] (upd H1 a (.ext (cH a C))) (fun v H2=>v=.non/\H2=upd H1 a (.ext (bS a C))/\E (.ref C) none H1) E):=by
 intro pins s σ H D I hq;obtain⟨bm,N,nm,qn,bs,hdct,sn,sub,ab,col,dd,k0,k1,k2,k3,k5,hC,T⟩:=o6 M.exc I.ok.mod.kin;have ev:wpAny (model X.prog X.w) X.A (eval (.Call (.Name x np) [e] [] cpos) X.env) (fun v s₁=>∃e D t sl,v=.ref e/\s₁.heap.get? C=some (excClassObj nm qn C N bs bm hdct sn sub ab col dd k0 k1 k2 k3 k5 "ValueError.__new__")/\s₁.heap.get? e=some ⟨.ref C,D,.fields #[.ref t,.none,.none,.none,.bool false,.none],sl⟩/\X.xe (.ref e) s₁) X.xe s:=by
  refine wpAny_Call_Name_kw (iS I hg hm ?_ hd);refine callWith_K (h₀:=X.base) I.ok.mod.kin M.kp (aK (mh he m9 (by rw[hs];rfl) cpos pins s σ H (fun vs H1=>match vs with|[y]=>(∀a,H1 a=none->sp [.ref a,y] (upd H1 a (.ext (cH a C))) (fun v H2=>v=.non/\H2=upd H1 a (.ext (bS a C))/\E (.ref C) none H1) E)|_=>False) I hq) fun us s1 ⟨vs,H1,I1,r,q⟩=>⟨I1.kIn,?_⟩) (by rw[hs];rfl) rfl
  match vs,r,q with
  | [y],r,q =>
   have hl1:us.length=1:=r.length.symm;have hC1:=I1.bk _ _ hC;have hnw:Nw X pins (s1.heap.objs.size+1):=kD hex I1 (Heap.get?_none_of_le (le_succ _));have hH1:H1 (s1.heap.objs.size+1)=none:=I1.hok.fresh (le_succ _);refine Dq (R:=E (.ref C) none H1) M F hr hb hpx I1 r (by rw[nil_append,hl1];decide) (q _ hH1) fun hE s' I3=>?_;obtain⟨D,t,sl,e⟩:=(show aC X.prog X.w _ s'.heap (s1.heap.objs.size+1) (.ext (bS (s1.heap.objs.size+1) C)) from I3.hok _ _ cU).1;exact⟨_,_,_,_,rfl,I3.bk _ _ hC,e,hx pins σ H1 s' _ (.ref C) (I3.untrack hH1) ⟨_,_,_,hnw,hH1,e,rfl,rfl,rfl,.inl rfl⟩ hE⟩
 rw[arm_exec_Raise]
 first
  | refine wpAny_bind (wpAny_standAt (sC (T.hasType (show g7.contains (.type "BaseException")=true by decide)) hh (wpAny_bind (wpAny_mono ev (fun v s₁ h₁=>wpAny_bind (wpAny_standAt (wpAny_pure h₁))) fun _ _ x=>x))))
  | (simp only[evalOpt,Option.map];refine wpAny_bind (wpAny_standAt (sC (T.hasType (show g7.contains (.type "BaseException")=true by decide)) hh (wpAny_bind (wpAny_mono ev (fun v s₁ h₁=>wpAny_bind (wpAny_standAt (wpAny_pure h₁))) fun _ _ x=>x)))))
  | (show wpAny _ _ (do standAt pos;raiseStmt X.env (some (do let v <- eval (.Call (.Name x np) [e] [] cpos) X.env;standAt pos;pure v)) none) _ _ s;refine wpAny_bind (wpAny_standAt (sC (T.hasType (show g7.contains (.type "BaseException")=true by decide)) hh (wpAny_bind (wpAny_mono ev (fun v s₁ h₁=>wpAny_bind (wpAny_standAt (wpAny_pure h₁))) fun _ _ x=>x)))))
end L2
namespace L2
open PySem.W
def zm(C:Addr):Sp:=fun vs H Q _=>∃a n,vs=[.ref a,.int n]/\n.natAbs<1000/\H a=some (.ext (cH a C))/\Q .non (upd H a (.ext (bS a C)))
end L2
namespace VS
section
variable {E:XK} {x y:Str} {p:Pos}
theorem FF(hx:dZ X E)(hpx:fO (aZ X.prog X.w) X E)(hK:X.K=K)(M:XI X.K (clOf K x) f)(Fi:ax X.prog X.w X.K X.mg X.base (aZ X.prog X.w) k f fd ps (zm (clOf K x)))(hr:aO (k+1) X.A)(hb:Binds X.K fd ps [])(hm:X.mg x=some (.ref (clOf K x)))(hex:X.ex=[])(hg:Gl X x)(hh:X.A.handled=none)(hN:X.N[i]?=some y)(hv:lh X.env.scope y)(hd2:(y==("__debug__" : Str))=false:=by decide)(hcd:(y==("__classdict__" : Str))=false:=by decide)(he:starEach [.Name y p] X.env=[(false,eval (.Name y p) X.env)]:=by rfl)(hd:(x==("__debug__" : Str))=false:=by decide) :
  PS X (.Raise (some (.Call (.Name x np) [.Name y p] [] cpos)) none pos) (cT (Gy K) E (eW x [i])):=by
 refine PS.imp (FG (E:=E) (C:=clOf K x) hx hex M Fi hr hb hpx hg hm hh (lW (pos:=p) hN hv hd2 hcd) he hd) fun D σ H zz_=>bg zz_ fun F as sl ce S P=>?_;unfold eW at P;split at P
 ·rename_i h;have:=all_eq_true.mp h i (by simp);unfold k8 at this;split at this
  ·rename_i n e;obtain⟨v,e1,e2⟩:=S.slot i _ e;simp only[Rep] at e2;subst e2;exact⟨.int n,e1,fun a ha=>⟨a,n,rfl,of_decide_eq_true this,cU,rfl,DO,P H F as (.ref (clOf K x)) none .refl S.st ⟨rfl,rfl⟩⟩⟩
  ·cases this
 ·exact(show False from P).elim
end
end VS
namespace L2
open PySem.W
theorem Dp{ap p3 pe pa:Pos}{C:Addr}{x u y f:Str}{t2:St->Prop}(hg:Gl X x)(hm:X.mg x=some (.ref SA))(hga:specialIn X.K (.ref SA) "__getattribute__" = some (some (.builtin "type.__getattribute__")))(hr:readsIn X.K SA (.type "type")=true)(hf:findCls X.K (.ref SA) (.type "type") "__init__" = some (.val (.builtin "ValueError.__init__")))(qC:kq X.K C=true)(hsa:findIn X.K (.ref C) "__setattr__" = some (some (.builtin "object.__setattr__")))(hd:(clsIn X.K C).any (·.hasDict)=true)(ht:takerIn X.K C f=some none)(h2:PX X e2 t2)(hN0:X.N[0]?=some u:=by rfl)(hN1:X.N[1]?=some y:=by rfl)(hv0:lh X.env.scope u:=by exact Or.inl rfl)(hv1:lh X.env.scope y:=by exact Or.inl rfl)(d0:(u==("__debug__" : Str))=false:=by decide)(d1:(y==("__debug__" : Str))=false:=by decide)(c0:(u==("__classdict__" : Str))=false:=by decide)(c1:(y==("__classdict__" : Str))=false:=by decide)(hdx:(x==("__debug__" : Str))=false:=by decide)(hev:eval (.Call (.Attribute (.Name x np) "__init__" ap) [.Name u p1,e2] [] pos) X.env=(do
   let ov <- eval (.Name x np) X.env
   standAt ap.atName
   let (f,first) <- holding [ov] (getMethod ov "__init__" pl)
   callWith pos f first (backTo pos (starEach [.Name u p1,e2] X.env)) (backToKw pos (keywordEach [] X.env))):=by rfl)(hst:starEach [.Name u p1,e2] X.env=[(false,eval (.Name u p1) X.env),(false,eval e2 X.env)]:=by rfl)(hs0:swapsWith (.Call (.Attribute (.Name x np) "__init__" ap) [.Name u p1,e2] [] pos) none pe.line X.env=pure false:=by rfl)(hs:swapsWith (.Name y p3) (some (.Attribute (.Name u p2) f pos')) pa.line X.env=pure false:=by rfl) :
  PSs X [.Expr (.Call (.Attribute (.Name x np) "__init__" ap) [.Name u p1,e2] [] pos) pe,.Assign [.Attribute (.Name u p2) f pos'] (.Name y p3) pa]
   (fun D σ H=>∃a n,σ[0]?=some (some (.ref a))/\σ[1]?=some (some (.int n))/\H a=some (.ext (cH a C))/\t2 σ/\D.nx σ (upd H a (.ext (bS a C)))):=by
 refine VS.PSs.imp (xO (wN (FH (C:=C) hg hm hga hr hf qC (lW (pos:=p1) hN0 hv0 d0 c0) h2 hdx hev hst) hs0) (wO (EI (C:=C) (lW (pos:=p2) hN0 hv0 d0 c0) (lW (pos:=p3) hN1 hv1 d1 c1) hs hsa qC hd ht))) fun D σ H z=>?_;obtain⟨a,n,e0,e1,eH,q2,q⟩:=z;exact⟨.ref a,e0,a,rfl,eH,q2,.int n,e1,.ref a,e0,a,rfl,eH,q⟩
structure XN (K:Frag) (C SA f:Addr) (fld:Str):Prop where
 xi:XI K C f
 hga:specialIn K (.ref SA) "__getattribute__" = some (some (.builtin "type.__getattribute__"))
 hr:readsIn K SA (.type "type")=true
 hf:findCls K (.ref SA) (.type "type") "__init__" = some (.val (.builtin "ValueError.__init__"))
 hsa:findIn K (.ref C) "__setattr__" = some (some (.builtin "object.__setattr__"))
 hd:(clsIn K C).any (·.hasDict)=true
 ht:takerIn K C fld=some none
def tU(K:Frag)(C SA:Addr)(fld:Str):Bool:=kq K C&&specialIn K (.ref C) "__call__" == some (some (.builtin "type.__call__"))&&instIn K (.ref C) (.type "type")==some true&&mroIn K C (.ref C)==some true&&keepIn K (.ref C) &&
 specialIn K (.ref SA) "__getattribute__" == some (some (.builtin "type.__getattribute__"))&&readsIn K SA (.type "type")&&(match findCls K (.ref SA) (.type "type") "__init__" with|some (.val (.builtin n))=>n == "ValueError.__init__" | _=>false) &&
 findIn K (.ref C) "__setattr__" == some (some (.builtin "object.__setattr__"))&&(clsIn K C).any (·.hasDict)&&takerIn K C fld==some none
theorem AB{C:Addr}{fld:Str}(q:tU K C SA fld=true)(hi:findIn K (.ref C) "__init__" = some (some (.ref f)))(fn:isFn K (.ref f)=true):XN K C SA f fld:=by
 unfold tU at q;simp only[and_eq_true,beq_iff_eq] at q;obtain⟨⟨⟨⟨⟨⟨⟨⟨⟨⟨q1,q2⟩,q3⟩,q4⟩,q5⟩,q6⟩,q7⟩,q8⟩,q9⟩,q10⟩,q11⟩:=q;refine⟨⟨q1,hi,fn,q2,q3,q4,q5⟩,q6,q7,?_,q9,q10,q11⟩;split at q8
 ·rename_i n e;rw[e,beq_iff_eq.mp q8]
 ·cases q8
section
variable {o:Expr} {m:Str} {C:Addr}
end
end L2
namespace VS
section
variable {E:XK} {c m:Str} {o:Expr} {h:ExceptHandler} {ok:cJ->Bool}
end
end VS
namespace L2
section
variable {σ:St}
end
end L2
namespace VS
section
variable {E:XK} {elts:List Expr} {x1:Nat} {p fpos:Pos} {l:Expr} {g:DG} {b:DS} {body:List Stmt}
end
end VS
namespace L2
end L2
namespace VS
section
variable {E:XK}
end
def cj(K:Frag)(x q:Str)(st:Stmt)(f:Addr):Prop:=∃fd,bJ K x q st f fd
theorem fnk{x:Str}{oc:Value}{an:Option Addr}{osl:Array (Option Value)}{kV doc pm cdv ct:Value}(l:K.lookup f=some ⟨oc,od,.func (fnOf x qual (mf st) (j_ st) (aX st) .none kV doc pm an cdv ct),osl⟩)(c:codeIn K cdv qual=true)(k:keepIn K (.ref f)=true):cj K x qual st f:=⟨_,vV l c k⟩
theorem cf{N P:List Str}{sc:Scope}(h1:sc.kind=.function:=by rfl)(h2:sc.isCoroutine=false:=by rfl)(h3:sc.isGenerator=false:=by rfl)(h4:N.Nodup:=by decide +kernel)(h5:N.take P.length=P:=by rfl)(h6:∀x∈P,sc.names.lookup x=some .local\/sc.names.lookup x=some .cell:=by decide +kernel)(h7:∀y∈sc.names,y.2≠.free:=by decide +kernel):ak N P sc:=⟨h1,h2,h3,h4,h5,h6,h7⟩
end VS
namespace L2
open PySem.W PySem.Builtin PySem.Builtin.ObjectAttr
def Jc(a C D:Addr)(h:Heap):Prop:=∃t sl,h.get? a=some ⟨.ref C,some D,.fields #[.ref t,.none,.none,.none,.bool false,.none],sl⟩
section
variable {C:Addr}
end
section
variable {o:Expr} {f:Str} {C:Addr}
end
end L2
namespace L2
open PySem.W
end L2
namespace VS
section
variable {E:XK} {x y fl:Str} {p:Pos}
end
end VS
namespace L2
open PySem.W PySem.Builtin PySem.Builtin.ObjectAttr PySem.Builtin.Getset_descriptor
section
variable {d:Drawn} {t:Nat} {C D:Addr} {o:Obj}
end
end L2
namespace L2
open PySem.W
section
variable {f:Str}
end
end L2
namespace VS
section
variable {E:XK} {f:Str}
end
end VS
namespace L2
open PySem.W
section
variable {R:Result->Shared->Prop} {it l:Addr} {items:Array Value} {parts:Nat->List Value}
end
end L2
namespace VS
section
variable {E:XK}
end
end VS
namespace L2
end L2
variable {ks:List (List Int×Int)}
namespace VS
section
variable {E:XK}
end
def kB:List W->Option (List Int)
 | []=>some []
 | .int i::r=>(kB r).map (i::·)
 | _::_=>none
def ke:W->Option (List Int×Int)
 | .tup [.tup xs,.int i]=>(kB xs).map fun l=>(l,i)
 | _=>none
def kA(ce:Ce):W->Option (Nat×List (List Int×Int))
 | .cel k=>match ce[k]? with
  | some (.ndt ks)=>some (k,ks)
  | _=>none
 | _=>none
def iD(ks:List (List Int×Int))(p:List Int×Int):List (List Int×Int):=if p∈ks then ks else ks++[p]
section
variable {w:W} {v:V}
theorem xV:∀{ws:List W} {vs:List V} {l:List Int},ag F as ws vs->kB ws=some l->vs=l.map V.int
 | [],_,_,r,e=>by simp only[ag] at r;simp only[kB,Option.some.injEq] at e;subst e;exact r
 | x::ws,_,_,r,e=>by
  simp only[ag] at r;obtain⟨v,r',rfl,h,t⟩:=r;cases x<;>simp only[kB,reduceCtorEq] at e;obtain⟨l,e1,rfl⟩:=map_eq_some_iff.mp e;simp only[Rep] at h;rw[h,xV t e1,map_cons]
theorem u_{p:List Int×Int}(r:Rep F as w v)(e:ke w=some p):∃b c,v=.ref b/\F b=some (.tup [.ref c,.int p.2])/\F c=some (.tup (p.1.map V.int)):=by
 unfold ke at e;split at e
 ·obtain⟨l,e1,rfl⟩:=map_eq_some_iff.mp e;simp only[Rep,ag] at r;obtain⟨b,vs,rfl,hb,v1,r1,rfl,⟨c,vs2,rfl,hc,q⟩,v2,r2,rfl,rfl,rfl⟩:=r;rw[xV q e1] at hc;exact⟨b,c,rfl,hb,hc⟩
 ·cases e
theorem xq(S:av G F as H ce)(r:Rep F as w v)(e:kA ce w=some (k,ks)):∃a xs,v=.ref a/\as[k]?=some a/\H a=some (.ext (cI a xs))/\xs.map (·.1)=ks/\KN F xs:=by
 cases w<;>simp only[kA,reduceCtorEq] at e;split at e
 ·rename_i hc;cases e;simp only[Rep] at r;obtain⟨a,rfl,h⟩:=r;obtain⟨_,xs,h2,h3,h4⟩:=S.cell _ _ _ h hc;exact⟨a,xs,rfl,h,h2,h3,h4⟩
 ·cases e
end
def n_:Sl->M W:=fun _=>gP (.ndt []) 0
def kx(ce:Ce)(x y:W):Option W:=match ke x,kA ce y with
 | some p,some (_,ks)=>some (.bl (decide (p∈ks)))
 | _,_=>none
open Classical in
def n8(o i v:Sl->M W):DS:=fun sl ce=>bY (v sl ce) fun w ce1=>bY (o sl ce1) fun ow ce2=>bY (i sl ce2) fun iw ce3=>match ke iw,kA ce3 ow with
 | some p,some (k,ks)=>if w=.bl true/\ks.length<sizeLine then some (.go .nx sl (ce3.set k (.ndt (iD ks p)))) else none
 | _,_=>none
section
variable {E:XK} {a b c:Expr}
theorem Dn:PE X (.Dict [] [] pos) (ar G E n_):=by refine PE.imp E9 fun σ H Q zz_=>bg zz_ fun F as sl ce S P=>?_;intro p hp;obtain⟨S1,l1⟩:=S.st.alloc (o:=.ext (cI p [])) (c:=.ndt []) hp (fun as' l=>⟨[],cU,rfl,fun x hx=>nomatch hx⟩);have hlen:as.length=ce.length:=S.st.len;have P':aG G E Rep F as σ sl Q (some (.ok (.cel ce.length) (ce++[.ndt []]))):=P;exact P' (.ref p) _ _ _ l1 (S.slots S1 l1) (by simp only[Rep];exact⟨p,rfl,by rw[<- hlen];simp⟩)
theorem ig(σ:L2.St)(H:Hp)(Q:VK)(h:ar G E (aI kx da db) σ H Q):uC (ar G E da) (ar G E db) σ H Q:=by
 obtain⟨F,as,sl,ce,S,P⟩:=h;refine(step S P).mono fun x H1 zz_=>aW zz_ fun wx F1 as1 ce1 l1 S1 rx P1=>(step S1 P1).mono fun y H2 zz_=>aW zz_ fun wy F2 as2 ce2 l2 S2 ry P2=>?_;obtain⟨w,e,P3⟩:=iW P2;unfold kx at e;split at e
 ·rename_i p n ks hk hd;cases e;obtain⟨a,xs,rfl,ha,hH,ek,kn⟩:=xq S2.st ry hd;obtain⟨b,c,rfl,hb,hc⟩:=u_ (rx.le l2) hk;refine⟨a,xs,b,c,p,rfl,hH,kn.keeps fun b ys q=>S2.st.sub _ _ q,rfl,S2.st.sub _ _ hb,S2.st.sub _ _ hc,?_⟩;rw[ek];exact P3.done S2 (by simp only[Rep])
 ·cases e
theorem Dm(hu:X.A.units+2<cLine)(ha:PE X a (ar G E da))(hb:PE X b (ar G E db))(h1:behindInMarks .In b=false):PT X (.Compare a [.In] [b] pos) (cb G E (dB (aI kx da db))):=om ⟨_,CY hu ha hb,ig⟩ h1
theorem Dl{o i:Expr}(hu:X.A.units+2<cLine)(ho:PE X o (ar G E da))(hi:PE X i (ar G E db))(hv:PE X value (ar G E dc))(hs:swapsWith value (some (.Subscript o i pos')) pos.line X.env=pure false:=by rfl) :
  PS X (.Assign [.Subscript o i pos'] value pos) (cT G E (n8 da db dc)):=by
 refine PS.imp (E8 hu ho hi hv hs) fun D σ H zz_=>bg zz_ fun F as sl ce S P=>(fC S P).mono fun x H1 zz_=>aW zz_ fun wx F1 as1 ce1 l1 S1 rx P1=>(fC S1 P1).mono fun y H2 zz_=>aW zz_ fun wy F2 as2 ce2 l2 S2 ry P2=>(fC S2 P2).mono fun z H3 zz_=>aW zz_ fun wz F3 as3 ce3 l3 S3 rz P3=>?_;split at P3
 ·rename_i p kk ks hk hc;split at P3
  ·rename_i hl;obtain⟨hw,hl⟩:=hl;subst hw;obtain⟨a,xs,rfl,ha,hH,ek,kn⟩:=xq S3.st (ry.le l3) hc;obtain⟨b,c,rfl,hb,hcc⟩:=u_ rz hk;have ev:x=.bl true:=by have:=(rx.le l2).le l3;simpa only[Rep] using this
   refine⟨a,xs,b,c,p,ev,rfl,hH,kn.keeps fun b ys q=>S3.st.sub _ _ q,by rw[<- length_map (f:=(·.1)),ek];exact hl,rfl,S3.st.sub _ _ hb,S3.st.sub _ _ hcc,?_⟩;refine P3 _ _ _ _ .refl (S3.slots (S3.st.write (o:=.ext (cI a (jg xs p b))) (c:=.ndt (iD ks p)) ha ⟨_,cU,?_,kn.put hb hcc⟩) .refl);unfold jg iD;rw[ek];split
   ·exact ek
   ·rw[map_append,ek];rfl
  ·exact(show False from P3).elim
 ·exact(show False from P3).elim
end
theorem yG:∀s:List Int,kB (s.map W.int)=some s
 | []=>rfl
 | i::s=>by simp only[map_cons,kB,yG s,map_some]
section
variable {a b o i:Sl->M W} {x w:W}
theorem AL(h:ce[k]?=some (.ndt ks)):kA ce (.cel k)=some (k,ks):=by simp only[kA,h]
theorem zv(s:List Int)(i:Int):ke (.tup [.tup (s.map W.int),.int i])=some (s,i):=by simp only[ke,yG,map_some]
theorem Dk:n_ sl ce=some (.ok (.cel ce.length) (ce++[.ndt []])):=by simp[n_,gP]
theorem B2{p:List Int×Int}(h1:v sl ce=some (.ok (.bl true) c1))(h2:o sl c1=some (.ok ow c2))(h3:i sl c2=some (.ok iw c3))(h4:ke iw=some p)(h5:kA c3 ow=some (k,ks))(h6:ks.length<sizeLine) :
  n8 o i v sl ce=some (.go .nx sl (c3.set k (.ndt (iD ks p)))):=by
 simp only[n8,h1,bY,h2,h3,h4,h5];rw[if_pos ⟨trivial,h6⟩]
end
end VS
variable {fa:Addr}
namespace K18
def fT:ir:=[("StoneError",true,["StoneError"]),("NoStand",true,["NoStand", "StoneError"]),("NoLay",true,["NoLay", "StoneError"]),("NoBreath",true,["NoBreath", "StoneError"]),("Again",false,["Again", "StoneError"]),("Over",true,["Over", "StoneError"]),("NoBack",true,["NoBack", "StoneError"])]
def d_ca(fu:Nat):List W->M W:=bE finC 1
 (aT (iG (bB lp (ah (ae 0) (ah (dC (.ty "int")) ai))) (mK (bB lp (ah (ae 0) (ah (dC (.ty "bool")) ai))))))
def d_s(fu:Nat):List W->M W:=bE finC 1
 (aT (aE eD (dC (.int 3)) (ae 0)))
def yB(fu:Nat):DS :=
 (bh (gb (dB (aI (jP true) (ae 6) (ae 3))) (dB (aI (bD false) (aI aJ (ae 1) (ae 6)) (aI aJ (ae 1) (ae 2))))) (aq (jL (ae 3) (ae 6) (dC (.bl true)))
 (cz (c6 cS (ae 4) (ah (ae 6) ai)))) bz)
def yA(fu:Nat):DS :=
 (aq (aQ 5 (jK jJ (ae 4)))
 (dg (iq (aI aJ (ae 0) (ae 5))) (gN 6) (yB fu)))
def d_z(fu:Nat):List W->M W:=bE finO 7
 (aq (aQ 3 (m3 (ae 2) (dC (.bl true))))
 (aq (aQ 4 (dP (ah (ae 2) ai)))
 (aq (h_ (g_ (ae 4)) (yA fu) fu)
 (aT (bB (fM eR) (ah (ae 3) ai))))))
def yF(fu:Nat):DS :=
 (jL (ae 2) (ae 6) (dC (.bl true)))
def yE(fu:Nat):DS :=
 (bh (dB (aI (jP true) (ae 4) (ae 2))) (aq (aQ 5 (aV 3 (cX (d_z fu)) (ah (ae 0) (ah (ae 1) (ah (ae 4) ai)))))
 (aq (cz (c6 cS (ae 3) (ah (ae 5) ai)))
 (dg (dY (ae 5)) (gN 6) (yF fu)))) bz)
def d_fa(fu:Nat):List W->M W:=bE finO 7
 (aq (aQ 2 lI)
 (aq (aQ 3 (dP ai))
 (aq (dg (e9 (ah (bB b_ (ah (ae 0) ai)) ai)) (gN 4) (yE fu))
 (aT (ae 3)))))
def d_aa(fu:Nat):List W->M W:=bE finC 2
 (aq (bh (fx (eE (dB (bB lp (ah (ae 1) (ah (dC (.ty "tuple")) ai))))) (dB (aI (bD true) (bB b_ (ah (ae 1) ai)) (bB b_ (ah (ae 0) ai))))) (aT (dC (.bl false))) bz)
 (aT (bB lr (ah (cL bc [] (iq (ae 1)) de (dw (iG (aV 1 (d_ca fu) (ah (ae 0) ai)) (m4 (fun _=>jH) (fun _=>jH) (dC (.int 0)) (ae 0) (dC (.int 2)))))) ai))))
def d_ha(fu:Nat):List W->M W:=bE finO 3
 (aT (aV 3 (d_z fu) (ah (ae 0) (ah (ae 1) (ah (ae 2) ai)))))
def d_ia(fu:Nat):List W->M W:=bE finC 2
 (aT (cL bc [1] (dY (aV 2 (cX (d_fa fu)) (ah (ae 0) (ah (ae 1) ai)))) (dB (aI (bD true) (aI aJ (ae 1) (aI aJ (ae 0) (dC (.int 0)))) (dC (.int 0)))) (ae 0)))
def zi(fu:Nat):DS :=
 (jL (ae 2) (ae 4) (dC (.bl true)))
def zh(fu:Nat):DS :=
 (dg (iq (aI aJ (ae 0) (ae 3))) (gN 4) (zi fu))
def d_d(fu:Nat):List W->M W:=bE finO 5
 (aq (aQ 2 lI)
 (aq (dg (dY (ae 1)) (gN 3) (zh fu))
 (aT (bB (fM eR) (ah (ae 2) ai)))))
def d_da(fu:Nat):List W->M W:=bE finO 3
 (aT (cL eR [1] (dY (aV 2 (cX (d_d fu)) (ah (ae 0) (ah (ae 2) ai)))) (dB (aI (bD false) (aI aJ (ae 1) (ae 0)) (dC (.int 0)))) (ae 0)))
def d_ba(fu:Nat):List W->M W:=bE finC 2
 (aT (bB lr (ah (cL bc [0,1] (dY (aV 2 (d_ia fu) (ah (ae 0) (ah (ae 1) ai)))) de (dw (aE gq (bB b_ (ah (aV 3 (cX (d_da fu)) (ah (ae 1) (ah (ae 2) (ah (ae 0) ai)))) ai)) (dC (.int 0))))) ai)))
def xU(fu:Nat):DS :=
 (jd (ae 2) (lH (ae 3) (ae 4)))
def d_ga(fu:Nat):List W->M W:=bE finC 5
 (aq (aQ 3 (bB (kE eR) (ah (ae 0) ai)))
 (aq (dg (dY (ae 1)) (gN 4) (xU fu))
 (aT (bB fk (ah (ae 3) ai)))))
def y7(fu:Nat):DS :=
 (bh (gb (dB (aI (bD false) (aI aJ (ae 1) (aI aJ (ae 4) (dC (.int 0)))) (ae 2))) (eE (g_ (aV 3 (cX (d_da fu)) (ah (ae 0) (ah (ae 1) (ah (ae 4) ai))))))) (cz (c6 mO (ae 3) (ah (ae 4) ai))) bz)
def d_n(fu:Nat):List W->M W:=bE finO 5
 (aq (aQ 3 (dP ai))
 (aq (dg (dY (aV 2 (d_ia fu) (ah (ae 0) (ah (ae 1) ai)))) (gN 4) (y7 fu))
 (aT (bB (fM eR) (ah (ae 3) ai)))))
def d_ja(fu:Nat):List W->M W:=bE finC 7
 (aq (bh (dB (aI (bD true) (aI aJ (ae 1) (ae 3)) (dC (.int 0)))) (eW "NoLay" [3]) bz)
 (aq (aQ 4 (aV 3 (d_ga fu) (ah (ae 1) (ah (eS (ah (ae 3) ai)) (ah (ae 2) ai)))))
 (aq (aQ 5 (aV 3 (cX (d_n fu)) (ah (ae 0) (ah (ae 4) (ah (aV 1 (d_s fu) (ah (ae 2) ai)) ai)))))
 (aq (aQ 6 (aV 3 (d_ga fu) (ah (ae 4) (ah (ae 5) (ah (dC (.int 0)) ai)))))
 (aq (bh (eE (g_ (aV 3 (cX (d_da fu)) (ah (ae 0) (ah (ae 6) (ah (aV 3 (cX (d_ha fu)) (ah (ae 0) (ah (ae 6) (ah (ae 3) ai)))) ai)))))) (eW "NoBreath" [3]) bz)
 (aT (eK (ah (ae 6) (ah (ae 5) ai)))))))))
def yD(fu:Nat):DS :=
 (aq (fv (aV 4 (d_ja fu) (dw (ah (ae 0) (ah (ae 1) (ah (ae 2) (ah (ae 5) ai)))))) (some 6) (fun x=>gD fT "NoLay" x||gD fT "NoBreath" x) (fun _=>nQ t_))
 (cz (c6 cS (ae 4) (ah (eK (ah (ae 5) (ah (aI aJ (ae 6) (dC (.int 0))) (ah (aI aJ (ae 6) (dC (.int 1))) ai)))) ai))))
def d_ea(fu:Nat):List W->M W:=bE finO 7
 (aq (aQ 4 (dP ai))
 (aq (dg (dY (ae 3)) (gN 5) (yD fu))
 (aT (ae 4))))
def yY(fu:Nat):DS :=
 (aq (aQ 3 (aE bG (aE cK (aE cK (aE eL (ae 3) (ae 3)) (aE eL (dC (.int 48271)) (ae 3))) (ae 4)) (dC (.int 2147483647))))
 (cz (c6 cS (ae 2) (ah (ae 3) ai))))
def d_k(fu:Nat):List W->M W:=bE finC 5
 (aq (aQ 2 (dP ai))
 (aq (aQ 3 (aE cK (aE bG (ae 0) (dC (.int 2147483647))) (dC (.int 48271))))
 (aq (dg (e9 (ah (aE cK (ae 1) (dC (.int 1))) ai)) (gN 4) (yY fu))
 (aT (dX bc (ae 2) (dm (dC (.int 1))) eM)))))
def yX(fu:Nat):DS :=
 (aq (cz (c6 cS (aI aJ (ae 2) (ae 3)) (ah (ae 4) ai)))
 (cz (c6 cS (aI aJ (ae 2) (ae 4)) (ah (ae 3) ai))))
def d_i(fu:Nat):List W->M W:=bE finC 5
 (aq (aQ 2 (cL bc [] (e9 (ah (ae 0) ai)) de (dP ai)))
 (aq (dg (dY (ae 1)) (gT 2 (iK (gN 3) (iK (gN 4) mX))) (yX fu))
 (aT (bB fk (ah (cL bc [] (dY (ae 2)) de (bB fk (ah (bB (fM bc) (ah (ae 0) ai)) ai))) ai)))))
def y6(fu:Nat):DS :=
 (bh (dB (aE mz (aE bG (aI aJ (ae 5) (aE cK (aE eL (ae 6) (ae 2)) (ae 7))) (dC (.int 5))) (aE bG (aI aJ (ae 0) (dC (.int 1))) (dC (.int 4))))) (cz (c6 cS (ae 3) (ah (eK (ah (ae 7) (ah (ae 6) ai))) ai))) bz)
def yZ(fu:Nat):DS :=
 (dg (e9 (ah (ae 6) ai)) (gN 7) (y6 fu))
def d_m(fu:Nat):List W->M W:=bE mP 8
 (aq (bh (dB (aE eQ (aE bG (aI aJ (ae 0) (dC (.int 1))) (dC (.int 4))) (dC (.int 0)))) (aq (aQ 1 (aE cK (dC (.int 1)) (aE bG (aI aJ (ae 0) (dC (.int 0))) (dC (.int 4)))))
 (aq (aQ 2 (aE eL (ae 1) (aE cK (dC (.int 1)) (aE bG (aI aJ (ae 0) (dC (.int 2))) (dC (.int 4))))))
 (aq (bh (dB (aE eQ (aE bG (aE ko (aI aJ (ae 0) (dC (.int 2))) (dC (.int 4))) (dC (.int 9))) (dC (.int 0)))) (aq (aQ 1 (aE cK (dC (.int 3)) (aE bG (aI aJ (ae 0) (dC (.int 0))) (dC (.int 4)))))
 (aQ 2 (aE eL (dC (.int 6)) (ae 1)))) bz)
 (aq (aQ 3 (cL eR [1] (e9 (ah (aE eD (ae 2) (ae 1)) ai)) de (eK (ah (ae 0) (ah (aE cK (ae 0) (ae 1)) ai)))))
 (aq (aQ 4 (cL bc [1] (e9 (ah (aE eD (ae 2) (dC (.int 1))) ai)) (dB (aE gq (aE bG (aE cK (ae 0) (dC (.int 1))) (ae 1)) (dC (.int 0)))) (ae 0)))
 (aT (eK (ah (ae 2) (ah (je bc (ae 3) (cL bc [] (dY (ae 4)) de (eK (ah (ae 0) (ah (aE cK (ae 0) (dC (.int 1))) ai))))) ai))))))))) bz)
 (aq (aQ 2 (aE cK (dC (.int 1)) (aE bG (aI aJ (ae 0) (dC (.int 0))) (aI aJ (eS (ah (dC (.int 0)) (ah (dC (.int 7)) (ah (dC (.int 9)) (ah (dC (.int 5)) ai))))) (aE bG (aI aJ (ae 0) (dC (.int 1))) (dC (.int 4)))))))
 (aq (aQ 3 (cL eR [] (e9 (ah (aE eD (ae 2) (dC (.int 1))) ai)) de (eK (ah (ae 0) (ah (aE cK (ae 0) (dC (.int 1))) ai)))))
 (aq (bh (gb (dB (aE eQ (aE bG (aI aJ (ae 0) (dC (.int 1))) (dC (.int 4))) (dC (.int 1)))) (gb (dB (aE gq (ae 2) (dC (.int 2)))) (dB (aE eQ (aE bG (aI aJ (ae 0) (dC (.int 2))) (dC (.int 2))) (dC (.int 0)))))) (cz (c6 cS (ae 3) (ah (eK (ah (dC (.int 0)) (ah (aE eD (ae 2) (dC (.int 1))) ai))) ai))) bz)
 (aq (bh (dB (aE gq (aE bG (aI aJ (ae 0) (dC (.int 1))) (dC (.int 4))) (dC (.int 1)))) (aq (aQ 5 (aV 2 (d_k fu) (ah (aI aJ (ae 0) (dC (.int 2))) (ah (aE eL (ae 2) (ae 2)) ai))))
 (aq (aQ 3 (dP ai))
 (dg (e9 (ah (ae 2) ai)) (gN 6) (yZ fu)))) bz)
 (aT (eK (ah (ae 2) (ah (ae 3) ai)))))))))
def d_p(fu:Nat):List W->M W:=bE finC 1
 (aT (aI aJ (cC "Game" "past" (ae 0)) (bR fH (dC (.int 1)))))
def d_r(fu:Nat):List W->M W:=bE finC 1
 (aq (bh (dB (aI (bD false) (dX bc (cC "Game" "done" (ae 0)) (dm (bR fH (dC (.int 2)))) eM) (eS (ah (dC .non) (ah (dC .non) ai))))) (aT (dC (.str "passed"))) bz)
 (aq (bh (dB (aE tT (bB b_ (ah (cC "Game" "done" (ae 0)) ai)) (dC (.int 300)))) (aT (dC (.str "long"))) bz)
 (aT (dC .non))))
def d_f(fu:Nat):List W->M W:=bE finC 2
 (aT (mJ (dB (aI (bD false) (aE bG (ae 1) (dC (.int 2))) (dC (.int 0)))) (cC "Game" "first" (ae 0)) (aV 1 (d_s fu) (ah (cC "Game" "first" (ae 0)) ai))))
def d_x(fu:Nat):List W->M W:=bE finC 1
 (aT (bj "Game" "hand_at" 2 (d_f fu) (ae 0) (ah (bB b_ (ah (cC "Game" "done" (ae 0)) ai)) ai)))
def d_b(fu:Nat):List W->M W:=bE finC 2
 (aT (nN (aI (bD false) (cC "Game" "barring" (ae 0)) (dC (.str "stones"))) (aI (bD false) (bj "Game" "hand_at" 2 (d_f fu) (ae 0) (ah (ae 1) ai)) (aV 1 (d_s fu) (ah (bj "Game" "hand" 1 (d_x fu) (ae 0) ai) ai)))))
def ze(fu:Nat):DS :=
 (bh (gb (dB (aI (bD false) (aI aJ (cC "Game" "past" (ae 0)) (ae 2)) (ae 1))) (dB (bj "Game" "is_barring" 2 (d_b fu) (ae 0) (ah (ae 2) ai)))) (aT (ae 2)) bz)
def d_g(fu:Nat):List W->M W:=bE finC 3
 (aq (dg (e9 (ah (bB b_ (ah (cC "Game" "past" (ae 0)) ai)) ai)) (gN 2) (ze fu))
 (aT (dC .non)))
def d_u(fu:Nat):List W->M W:=bE finC 6
 (aq (bh (dB (bR cG (bj "Game" "ended" 1 (d_r fu) (ae 0) ai))) (eW "Over" []) bz)
 (aq (aQ 2 (bj "Game" "stand" 1 (d_p fu) (ae 0) ai))
 (aq (aQ 3 (dC (.int 0)))
 (aq (bh (dB (bR cG (ae 1))) (aq (aQ 4 (aV 4 (d_ja fu) (ah (cC "Game" "joined" (ae 0)) (ah (ae 2) (ah (bj "Game" "hand" 1 (d_x fu) (ae 0) ai) (ah (ae 1) ai))))))
 (aq (aQ 2 (aI aJ (ae 4) (dC (.int 0))))
 (aq (aQ 3 (bB b_ (ah (aI aJ (ae 4) (dC (.int 1))) ai)))
 (aq (aQ 5 (bj "Game" "came_at" 2 (d_g fu) (ae 0) (ah (ae 2) ai)))
 (bh (dB (bR cG (ae 5))) (eW "Again" [5]) bz))))) bz)
 (aq (cz (c6 cS (cC "Game" "past" (ae 0)) (ah (ae 2) ai)))
 (aq (cz (c6 cS (cC "Game" "done" (ae 0)) (ah (ae 1) ai)))
 (cz (c6 cS (cC "Game" "takings" (ae 0)) (ah (ae 3) ai)))))))))
def d_h(fu:Nat):List W->M W:=bE finC 4
 (aq (aQ 2 (dC .non))
 (aq (fv (bj "Game" "deed" 2 (d_u fu) (dw (ae 0)) (dw (ah (ae 1) ai))) none (gD fT "StoneError") (pS 3 (aQ 2 (ae 3))))
 (aq (bh (fx (eE (dB (i_ (fun ce w=>mH fT ce w "Over") (ae 2)))) (eE (dB (i_ (fun ce w=>mG fT ce w) (ae 2))))) (aT (dC (.bl false))) bz)
 (aT (mK (i_ (fun ce w=>mF fT ce w ["Again", "NoBack", "NoBreath", "NoLay", "NoStand"]) (ae 2)))))))
def yQ(fu:Nat):DS :=
 (aq (aQ 4 (aE bG (aE cK (ae 2) (ae 3)) (ae 1)))
 (aq (aQ 5 (dC .non))
 (aq (fv (bj "Game" "deed" 2 (d_u fu) (dw (ae 0)) (dw (ah (ae 4) ai))) none (gD fT "StoneError") (pS 6 (aQ 5 (ae 6))))
 (bh (dB (bR mL (ae 5))) (aT (ae 4)) bz))))
def d_w(fu:Nat):List W->M W:=bE finC 7
 (aq (dg (e9 (ah (ae 1) ai)) (gN 3) (yQ fu))
 (aT (dC .non)))
def d_l(fu:Nat):List W->M W:=bE finC 1
 (aT (bB (kE bc) (ah (cC "Game" "past" (ae 0)) ai)))
def d_a(fu:Nat):List W->M W:=bE finO 3
 (aq (bh (dB (bR cG (bj "Game" "ended" 1 (d_r fu) (ae 0) ai))) (aT (dP ai)) bz)
 (aq (aQ 1 (aV 4 (cX (d_ea fu)) (ah (cC "Game" "joined" (ae 0)) (ah (bj "Game" "stand" 1 (d_p fu) (ae 0) ai) (ah (bj "Game" "hand" 1 (d_x fu) (ae 0) ai) (ah (bB (lG bc) (ah (bB b_ (ah (cC "Game" "joined" (ae 0)) ai)) ai)) ai))))))
 (aq (aQ 2 (cL eR [0] (dY (ae 1)) (dw (dB (bR mL (bj "Game" "came_at" 2 (d_g fu) (ae 1) (ah (aI aJ (ae 0) (dC (.int 1))) ai))))) (aI aJ (ae 0) (dC (.int 0)))))
 (aq (cz (c6 cS (ae 2) (ah (dC .non) ai)))
 (aT (ae 2))))))
def d_q(fu:Nat):List W->M W:=bE finC 1
 (aT (bB (kE bc) (ah (cC "Game" "done" (ae 0)) ai)))
def d_t(fu:Nat):List W->M W:=bE finC 1
 (aq (bh (eE (g_ (cC "Game" "done" (ae 0)))) (eW "NoBack" []) bz)
 (aq (cz (jK jJ (cC "Game" "past" (ae 0))))
 (aq (cz (jK jJ (cC "Game" "done" (ae 0))))
 (cz (jK jJ (cC "Game" "takings" (ae 0)))))))
def zb(fu:Nat):DS :=
 (bh (eE (dB (aV 2 (d_h fu) (ah (ae 0) (ah (ae 6) ai))))) (aT (dC (.bl false))) bz)
def d_c(fu:Nat):List W->M W:=bE finC 7
 (aq (aQ 4 (bj "Game" "stands" 1 (d_l fu) (ae 0) ai))
 (aq (aQ 5 (bj "Game" "hand" 1 (d_x fu) (ae 0) ai))
 (aq (bh (fx (dB (aI (bD true) (bj "Game" "ended" 1 (d_r fu) (ae 0) ai) (ae 3))) (dB (aI (bD true) (bj "Game" "open_deeds" 1 (cX (d_a fu)) (ae 0) ai) (eS ai)))) (aT (dC (.bl false))) bz)
 (aq (dg (dY (eS (ah (dC .non) (ah (dC (.int 0)) (ah (aE eD (ae 1) (dC (.int 1))) ai))))) (gN 6) (zb fu))
 (aq (bh (fx (dB (aI (bD true) (bj "Game" "stands" 1 (d_l fu) (ae 0) ai) (ae 4))) (fx (dB (aI (bD true) (bj "Game" "deeds" 1 (d_q fu) (ae 0) ai) (ae 2))) (dB (aI (bD true) (bj "Game" "hand" 1 (d_x fu) (ae 0) ai) (ae 5))))) (aT (dC (.bl false))) bz)
 (aq (bh (fx (dB (bR cG (bj "Game" "back" 1 (d_t fu) (ae 0) ai))) (dB (bR cG (bj "Game" "ended" 1 (d_r fu) (ae 0) ai)))) (aT (dC (.bl false))) bz)
 (aT (iG (aE eQ (bj "Game" "hand" 1 (d_x fu) (ae 0) ai) (aE eD (dC (.int 3)) (ae 5))) (aI (bD false) (bj "Game" "deeds" 1 (d_q fu) (ae 0) ai) (dX bc (ae 2) eM (dm (bR fH (dC (.int 1))))))))))))))
def d_j(fu:Nat):List W->M W:=bE finC 4
 (aq (aQ 2 (bj "Game" "stand" 1 (d_p fu) (ae 0) ai))
 (aq (aQ 3 (bj "Game" "hand" 1 (d_x fu) (ae 0) ai))
 (aq (bh (dB (bR cG (bj "Game" "deed" 2 (d_u fu) (ae 0) (ah (dC .non) ai)))) (aT (dC (.bl false))) bz)
 (aq (cz (c6 cS (ae 1) (ah (dC .non) ai)))
 (aT (iG (aI (bD false) (bj "Game" "stand" 1 (d_p fu) (ae 0) ai) (ae 2)) (aE eQ (bj "Game" "hand" 1 (d_x fu) (ae 0) ai) (aE eD (dC (.int 3)) (ae 3)))))))))
def yz(fu:Nat):DS :=
 (aq (aQ 5 (eK (ah (aI aJ (ae 0) (ae 4)) (ah (aE eL (aE bG (ae 4) (dC (.int 2))) (bB nR (ah (aI (bD false) (ae 2) (dC (.str "turns"))) ai))) ai))))
 (aq (bh (gb (dB (aE gq (ae 4) (dC (.int 0)))) (gb (dB (bR cG (aI aJ (ae 1) (aE eD (ae 4) (dC (.int 1)))))) (dB (aI kx (ae 5) (ae 3))))) (aT (dC (.bl false))) bz)
 (n8 (ae 3) (ae 5) (dC (.bl true)))))
def d_y(fu:Nat):List W->M W:=bE finC 6
 (aq (aQ 3 n_)
 (aq (dg (e9 (ah (bB b_ (ah (ae 0) ai)) ai)) (gN 4) (yz fu))
 (aT (dC (.bl true)))))
def d_e(fu:Nat):List W->M W:=bE mP 5
 (aq (bh (eE (dB (aV 2 (d_aa fu) (ah (ae 1) (ah (ae 3) ai))))) (eW "NoStand" []) bz)
 (aq (bh (eE (dB (aV 2 (d_ba fu) (ah (ae 1) (ah (ae 3) ai))))) (eW "NoStand" []) bz)
 (aq (hJ "Game" "joined" (ae 0) (ae 1))
 (aq (hJ "Game" "barring" (ae 0) (ae 2))
 (aq (hJ "Game" "first" (ae 0) (ae 4))
 (aq (hJ "Game" "past" (ae 0) (dP (ah (ae 3) ai)))
 (aq (hJ "Game" "done" (ae 0) (dP ai))
 (hJ "Game" "takings" (ae 0) (dP ai)))))))))
def tG(fu:Nat):DS :=
 (aq (bh (dB (bR cG (bj "Game" "ended" 1 (d_r fu) (ae 4) ai))) (aT (aV 3 (d_y fu) (ah (bj "Game" "stands" 1 (d_l fu) (ae 4) ai) (ah (ae 5) (ah (ae 1) ai))))) bz)
 (aq (aQ 7 (aV 3 (d_w fu) (ah (ae 4) (ah (bB b_ (ah (ae 0) ai)) (ah (aE cK (aI aJ (ae 3) (aE cK (dC (.int 3)) (aE bG (ae 6) (dC (.int 60))))) (aE eL (dC (.int 5)) (ae 6))) ai)))))
 (bh (dB (bR mL (ae 7))) (bh (eE (dB (aV 2 (d_j fu) (ah (ae 4) (ah (ae 5) ai))))) (aT (dC (.bl false))) bz) (cz (c6 cS (ae 5) (ah (ae 7) ai))))))
def d_v(fu:Nat):List W->M W:=bE finC 9
 (aq (aQ 4 (lM "Game" 5 (d_e fu) (ah (ae 0) (ah (ae 1) (ah (bB fk (ah (cL bc [] (iq (ae 0)) de (dC (.int 0))) ai)) (ah (ae 2) ai))))))
 (aq (aQ 5 (dP ai))
 (aq (dg (e9 (ah (dC (.int 300)) ai)) (gN 6) (tG fu))
 (aq (bh (fx (dB (aE mz (bB b_ (ah (ae 5) ai)) (dC (.int 300)))) (eE (dB (aV 3 (d_y fu) (ah (bj "Game" "stands" 1 (d_l fu) (ae 4) ai) (ah (ae 5) (ah (ae 1) ai))))))) (aT (aV 3 (d_y fu) (ah (bj "Game" "stands" 1 (d_l fu) (ae 4) ai) (ah (ae 5) (ah (ae 1) ai))))) bz)
 (aq (aQ 8 (dC (.str "long")))
 (aq (bh (dB (aI (bD false) (dX bc (ae 5) (dm (dC (.int 298))) eM) (eS (ah (dC .non) (ah (dC .non) ai))))) (aQ 8 (dC (.str "passed"))) bz)
 (aq (bh (eE (dB (aV 4 (d_c fu) (ah (ae 4) (ah (bB b_ (ah (ae 0) ai)) (ah (ae 5) (ah (ae 8) ai))))))) (aT (dC (.bl false))) bz)
 (aT (iG (aV 2 (d_j fu) (ah (ae 4) (ah (dX eR (ae 5) eM (dm (bR fH (dC (.int 1))))) ai))) (bR cG (bj "Game" "ended" 1 (d_r fu) (ae 4) ai)))))))))))
def tm(fu:Nat):DS :=
 (aq (bh (dB (aI (bD false) (dX bc (ae 5) (dm (bR fH (dC (.int 2)))) eM) (eS (ah (dC .non) (ah (dC .non) ai))))) (aT (aV 4 (d_c fu) (ah (ae 4) (ah (bB b_ (ah (ae 0) ai)) (ah (ae 5) (ah (dC (.str "passed")) ai)))))) bz)
 (aq (bh (dB (bR cG (bj "Game" "ended" 1 (d_r fu) (ae 4) ai))) (aT (dC (.bl false))) bz)
 (aq (aQ 7 (bj "Game" "open_deeds" 1 (cX (d_a fu)) (ae 4) ai))
 (bh (fx (dB (aE eQ (aE bG (ae 6) (dC (.int 2))) (dC (.int 0)))) (dB (aE eQ (bB b_ (ah (ae 7) ai)) (dC (.int 1))))) (bh (fx (dB (bR cG (aI aJ (ae 7) (bR fH (dC (.int 1)))))) (eE (dB (aV 2 (d_j fu) (ah (ae 4) (ah (ae 5) ai)))))) (aT (dC (.bl false))) bz) (aq (aQ 8 (aI aJ (ae 7) (aE bG (aE ko (ae 6) (dC (.int 2))) (aE eD (bB b_ (ah (ae 7) ai)) (dC (.int 1))))))
 (aq (bh (dB (bR cG (bj "Game" "deed" 2 (d_u fu) (ae 4) (ah (ae 8) ai)))) (aT (dC (.bl false))) bz)
 (cz (c6 cS (ae 5) (ah (ae 8) ai)))))))))
def d_o(fu:Nat):List W->M W:=bE finC 9
 (aq (aQ 4 (lM "Game" 5 (d_e fu) (ah (ae 0) (ah (ae 1) (ah (bB fk (ah (cL bc [] (iq (ae 0)) de (dC (.int 0))) ai)) (ah (ae 2) ai))))))
 (aq (aQ 5 (dP ai))
 (aq (dg (dY (ae 3)) (gN 6) (tm fu))
 (aT (aI (bD false) (bj "Game" "deeds" 1 (d_q fu) (ae 4) ai) (ae 5))))))
def d_law(fu:Nat):List W->M W:=bE finC 6
 (aq (aQ 1 (aV 2 (d_k fu) (ah (aI aJ (je bc (ae 0) (eS (ah (dC (.int 0)) ai))) (dC (.int 0))) (ah (dC (.int 64)) ai))))
 (aq (jd (aV 1 (ku (d_m fu)) (ah (ae 1) ai)) (gT 2 (iK (gN 2) (iK (gN 3) mX))))
 (aq (aQ 4 (aI aJ (eS (ah (dC (.str "stones")) (ah (dC (.str "turns")) ai))) (aE bG (aI aJ (ae 1) (dC (.int 3))) (dC (.int 2)))))
 (aq (bh (dB (aE eQ (aE bG (aI aJ (ae 1) (dC (.int 60))) (dC (.int 9))) (dC (.int 0)))) (aq (jd (aV 1 (ku (d_m fu)) (ah (aI aJ (eS (ah (eS (ah (dC (.int 3)) (ah (dC (.int 0)) (ah (dC (.int 7)) ai)))) (ah (eS (ah (aE cK (dC (.int 4)) (aE bG (aI aJ (ae 1) (dC (.int 0))) (dC (.int 3)))) (ah (dC (.int 1)) (ah (aI aJ (ae 1) (dC (.int 2))) ai)))) ai))) (aE bG (aI aJ (ae 1) (dC (.int 61))) (dC (.int 2)))) ai)) (gT 2 (iK (gN 2) (iK (gN 3) mX))))
 (aT (aV 4 (d_v fu) (ah (aV 2 (d_i fu) (ah (ae 2) (ah (ae 3) ai))) (ah (ae 4) (ah (aE cK (dC (.int 1)) (aE bG (aI aJ (ae 1) (dC (.int 5))) (dC (.int 2)))) (ah (ae 1) ai))))))) bz)
 (aq (aQ 5 (dX bc (je bc (dX bc (ae 0) (dm (dC (.int 1))) (dm (dC (.int 31)))) (dX bc (ae 1) (dm (dC (.int 8))) eM)) eM (dm (aE bG (aI aJ (ae 1) (dC (.int 4))) (dC (.int 31))))))
 (aT (aV 4 (d_o fu) (ah (aV 2 (d_i fu) (ah (ae 2) (ah (ae 3) ai))) (ah (ae 4) (ah (aE cK (dC (.int 1)) (aE bG (aI aJ (ae 1) (dC (.int 5))) (dC (.int 2)))) (ah (ae 5) ai)))))))))))
def top(i:Nat):Stmt:=PySem.Challenge.pw_stonebreath_k18_passes_and_ends.main.body.getD i (.Pass ⟨0,0,0,0⟩)
def gz(s:Stmt)(j:Nat):Stmt:=match s with
 | .ClassDef _ _ _ b _ _ _ _ _ _ _=>b.getD j (.Pass ⟨0,0,0,0⟩)
 | _=>.Pass ⟨0,0,0,0⟩
abbrev sL:Stmt:=top 2
abbrev tF:Stmt:=top 3
abbrev sJ:Stmt:=top 4
abbrev sA:Stmt:=top 5
abbrev pI:Stmt:=top 15
abbrev rf:Stmt:=top 16
abbrev ox:Stmt:=top 17
abbrev pw:Stmt:=top 18
abbrev tJ:Stmt:=top 19
abbrev pH:Stmt:=top 20
abbrev qN:Stmt:=top 22
abbrev sy:Stmt:=top 23
abbrev rV:Stmt:=top 24
abbrev tE:Stmt:=top 25
abbrev tj:Stmt:=top 30
abbrev nF:Stmt:=top 31
abbrev kZ:Stmt:=top 32
abbrev tP:Stmt:=top 36
abbrev sO:Stmt:=top 37
abbrev tL:Stmt:=top 38
abbrev tf:Stmt:=top 39
abbrev sI:Stmt:=top 40
abbrev pD:Stmt:=top 41
abbrev pL:Stmt:=top 42
abbrev lL:Stmt:=top 43
abbrev tI:Stmt:=gz (top 28) 0
abbrev sV:Stmt:=gz (top 28) 1
abbrev tO:Stmt:=gz (top 28) 2
abbrev tH:Stmt:=gz (top 28) 3
abbrev sU:Stmt:=gz (top 28) 4
abbrev tD:Stmt:=gz (top 28) 5
abbrev sT:Stmt:=gz (top 28) 6
abbrev tN:Stmt:=gz (top 28) 7
abbrev s_:Stmt:=gz (top 28) 8
abbrev tw:Stmt:=gz (top 28) 9
abbrev pN:Stmt:=gz (top 28) 10
abbrev tq:Stmt:=gz (top 28) 12
theorem G_:ak ["thing"] ["thing"] (aX sL):=cf
theorem Hu:ak ["hand"] ["hand"] (aX tF):=cf
theorem ik:ak ["board", "marks", "start", "found", "waiting", "point", "beside"] ["board", "marks", "start"] (aX sJ):=cf
theorem eN:ak ["board", "marks", "met", "found", "start", "points", "point"] ["board", "marks"] (aX sA):=cf
theorem G9:ak ["board", "thing"] ["board", "thing"] (aX pI):=cf
theorem EH:ak ["board", "stand", "point"] ["board", "stand", "point"] (aX rf):=cf
theorem B1:ak ["board", "stand"] ["board", "stand"] (aX ox):=cf
theorem jD:ak ["board", "points", "found", "point", "beside"] ["board", "points"] (aX tJ):=cf
theorem GY:ak ["board", "stand", "row"] ["board", "stand", "row"] (aX pw):=cf
theorem G8:ak ["board", "stand"] ["board", "stand"] (aX pH):=cf
theorem ip:ak ["stand", "points", "what", "changed", "point"] ["stand", "points", "what"] (aX rV):=cf
theorem k9:ak ["board", "stand", "hand", "found", "row"] ["board", "stand", "hand"] (aX tE):=cf
theorem gj:ak ["board", "stand", "hand", "point", "full", "taken", "behind"] ["board", "stand", "hand", "point"] (aX qN):=cf
theorem gk:ak ["board", "stand", "hand", "points", "found", "point", "told"] ["board", "stand", "hand", "points"] (aX sy):=cf
theorem il:ak ["_law_cell", "_law_many", "_law_found", "_law_number", "_law_k"] ["_law_cell", "_law_many"] (aX tj):=cf
theorem jB:ak ["_law_many", "_law_lines_here", "_law_joined_here", "_law_one", "_law_other"] ["_law_many", "_law_lines_here"] (aX nF):=cf
theorem dD:ak ["_law_xs", "_law_wide", "_law_many", "_law_lines_here", "_law_beside", "_law_ys", "_law_one", "_law_other"] ["_law_xs"] (aX kZ):=cf
theorem Ht:ak ["self"] ["self"] (aX tD):=cf
theorem HB:ak ["self"] ["self"] (aX tq):=cf
theorem HK:ak ["self", "moment"] ["self", "moment"] (aX tN):=cf
theorem Ho:ak ["self"] ["self"] (aX sT):=cf
theorem HX:ak ["self", "moment"] ["self", "moment"] (aX tH):=cf
theorem nJ:ak ["self", "behind", "moment"] ["self", "behind"] (aX tO):=cf
theorem fS:ak ["self", "what", "behind", "many", "told", "number"] ["self", "what"] (aX sV):=cf
theorem jC:ak ["_law_game", "_law_what", "_law_caught", "error"] ["_law_game", "_law_what"] (aX tP):=cf
theorem gJ:ak ["_law_game", "_law_many", "_law_start", "_law_k", "_law_point", "_law_caught", "error"] ["_law_game", "_law_many", "_law_start"] (aX sO):=cf
theorem HL:ak ["self"] ["self"] (aX s_):=cf
theorem la:ak ["self", "lays", "found"] ["self"] (aX pN):=cf
theorem HA:ak ["self"] ["self"] (aX tw):=cf
theorem Hn:ak ["self"] ["self"] (aX sU):=cf
theorem jE:ak ["_law_game", "_law_many", "_law_deeds", "_law_due", "_law_stands", "_law_hand", "_law_what"] ["_law_game", "_law_many", "_law_deeds", "_law_due"] (aX tL):=cf
theorem k_:ak ["_law_game", "_law_deeds", "_law_stand", "_law_hand"] ["_law_game", "_law_deeds"] (aX tf):=cf
theorem jA:ak ["_law_stands", "_law_deeds", "_law_rule", "_law_seen", "_law_k", "_law_spot"] ["_law_stands", "_law_deeds", "_law_rule"] (aX sI):=cf
theorem HW:ak ["self", "board", "rule", "stand", "hand"] ["self", "board", "rule", "stand", "hand"] (aX tI):=cf
theorem fR:ak ["_law_board", "_law_rule", "_law_hand", "_law_xs", "_law_game", "_law_deeds", "_law_k", "_law_point", "_law_due"] ["_law_board", "_law_rule", "_law_hand", "_law_xs"] (aX pD):=cf
theorem gK:ak ["_law_board", "_law_rule", "_law_hand", "_law_cells", "_law_game", "_law_deeds", "_law_cell", "_law_some", "_law_what"] ["_law_board", "_law_rule", "_law_hand", "_law_cells"] (aX pL):=cf
theorem cq:ak ["_law_script", "_law_xs", "_law_many", "_law_lines_here", "_law_rule", "_law_cells"] ["_law_script"] (aX lL):=cf
abbrev tK:Stmt:=gz (top 11) 0
theorem HR:ak ["self", "number"] ["self", "number"] (aX tK):=cf
set_option genInjectivity false in
set_option genInjectivity false in
set_option genSizeOfSpec false in
structure p4 where
 f_ca:Addr
 d_ca:FuncData
 f_s:Addr
 d_s:FuncData
 f_z:Addr
 d_z:FuncData
 f_fa:Addr
 d_fa:FuncData
 f_aa:Addr
 d_aa:FuncData
 f_ha:Addr
 d_ha:FuncData
 f_ia:Addr
 d_ia:FuncData
 f_da:Addr
 d_da:FuncData
 f_d:Addr
 d_d:FuncData
 f_ba:Addr
 d_ba:FuncData
 f_ja:Addr
 d_ja:FuncData
 f_ea:Addr
 d_ea:FuncData
 f_ga:Addr
 d_ga:FuncData
 f_n:Addr
 d_n:FuncData
 f_k:Addr
 d_k:FuncData
 f_i:Addr
 d_i:FuncData
 f_m:Addr
 d_m:FuncData
 f_h:Addr
 d_h:FuncData
 f_w:Addr
 d_w:FuncData
 f_c:Addr
 d_c:FuncData
 f_j:Addr
 d_j:FuncData
 f_y:Addr
 d_y:FuncData
 f_v:Addr
 d_v:FuncData
 f_o:Addr
 d_o:FuncData
 f_law:Addr
 d_law:FuncData
 f_e:Addr
 d_e:FuncData
 f_u:Addr
 d_u:FuncData
 f_g:Addr
 d_g:FuncData
 f_b:Addr
 d_b:FuncData
 f_t:Addr
 d_t:FuncData
 f_p:Addr
 d_p:FuncData
 f_x:Addr
 d_x:FuncData
 f_f:Addr
 d_f:FuncData
 f_l:Addr
 d_l:FuncData
 f_q:Addr
 d_q:FuncData
 f_a:Addr
 d_a:FuncData
 f_r:Addr
 d_r:FuncData
 f_Again___init__:Addr
 d_Again___init__:FuncData
structure Txt (K:Frag) (mg:Str->Option Value) (A:p4):Prop where
 g_ca:mg "is_whole" = some (.ref A.f_ca)
 F_ca:bJ K "is_whole" "is_whole" sL A.f_ca A.d_ca
 b_ca:Binds K A.d_ca ["thing"] []
 g_s:mg "other_hand" = some (.ref A.f_s)
 F_s:bJ K "other_hand" "other_hand" tF A.f_s A.d_s
 b_s:Binds K A.d_s ["hand"] []
 g_z:mg "patch_of" = some (.ref A.f_z)
 F_z:bJ K "patch_of" "patch_of" sJ A.f_z A.d_z
 b_z:Binds K A.d_z ["board", "marks", "start"] []
 g_fa:mg "patches" = some (.ref A.f_fa)
 F_fa:bJ K "patches" "patches" sA A.f_fa A.d_fa
 b_fa:Binds K A.d_fa ["board", "marks"] []
 g_aa:mg "is_stand" = some (.ref A.f_aa)
 F_aa:bJ K "is_stand" "is_stand" pI A.f_aa A.d_aa
 b_aa:Binds K A.d_aa ["board", "thing"] []
 g_ha:mg "patch" = some (.ref A.f_ha)
 F_ha:bJ K "patch" "patch" rf A.f_ha A.d_ha
 b_ha:Binds K A.d_ha ["board", "stand", "point"] []
 g_ia:mg "rows" = some (.ref A.f_ia)
 F_ia:bJ K "rows" "rows" ox A.f_ia A.d_ia
 b_ia:Binds K A.d_ia ["board", "stand"] []
 g_da:mg "breaths" = some (.ref A.f_da)
 F_da:bJ K "breaths" "breaths" pw A.f_da A.d_da
 b_da:Binds K A.d_da ["board", "stand", "row"] []
 g_d:mg "points_beside" = some (.ref A.f_d)
 F_d:bJ K "points_beside" "points_beside" tJ A.f_d A.d_d
 b_d:Binds K A.d_d ["board", "points"] []
 g_ba:mg "is_sound" = some (.ref A.f_ba)
 F_ba:bJ K "is_sound" "is_sound" pH A.f_ba A.d_ba
 b_ba:Binds K A.d_ba ["board", "stand"] []
 g_ja:mg "laid" = some (.ref A.f_ja)
 F_ja:bJ K "laid" "laid" qN A.f_ja A.d_ja
 b_ja:Binds K A.d_ja ["board", "stand", "hand", "point"] []
 g_ea:mg "lays_on" = some (.ref A.f_ea)
 F_ea:bJ K "lays_on" "lays_on" sy A.f_ea A.d_ea
 b_ea:Binds K A.d_ea ["board", "stand", "hand", "points"] []
 g_ga:mg "filled" = some (.ref A.f_ga)
 F_ga:bJ K "filled" "filled" rV A.f_ga A.d_ga
 b_ga:Binds K A.d_ga ["stand", "points", "what"] []
 g_n:mg "breathless" = some (.ref A.f_n)
 F_n:bJ K "breathless" "breathless" tE A.f_n A.d_n
 b_n:Binds K A.d_n ["board", "stand", "hand"] []
 g_k:mg "_law_stream" = some (.ref A.f_k)
 F_k:bJ K "_law_stream" "_law_stream" tj A.f_k A.d_k
 b_k:Binds K A.d_k ["_law_cell", "_law_many"] []
 g_i:mg "_law_joined" = some (.ref A.f_i)
 F_i:bJ K "_law_joined" "_law_joined" nF A.f_i A.d_i
 b_i:Binds K A.d_i ["_law_many", "_law_lines_here"] []
 g_m:mg "_law_lines" = some (.ref A.f_m)
 F_m:bJ K "_law_lines" "_law_lines" kZ A.f_m A.d_m
 b_m:Binds K A.d_m ["_law_xs"] []
 g_h:mg "_law_is_over" = some (.ref A.f_h)
 F_h:bJ K "_law_is_over" "_law_is_over" tP A.f_h A.d_h
 b_h:Binds K A.d_h ["_law_game", "_law_what"] []
 g_w:mg "_law_laid" = some (.ref A.f_w)
 F_w:bJ K "_law_laid" "_law_laid" sO A.f_w A.d_w
 b_w:Binds K A.d_w ["_law_game", "_law_many", "_law_start"] []
 g_c:mg "_law_end_right" = some (.ref A.f_c)
 F_c:bJ K "_law_end_right" "_law_end_right" tL A.f_c A.d_c
 b_c:Binds K A.d_c ["_law_game", "_law_many", "_law_deeds", "_law_due"] []
 g_j:mg "_law_passed" = some (.ref A.f_j)
 F_j:bJ K "_law_passed" "_law_passed" tf A.f_j A.d_j
 b_j:Binds K A.d_j ["_law_game", "_law_deeds"] []
 g_y:mg "_law_new" = some (.ref A.f_y)
 F_y:bJ K "_law_new" "_law_new" sI A.f_y A.d_y
 b_y:Binds K A.d_y ["_law_stands", "_law_deeds", "_law_rule"] []
 g_v:mg "_law_long" = some (.ref A.f_v)
 F_v:bJ K "_law_long" "_law_long" pD A.f_v A.d_v
 b_v:Binds K A.d_v ["_law_board", "_law_rule", "_law_hand", "_law_xs"] []
 g_o:mg "_law_short" = some (.ref A.f_o)
 F_o:bJ K "_law_short" "_law_short" pL A.f_o A.d_o
 b_o:Binds K A.d_o ["_law_board", "_law_rule", "_law_hand", "_law_cells"] []
 g_law:mg "law" = some (.ref A.f_law)
 F_law:bJ K "law" "law" lL A.f_law A.d_law
 b_law:Binds K A.d_law ["_law_script"] []
 mt_e:L2.Meth K (clOf K "Game") "__init__" A.f_e
 F_e:bJ K "__init__" "Game.__init__" tI A.f_e A.d_e
 b_e:Binds K A.d_e ["self", "board", "rule", "stand", "hand"] []
 mt_u:L2.Meth K (clOf K "Game") "deed" A.f_u
 F_u:bJ K "deed" "Game.deed" sV A.f_u A.d_u
 b_u:Binds K A.d_u ["self", "what"] []
 mt_g:L2.Meth K (clOf K "Game") "came_at" A.f_g
 F_g:bJ K "came_at" "Game.came_at" tO A.f_g A.d_g
 b_g:Binds K A.d_g ["self", "behind"] []
 mt_b:L2.Meth K (clOf K "Game") "is_barring" A.f_b
 F_b:bJ K "is_barring" "Game.is_barring" tH A.f_b A.d_b
 b_b:Binds K A.d_b ["self", "moment"] []
 mt_t:L2.Meth K (clOf K "Game") "back" A.f_t
 F_t:bJ K "back" "Game.back" sU A.f_t A.d_t
 b_t:Binds K A.d_t ["self"] []
 mt_p:L2.Meth K (clOf K "Game") "stand" A.f_p
 F_p:bJ K "stand" "Game.stand" tD A.f_p A.d_p
 b_p:Binds K A.d_p ["self"] []
 mt_x:L2.Meth K (clOf K "Game") "hand" A.f_x
 F_x:bJ K "hand" "Game.hand" sT A.f_x A.d_x
 b_x:Binds K A.d_x ["self"] []
 mt_f:L2.Meth K (clOf K "Game") "hand_at" A.f_f
 F_f:bJ K "hand_at" "Game.hand_at" tN A.f_f A.d_f
 b_f:Binds K A.d_f ["self", "moment"] []
 mt_l:L2.Meth K (clOf K "Game") "stands" A.f_l
 F_l:bJ K "stands" "Game.stands" s_ A.f_l A.d_l
 b_l:Binds K A.d_l ["self"] []
 mt_q:L2.Meth K (clOf K "Game") "deeds" A.f_q
 F_q:bJ K "deeds" "Game.deeds" tw A.f_q A.d_q
 b_q:Binds K A.d_q ["self"] []
 mt_a:L2.Meth K (clOf K "Game") "open_deeds" A.f_a
 F_a:bJ K "open_deeds" "Game.open_deeds" pN A.f_a A.d_a
 b_a:Binds K A.d_a ["self"] []
 mt_r:L2.Meth K (clOf K "Game") "ended" A.f_r
 F_r:bJ K "ended" "Game.ended" tq A.f_r A.d_r
 b_r:Binds K A.d_r ["self"] []
 xn_Again:XN K (clOf K "Again") (clOf K "StoneError") A.f_Again___init__ "number"
 F_Again___init__:bJ K "__init__" "Again.__init__" tK A.f_Again___init__ A.d_Again___init__
 b_Again___init__:Binds K A.d_Again___init__ ["self", "number"] []
 cls_Game:L2.Cls K (clOf K "Game")
 mk_Game:L2.Mk K (clOf K "Game") A.f_e
 gc_Game:mg "Game" = some (.ref (clOf K "Game"))
 na_Game_barring:L2.NoAttr K (clOf K "Game") "barring"
 na_Game_done:L2.NoAttr K (clOf K "Game") "done"
 na_Game_first:L2.NoAttr K (clOf K "Game") "first"
 na_Game_joined:L2.NoAttr K (clOf K "Game") "joined"
 na_Game_past:L2.NoAttr K (clOf K "Game") "past"
 na_Game_takings:L2.NoAttr K (clOf K "Game") "takings"
 c_MOST_DEEDS:∃t,mg "MOST_DEEDS" = some (.int 300 t)
 n_ValueError:mg "ValueError" = none
 n_all:mg "all" = none
 n_bool:mg "bool" = none
 n_int:mg "int" = none
 n_isinstance:mg "isinstance" = none
 n_len:mg "len" = none
 n_list:mg "list" = none
 n_range:mg "range" = none
 n_sorted:mg "sorted" = none
 n_tuple:mg "tuple" = none
 xt:XT K mg fT
 nl:nK K=true
section
seal L2.PSs L2.PS L2.PE L2.PT L2.PW L2.PA L2.PI L2.PG L2.PGs L2.PO L2.PIfs
variable {A:p4}
abbrev Gx(K:Frag):Ga:=Gy K
abbrev cc(K:Frag)(n:Nat)(d:List W->M W):Sp:=fq (Gx K) (fun E=>E) n d
theorem cm{x:Str}{N:List Str}{m:Nat}{d:DS}(F:bJ K x qual st f fd)(S:ak N ps (aX st))(hf:mQ (Gx K) fin)(hb:∀(cdv:Value) (A:Around) (outer:List Env) (s:Shared) (H:Hp) (E:XK),aO k (A.deeper (envOfC qual (aX st) s.heap.objs.size f cdv))->PSs (gy (aZ P w) P w K mg base N qual (aX st) f cdv A outer s H E) (j_ st) (cT (Gx K) E d))(hn:n=ps.length:=by rfl)(hm:m=N.length:=by rfl):ax P w K mg base (aZ P w) (k+1) f fd ps (cc K n (bE fin m d)):=by subst hm;refine F.okX S (fun vs H Q E h=>h.1.trans hn) fun cdv Ar outer s H vs Q E hr h=>?_;obtain⟨_,F,as,ws,ce,S,rs,Pf⟩:=h;exact⟨_,hb cdv Ar outer s H E hr,CO hf N S rs Pf⟩
theorem HQ(T:Txt K mg A):ax P w K mg base (aZ P w) 1 A.f_Again___init__ A.d_Again___init__ ["self", "number"] (zm (clOf K "Again")):=by refine T.F_Again___init__.okX (k:=0) HR (fun vs H Q E h=>by obtain⟨a,n,rfl,_⟩:=h;rfl) (fun cdv Ar outer s H vs Q E hr h=>?_);obtain⟨a,n,rfl,hn,ha,q⟩:=h;refine⟨_,Dp (x := "StoneError") (SA:=clOf K "StoneError") (C:=clOf K "Again") rfl (T.xt.at rfl) T.xn_Again.hga T.xn_Again.hr T.xn_Again.hf T.xn_Again.xi.exc T.xn_Again.hsa T.xn_Again.hd T.xn_Again.ht (rg (kb mY (kb (qA 1) rh))),?_⟩;exact⟨a,n,rfl,rfl,ha,⟨trivial,⟨n,rfl,hn⟩,trivial⟩,q⟩
theorem G7(fu:Nat)(T:Txt K mg A):ax P w K mg base (aZ P w) 1 A.f_ca A.d_ca ["thing"] (cc K 1 (d_ca fu)) :=
 cm T.F_ca G_ dA fun cdv Ar outer s H E hr=>(aH (bf (m6 (dH (p8 K) (qt K) rfl T.n_isinstance boot_isinstance (aj (af 0) (aj (qr rfl T.n_int boot_int) aw))) (lP (vM (dH (p8 K) (qt K) rfl T.n_isinstance boot_isinstance (aj (af 0) (aj (qr rfl T.n_bool boot_bool) aw))))))))
theorem s9(fu:Nat)(T:Txt K mg A):ax P w K mg base (aZ P w) 1 A.f_s A.d_s ["hand"] (cc K 1 (d_s fu)) :=
 cm T.F_s Hu dA fun cdv Ar outer s H E hr=>(aH (bf (iM aA (af 0))))
theorem yy(fu:Nat)(T:Txt K mg A):ax P w K mg base (aZ P w) 1 A.f_z A.d_z ["board", "marks", "start"] (cc K 3 (d_z fu)) :=
 cm T.F_z ik jT fun cdv Ar outer s H E hr=>(aD (bp (i:=3) ik.nd rfl (Or.inl rfl) (Ft (af 2) eV))
   (aD (bp (i:=4) ik.nd rfl (Or.inl rfl) (gF (aj (af 2) aw)))
   (aD (E4 fu PassesOwn.leaving (oE (af 4)) (aD (bp (i:=5) ik.nd rfl (Or.inl rfl) (oN slot_list_pop type_list_pop oH ot (af 4)))
   (aH (ff PassesOwn.leaving rfl (mI (bA (af 0) (af 5) (fun _ _=>rfl))) (dW (i:=6) ik.nd rfl (Or.inl rfl))
   (aH (bQ (PW.pt (kM (yd (hr.cmp 1) (af 6) (af 3) (by with_unfolding_all rfl)) (nr (jW (hr.cmp 8) (bA (af 1) (af 6) (fun _ _=>rfl)) (bA (af 1) (af 2) (fun _ _=>rfl)))))) (aD (qV (hr.cmp 1) (af 3) (af 6) eV)
   (aH (eZ (fy PySem.F.slot_list_append PySem.F.type_list_append fQ fI (af 4) (aj (af 6) aw))))) bX))))))
   (aH (bf (dH (oh rfl rfl) (ou K jf) rfl T.n_sorted boot_sorted (aj (af 3) aw)))))))
theorem GX(fu:Nat)(T:Txt K mg A):ax P w K mg base (aZ P w) 2 A.f_fa A.d_fa ["board", "marks"] (cc K 2 (d_fa fu)) :=
 cm T.F_fa eN jT fun cdv Ar outer s H E hr=>(aD (bp (i:=2) eN.nd rfl (Or.inl rfl) w8)
   (aD (bp (i:=3) eN.nd rfl (Or.inl rfl) (gF aw))
   (aD (ff PassesOwn.leaving rfl (gU rfl T.n_range (aj (dH (fA rfl) (fz K) rfl T.n_len boot_len (aj (af 0) aw)) aw)) (dW (i:=4) eN.nd rfl (Or.inl rfl))
   (aH (bQ (yd (hr.cmp 1) (af 4) (af 2) (by with_unfolding_all rfl)) (aD (bp (i:=5) eN.nd rfl (Or.inl rfl) (bW (hZ (yy fu T)) (hr.mono (by decide)) rfl T.g_z T.F_z.kp T.b_z (aa.passes rfl) (aj (af 0) (aj (af 1) (aj (af 4) aw)))))
   (aD (eZ (fy PySem.F.slot_list_append PySem.F.type_list_append fQ fI (af 3) (aj (af 5) aw)))
   (aH (ff PassesOwn.leaving rfl (fY (af 5)) (dW (i:=6) eN.nd rfl (Or.inl rfl))
   (aH (qV (hr.cmp 1) (af 2) (af 6) eV)))))) bX)))
   (aH (bf (af 3))))))
theorem G6(fu:Nat)(T:Txt K mg A):ax P w K mg base (aZ P w) 2 A.f_aa A.d_aa ["board", "thing"] (cc K 2 (d_aa fu)) :=
 cm T.F_aa G9 dA fun cdv Ar outer s H E hr=>(aD (bQ (PW.pt (jk (gG (ib (dH (p8 K) (qt K) rfl T.n_isinstance boot_isinstance (aj (af 1) (aj (qr rfl T.n_tuple boot_tuple) aw))))) (j6 (jV (hr.cmp 8) (dH (fA rfl) (fz K) rfl T.n_len boot_len (aj (af 1) aw)) (dH (fA rfl) (fz K) rfl T.n_len boot_len (aj (af 0) aw)))))) (aH (bf eV)) bX)
   (aH (bf (dH (uc K) (uR K) rfl T.n_all boot_all (aj (jU dM (gH (N:=["board", "thing"]) (psc:=aX pI) (js:=[]) (N':=["what"]) (by decide +kernel)) rfl rfl (mI (af 1)) (fun _ _ _ _=>jz) (fun _ _ _ _=>(vd (m6 (bW (G7 fu T) (hr.mono (by decide)) rfl T.g_ca T.F_ca.kp T.b_ca rj (aj (af 0) aw)) (lP (E6 u4 u4 (lQ (f:=jH) (jX fun _ _=>rfl)) (lQ (f:=jH) (jX fun _ _=>rfl)) aA (af 0) aA)))))) aw)))))
theorem EG(fu:Nat)(T:Txt K mg A):ax P w K mg base (aZ P w) 2 A.f_ha A.d_ha ["board", "stand", "point"] (cc K 3 (d_ha fu)) :=
 cm T.F_ha EH jT fun cdv Ar outer s H E hr=>(aH (bf (bW (yy fu T) (hr.mono (by decide)) rfl T.g_z T.F_z.kp T.b_z (aa.passes rfl) (aj (af 0) (aj (af 1) (aj (af 2) aw))))))
theorem wt(fu:Nat)(T:Txt K mg A):ax P w K mg base (aZ P w) 3 A.f_ia A.d_ia ["board", "stand"] (cc K 2 (d_ia fu)) :=
 cm T.F_ia B1 dA fun cdv Ar outer s H E hr=>(aH (bf (jU dM (gH (N:=["board", "stand"]) (psc:=aX ox) (js:=[1]) (N':=["points", "stand"]) (by decide +kernel)) rfl rfl (fY (bW (hZ (GX fu T)) (hr.mono (by decide)) rfl T.g_fa T.F_fa.kp T.b_fa (aa.passes rfl) (aj (af 0) (aj (af 1) aw)))) (fun _ _ _ _=>(pf (jV (hr.cmp 8) (bA (af 1) (bA (af 0) aA (fun _ _=>rfl)) (fun _ _=>rfl)) aA))) (fun _ _ _ _=>(af 0)))))
theorem HV(fu:Nat)(T:Txt K mg A):ax P w K mg base (aZ P w) 1 A.f_d A.d_d ["board", "points"] (cc K 2 (d_d fu)) :=
 cm T.F_d jD jT fun cdv Ar outer s H E hr=>(aD (bp (i:=2) jD.nd rfl (Or.inl rfl) w8)
   (aD (ff PassesOwn.leaving rfl (fY (af 1)) (dW (i:=3) jD.nd rfl (Or.inl rfl))
   (aH (ff PassesOwn.leaving rfl (mI (bA (af 0) (af 3) (fun _ _=>rfl))) (dW (i:=4) jD.nd rfl (Or.inl rfl))
   (aH (qV (hr.cmp 1) (af 2) (af 4) eV)))))
   (aH (bf (dH (oh rfl rfl) (ou K jf) rfl T.n_sorted boot_sorted (aj (af 2) aw))))))
theorem sH(fu:Nat)(T:Txt K mg A):ax P w K mg base (aZ P w) 2 A.f_da A.d_da ["board", "stand", "row"] (cc K 3 (d_da fu)) :=
 cm T.F_da GY jT fun cdv Ar outer s H E hr=>(aH (bf (jU jf (gH (N:=["board", "stand", "row"]) (psc:=aX pw) (js:=[1]) (N':=["point", "stand"]) (by decide +kernel)) rfl rfl (fY (bW (hZ (HV fu T)) (hr.mono (by decide)) rfl T.g_d T.F_d.kp T.b_d (aa.passes rfl) (aj (af 0) (aj (af 2) aw)))) (fun _ _ _ _=>(pf (jW (hr.cmp 8) (bA (af 1) (af 0) (fun _ _=>rfl)) aA))) (fun _ _ _ _=>(af 0)))))
theorem G5(fu:Nat)(T:Txt K mg A):ax P w K mg base (aZ P w) 4 A.f_ba A.d_ba ["board", "stand"] (cc K 2 (d_ba fu)) :=
 cm T.F_ba G8 dA fun cdv Ar outer s H E hr=>(aH (bf (dH (uc K) (uR K) rfl T.n_all boot_all (aj (jU dM (gH (N:=["board", "stand"]) (psc:=aX pH) (js:=[0,1]) (N':=["row", "board", "stand"]) (by decide +kernel)) rfl rfl (fY (bW (wt fu T) (hr.mono (by decide)) rfl T.g_ia T.F_ia.kp T.b_ia (aa.passes rfl) (aj (af 0) (aj (af 1) aw)))) (fun _ _ _ _=>jz) (fun _ _ _ _=>(vd (z0 (dH (fA rfl) (fz K) rfl T.n_len boot_len (aj (bW (hZ (sH fu T)) (hr.mono (by decide)) rfl T.g_da T.F_da.kp T.b_da rj (aj (af 1) (aj (af 2) (aj (af 0) aw)))) aw)) aA)))) aw))))
theorem yk(fu:Nat)(T:Txt K mg A):ax P w K mg base (aZ P w) 1 A.f_ga A.d_ga ["stand", "points", "what"] (cc K 3 (d_ga fu)) :=
 cm T.F_ga ip dA fun cdv Ar outer s H E hr=>(aD (bp (i:=3) ip.nd rfl (Or.inl rfl) (jw (qJ rfl rfl) (qI K jf) rfl T.n_list PyProof.Rows.boot_list (aj (af 0) aw)))
   (aD (ff PassesOwn.leaving rfl (fY (af 1)) (dW (i:=4) ip.nd rfl (Or.inl rfl))
   (aH (qW (af 2) (CP (E:=E0) (af 3) (af 4)))))
   (aH (bf (jw (ni K) (nq K) rfl T.n_tuple boot_tuple (aj (af 3) aw))))))
theorem Hz(fu:Nat)(T:Txt K mg A):ax P w K mg base (aZ P w) 4 A.f_n A.d_n ["board", "stand", "hand"] (cc K 3 (d_n fu)) :=
 cm T.F_n k9 jT fun cdv Ar outer s H E hr=>(aD (bp (i:=3) k9.nd rfl (Or.inl rfl) (gF aw))
   (aD (ff PassesOwn.leaving rfl (fY (bW (wt fu T) (hr.mono (by decide)) rfl T.g_ia T.F_ia.kp T.b_ia (aa.passes rfl) (aj (af 0) (aj (af 1) aw)))) (dW (i:=4) k9.nd rfl (Or.inl rfl))
   (aH (bQ (PW.pt (kM (jW (hr.cmp 8) (bA (af 1) (bA (af 4) aA (fun _ _=>rfl)) (fun _ _=>rfl)) (af 2)) (nr (gG (oE (bW (hZ (sH fu T)) (hr.mono (by decide)) rfl T.g_da T.F_da.kp T.b_da (aa.passes rfl) (aj (af 0) (aj (af 1) (aj (af 4) aw))))))))) (aH (eZ (fy PySem.F.slot_list_extend PySem.F.type_list_extend CL Ax (af 3) (aj (af 4) aw)))) bX)))
   (aH (bf (dH (oh rfl rfl) (ou K jf) rfl T.n_sorted boot_sorted (aj (af 3) aw))))))
theorem wq(fu:Nat)(T:Txt K mg A):ax P w K mg base (aZ P w) 5 A.f_ja A.d_ja ["board", "stand", "hand", "point"] (cc K 4 (d_ja fu)) :=
 cm T.F_ja gj dA fun cdv Ar outer s H E hr=>(aD (bQ (jV (hr.cmp 8) (bA (af 1) (af 3) (fun _ _=>rfl)) aA) (aH (mm (l:=[3]) aa rfl T.xt rfl rfl rfl hr.hd (rg (kb mY (kb (qA 3) (kb mY rh)))) (fun _ h=>⟨trivial,h 3 (by decide),trivial,trivial⟩))) bX)
   (aD (bp (i:=4) gj.nd rfl (Or.inl rfl) (bW (yk fu T) (hr.mono (by decide)) rfl T.g_ga T.F_ga.kp T.b_ga (aa.passes rfl) (aj (af 1) (aj (gX (aj (af 3) aw)) (aj (af 2) aw)))))
   (aD (bp (i:=5) gj.nd rfl (Or.inl rfl) (bW (hZ (Hz fu T)) (hr.mono (by decide)) rfl T.g_n T.F_n.kp T.b_n (aa.passes rfl) (aj (af 0) (aj (af 4) (aj (bW (s9 fu T) (hr.mono (by decide)) rfl T.g_s T.F_s.kp T.b_s (aa.passes rfl) (aj (af 2) aw)) aw)))))
   (aD (bp (i:=6) gj.nd rfl (Or.inl rfl) (bW (yk fu T) (hr.mono (by decide)) rfl T.g_ga T.F_ga.kp T.b_ga (aa.passes rfl) (aj (af 4) (aj (af 5) (aj aA aw)))))
   (aD (bQ (gG (oE (bW (hZ (sH fu T)) (hr.mono (by decide)) rfl T.g_da T.F_da.kp T.b_da (aa.passes rfl) (aj (af 0) (aj (af 6) (aj (bW (hZ (EG fu T)) (hr.mono (by decide)) rfl T.g_ha T.F_ha.kp T.b_ha (aa.passes rfl) (aj (af 0) (aj (af 6) (aj (af 3) aw)))) aw)))))) (aH (mm (l:=[3]) aa rfl T.xt rfl rfl rfl hr.hd (rg (kb mY (kb (qA 3) (kb mY rh)))) (fun _ h=>⟨trivial,h 3 (by decide),trivial,trivial⟩))) bX)
   (aH (bf (iL (aj (af 6) (aj (af 5) aw))))))))))
theorem GW(fu:Nat)(T:Txt K mg A):ax P w K mg base (aZ P w) 6 A.f_ea A.d_ea ["board", "stand", "hand", "points"] (cc K 4 (d_ea fu)) :=
 cm T.F_ea gk jT fun cdv Ar outer s H E hr=>(aD (bp (i:=4) gk.nd rfl (Or.inl rfl) (gF aw))
   (aD (ff PassesOwn.leaving rfl (fY (af 3)) (dW (i:=5) gk.nd rfl (Or.inl rfl))
   (aD (C7 (i:=6) rfl rfl rfl gk.nd rfl (Or.inl rfl) (wq fu T) (hr.mono (by decide)) rfl T.g_ja T.F_ja.kp T.b_ja (aj (af 0) (aj (af 1) (aj (af 2) (aj (af 5) aw)))) (AQ rfl T.xt rfl rfl rfl rfl (fun _=>(aH Hq))))
   (aH (eZ (fy PySem.F.slot_list_append PySem.F.type_list_append fQ fI (af 4) (aj (iL (aj (af 5) (aj (bA (af 6) aA (fun _ _=>rfl)) (aj (bA (af 6) aA (fun _ _=>rfl)) aw)))) aw))))))
   (aH (bf (af 4)))))
theorem yW(fu:Nat)(T:Txt K mg A):ax P w K mg base (aZ P w) 1 A.f_k A.d_k ["_law_cell", "_law_many"] (cc K 2 (d_k fu)) :=
 cm T.F_k il dA fun cdv Ar outer s H E hr=>(aD (bp (i:=2) il.nd rfl (Or.inl rfl) (gF aw))
   (aD (bp (i:=3) il.nd rfl (Or.inl rfl) (eY (du (af 0) aA) aA))
   (aD (ff PassesOwn.leaving rfl (gU rfl T.n_range (aj (eY (af 1) aA) aw)) (dW (i:=4) il.nd rfl (Or.inl rfl))
   (aD (bp (i:=3) il.nd rfl (Or.inl rfl) (du (eY (eY (j7 (af 3) (af 3)) (j7 aA (af 3))) (af 4)) aA))
   (aH (eZ (fy PySem.F.slot_list_append PySem.F.type_list_append fQ fI (af 2) (aj (af 3) aw))))))
   (aH (bf (jj dM (af 2) (iU aA) j8))))))
theorem yV(fu:Nat)(T:Txt K mg A):ax P w K mg base (aZ P w) 1 A.f_i A.d_i ["_law_many", "_law_lines_here"] (cc K 2 (d_i fu)) :=
 cm T.F_i jB dA fun cdv Ar outer s H E hr=>(aD (mW (k:=2) dM (gH (N:=["_law_many", "_law_lines_here", "_law_joined_here", "_law_one", "_law_other"]) (psc:=aX nF) (js:=[]) (N':=["_law_k"]) (by decide +kernel)) rfl rfl (gU rfl T.n_range (aj (af 0) aw)) (fun _ _ _ _=>jz) (fun _ _ _ _=>(gF aw)) jB.nd rfl rfl (by with_unfolding_all rfl))
   (aD (ff PassesOwn.leaving rfl (fY (af 1)) (qX rfl (mv (dW (i:=3) jB.nd rfl (Or.inl rfl)) (mv (dW (i:=4) jB.nd rfl (Or.inl rfl)) rQ)))
   (aD (eZ (fy PySem.F.slot_list_append PySem.F.type_list_append fQ fI (bA (af 2) (af 3) (fun _ _=>rfl)) (aj (af 4) aw)))
   (aH (eZ (fy PySem.F.slot_list_append PySem.F.type_list_append fQ fI (bA (af 2) (af 4) (fun _ _=>rfl)) (aj (af 3) aw))))))
   (aH (bf (jw (ni K) (nq K) rfl T.n_tuple boot_tuple (aj (jU dM (gH (N:=["_law_many", "_law_lines_here", "_law_joined_here", "_law_one", "_law_other"]) (psc:=aX nF) (js:=[]) (N':=["_law_some"]) (by decide +kernel)) rfl rfl (fY (af 2)) (fun _ _ _ _=>jz) (fun _ _ _ _=>(jw (ni K) (nq K) rfl T.n_tuple boot_tuple (aj (dH (oh rfl rfl) (ou K dM) rfl T.n_sorted boot_sorted (aj (af 0) aw)) aw)))) aw))))))
theorem y_(fu:Nat)(T:Txt K mg A):ax P w K mg base (aZ P w) 2 A.f_m A.d_m ["_law_xs"] (cc K 1 (d_m fu)) :=
 cm T.F_m dD uU fun cdv Ar outer s H E hr=>(aD (bQ (kK (du (bA (af 0) aA (fun _ _=>rfl)) aA) aA) (aD (bp (i:=1) dD.nd rfl (Or.inr rfl) (eY aA (du (bA (af 0) aA (fun _ _=>rfl)) aA)))
   (aD (bp (i:=2) dD.nd rfl (Or.inl rfl) (j7 (af 1) (eY aA (du (bA (af 0) aA (fun _ _=>rfl)) aA))))
   (aD (bQ (kK (du (vO (bA (af 0) aA (fun _ _=>rfl)) aA) aA) aA) (aD (bp (i:=1) dD.nd rfl (Or.inr rfl) (eY aA (du (bA (af 0) aA (fun _ _=>rfl)) aA)))
   (aH (bp (i:=2) dD.nd rfl (Or.inl rfl) (j7 aA (af 1))))) bX)
   (aD (mW (k:=3) jf (gH (N:=["_law_xs", "_law_wide", "_law_many", "_law_lines_here", "_law_beside", "_law_ys", "_law_one", "_law_other"]) (psc:=aX kZ) (js:=[1]) (N':=["_law_k", "_law_wide"]) (by decide +kernel)) rfl rfl (gU rfl T.n_range (aj (iM (af 2) (af 1)) aw)) (fun _ _ _ _=>jz) (fun _ _ _ _=>(iL (aj (af 0) (aj (eY (af 0) (af 1)) aw)))) dD.nd rfl rfl (by with_unfolding_all rfl))
   (aD (mW (k:=4) dM (gH (N:=["_law_xs", "_law_wide", "_law_many", "_law_lines_here", "_law_beside", "_law_ys", "_law_one", "_law_other"]) (psc:=aX kZ) (js:=[1]) (N':=["_law_k", "_law_wide"]) (by decide +kernel)) rfl rfl (gU rfl T.n_range (aj (iM (af 2) aA) aw)) (fun _ _ _ _=>(pf (oi (du (eY (af 0) aA) (af 1)) aA))) (fun _ _ _ _=>(af 0)) dD.nd rfl rfl (by with_unfolding_all rfl))
   (aH (bf (iL (aj (af 2) (aj (qY dM (af 3) (jU dM (gH (N:=["_law_xs", "_law_wide", "_law_many", "_law_lines_here", "_law_beside", "_law_ys", "_law_one", "_law_other"]) (psc:=aX kZ) (js:=[]) (N':=["_law_k"]) (by decide +kernel)) rfl rfl (fY (af 4)) (fun _ _ _ _=>jz) (fun _ _ _ _=>(iL (aj (af 0) (aj (eY (af 0) aA) aw)))))) aw)))))))))) bX)
   (aD (bp (i:=2) dD.nd rfl (Or.inl rfl) (eY aA (du (bA (af 0) aA (fun _ _=>rfl)) (bA (gX (aj aA (aj aA (aj aA (aj aA aw))))) (du (bA (af 0) aA (fun _ _=>rfl)) aA) (fun _ _=>rfl)))))
   (aD (mW (k:=3) jf (gH (N:=["_law_xs", "_law_wide", "_law_many", "_law_lines_here", "_law_beside", "_law_ys", "_law_one", "_law_other"]) (psc:=aX kZ) (js:=[]) (N':=["_law_k"]) (by decide +kernel)) rfl rfl (gU rfl T.n_range (aj (iM (af 2) aA) aw)) (fun _ _ _ _=>jz) (fun _ _ _ _=>(iL (aj (af 0) (aj (eY (af 0) aA) aw)))) dD.nd rfl rfl (by with_unfolding_all rfl))
   (aD (bQ (PW.pt (kM (kK (du (bA (af 0) aA (fun _ _=>rfl)) aA) aA) (kM (oi (af 2) aA) (nr (kK (du (bA (af 0) aA (fun _ _=>rfl)) aA) aA))))) (aH (eZ (fy PySem.F.slot_list_append PySem.F.type_list_append fQ fI (af 3) (aj (iL (aj aA (aj (iM (af 2) aA) aw))) aw)))) bX)
   (aD (bQ (oi (du (bA (af 0) aA (fun _ _=>rfl)) aA) aA) (aD (bp (i:=5) dD.nd rfl (Or.inl rfl) (bW (yW fu T) (hr.mono (by decide)) rfl T.g_k T.F_k.kp T.b_k (aa.passes rfl) (aj (bA (af 0) aA (fun _ _=>rfl)) (aj (j7 (af 2) (af 2)) aw))))
   (aD (bp (i:=3) dD.nd rfl (Or.inl rfl) (gF aw))
   (aH (ff PassesOwn.leaving rfl (gU rfl T.n_range (aj (af 2) aw)) (dW (i:=6) dD.nd rfl (Or.inl rfl))
   (aH (ff PassesOwn.leaving rfl (gU rfl T.n_range (aj (af 6) aw)) (dW (i:=7) dD.nd rfl (Or.inl rfl))
   (aH (bQ (uB (du (bA (af 5) (eY (j7 (af 6) (af 2)) (af 7)) (fun _ _=>rfl)) aA) (du (bA (af 0) aA (fun _ _=>rfl)) aA)) (aH (eZ (fy PySem.F.slot_list_append PySem.F.type_list_append fQ fI (af 3) (aj (iL (aj (af 7) (aj (af 6) aw))) aw)))) bX)))))))) bX)
   (aH (bf (iL (aj (af 2) (aj (af 3) aw))))))))))
theorem pM(fu:Nat)(T:Txt K mg A):ax P w K mg base (aZ P w) 1 A.f_p A.d_p ["self"] (cc K 1 (d_p fu)) :=
 cm T.F_p Ht dA fun cdv Ar outer s H E hr=>(aH (bf (bA (eG T.cls_Game T.na_Game_past (af 0)) (lR aA) (fun _ _=>rfl))))
theorem kY(fu:Nat)(T:Txt K mg A):ax P w K mg base (aZ P w) 1 A.f_r A.d_r ["self"] (cc K 1 (d_r fu)) :=
 cm T.F_r HB dA fun cdv Ar outer s H E hr=>(aD (bQ (jW (hr.cmp 8) (jj dM (eG T.cls_Game T.na_Game_done (af 0)) (iU (lR aA)) j8) (gX (aj fN (aj fN aw)))) (aH (bf jq)) bX)
   (aD (bQ (zZ (dH (fA rfl) (fz K) rfl T.n_len boot_len (aj (eG T.cls_Game T.na_Game_done (af 0)) aw)) (Fu rfl T.c_MOST_DEEDS)) (aH (bf jq)) bX)
   (aH (bf fN))))
theorem zd(fu:Nat)(T:Txt K mg A):ax P w K mg base (aZ P w) 2 A.f_f A.d_f ["self", "moment"] (cc K 2 (d_f fu)) :=
 cm T.F_f HK dA fun cdv Ar outer s H E hr=>(aH (bf (Bk (jW (hr.cmp 8) (du (af 1) aA) aA) (eG T.cls_Game T.na_Game_first (af 0)) (bW (s9 fu T) (hr.mono (by decide)) rfl T.g_s T.F_s.kp T.b_s (aa.passes rfl) (aj (eG T.cls_Game T.na_Game_first (af 0)) aw)))))
theorem kd(fu:Nat)(T:Txt K mg A):ax P w K mg base (aZ P w) 3 A.f_x A.d_x ["self"] (cc K 1 (d_x fu)) :=
 cm T.F_x Ho dA fun cdv Ar outer s H E hr=>(aH (bf (kO T.cls_Game T.mt_f (zd fu T) (hr.mono (by decide)) T.b_f (aa.passes rfl) (af 0) (aj (dH (fA rfl) (fz K) rfl T.n_len boot_len (aj (eG T.cls_Game T.na_Game_done (af 0)) aw)) aw))))
theorem HY(fu:Nat)(T:Txt K mg A):ax P w K mg base (aZ P w) 4 A.f_b A.d_b ["self", "moment"] (cc K 2 (d_b fu)) :=
 cm T.F_b HX dA fun cdv Ar outer s H E hr=>(aH (bf (zY (lJ (hr.cmp 8) (eG T.cls_Game T.na_Game_barring (af 0)) jq) (lP (lJ (hr.cmp 8) (kO T.cls_Game T.mt_f (zd fu T) (hr.mono (by decide)) T.b_f (aa.passes rfl) (af 0) (aj (af 1) aw)) (bW (s9 fu T) (hr.mono (by decide)) rfl T.g_s T.F_s.kp T.b_s (aa.passes rfl) (aj (cV T.cls_Game T.mt_x (kd fu T) (hr.mono (by decide)) T.b_x (aa.passes rfl) (af 0)) aw)))))))
theorem zc(fu:Nat)(T:Txt K mg A):ax P w K mg base (aZ P w) 5 A.f_g A.d_g ["self", "behind"] (cc K 2 (d_g fu)) :=
 cm T.F_g nJ dA fun cdv Ar outer s H E hr=>(aD (ff PassesOwn.leaving rfl (gU rfl T.n_range (aj (dH (fA rfl) (fz K) rfl T.n_len boot_len (aj (eG T.cls_Game T.na_Game_past (af 0)) aw)) aw)) (dW (i:=2) nJ.nd rfl (Or.inl rfl))
   (aH (bQ (PW.pt (kM (jW (hr.cmp 8) (bA (eG T.cls_Game T.na_Game_past (af 0)) (af 2) (fun _ _=>rfl)) (af 1)) (nr (ib (kO T.cls_Game T.mt_b (HY fu T) (hr.mono (by decide)) T.b_b (aa.passes rfl) (af 0) (aj (af 2) aw)))))) (aH (bf (af 2))) bX)))
   (aH (bf fN)))
theorem pK(fu:Nat)(T:Txt K mg A):ax P w K mg base (aZ P w) 6 A.f_u A.d_u ["self", "what"] (cc K 2 (d_u fu)) :=
 cm T.F_u fS dA fun cdv Ar outer s H E hr=>(aD (bQ (gY (cV T.cls_Game T.mt_r (kY fu T) (hr.mono (by decide)) T.b_r (aa.passes rfl) (af 0))) (aH (mm (l:=[]) aa rfl T.xt rfl rfl rfl hr.hd oy (fun _ _=>trivial))) bX)
   (aD (bp (i:=2) fS.nd rfl (Or.inl rfl) (cV T.cls_Game T.mt_p (pM fu T) (hr.mono (by decide)) T.b_p (aa.passes rfl) (af 0)))
   (aD (bp (i:=3) fS.nd rfl (Or.inl rfl) aA)
   (aD (bQ (gY (af 1)) (aD (bp (i:=4) fS.nd rfl (Or.inl rfl) (bW (wq fu T) (hr.mono (by decide)) rfl T.g_ja T.F_ja.kp T.b_ja (aa.passes rfl) (aj (eG T.cls_Game T.na_Game_joined (af 0)) (aj (af 2) (aj (cV T.cls_Game T.mt_x (kd fu T) (hr.mono (by decide)) T.b_x (aa.passes rfl) (af 0)) (aj (af 1) aw))))))
   (aD (bp (i:=2) fS.nd rfl (Or.inl rfl) (bA (af 4) aA (fun _ _=>rfl)))
   (aD (bp (i:=3) fS.nd rfl (Or.inl rfl) (dH (fA rfl) (fz K) rfl T.n_len boot_len (aj (bA (af 4) aA (fun _ _=>rfl)) aw)))
   (aD (bp (i:=5) fS.nd rfl (Or.inl rfl) (kO T.cls_Game T.mt_g (zc fu T) (hr.mono (by decide)) T.b_g (aa.passes rfl) (af 0) (aj (af 2) aw)))
   (aH (bQ (gY (af 5)) (aH (FF aa (aa.passes rfl) rfl T.xn_Again.xi (HQ T) (hr.mono (by decide)) T.b_Again___init__ (T.xt.at rfl) rfl rfl hr.hd (i:=5) rfl (Or.inl rfl))) bX)))))) bX)
   (aD (eZ (fy PySem.F.slot_list_append PySem.F.type_list_append fQ fI (eG T.cls_Game T.na_Game_past (af 0)) (aj (af 2) aw)))
   (aD (eZ (fy PySem.F.slot_list_append PySem.F.type_list_append fQ fI (eG T.cls_Game T.na_Game_done (af 0)) (aj (af 1) aw)))
   (aH (eZ (fy PySem.F.slot_list_append PySem.F.type_list_append fQ fI (eG T.cls_Game T.na_Game_takings (af 0)) (aj (af 3) aw))))))))))
theorem HJ(fu:Nat)(T:Txt K mg A):ax P w K mg base (aZ P w) 7 A.f_h A.d_h ["_law_game", "_law_what"] (cc K 2 (d_h fu)) :=
 cm T.F_h jC dA fun cdv Ar outer s H E hr=>(aD (bp (i:=2) jC.nd rfl (Or.inl rfl) fN)
   (aD (xu rfl rfl rfl T.cls_Game T.mt_u (pK fu T) (hr.mono (by decide)) T.b_u (af 0) (aj (af 1) aw) (uv (i:=3) rfl T.xt rfl jC.nd rfl rfl rfl (fun _=>(aH (bp (i:=2) jC.nd rfl (Or.inl rfl) (af 3))))))
   (aD (bQ (PW.pt (jk (gG (ib (C6 rfl T.xt rfl (af 2) rfl T.n_isinstance rfl))) (j6 (gG (ib (C5 rfl T.xt (af 2) rfl T.n_isinstance rfl T.n_ValueError)))))) (aH (bf eV)) bX)
   (aH (bf (vM (C3 rfl T.xt rfl (by decide) (af 2) (ny (T.xt.at rfl) rfl (ny (T.xt.at rfl) rfl (ny (T.xt.at rfl) rfl (ny (T.xt.at rfl) rfl (ny (T.xt.at rfl) rfl C4))))) rfl T.n_isinstance)))))))
theorem Hm(fu:Nat)(T:Txt K mg A):ax P w K mg base (aZ P w) 7 A.f_w A.d_w ["_law_game", "_law_many", "_law_start"] (cc K 3 (d_w fu)) :=
 cm T.F_w gJ dA fun cdv Ar outer s H E hr=>(aD (ff PassesOwn.leaving rfl (gU rfl T.n_range (aj (af 1) aw)) (dW (i:=3) gJ.nd rfl (Or.inl rfl))
   (aD (bp (i:=4) gJ.nd rfl (Or.inl rfl) (du (eY (af 2) (af 3)) (af 1)))
   (aD (bp (i:=5) gJ.nd rfl (Or.inl rfl) fN)
   (aD (xu rfl rfl rfl T.cls_Game T.mt_u (pK fu T) (hr.mono (by decide)) T.b_u (af 0) (aj (af 4) aw) (uv (i:=6) rfl T.xt rfl gJ.nd rfl rfl rfl (fun _=>(aH (bp (i:=5) gJ.nd rfl (Or.inl rfl) (af 6))))))
   (aH (bQ (qQ (af 5)) (aH (bf (af 4))) bX))))))
   (aH (bf fN)))
theorem nH(fu:Nat)(T:Txt K mg A):ax P w K mg base (aZ P w) 1 A.f_l A.d_l ["self"] (cc K 1 (d_l fu)) :=
 cm T.F_l HL dA fun cdv Ar outer s H E hr=>(aH (bf (jw (qJ rfl rfl) (qI K dM) rfl T.n_list PyProof.Rows.boot_list (aj (eG T.cls_Game T.na_Game_past (af 0)) aw))))
theorem zj(fu:Nat)(T:Txt K mg A):ax P w K mg base (aZ P w) 7 A.f_a A.d_a ["self"] (cc K 1 (d_a fu)) :=
 cm T.F_a la jT fun cdv Ar outer s H E hr=>(aD (bQ (gY (cV T.cls_Game T.mt_r (kY fu T) (hr.mono (by decide)) T.b_r (aa.passes rfl) (af 0))) (aH (bf (gF aw))) bX)
   (aD (bp (i:=1) la.nd rfl (Or.inl rfl) (bW (hZ (GW fu T)) (hr.mono (by decide)) rfl T.g_ea T.F_ea.kp T.b_ea (aa.passes rfl) (aj (eG T.cls_Game T.na_Game_joined (af 0)) (aj (cV T.cls_Game T.mt_p (pM fu T) (hr.mono (by decide)) T.b_p (aa.passes rfl) (af 0)) (aj (cV T.cls_Game T.mt_x (kd fu T) (hr.mono (by decide)) T.b_x (aa.passes rfl) (af 0)) (aj (CM dM rfl rfl T.n_list rfl T.n_range (aj (dH (fA rfl) (fz K) rfl T.n_len boot_len (aj (eG T.cls_Game T.na_Game_joined (af 0)) aw)) aw)) aw))))))
   (aD (mW (k:=2) jf (gH (N:=["self", "lays", "found"]) (psc:=aX pN) (js:=[0]) (N':=["lay", "self"]) (by decide +kernel)) rfl rfl (fY (af 1)) (fun _ _ _ _=>(pf (AU (qQ (kO T.cls_Game T.mt_g (zc fu T) (hr.mono (by decide)) T.b_g rj (af 1) (aj (bA (af 0) aA (fun _ _=>rfl)) aw)))))) (fun _ _ _ _=>(bA (af 0) aA (fun _ _=>rfl))) la.nd rfl rfl (by with_unfolding_all rfl))
   (aD (eZ (fy PySem.F.slot_list_append PySem.F.type_list_append fQ fI (af 2) (aj fN aw)))
   (aH (bf (af 2)))))))
theorem sZ(fu:Nat)(T:Txt K mg A):ax P w K mg base (aZ P w) 1 A.f_q A.d_q ["self"] (cc K 1 (d_q fu)) :=
 cm T.F_q HA dA fun cdv Ar outer s H E hr=>(aH (bf (jw (qJ rfl rfl) (qI K dM) rfl T.n_list PyProof.Rows.boot_list (aj (eG T.cls_Game T.na_Game_done (af 0)) aw))))
theorem Hl(fu:Nat)(T:Txt K mg A):ax P w K mg base (aZ P w) 1 A.f_t A.d_t ["self"] (cc K 1 (d_t fu)) :=
 cm T.F_t Hn dA fun cdv Ar outer s H E hr=>(aD (bQ (gG (oE (eG T.cls_Game T.na_Game_done (af 0)))) (aH (mm (l:=[]) aa rfl T.xt rfl rfl rfl hr.hd oy (fun _ _=>trivial))) bX)
   (aD (eZ (oN slot_list_pop type_list_pop oH ot (eG T.cls_Game T.na_Game_past (af 0))))
   (aD (eZ (oN slot_list_pop type_list_pop oH ot (eG T.cls_Game T.na_Game_done (af 0))))
   (aH (eZ (oN slot_list_pop type_list_pop oH ot (eG T.cls_Game T.na_Game_takings (af 0))))))))
theorem za(fu:Nat)(T:Txt K mg A):ax P w K mg base (aZ P w) 8 A.f_c A.d_c ["_law_game", "_law_many", "_law_deeds", "_law_due"] (cc K 4 (d_c fu)) :=
 cm T.F_c jE dA fun cdv Ar outer s H E hr=>(aD (bp (i:=4) jE.nd rfl (Or.inl rfl) (cV T.cls_Game T.mt_l (nH fu T) (hr.mono (by decide)) T.b_l (aa.passes rfl) (af 0)))
   (aD (bp (i:=5) jE.nd rfl (Or.inl rfl) (cV T.cls_Game T.mt_x (kd fu T) (hr.mono (by decide)) T.b_x (aa.passes rfl) (af 0)))
   (aD (bQ (PW.pt (jk (jV (hr.cmp 8) (cV T.cls_Game T.mt_r (kY fu T) (hr.mono (by decide)) T.b_r (aa.passes rfl) (af 0)) (af 3)) (j6 (jV (hr.cmp 8) (cV T.cls_Game T.mt_a (hZ (zj fu T)) (hr.mono (by decide)) T.b_a (aa.passes rfl) (af 0)) (gX aw))))) (aH (bf eV)) bX)
   (aD (ff PassesOwn.leaving rfl (fY (gX (aj fN (aj aA (aj (iM (af 1) aA) aw))))) (dW (i:=6) jE.nd rfl (Or.inl rfl))
   (aH (bQ (gG (ib (bW (HJ fu T) (hr.mono (by decide)) rfl T.g_h T.F_h.kp T.b_h (aa.passes rfl) (aj (af 0) (aj (af 6) aw))))) (aH (bf eV)) bX)))
   (aD (bQ (PW.pt (jk (jV (hr.cmp 8) (cV T.cls_Game T.mt_l (nH fu T) (hr.mono (by decide)) T.b_l (aa.passes rfl) (af 0)) (af 4)) (jk (jV (hr.cmp 8) (cV T.cls_Game T.mt_q (sZ fu T) (hr.mono (by decide)) T.b_q (aa.passes rfl) (af 0)) (af 2)) (j6 (jV (hr.cmp 8) (cV T.cls_Game T.mt_x (kd fu T) (hr.mono (by decide)) T.b_x (aa.passes rfl) (af 0)) (af 5)))))) (aH (bf eV)) bX)
   (aD (bQ (PW.pt (jk (gY (cV T.cls_Game T.mt_t (Hl fu T) (hr.mono (by decide)) T.b_t (aa.passes rfl) (af 0))) (j6 (gY (cV T.cls_Game T.mt_r (kY fu T) (hr.mono (by decide)) T.b_r (aa.passes rfl) (af 0)))))) (aH (bf eV)) bX)
   (aH (bf (m6 (vA (cV T.cls_Game T.mt_x (kd fu T) (hr.mono (by decide)) T.b_x (aa.passes rfl) (af 0)) (iM aA (af 5))) (lP (lJ (hr.cmp 8) (cV T.cls_Game T.mt_q (sZ fu T) (hr.mono (by decide)) T.b_q (aa.passes rfl) (af 0)) (jj dM (af 2) j8 (iU (lR aA))))))))))))))
theorem tM(fu:Nat)(T:Txt K mg A):ax P w K mg base (aZ P w) 7 A.f_j A.d_j ["_law_game", "_law_deeds"] (cc K 2 (d_j fu)) :=
 cm T.F_j k_ dA fun cdv Ar outer s H E hr=>(aD (bp (i:=2) k_.nd rfl (Or.inl rfl) (cV T.cls_Game T.mt_p (pM fu T) (hr.mono (by decide)) T.b_p (aa.passes rfl) (af 0)))
   (aD (bp (i:=3) k_.nd rfl (Or.inl rfl) (cV T.cls_Game T.mt_x (kd fu T) (hr.mono (by decide)) T.b_x (aa.passes rfl) (af 0)))
   (aD (bQ (gY (kO T.cls_Game T.mt_u (pK fu T) (hr.mono (by decide)) T.b_u (aa.passes rfl) (af 0) (aj fN aw))) (aH (bf eV)) bX)
   (aD (eZ (fy PySem.F.slot_list_append PySem.F.type_list_append fQ fI (af 1) (aj fN aw)))
   (aH (bf (m6 (lJ (hr.cmp 8) (cV T.cls_Game T.mt_p (pM fu T) (hr.mono (by decide)) T.b_p (aa.passes rfl) (af 0)) (af 2)) (lP (vA (cV T.cls_Game T.mt_x (kd fu T) (hr.mono (by decide)) T.b_x (aa.passes rfl) (af 0)) (iM aA (af 3)))))))))))
theorem sS(fu:Nat)(T:Txt K mg A):ax P w K mg base (aZ P w) 1 A.f_y A.d_y ["_law_stands", "_law_deeds", "_law_rule"] (cc K 3 (d_y fu)) :=
 cm T.F_y jA dA fun cdv Ar outer s H E hr=>(aD (bp (i:=3) jA.nd rfl (Or.inl rfl) Dn)
   (aD (ff PassesOwn.leaving rfl (gU rfl T.n_range (aj (dH (fA rfl) (fz K) rfl T.n_len boot_len (aj (af 0) aw)) aw)) (dW (i:=4) jA.nd rfl (Or.inl rfl))
   (aD (bp (i:=5) jA.nd rfl (Or.inl rfl) (iL (aj (bA (af 0) (af 4) (fun _ _=>rfl)) (aj (j7 (du (af 4) aA) (jw FT Ap rfl T.n_int boot_int (aj (lJ (hr.cmp 8) (af 2) jq) aw))) aw))))
   (aD (bQ (PW.pt (kM (oi (af 4) aA) (kM (gY (bA (af 1) (iM (af 4) aA) (fun _ _=>rfl))) (nr (Dm (hr.cmp 2) (af 5) (af 3) (by with_unfolding_all rfl)))))) (aH (bf eV)) bX)
   (aH (Dl (hr.cmp 2) (af 3) (af 5) eV)))))
   (aH (bf eV))))
theorem zg(fu:Nat)(T:Txt K mg A):ax P w K mg base (aZ P w) 5 A.f_e A.d_e ["self", "board", "rule", "stand", "hand"] (cc K 5 (d_e fu)) :=
 cm T.F_e HW uU fun cdv Ar outer s H E hr=>(aD (bQ (gG (ib (bW (G6 fu T) (hr.mono (by decide)) rfl T.g_aa T.F_aa.kp T.b_aa (aa.passes rfl) (aj (af 1) (aj (af 3) aw))))) (aH (mm (l:=[]) aa rfl T.xt rfl rfl rfl hr.hd oy (fun _ _=>trivial))) bX)
   (aD (bQ (gG (ib (bW (G5 fu T) (hr.mono (by decide)) rfl T.g_ba T.F_ba.kp T.b_ba (aa.passes rfl) (aj (af 1) (aj (af 3) aw))))) (aH (mm (l:=[]) aa rfl T.xt rfl rfl rfl hr.hd oy (fun _ _=>trivial))) bX)
   (aD (lO T.cls_Game T.na_Game_joined (af 0) (af 1))
   (aD (lO T.cls_Game T.na_Game_barring (af 0) (af 2))
   (aD (lO T.cls_Game T.na_Game_first (af 0) (af 4))
   (aD (lO T.cls_Game T.na_Game_past (af 0) (gF (aj (af 3) aw)))
   (aD (lO T.cls_Game T.na_Game_done (af 0) (gF aw))
   (aH (lO T.cls_Game T.na_Game_takings (af 0) (gF aw))))))))))
theorem Hk(fu:Nat)(T:Txt K mg A):ax P w K mg base (aZ P w) 9 A.f_v A.d_v ["_law_board", "_law_rule", "_law_hand", "_law_xs"] (cc K 4 (d_v fu)) :=
 cm T.F_v fR dA fun cdv Ar outer s H E hr=>(aD (bp (i:=4) fR.nd rfl (Or.inl rfl) (wu T.mk_Game (zg fu T) (hr.mono (by decide)) rfl T.gc_Game T.b_e (aa.passes rfl) (aj (af 0) (aj (af 1) (aj (jw (ni K) (nq K) rfl T.n_tuple boot_tuple (aj (jU dM (gH (N:=["_law_board", "_law_rule", "_law_hand", "_law_xs", "_law_game", "_law_deeds", "_law_k", "_law_point", "_law_due"]) (psc:=aX pD) (js:=[]) (N':=["_law_point"]) (by decide +kernel)) rfl rfl (mI (af 0)) (fun _ _ _ _=>jz) (fun _ _ _ _=>aA)) aw)) (aj (af 2) aw))))))
   (aD (bp (i:=5) fR.nd rfl (Or.inl rfl) (gF aw))
   (aD (ff PassesOwn.leaving rfl (gU rfl T.n_range (aj aA aw)) (dW (i:=6) fR.nd rfl (Or.inl rfl))
   (aD (bQ (gY (cV T.cls_Game T.mt_r (kY fu T) (hr.mono (by decide)) T.b_r (aa.passes rfl) (af 4))) (aH (bf (bW (sS fu T) (hr.mono (by decide)) rfl T.g_y T.F_y.kp T.b_y (aa.passes rfl) (aj (cV T.cls_Game T.mt_l (nH fu T) (hr.mono (by decide)) T.b_l (aa.passes rfl) (af 4)) (aj (af 5) (aj (af 1) aw)))))) bX)
   (aD (bp (i:=7) fR.nd rfl (Or.inl rfl) (bW (Hm fu T) (hr.mono (by decide)) rfl T.g_w T.F_w.kp T.b_w (aa.passes rfl) (aj (af 4) (aj (dH (fA rfl) (fz K) rfl T.n_len boot_len (aj (af 0) aw)) (aj (eY (bA (af 3) (eY aA (du (af 6) aA)) (fun _ _=>rfl)) (j7 aA (af 6))) aw)))))
   (aH (bQ (qQ (af 7)) (aH (bQ (gG (ib (bW (tM fu T) (hr.mono (by decide)) rfl T.g_j T.F_j.kp T.b_j (aa.passes rfl) (aj (af 4) (aj (af 5) aw))))) (aH (bf eV)) bX)) (aH (eZ (fy PySem.F.slot_list_append PySem.F.type_list_append fQ fI (af 5) (aj (af 7) aw)))))))))
   (aD (bQ (PW.pt (jk (uB (dH (fA rfl) (fz K) rfl T.n_len boot_len (aj (af 5) aw)) aA) (j6 (gG (ib (bW (sS fu T) (hr.mono (by decide)) rfl T.g_y T.F_y.kp T.b_y (aa.passes rfl) (aj (cV T.cls_Game T.mt_l (nH fu T) (hr.mono (by decide)) T.b_l (aa.passes rfl) (af 4)) (aj (af 5) (aj (af 1) aw))))))))) (aH (bf (bW (sS fu T) (hr.mono (by decide)) rfl T.g_y T.F_y.kp T.b_y (aa.passes rfl) (aj (cV T.cls_Game T.mt_l (nH fu T) (hr.mono (by decide)) T.b_l (aa.passes rfl) (af 4)) (aj (af 5) (aj (af 1) aw)))))) bX)
   (aD (bp (i:=8) fR.nd rfl (Or.inl rfl) jq)
   (aD (bQ (jW (hr.cmp 8) (jj dM (af 5) (iU aA) j8) (gX (aj fN (aj fN aw)))) (aH (bp (i:=8) fR.nd rfl (Or.inl rfl) jq)) bX)
   (aD (bQ (gG (ib (bW (za fu T) (hr.mono (by decide)) rfl T.g_c T.F_c.kp T.b_c (aa.passes rfl) (aj (af 4) (aj (dH (fA rfl) (fz K) rfl T.n_len boot_len (aj (af 0) aw)) (aj (af 5) (aj (af 8) aw))))))) (aH (bf eV)) bX)
   (aH (bf (m6 (bW (tM fu T) (hr.mono (by decide)) rfl T.g_j T.F_j.kp T.b_j (aa.passes rfl) (aj (af 4) (aj (jj jf (af 5) j8 (iU (lR aA))) aw))) (lP (CW (cV T.cls_Game T.mt_r (kY fu T) (hr.mono (by decide)) T.b_r (aa.passes rfl) (af 4))))))))))))))
theorem Hy(fu:Nat)(T:Txt K mg A):ax P w K mg base (aZ P w) 9 A.f_o A.d_o ["_law_board", "_law_rule", "_law_hand", "_law_cells"] (cc K 4 (d_o fu)) :=
 cm T.F_o gK dA fun cdv Ar outer s H E hr=>(aD (bp (i:=4) gK.nd rfl (Or.inl rfl) (wu T.mk_Game (zg fu T) (hr.mono (by decide)) rfl T.gc_Game T.b_e (aa.passes rfl) (aj (af 0) (aj (af 1) (aj (jw (ni K) (nq K) rfl T.n_tuple boot_tuple (aj (jU dM (gH (N:=["_law_board", "_law_rule", "_law_hand", "_law_cells", "_law_game", "_law_deeds", "_law_cell", "_law_some", "_law_what"]) (psc:=aX pL) (js:=[]) (N':=["_law_point"]) (by decide +kernel)) rfl rfl (mI (af 0)) (fun _ _ _ _=>jz) (fun _ _ _ _=>aA)) aw)) (aj (af 2) aw))))))
   (aD (bp (i:=5) gK.nd rfl (Or.inl rfl) (gF aw))
   (aD (ff PassesOwn.leaving rfl (fY (af 3)) (dW (i:=6) gK.nd rfl (Or.inl rfl))
   (aD (bQ (jW (hr.cmp 8) (jj dM (af 5) (iU (lR aA)) j8) (gX (aj fN (aj fN aw)))) (aH (bf (bW (za fu T) (hr.mono (by decide)) rfl T.g_c T.F_c.kp T.b_c (aa.passes rfl) (aj (af 4) (aj (dH (fA rfl) (fz K) rfl T.n_len boot_len (aj (af 0) aw)) (aj (af 5) (aj jq aw))))))) bX)
   (aD (bQ (gY (cV T.cls_Game T.mt_r (kY fu T) (hr.mono (by decide)) T.b_r (aa.passes rfl) (af 4))) (aH (bf eV)) bX)
   (aD (bp (i:=7) gK.nd rfl (Or.inl rfl) (cV T.cls_Game T.mt_a (hZ (zj fu T)) (hr.mono (by decide)) T.b_a (aa.passes rfl) (af 4)))
   (aH (bQ (PW.pt (jk (kK (du (af 6) aA) aA) (j6 (kK (dH (fA rfl) (fz K) rfl T.n_len boot_len (aj (af 7) aw)) aA)))) (aH (bQ (PW.pt (jk (gY (bA (af 7) (lR aA) (fun _ _=>rfl))) (j6 (gG (ib (bW (tM fu T) (hr.mono (by decide)) rfl T.g_j T.F_j.kp T.b_j (aa.passes rfl) (aj (af 4) (aj (af 5) aw)))))))) (aH (bf eV)) bX)) (aD (bp (i:=8) gK.nd rfl (Or.inl rfl) (bA (af 7) (du (vO (af 6) aA) (iM (dH (fA rfl) (fz K) rfl T.n_len boot_len (aj (af 7) aw)) aA)) (fun _ _=>rfl)))
   (aD (bQ (gY (kO T.cls_Game T.mt_u (pK fu T) (hr.mono (by decide)) T.b_u (aa.passes rfl) (af 4) (aj (af 8) aw))) (aH (bf eV)) bX)
   (aH (eZ (fy PySem.F.slot_list_append PySem.F.type_list_append fQ fI (af 5) (aj (af 8) aw))))))))))))
   (aH (bf (lJ (hr.cmp 8) (cV T.cls_Game T.mt_q (sZ fu T) (hr.mono (by decide)) T.b_q (aa.passes rfl) (af 4)) (af 5)))))))
theorem AK(fu:Nat)(T:Txt K mg A):ax P w K mg base (aZ P w) 10 A.f_law A.d_law ["_law_script"] (cc K 1 (d_law fu)) :=
 cm T.F_law cq dA fun cdv Ar outer s H E hr=>(aD (bp (i:=1) cq.nd rfl (Or.inl rfl) (bW (yW fu T) (hr.mono (by decide)) rfl T.g_k T.F_k.kp T.b_k (aa.passes rfl) (aj (bA (qY dM (af 0) (gX (aj aA aw))) aA (fun _ _=>rfl)) (aj aA aw))))
   (aD (qW (bW (vY (y_ fu T)) (hr.mono (by decide)) rfl T.g_m T.F_m.kp T.b_m (aa.passes rfl) (aj (af 1) aw)) (qX rfl (mv (dW (i:=2) cq.nd rfl (Or.inl rfl)) (mv (dW (i:=3) cq.nd rfl (Or.inl rfl)) rQ))))
   (aD (bp (i:=4) cq.nd rfl (Or.inl rfl) (bA (gX (aj jq (aj jq aw))) (du (bA (af 1) aA (fun _ _=>rfl)) aA) (fun _ _=>rfl)))
   (aD (bQ (kK (du (bA (af 1) aA (fun _ _=>rfl)) aA) aA) (aD (qW (bW (vY (y_ fu T)) (hr.mono (by decide)) rfl T.g_m T.F_m.kp T.b_m (aa.passes rfl) (aj (bA (gX (aj (gX (aj aA (aj aA (aj aA aw)))) (aj (gX (aj (eY aA (du (bA (af 1) aA (fun _ _=>rfl)) aA)) (aj aA (aj (bA (af 1) aA (fun _ _=>rfl)) aw)))) aw))) (du (bA (af 1) aA (fun _ _=>rfl)) aA) (fun _ _=>rfl)) aw)) (qX rfl (mv (dW (i:=2) cq.nd rfl (Or.inl rfl)) (mv (dW (i:=3) cq.nd rfl (Or.inl rfl)) rQ))))
   (aH (bf (bW (Hk fu T) (hr.mono (by decide)) rfl T.g_v T.F_v.kp T.b_v (aa.passes rfl) (aj (bW (yV fu T) (hr.mono (by decide)) rfl T.g_i T.F_i.kp T.b_i (aa.passes rfl) (aj (af 2) (aj (af 3) aw))) (aj (af 4) (aj (eY aA (du (bA (af 1) aA (fun _ _=>rfl)) aA)) (aj (af 1) aw)))))))) bX)
   (aD (bp (i:=5) cq.nd rfl (Or.inl rfl) (jj dM (qY dM (jj dM (af 0) (iU aA) (iU aA)) (jj dM (af 1) (iU aA) j8)) j8 (iU (du (bA (af 1) aA (fun _ _=>rfl)) aA))))
   (aH (bf (bW (Hy fu T) (hr.mono (by decide)) rfl T.g_o T.F_o.kp T.b_o (aa.passes rfl) (aj (bW (yV fu T) (hr.mono (by decide)) rfl T.g_i T.F_i.kp T.b_i (aa.passes rfl) (aj (af 2) (aj (af 3) aw))) (aj (af 4) (aj (eY aA (du (bA (af 1) aA (fun _ _=>rfl)) aA)) (aj (af 5) aw))))))))))))
end
theorem all_mk(X:K.In h)(G:h.Ns mainGlobals mg)(hfa:mg "law" = some (.ref fa)){f0:Addr}{f1:Addr}{f2:Addr}{f3:Addr}{f4:Addr}{f5:Addr}{f6:Addr}{f7:Addr}{f8:Addr}{f9:Addr}{f10:Addr}{f11:Addr}{f12:Addr}{f13:Addr}{f14:Addr}{f15:Addr}{f16:Addr}{f17:Addr}{f18:Addr}{f19:Addr}{f20:Addr}{f21:Addr}{f22:Addr}{f23:Addr}{f24:Addr}{od24 an24:Option Addr}{sl24:Array (Option Value)}{oc24 kV24 dc24 pm24 cd24 ct24:Value}{f25:Addr}{f26:Addr}{f27:Addr}{f28:Addr}{f29:Addr}{f30:Addr}{f31:Addr}{f32:Addr}{f33:Addr}{f34:Addr}{f35:Addr}{f36:Addr}{C_Game:Addr}(ac_Game:nsIn K mainGlobals "Game" = some (some (.ref C_Game)))(pg_Game:plainGet K C_Game Str.empty=true)(hd_Game:hasDictIn K C_Game=true)(po_Game:plainOver K C_Game=true)(sa_Game:findIn K (.ref C_Game) "__setattr__" = some (some (.builtin "object.__setattr__")))(mi_Game:makesIn K C_Game=true)(kc_Game:keepIn K (.ref C_Game)=true)(na_Game_barring:findIn K (.ref C_Game) "barring" = some none)(na_Game_done:findIn K (.ref C_Game) "done" = some none)(na_Game_first:findIn K (.ref C_Game) "first" = some none)(na_Game_joined:findIn K (.ref C_Game) "joined" = some none)(na_Game_past:findIn K (.ref C_Game) "past" = some none)(na_Game_takings:findIn K (.ref C_Game) "takings" = some none)(a0:nsIn K mainGlobals "is_whole" = some (some (.ref f0)))(l0:cj K "is_whole" "is_whole" sL f0)(a1:nsIn K mainGlobals "other_hand" = some (some (.ref f1)))(l1:cj K "other_hand" "other_hand" tF f1)(a2:nsIn K mainGlobals "patch_of" = some (some (.ref f2)))(l2:cj K "patch_of" "patch_of" sJ f2)(a3:nsIn K mainGlobals "patches" = some (some (.ref f3)))(l3:cj K "patches" "patches" sA f3)(a4:nsIn K mainGlobals "is_stand" = some (some (.ref f4)))(l4:cj K "is_stand" "is_stand" pI f4)(a5:nsIn K mainGlobals "patch" = some (some (.ref f5)))(l5:cj K "patch" "patch" rf f5)(a6:nsIn K mainGlobals "rows" = some (some (.ref f6)))(l6:cj K "rows" "rows" ox f6)(a7:nsIn K mainGlobals "breaths" = some (some (.ref f7)))(l7:cj K "breaths" "breaths" pw f7)(a8:nsIn K mainGlobals "points_beside" = some (some (.ref f8)))(l8:cj K "points_beside" "points_beside" tJ f8)(a9:nsIn K mainGlobals "is_sound" = some (some (.ref f9)))(l9:cj K "is_sound" "is_sound" pH f9)(a10:nsIn K mainGlobals "laid" = some (some (.ref f10)))(l10:cj K "laid" "laid" qN f10)(a11:nsIn K mainGlobals "lays_on" = some (some (.ref f11)))(l11:cj K "lays_on" "lays_on" sy f11)(a12:nsIn K mainGlobals "filled" = some (some (.ref f12)))(l12:cj K "filled" "filled" rV f12)(a13:nsIn K mainGlobals "breathless" = some (some (.ref f13)))(l13:cj K "breathless" "breathless" tE f13)(a14:nsIn K mainGlobals "_law_stream" = some (some (.ref f14)))(l14:cj K "_law_stream" "_law_stream" tj f14)(a15:nsIn K mainGlobals "_law_joined" = some (some (.ref f15)))(l15:cj K "_law_joined" "_law_joined" nF f15)(a16:nsIn K mainGlobals "_law_lines" = some (some (.ref f16)))(l16:cj K "_law_lines" "_law_lines" kZ f16)(a17:nsIn K mainGlobals "_law_is_over" = some (some (.ref f17)))(l17:cj K "_law_is_over" "_law_is_over" tP f17)(a18:nsIn K mainGlobals "_law_laid" = some (some (.ref f18)))(l18:cj K "_law_laid" "_law_laid" sO f18)(a19:nsIn K mainGlobals "_law_end_right" = some (some (.ref f19)))(l19:cj K "_law_end_right" "_law_end_right" tL f19)(a20:nsIn K mainGlobals "_law_passed" = some (some (.ref f20)))(l20:cj K "_law_passed" "_law_passed" tf f20)(a21:nsIn K mainGlobals "_law_new" = some (some (.ref f21)))(l21:cj K "_law_new" "_law_new" sI f21)(a22:nsIn K mainGlobals "_law_long" = some (some (.ref f22)))(l22:cj K "_law_long" "_law_long" pD f22)(a23:nsIn K mainGlobals "_law_short" = some (some (.ref f23)))(l23:cj K "_law_short" "_law_short" pL f23)(a24:nsIn K mainGlobals "law" = some (some (.ref f24)))(l24:K.lookup f24=some ⟨oc24,od24,.func (fnOf "law" "law" (mf lL) (j_ lL) (aX lL) .none kV24 dc24 pm24 an24 cd24 ct24),sl24⟩)(c24:codeIn K cd24 "law" = true)(k24:keepIn K (.ref f24)=true)(a25:findIn K (.ref C_Game) "__init__" = some (some (.ref f25)))(fn25:isFn K (.ref f25)=true)(l25:cj K "__init__" "Game.__init__" tI f25)(a26:findIn K (.ref C_Game) "deed" = some (some (.ref f26)))(fn26:isFn K (.ref f26)=true)(l26:cj K "deed" "Game.deed" sV f26)(a27:findIn K (.ref C_Game) "came_at" = some (some (.ref f27)))(fn27:isFn K (.ref f27)=true)(l27:cj K "came_at" "Game.came_at" tO f27)(a28:findIn K (.ref C_Game) "is_barring" = some (some (.ref f28)))(fn28:isFn K (.ref f28)=true)(l28:cj K "is_barring" "Game.is_barring" tH f28)(a29:findIn K (.ref C_Game) "back" = some (some (.ref f29)))(fn29:isFn K (.ref f29)=true)(l29:cj K "back" "Game.back" sU f29)(a30:findIn K (.ref C_Game) "stand" = some (some (.ref f30)))(fn30:isFn K (.ref f30)=true)(l30:cj K "stand" "Game.stand" tD f30)(a31:findIn K (.ref C_Game) "hand" = some (some (.ref f31)))(fn31:isFn K (.ref f31)=true)(l31:cj K "hand" "Game.hand" sT f31)(a32:findIn K (.ref C_Game) "hand_at" = some (some (.ref f32)))(fn32:isFn K (.ref f32)=true)(l32:cj K "hand_at" "Game.hand_at" tN f32)(a33:findIn K (.ref C_Game) "stands" = some (some (.ref f33)))(fn33:isFn K (.ref f33)=true)(l33:cj K "stands" "Game.stands" s_ f33)(a34:findIn K (.ref C_Game) "deeds" = some (some (.ref f34)))(fn34:isFn K (.ref f34)=true)(l34:cj K "deeds" "Game.deeds" tw f34)(a35:findIn K (.ref C_Game) "open_deeds" = some (some (.ref f35)))(fn35:isFn K (.ref f35)=true)(l35:cj K "open_deeds" "Game.open_deeds" pN f35)(a36:findIn K (.ref C_Game) "ended" = some (some (.ref f36)))(fn36:isFn K (.ref f36)=true)(l36:cj K "ended" "Game.ended" tq f36){fX0:Addr}{C_Again:Addr}(ac_Again:nsIn K mainGlobals "Again" = some (some (.ref C_Again)))(ex_Again:tU K (clOf K "Again") (clOf K "StoneError") "number" = true)(aX0:findIn K (.ref C_Again) "__init__" = some (some (.ref fX0)))(fnX0:isFn K (.ref fX0)=true)(lX0:cj K "__init__" "Again.__init__" tK fX0){t0:Tok}(q0:nsIn K mainGlobals "MOST_DEEDS" = some (some (.int 300 t0)))(z_ValueError:nsIn K mainGlobals "ValueError" = some none)(z_all:nsIn K mainGlobals "all" = some none)(z_bool:nsIn K mainGlobals "bool" = some none)(z_int:nsIn K mainGlobals "int" = some none)(z_isinstance:nsIn K mainGlobals "isinstance" = some none)(z_len:nsIn K mainGlobals "len" = some none)(z_list:nsIn K mainGlobals "list" = some none)(z_range:nsIn K mainGlobals "range" = some none)(z_sorted:nsIn K mainGlobals "sorted" = some none)(z_tuple:nsIn K mainGlobals "tuple" = some none)(xt:qc K fT=true)(nl:nK K=true)
  : ∃A:p4,Txt K mg A/\fa=A.f_law/\∀(s:Shared) (v:Value),BindsTo s A.d_law ⟨[v],[]⟩ [("_law_script",v)]:=by
 have e:=hfa.symm.trans (mg_of X G a24);cases e;have ec_Game:C_Game=clOf K "Game" := by unfold VS.clOf;rw[ac_Game]
 subst ec_Game;obtain⟨d0,F0⟩:=l0;have b0:=F0.binds (ps:=["thing"]) fun _ _ _ _ _ _ us hl=>VS.us1 (fun _=>rfl) us hl;obtain⟨d1,F1⟩:=l1;have b1:=F1.binds (ps:=["hand"]) fun _ _ _ _ _ _ us hl=>VS.us1 (fun _=>rfl) us hl;obtain⟨d2,F2⟩:=l2;have b2:=F2.binds (ps:=["board", "marks", "start"]) fun _ _ _ _ _ _ us hl=>VS.us3 (fun _ _ _=>rfl) us hl;obtain⟨d3,F3⟩:=l3;have b3:=F3.binds (ps:=["board", "marks"]) fun _ _ _ _ _ _ us hl=>VS.us2 (fun _ _=>rfl) us hl;obtain⟨d4,F4⟩:=l4;have b4:=F4.binds (ps:=["board", "thing"]) fun _ _ _ _ _ _ us hl=>VS.us2 (fun _ _=>rfl) us hl;obtain⟨d5,F5⟩:=l5;have b5:=F5.binds (ps:=["board", "stand", "point"]) fun _ _ _ _ _ _ us hl=>VS.us3 (fun _ _ _=>rfl) us hl;obtain⟨d6,F6⟩:=l6;have b6:=F6.binds (ps:=["board", "stand"]) fun _ _ _ _ _ _ us hl=>VS.us2 (fun _ _=>rfl) us hl;obtain⟨d7,F7⟩:=l7;have b7:=F7.binds (ps:=["board", "stand", "row"]) fun _ _ _ _ _ _ us hl=>VS.us3 (fun _ _ _=>rfl) us hl;obtain⟨d8,F8⟩:=l8;have b8:=F8.binds (ps:=["board", "points"]) fun _ _ _ _ _ _ us hl=>VS.us2 (fun _ _=>rfl) us hl;obtain⟨d9,F9⟩:=l9;have b9:=F9.binds (ps:=["board", "stand"]) fun _ _ _ _ _ _ us hl=>VS.us2 (fun _ _=>rfl) us hl;obtain⟨d10,F10⟩:=l10;have b10:=F10.binds (ps:=["board", "stand", "hand", "point"]) fun _ _ _ _ _ _ us hl=>VS.us4 (fun _ _ _ _=>rfl) us hl;obtain⟨d11,F11⟩:=l11;have b11:=F11.binds (ps:=["board", "stand", "hand", "points"]) fun _ _ _ _ _ _ us hl=>VS.us4 (fun _ _ _ _=>rfl) us hl;obtain⟨d12,F12⟩:=l12;have b12:=F12.binds (ps:=["stand", "points", "what"]) fun _ _ _ _ _ _ us hl=>VS.us3 (fun _ _ _=>rfl) us hl;obtain⟨d13,F13⟩:=l13;have b13:=F13.binds (ps:=["board", "stand", "hand"]) fun _ _ _ _ _ _ us hl=>VS.us3 (fun _ _ _=>rfl) us hl;obtain⟨d14,F14⟩:=l14;have b14:=F14.binds (ps:=["_law_cell", "_law_many"]) fun _ _ _ _ _ _ us hl=>VS.us2 (fun _ _=>rfl) us hl;obtain⟨d15,F15⟩:=l15;have b15:=F15.binds (ps:=["_law_many", "_law_lines_here"]) fun _ _ _ _ _ _ us hl=>VS.us2 (fun _ _=>rfl) us hl;obtain⟨d16,F16⟩:=l16;have b16:=F16.binds (ps:=["_law_xs"]) fun _ _ _ _ _ _ us hl=>VS.us1 (fun _=>rfl) us hl;obtain⟨d17,F17⟩:=l17;have b17:=F17.binds (ps:=["_law_game", "_law_what"]) fun _ _ _ _ _ _ us hl=>VS.us2 (fun _ _=>rfl) us hl;obtain⟨d18,F18⟩:=l18;have b18:=F18.binds (ps:=["_law_game", "_law_many", "_law_start"]) fun _ _ _ _ _ _ us hl=>VS.us3 (fun _ _ _=>rfl) us hl;obtain⟨d19,F19⟩:=l19;have b19:=F19.binds (ps:=["_law_game", "_law_many", "_law_deeds", "_law_due"]) fun _ _ _ _ _ _ us hl=>VS.us4 (fun _ _ _ _=>rfl) us hl;obtain⟨d20,F20⟩:=l20;have b20:=F20.binds (ps:=["_law_game", "_law_deeds"]) fun _ _ _ _ _ _ us hl=>VS.us2 (fun _ _=>rfl) us hl;obtain⟨d21,F21⟩:=l21;have b21:=F21.binds (ps:=["_law_stands", "_law_deeds", "_law_rule"]) fun _ _ _ _ _ _ us hl=>VS.us3 (fun _ _ _=>rfl) us hl;obtain⟨d22,F22⟩:=l22;have b22:=F22.binds (ps:=["_law_board", "_law_rule", "_law_hand", "_law_xs"]) fun _ _ _ _ _ _ us hl=>VS.us4 (fun _ _ _ _=>rfl) us hl;obtain⟨d23,F23⟩:=l23;have b23:=F23.binds (ps:=["_law_board", "_law_rule", "_law_hand", "_law_cells"]) fun _ _ _ _ _ _ us hl=>VS.us4 (fun _ _ _ _=>rfl) us hl;have F24:=vV (st:=lL) l24 c24 k24;have b24:=F24.binds (ps:=["_law_script"]) fun _ _ _ _ _ _ us hl=>VS.us1 (fun _=>rfl) us hl;obtain⟨d25,F25⟩:=l25;have b25:=F25.binds (ps:=["self", "board", "rule", "stand", "hand"]) fun _ _ _ _ _ _ us hl=>VS.us5 (fun _ _ _ _ _=>rfl) us hl;obtain⟨d26,F26⟩:=l26;have b26:=F26.binds (ps:=["self", "what"]) fun _ _ _ _ _ _ us hl=>VS.us2 (fun _ _=>rfl) us hl;obtain⟨d27,F27⟩:=l27;have b27:=F27.binds (ps:=["self", "behind"]) fun _ _ _ _ _ _ us hl=>VS.us2 (fun _ _=>rfl) us hl;obtain⟨d28,F28⟩:=l28;have b28:=F28.binds (ps:=["self", "moment"]) fun _ _ _ _ _ _ us hl=>VS.us2 (fun _ _=>rfl) us hl;obtain⟨d29,F29⟩:=l29;have b29:=F29.binds (ps:=["self"]) fun _ _ _ _ _ _ us hl=>VS.us1 (fun _=>rfl) us hl;obtain⟨d30,F30⟩:=l30;have b30:=F30.binds (ps:=["self"]) fun _ _ _ _ _ _ us hl=>VS.us1 (fun _=>rfl) us hl;obtain⟨d31,F31⟩:=l31;have b31:=F31.binds (ps:=["self"]) fun _ _ _ _ _ _ us hl=>VS.us1 (fun _=>rfl) us hl;obtain⟨d32,F32⟩:=l32;have b32:=F32.binds (ps:=["self", "moment"]) fun _ _ _ _ _ _ us hl=>VS.us2 (fun _ _=>rfl) us hl;obtain⟨d33,F33⟩:=l33;have b33:=F33.binds (ps:=["self"]) fun _ _ _ _ _ _ us hl=>VS.us1 (fun _=>rfl) us hl;obtain⟨d34,F34⟩:=l34;have b34:=F34.binds (ps:=["self"]) fun _ _ _ _ _ _ us hl=>VS.us1 (fun _=>rfl) us hl;obtain⟨d35,F35⟩:=l35;have b35:=F35.binds (ps:=["self"]) fun _ _ _ _ _ _ us hl=>VS.us1 (fun _=>rfl) us hl;obtain⟨d36,F36⟩:=l36;have b36:=F36.binds (ps:=["self"]) fun _ _ _ _ _ _ us hl=>VS.us1 (fun _=>rfl) us hl;have ec_Again:C_Again=clOf K "Again" := by unfold VS.clOf;rw[ac_Again]
 subst ec_Again;obtain⟨dX0,FX0⟩:=lX0;have bX0:=FX0.binds (ps:=["self", "number"]) fun _ _ _ _ _ _ us hl=>VS.us2 (fun _ _=>rfl) us hl;refine⟨⟨_,_,_,_,_,_,_,_,_,_,_,_,_,_,_,_,_,_,_,_,_,_,_,_,_,_,_,_,_,_,_,_,_,_,_,_,_,_,_,_,_,_,_,_,_,_,_,_,_,_,_,_,_,_,_,_,_,_,_,_,_,_,_,_,_,_,_,_,_,_,_,_,_,_,_,_⟩,⟨mg_of X G a0,F0,b0,mg_of X G a1,F1,b1,mg_of X G a2,F2,b2,mg_of X G a3,F3,b3,mg_of X G a4,F4,b4,mg_of X G a5,F5,b5,mg_of X G a6,F6,b6,mg_of X G a7,F7,b7,mg_of X G a8,F8,b8,mg_of X G a9,F9,b9,mg_of X G a10,F10,b10,mg_of X G a11,F11,b11,mg_of X G a12,F12,b12,mg_of X G a13,F13,b13,mg_of X G a14,F14,b14,mg_of X G a15,F15,b15,mg_of X G a16,F16,b16,mg_of X G a17,F17,b17,mg_of X G a18,F18,b18,mg_of X G a19,F19,b19,mg_of X G a20,F20,b20,mg_of X G a21,F21,b21,mg_of X G a22,F22,b22,mg_of X G a23,F23,b23,mg_of X G a24,F24,b24,⟨a25,fn25,F25.kp⟩,F25,b25,⟨a26,fn26,F26.kp⟩,F26,b26,⟨a27,fn27,F27.kp⟩,F27,b27,⟨a28,fn28,F28.kp⟩,F28,b28,⟨a29,fn29,F29.kp⟩,F29,b29,⟨a30,fn30,F30.kp⟩,F30,b30,⟨a31,fn31,F31.kp⟩,F31,b31,⟨a32,fn32,F32.kp⟩,F32,b32,⟨a33,fn33,F33.kp⟩,F33,b33,⟨a34,fn34,F34.kp⟩,F34,b34,⟨a35,fn35,F35.kp⟩,F35,b35,⟨a36,fn36,F36.kp⟩,F36,b36,AB ex_Again aX0 fnX0,FX0,bX0,⟨pg_Game,hd_Game,po_Game,sa_Game⟩,⟨mi_Game,a25,fn25,kc_Game⟩,mg_of X G ac_Game,na_Game_barring,na_Game_done,na_Game_first,na_Game_joined,na_Game_past,na_Game_takings,⟨_,mg_of X G q0⟩,mg_none_of X G z_ValueError,mg_none_of X G z_all,mg_none_of X G z_bool,mg_none_of X G z_int,mg_none_of X G z_isinstance,mg_none_of X G z_len,mg_none_of X G z_list,mg_none_of X G z_range,mg_none_of X G z_sorted,mg_none_of X G z_tuple,Ak X G xt,nl⟩,rfl,fun s v=>.of_eq rfl⟩
end K18
variable {o:Int} {r T row pts:List Nat} {ds:List (Option Nat)} {ls:List (Nat×Nat)} {dl dh:Sl->M (Option Int)} {lo hi:Option Int} {ns is' cs:List Int} {w1:W} {k':Nat} {s':Bool} {x7 x8:Option W}
namespace K18
def FU:Nat:=1000
theorem aY{w:Option W}{b:DS}(q:Run b sl' ce Q)(h:cx sl i w sl':=by repeat (first|exact cx.zero|apply cx.succ)):Run b (sl.set i w) ce Q:=zk h q
local macro_rules|`(tactic| trivial)=>`(tactic| repeat' (first
 | with_reducible (refine zk (by repeat (first|exact cx.zero|apply cx.succ)) ?_)
 | with_reducible (refine id (α:=_=some (R.ok _ _)) ?_;assumption)
 | (with_reducible apply ao);rfl
 |with_reducible first|exact aN|apply bO|apply iJ|apply ck|apply bt|apply cE|apply ay|exact aB|apply dO|apply me|apply kI|apply gE|exact ev_yes|apply uK|apply n6|apply qF|exact nM|exact eqE0|exact eqE1|exact eqEN0|exact eqEN1|exact ug|exact inS0|exact inS1|exact inSL0|exact inSL1|exact inL0|exact inL1
 | with_reducible (apply inC0;assumption)
 | with_reducible (apply inC1;assumption)
 | with_reducible (apply dinC0;assumption)
 | with_reducible (apply Aq;assumption)
 | ((with_reducible apply uZ);trivial;done)
 |with_reducible first|apply qe|apply uh|apply nS|apply tS|apply qf|apply pQ|apply gW|apply jQ|apply qE|apply n5|apply qy|apply bx.is
 | with_reducible (refine id (α:=bT _ _ _) ?_;first|assumption|exact .fr _|exact .cl (by assumption))
 |with_reducible first|apply gS|apply oI|apply iT|apply gB|apply jY|apply En|exact lf_isB0|exact lf_isB1|exact eqB0|exact eqB1|exact isiB|exact qB
 | with_reducible (apply v5;assumption)
 |with_reducible first|exact CG|apply cM|apply oJ|apply vn|apply BL|apply run_set|apply bP|apply j2|apply kc|apply gC|apply bu|apply jZ|apply CF|apply bU|apply fL|apply cy|apply ju
 | with_reducible (refine id (α:=_=_) ?_;assumption)
 | (refine id (α:=(_:Nat)<_) ?_;first|assumption|omega)
 | (refine id (α:=(_:Nat)<=_) ?_;first|assumption|omega|decide|(simp only[length_cons,length_nil];decide))
 | with_reducible (apply BK;first|assumption|omega)
 | with_reducible (apply kH;first|assumption|omega)
 | with_reducible (apply vm;first|assumption|omega)
 | with_reducible (apply lf_ixC;assumption;first|assumption|omega)
 | with_reducible (apply eX;assumption)
 | with_reducible (apply jo;assumption;first|assumption|omega)
 | with_reducible (apply lf_sortCF;assumption;first|assumption|omega)
 | with_reducible (apply tupCN;assumption;first|assumption|omega)
 | with_reducible (apply tupCB;assumption;first|assumption|omega)
 | with_reducible (apply uY;assumption;first|assumption|omega)
 | with_reducible (apply tupLN;first|assumption|omega)
 | with_reducible (apply uX;first|assumption|omega)
 | with_reducible (apply uW;first|assumption|omega)
 | ((with_reducible apply rp);rfl;rfl;first|assumption|exact mul_small (.inr (by omega))|exact mul_small (.inl (by omega)))
 | with_reducible (apply lf_listL;first|assumption|omega)
 | with_reducible (apply lf_sortS;first|assumption|omega)
 |with_reducible exact eqLL0
 |with_reducible exact eqLL1
 | with_reducible (apply eqLC1;assumption)
 | with_reducible (apply eqSC1;assumption)
 |with_reducible first|exact nk|exact lf_lenS|exact CD
 | with_reducible (apply lf_lenC;assumption)
 | intro _
 | ((with_reducible apply l_)<;>rfl)
 | ((with_reducible apply oP)<;>rfl)
 | ((with_reducible apply vj)<;>rfl)
 | ((with_reducible apply lf_fLe)<;>rfl)
 | ((with_reducible apply qD)<;>rfl)
 | ((with_reducible apply lf_fGe)<;>rfl)
 | ((with_reducible apply kR)<;>rfl)
 | ((with_reducible apply lf_fNeI)<;>rfl)
 | ((with_reducible apply lf_fNeg);rfl)
 | ((with_reducible apply BJ);rfl)
 |with_reducible first|exact isiN|exact isiNB|exact isiI|exact isiIB
 | ((with_reducible apply lf_min)<;>rfl)
 | ((with_reducible apply lf_max)<;>rfl)
 | ((with_reducible apply nj);rfl;rfl;omega)
 | ((with_reducible apply rq);rfl;rfl;omega)
 | (refine id (α:=(_:Nat)=_) ?_;rfl)
 | with_reducible rfl))
def rC(r:List Nat):C:=.lst (r.map nW)
def iX(rows:List (List Nat))(p q:Nat):List (List Nat):=rows.set p (rows.getD p []++[q])
def mE(rows:List (List Nat))(p q:Nat):List (List Nat):=iX (iX rows p q) q p
theorem q_(rows:List (List Nat))(p q:Nat):(iX rows p q).length=rows.length:=by simp[iX]
theorem xp(rows:List (List Nat))(p q:Nat):(mE rows p q).length=rows.length:=by simp[mE,q_]
theorem oY{rows:List (List Nat)}(hp:p<rows.length)(q i:Nat):(iX rows p q).getD i []=if i=p then rows.getD p []++[q] else rows.getD i []:=by
 unfold iX;simp only[getD_eq_getElem?_getD]
 by_cases h:i=p
 ·subst h;simp[hp]
 ·rw[getElem?_set_ne (Ne.symm h)];simp[h]
structure Rows (n:Nat) (rows:List (List Nat)):Prop where
 len:rows.length=n
 bd:∀i j,j∈rows.getD i []->j<n
 sym:∀i j,j∈rows.getD i []->i∈rows.getD j []
section
variable {mS:Nat} {rows:List (List Nat)} {gs:Ce}
abbrev iC(ce:Ce)(n:Nat):W:=.lst ((List.range n).map fun i=>W.cel (ce.length+i))
abbrev bC(ce:Ce)(rows:List (List Nat))(gs:Ce):Ce:=ce++(rows.map rC++gs)
theorem u9(hp:p<rows.length):(bC ce rows gs)[ce.length+p]?=some (rC (rows.getD p [])):=by rw[nU,getElem?_append_left (by simpa using hp),getElem?_map,getD_eq_getElem?_getD];simp[hp]
theorem AJ(hp:p<rows.length):(bC ce rows gs).set (ce.length+p) (.lst ((rows.getD p []).map nW++[nW q]))=bC ce (iX rows p q) gs:=by
 rw[tY,set_append_left _ _ (by simpa using hp)];show _=ce++((rows.set p (rows.getD p []++[q])).map rC++gs);rw[map_set];have e:C.lst ((rows.getD p []).map nW++[nW q])=rC (rows.getD p []++[q]):=by simp only[rC,map_append,map_cons,map_nil]
 rw[e]
theorem AI(c:Ce)(hp:p<n):aJ c (iC ce n) (nW p)=some (W.cel (ce.length+p)):=by rw[ji (xs:=(List.range n).map fun i=>W.cel (ce.length+i)) rfl,getElem?_map];simp[hp]
theorem zq{a b:Nat}(h4:sl[mS]?=some (some (iC ce n)))(ha:sl[a]?=some (some (nW p)))(hb:sl[b]?=some (some (nW q)))(hr:rows.length=n)(hp:p<n)(hz:(rows.getD p []).length<sizeLine) :
  cz (c6 cS (aI aJ (ae mS) (ae a)) (ah (ae b) ai)) sl (bC ce rows gs)=some (.go .nx sl (bC ce (iX rows p q) gs)):=by
 have hp':p<rows.length:=by omega
 have g:=u9 (ce:=ce) (gs:=gs) hp';have e1:aI aJ (ae mS) (ae a) sl (bC ce rows gs)=some (.ok (W.cel (ce.length+p)) (bC ce rows gs)):=by simp only[BE,oq,oM,h4,ha,vz,AI _ hp,map_some]
 have e2:ah (ae b) ai sl (bC ce rows gs)=some (.ok [nW q] (bC ce rows gs)):=by simp only[v_,oq,oM,hb,vt,uN]
 have lq:iE (bC ce rows gs) (W.cel (ce.length+p))=some ():=by unfold iE;rw[eX (xs:=(rows.getD p []).map nW) g];rfl
 have ap:cS (W.cel (ce.length+p)) [nW q] (bC ce rows gs)=some (.ok .non (bC ce (iX rows p q) gs)):=by rw[oo (kJ (xs:=(rows.getD p []).map nW) g) (by rw[length_map];exact hz),AJ hp']
 generalize bC ce rows gs=c1 at *;generalize bC ce (iX rows p q) gs=c2 at *;simp only[Av,As,oq,Aw,vz,e1,e2,lq,ap,map_some]
theorem Ij{a b:Nat}(h4:sl[mS]?=some (some (iC ce n)))(ha:sl[a]?=some (some (nW p)))(hb:sl[b]?=some (some (nW q)))(hr:rows.length=n)(hp:p<n)(hq:q<n)(hz:∀i,(rows.getD i []).length<1000) :
  aq (cz (c6 cS (aI aJ (ae mS) (ae a)) (ah (ae b) ai))) (cz (c6 cS (aI aJ (ae mS) (ae b)) (ah (ae a) ai))) sl (bC ce rows gs)=some (.go .nx sl (bC ce (mE rows p q) gs)):=by
 have z:(1001:Nat)<sizeLine:=by decide
 rw[wa (zq h4 ha hb hr hp (by have:=hz p;omega))];refine zq h4 hb ha (by rw[q_];exact hr) hq ?_;rw[oY (by omega)];split
 ·have:=hz p;rw[length_append,length_singleton];omega
 ·have:=hz q;omega
theorem GV(hp:p<rows.length)(h:(rows.getD p []).length<=60)(cs:Sl):bB fk (ah (bB (fM bc) (ah (ae 0) ai)) ai) (some (W.cel (ce.length+p))::cs) (bC ce rows gs)=some (.ok (wT (cD (rows.getD p []))) (bC ce rows gs)):=by
 have g:=u9 (ce:=ce) (gs:=gs) hp;have hz:(61:Nat)<sizeLine:=by decide
 have l1:(fo (dI (rows.getD p []))).length=(rows.getD p []).length:=by rw[(iO _).length_eq,nG]
 have so:fM bc [W.cel (ce.length+p)] (bC ce rows gs)=some (.ok (.lst ((cD (rows.getD p [])).map nW)) (bC ce rows gs)):=by simp only[fM,eX (xs:=(rows.getD p []).map nW) g,xS,nG];rw[if_pos (by omega),qH _ (by rw[length_map,l1];omega),pd]
 have tu:fk [.lst ((cD (rows.getD p [])).map nW)] (bC ce rows gs)=some (.ok (wT (cD (rows.getD p []))) (bC ce rows gs)):=by
  have e:((cD (rows.getD p [])).map nW).length=(rows.getD p []).length:=by rw[<- pd,length_map,l1]
  show p6 _ _=_;rw[BD _ (by rw[e];omega)];rfl
 generalize bC ce rows gs=c1 at *;simp only[Au,oq,v_,oM,getElem?_cons_zero,vt,uN,so,tu]
theorem Hj(hr:rows.length=n)(h36:n<=36)(h:∀i,(rows.getD i []).length<=60)(h4:sl[mS]?=some (some (iC ce n))) :
  cL bc [] (dY (ae mS)) de (bB fk (ah (bB (fM bc) (ah (ae 0) ai)) ai)) sl (bC ce rows gs)=some (.ok (.lst (((List.range n).map fun i=>cD (rows.getD i [])).map wT)) (bC ce rows gs)):=by
 have hz:=fw;have hi:dY (ae mS) sl (bC ce rows gs)=some (.ok (.lst ((List.range n).map fun i=>W.cel (ce.length+i))) (bC ce rows gs)):=by show au (ae mS sl) (fun w=>look fun ce=>fZ ce w) (bC ce rows gs)=_;rw[gf (a:=iC ce n) (ce':=bC ce rows gs) (by simp only[oM,h4])];rfl
 obtain⟨zs,e,pz⟩:=Bz (mk:=bc) (js:=[]) (s:=.lst ((List.range n).map fun i=>W.cel (ce.length+i))) (e:=bB fk (ah (bB (fM bc) (ah (ae 0) ai)) ai)) hi trivial (fun x y=>∃i,i<n/\x=W.cel (ce.length+i)/\y=wT (cD (rows.getD i []))) (fun x hx=>by
  simp only[Src.items,mem_map,mem_range] at hx;obtain⟨i,hi,rfl⟩:=hx;exact⟨_,⟨i,hi,rfl,rfl⟩,GV (by omega) (h i) _⟩) (by simp only[Src.items,length_map,length_range];omega)
 rw[e];obtain⟨hl,hn⟩:=VS.Paired.nth pz;simp only[Src.items,length_map,length_range] at hl;have ez:zs=((List.range n).map fun i=>cD (rows.getD i [])).map wT:=by
  apply ext_getElem?;intro i
  by_cases hi:i<n
  ·have h1:((List.range n).map fun i=>W.cel (ce.length+i))[i]?=some (W.cel (ce.length+i)):=by simp[hi]
   have h2:zs[i]?=some (zs[i]'(by omega)):=getElem?_eq_getElem _;obtain⟨j,_,q1,q2⟩:=hn i _ _ h1 h2;have hij:i=j:=by injection q1 with q1;omega
   subst hij;rw[h2,q2];simp[hi]
  ·rw[getElem?_eq_none (by omega),getElem?_eq_none (by simp;omega)]
 rw[qH _ (by rw[<- hl];omega),ez]
theorem EF(hi:di sl ce=some (.ok (.rng 0 n) ce))(h36:n<=36):cL bc [] di de (dP ai) sl ce=some (.ok (iC ce n) (bC ce (List.replicate n []) [])):=by have hz:=fw;show au (di sl) (fun s=>au (dE s (cY [] sl) de (dP ai) s.items []) bc) ce=_;have al:=xX (s:=.rng 0 n) (cs:=cY [] sl) (fun _=>trivial) (Src.rng 0 n).items [] ce (by rw[sN];simp;omega);rw[gf hi,gf al,sN,qH _ (by simp;omega)];simp[bC,rC,iC]
end
theorem mT{P:W->Ce->Prop}(sl:Sl)(e:ws.map some++List.replicate (n-ws.length) none=sl)(h:Run body sl ce (Rt fun v ce'=>∃w c',fin ce ce' v=some (.ok w c')/\P w c')):∃w c',bE fin n body ws ce=some (.ok w c')/\P w c':=by
 subst e;obtain⟨o,e,q⟩:=h;cases o with
 | ex x c=>exact q.elim
 | go f sl c=>cases f with
  | rt w =>
   obtain⟨w',c',h1,h2⟩:=q;exact⟨w',c',vo e h1,h2⟩
  | nx=>exact q.elim
  | bk=>exact q.elim
  | ct=>exact q.elim
theorem qZ{d:List Nat}(e:d++p::r=List.range n):d=List.range p:=by
 have hl:d.length<n:=by have:=congrArg List.length e;simp at this;omega
 have h1:(List.range n)[d.length]?=some p:=by rw[<- e];simp
 rw[getElem?_range hl] at h1;cases h1;have h2:(List.range n).take d.length=d:=by rw[<- e];simp
 rw[<- h2,take_range,min_eq_left (le_of_lt hl)];simp
structure LsOk (n:Nat) (ls:List (Nat×Nat)):Prop where
 nd:ls.Nodup
 lt:∀p∈ls,p.1<p.2/\p.2<n
theorem rM{a b:Sl->M W}{x:W}(ha:a sl ce=some (.ok x c1))(hb:b sl c1=some (.ok y c2))(hx:bV c2 x=some xs)(hy:bV c2 y=some ys)(hz:xs.length+ys.length<=sizeLine) :
  je bc a b sl ce=some (.ok (.lst (xs++ys)) c2):=by
 simp only[je,au,ha,hb,p5,hx,hy,if_pos hz];exact kS (by rw[length_append];exact hz)
theorem bL{α β:Type}{f:α->β}{l:List α}(h:l.Nodup)(inj:∀x y,f x=f y->x=y):(l.map f).Nodup:=List.Pairwise.map f (fun a b hab e=>hab (inj a b e)) h
def dF(ls:List (Nat×Nat))(i:Nat):List Nat:=ls.filterMap fun p=>if p.1=i then some p.2 else if p.2=i then some p.1 else none
theorem oX(h:LsOk n ls):j∈dF ls i↔(i,j)∈ls\/(j,i)∈ls:=by
 unfold dF;rw[mem_filterMap];constructor
 ·rintro⟨⟨a,b⟩,hp,e⟩;simp only at e;split at e
  ·cases e;rename_i h1;subst h1;exact .inl hp
  ·split at e
   ·cases e;simp_all
   ·cases e
 ·rintro(hp|hp)
  ·exact⟨(i,j),hp,by simp⟩
  ·have:=(h.lt _ hp).1;simp only at this;refine⟨(j,i),hp,?_⟩;simp only;rw[if_neg (by omega)];simp
theorem qM(h:LsOk n ls)(i:Nat):(dF ls i).Nodup:=by
 unfold dF;refine List.Pairwise.filterMap _ ?_ (List.Pairwise.and_mem.mp h.nd);rintro⟨a,b⟩ ⟨c,d⟩ ⟨h1,h2,hne⟩ x hx y hy e;subst e;have l1:=(h.lt _ h1).1;have l2:=(h.lt _ h2).1;simp only at hx hy l1 l2;apply hne;split at hx<;>split at hy
 ·cases hx;cases hy;simp_all
 ·split at hy
  ·cases hx;cases hy;simp_all;omega
  ·cases hy
 ·split at hx
  ·cases hx;cases hy;simp_all;omega
  ·cases hx
 ·split at hx
  ·split at hy
   ·cases hx;cases hy;simp_all
   ·cases hy
  ·cases hx
theorem m8(h:LsOk n ls)(hj:j∈dF ls i):j<n/\i<n:=by
 rcases(oX h).mp hj with hp|hp<;>(have:=h.lt _ hp;simp only at this;omega)
def fE(n:Nat)(ls:List (Nat×Nat)):List (List Nat):=(List.range n).map fun i=>cD (dF ls i)
theorem o5(n:Nat)(ls:List (Nat×Nat))(i:Nat):(fE n ls).getD i []=if i<n then cD (dF ls i) else []:=by
 unfold fE;rw[getD_eq_getElem?_getD,getElem?_map]
 by_cases h:i<n
 ·simp[h]
 ·rw[getElem?_eq_none (by simp;omega)];simp[h]
structure ll (b:List (List Nat)):Prop where
 bd:Bd b
 sym:Sym b
 h36:b.length<=36
 pos:0<b.length
 row:∀i,(b.getD i []).length<=36
 fo:∀i,cD (b.getD i [])=b.getD i []
theorem GU{m:List Nat}(h:l.Perm m):cD l=cD m:=by unfold cD;rw[FA h]
theorem FE(l:List Nat):(cD l).Perm l:=by
 have h:(cD l).Perm ((dI l).map Int.toNat):=(iO (dI l)).map _;have e:(dI l).map Int.toNat=l:=by
  unfold dI;rw[map_map]
  conv=>rhs;rw[<- map_id l]
  apply map_congr_left;intro x _;simp
 rwa [e] at h
theorem FD(l:List Nat):cD (cD l)=cD l:=GU (FE l)
theorem gr(h:LsOk n ls)(h0:0<n)(h36:n<=36):ll (fE n ls):=by
 have hl:(fE n ls).length=n:=by simp[fE]
 refine⟨fun r hr x hx=>?_,fun i j hj=>?_,by omega,by omega,fun i=>?_,fun i=>?_⟩
 ·obtain⟨i,hi,rfl⟩:=mem_map.mp hr;rw[hl];exact(m8 h ((pb _ _).mp hx)).1
 ·rw[o5] at hj ⊢;split at hj
  ·have hj:=(pb _ _).mp hj;rw[if_pos (m8 h hj).1];exact(pb _ _).mpr ((oX h).mpr ((oX h).mp hj).symm)
  ·simp at hj
 ·rw[o5];split
  ·rw[o8];exact le_trans (gI (qM h i) fun x hx=>(m8 h hx).1) h36
  ·simp
 ·rw[o5];split
  ·exact FD _
  ·exact length_eq_zero_iff.mp (o8 [])
theorem B0(d:List (Nat×Nat))(p q i:Nat)(hpq:p≠q):dF (d++[(p,q)]) i=dF d i++((if i=p then [q] else [])++(if i=q then [p] else [])):=by
 unfold dF;rw[filterMap_append];congr 1
 by_cases h1:i=p
 ·subst h1;have:¬i=q:=hpq;simp[this]
 ·by_cases h2:i=q
  ·subst h2;simp[h1,hpq]
  ·have h1':¬p=i:=fun e=>h1 e.symm;have h2':¬q=i:=fun e=>h2 e.symm;simp[h1,h2,h1',h2']
theorem EE(n:Nat)(d:List (Nat×Nat))(hp:p<n)(hq:q<n)(hpq:p≠q):mE ((List.range n).map (dF d)) p q=(List.range n).map (dF (d++[(p,q)])):=by
 have gd:∀(e:List (Nat×Nat)) (i:Nat),i<n->((List.range n).map (dF e)).getD i []=dF e i:=fun e i hi=>by simp[getD_eq_getElem?_getD,hi]
 apply ext_getElem?;intro i
 by_cases hi:i<n
 ·have e1:∀(l:List (List Nat)),l.length=n->l[i]?=some (l.getD i []):=fun l hl=>by
   rw[getD_eq_getElem?_getD,getElem?_eq_getElem (by omega)];rfl
  rw[e1 _ (by rw[xp];simp),e1 _ (by simp),gd _ i hi,B0 d p q i hpq];unfold mE;rw[oY (by rw[q_];simpa using hq),oY (by simpa using hp),oY (by simpa using hp),gd _ _ hp,gd _ _ hq,gd _ _ hi];congr 1
  by_cases h1:i=q
  ·subst h1;rw[if_pos rfl,if_neg (Ne.symm hpq),if_pos rfl,if_neg (Ne.symm hpq)];simp
  ·rw[if_neg h1,if_neg h1]
   by_cases h2:i=p
   ·subst h2;simp
   ·simp[h2]
 ·rw[getElem?_eq_none (by rw[xp];simp;omega),getElem?_eq_none (by simp;omega)]
theorem u7{a:Sl->M W}{x:W}{i:Int}(ha:a sl ce=some (.ok x c1))(hx:bV c1 x=some xs)(ei:i=(n:Int))(h:n<=xs.length)(hz:xs.length<=sizeLine):dX bc a (dm (dC (.int i))) eM sl ce=some (.ok (.lst (xs.drop n)) c1):=by
 subst ei;have e1:HT.sIx xs.length 0 (some (n:Int))=n:=by rw[HT.sIx_nat];omega
 have e2:HT.sIx xs.length xs.length none=xs.length:=rfl;have hb':dm (dC (.int (n:Int))) sl c1=some (.ok (some (n:Int)) c1):=jr aN;simp only[dX,au,ha,eM,VS.ret,hb',nI,hx,fF,e1,e2];rw[take_of_length_le (by rw[length_drop];omega)];refine kS ?_;rw[length_drop];omega
theorem lZ{a:Sl->M W}{x:W}(ha:a sl ce=some (.ok x c1))(hl:dl sl c1=some (.ok lo c2))(hh:dh sl c2=some (.ok hi c3))(hx:bV c3 x=some xs)(hz:xs.length<=sizeLine):dX bc a dl dh sl ce=some (.ok (.lst (fF xs lo hi)) c3):=by simp only[dX,au,ha,hl,hh,nI,hx];refine kS ?_;unfold fF;rw[length_take,length_drop];omega
theorem sr(xs:List Int)(lo hi:Option Int):∃ys:List Int,fF (xs.map W.int) lo hi=ys.map W.int/\ys.length<=xs.length/\∀y∈ys,y∈xs:=by unfold fF;rw[<- map_drop,<- map_take];exact⟨_,rfl,by rw[length_take,length_drop];omega,fun y hy=>mem_of_mem_drop (mem_of_mem_take hy)⟩
theorem yj(fu:Nat)(c:Int){m:Nat}(hm:m<=999):∃xs:List Int,d_k fu [.int c,nW m] ce=some (.ok (sW xs) ce)/\xs.length=m/\∀x∈xs,0<=x/\x<2147483647:=by
 have hz:1100<sizeLine:=by decide
 suffices hs:∃w c',d_k fu [.int c,nW m] ce=some (.ok w c')/\∃xs:List Int,w=sW xs/\c'=ce/\xs.length=m/\∀x∈xs,0<=x/\x<2147483647 by
  obtain⟨w,c',e,xs,rfl,rfl,h⟩:=hs;exact⟨xs,e,h⟩
 have f1:cK (nW m) (.int 1)=some (nW (m+1)):=l_ (i:=m) (j:=1) rfl rfl;have m1000:m+1<=1000:=by omega
 unfold d_k;refine mT [some (.int c),some (nW m),none,none,none] rfl ?_;refine bu (iT aB (zero_le _)) ?_;refine aY ?_;have O0:=(Own.start ce).alloc (C.lst []);generalize hk:ce.length=k2 at O0 ⊢;generalize ce++[C.lst []]=c0 at O0 ⊢;refine bu (w:=.int (c % 2147483647+48271)) (ce':=c0) (by trivial) ?_;refine aY ?_;refine kX (zs:=List.range (m+1)) (en:=nW) (gW (by trivial) m1000)
  (fun d sl c'=>∃xs:List Int,∃u:Int,∃x4,sl=[some (.int c),some (nW m),some (.cel k2),some (.int u),x4]/\Own ce c' [(k2,C.lst (xs.map W.int))]/\0<=u/\u<4294967296/\xs.length=d.length/\∀x∈xs,0<=x/\x<2147483647)
  ⟨[],_,_,rfl,O0,by omega,by omega,rfl,by simp⟩ ?_ ?_
 ·rintro d j r sl c' e hj ⟨xs,u,x4,rfl,O,u0,u1,hl,hx⟩;have hj:=mem_range.mp hj;have hdl:d.length<=1000:=by have:=congrArg List.length e;simp at this;omega
  have g2:=O.g0;have hm2:(xs.map W.int).length<sizeLine:=by rw[length_map];omega
  have mu:d_ u u:=.inl (by omega);have mu2:d_ 48271 u:=.inl (by omega);unfold yY;trivial;refine⟨xs++[(u*u+48271*u+(j:Int)) % 2147483647],_,_,rfl,by rw[map_append];exact O.set0 _,by omega,by omega,by simp[hl],fun x hx'=>?_⟩;rcases mem_append.mp hx' with h|h
  ·exact hx x h
  ·rw[mem_singleton] at h;subst h;omega
 ·rintro sl c' ⟨xs,u,x4,rfl,O,u0,u1,hl,hx⟩;rw[length_range] at hl;refine bP (u7 (xs:=xs.map W.int) (n:=1) (ao rfl) (eX O.g0) rfl (by rw[length_map];omega) (by rw[length_map];omega)) ?_;rw[<- map_drop];subst hk;refine⟨_,_,O.finC (by simp only[aU];exact bZ _ _),xs.drop 1,rfl,rfl,by rw[length_drop];omega,fun x hx'=>hx x (mem_of_mem_drop hx')⟩
theorem yi(fu:Nat)(n0:0<n)(h36:n<=36)(L:LsOk n ls):d_i fu [nW n,.lst (ls.map pW)] ce=some (.ok (wB (fE n ls)) ce):=by
 have hz:=fw;unfold d_i;refine dj [some (nW n),some (.lst (ls.map pW)),none,none,none] rfl ?_;refine bu (EF (ce:=ce) (n:=n) (qF (by trivial) (by omega)) (by omega)) ?_;refine aY ?_;refine Ej (zs:=ls) (fa:=fun p=>nW p.1) (fb:=fun p=>nW p.2) (c1:=bC ce (List.replicate n []) []) (jQ (by trivial))
  (fun d sl c=>∃x3 x4,sl=[some (nW n),some (.lst (ls.map pW)),some (iC ce n),x3,x4]/\c=bC ce ((List.range n).map (dF d)) [])
  ⟨_,_,rfl,by
   congr 2;apply ext_getElem?;intro i
   by_cases hi:i<n
   ·simp[hi,dF]
   ·rw[getElem?_eq_none (by simp;omega),getElem?_eq_none (by simp;omega)]⟩ ?_ ?_
 ·rintro d ⟨p,q⟩ r sl c e hp ⟨x3,x4,rfl,rfl⟩;have lt:=L.lt _ hp;simp only at lt;have Ld:LsOk n d:=by rw[<- e] at L;exact⟨(nodup_append.mp L.nd).1,fun x hx=>L.lt x (mem_append_left _ hx)⟩
  have hz2:∀i,(((List.range n).map (dF d)).getD i []).length<1000:=fun i=>by
   by_cases hi:i<n
   ·have:((List.range n).map (dF d)).getD i []=dF d i:=by simp[getD_eq_getElem?_getD,hi]
    rw[this];have:=gI (qM Ld i) fun x hx=>(m8 Ld hx).1;omega
   ·rw[getD_eq_getElem?_getD,getElem?_eq_none (by simp;omega)];simp
  unfold yX;refine Bv (Ij (ce:=ce) (n:=n) (mS:=2) (rows:=(List.range n).map (dF d)) (gs:=[]) (sl:=[some (nW n),some (.lst (ls.map pW)),some (iC ce n),some (nW p),some (nW q)]) (a:=3) (b:=4) (p:=p) (q:=q) rfl rfl rfl (by simp) (by omega) (by omega) hz2) ?_;exact⟨_,_,rfl,by rw[EE n d (by omega) (by omega) (by omega)]⟩
 ·rintro sl c ⟨x3,x4,rfl,rfl⟩;have hb60:∀i,(((List.range n).map (dF ls)).getD i []).length<=60:=fun i=>by
   by_cases hi:i<n
   ·have:((List.range n).map (dF ls)).getD i []=dF ls i:=by simp[getD_eq_getElem?_getD,hi]
    rw[this];have:=gI (qM L i) fun x hx=>(m8 L hx).1;omega
   ·rw[getD_eq_getElem?_getD,getElem?_eq_none (by simp;omega)];simp
  have er:=Hj (ce:=ce) (gs:=[]) (mS:=2) (rows:=(List.range n).map (dF ls)) (n:=n) (by simp) (by omega) hb60 (sl:=[some (nW n),some (.lst (ls.map pW)),some (iC ce n),x3,x4]) rfl;have eb:((List.range n).map fun i=>cD (((List.range n).map (dF ls)).getD i []))=fE n ls:=by unfold fE;apply map_congr_left;intro i hi;have hi:=mem_range.mp hi;simp[getD_eq_getElem?_getD,hi]
  rw[eb] at er;have hlb:(fE n ls).length<=sizeLine:=by simp[fE];omega
  refine bP (dO (ay er aB) (uX hlb)) ?_;have Oe:Own ce (bC ce ((List.range n).map (dF ls)) []) []:=⟨⟨_,rfl⟩,by simp,by simp,by simp⟩
  exact Oe.finC (Bw _ _)
theorem kF(h:p<ns.length)(c:Ce){i:Int}(ei:i=(p:Int)):aJ c (sW ns) (.int i)=some (.int (ns.getD p 0)):=by subst ei;show aJ c (.lst (ns.map W.int)) (nW p)=_;rw[ji (xs:=ns.map W.int) rfl,getElem?_map,getD_eq_getElem?_getD,getElem?_eq_getElem h];rfl
theorem rL(h:p<ns.length):ns.getD p 0∈ns:=by rw[getD_eq_getElem?_getD,getElem?_eq_getElem h];exact getElem_mem h
theorem xo(fu:Nat){xs:List Int}(hx3:3<=xs.length)(hx:∀x∈xs,0<=x/\x<2147483647) :
  ∃many ls,ku (d_m fu) [sW xs] ce=some (.ok (.tup [nW many,.lst (ls.map pW)]) ce)/\0<many/\many<=36/\LsOk many ls:=by
 have hz:2000<sizeLine:=by decide
 have z2:2<=sizeLine:=by decide
 have z4:4<=sizeLine:=by decide
 suffices h:∃w c,d_m fu [sW xs] ce=some (.ok w c)/\∃many ls l,Own ce c l/\fD ce.length c 6 w=some (.tup [nW many,.lst (ls.map pW)])/\0<many/\many<=36/\LsOk many ls by
  obtain⟨w,c,e,many,ls,l,O,ht,r⟩:=h;exact⟨many,ls,Own.frzD' e O (ki.refl ce) ht,r⟩
 have i0:=fun c=>kF (ns:=xs) (p:=0) (by omega) c (i:=0) rfl;have i1:=fun c=>kF (ns:=xs) (p:=1) (by omega) c (i:=1) rfl;have i2:=fun c=>kF (ns:=xs) (p:=2) (by omega) c (i:=2) rfl;have b0:=hx _ (rL (ns:=xs) (p:=0) (by omega));have b1:=hx _ (rL (ns:=xs) (p:=1) (by omega));have b2:=hx _ (rL (ns:=xs) (p:=2) (by omega));generalize xs.getD 0 0=a0 at i0 b0;generalize xs.getD 1 0=a1 at i1 b1;generalize xs.getD 2 0=a2 at i2 b2;have i0c:=i0 ce;have i1c:=i1 ce;have jG:=i2 ce;unfold d_m;refine mT [some (sW xs),none,none,none,none,none,none,none] rfl ?_;refine bU (p:=decide (a1 % 4=0)) (ce':=ce) (by trivial) (fun q=>?_) (fun q=>?_)
 ·-- a grid
  obtain⟨wd0,hwd0⟩:∃wd:Nat,1+a0 % 4=wd:=⟨(1+a0 % 4).toNat,by omega⟩
  obtain⟨n0,hn0⟩:∃n:Nat,(wd0:Int)*(1+a2 % 4)=n:=⟨wd0*(1+a2 % 4).toNat,by rw[natCast_mul];congr 1;omega⟩
  have mu0:d_ (wd0:Int) (1+a2 % 4):=.inl (by omega);have f0:cK (.int 1) (.int (a0 % 4))=some (nW wd0):=by rw[l_ rfl rfl,hwd0];rfl
  have f1:eL (nW wd0) (.int (1+a2 % 4))=some (nW n0):=by show eL (.int wd0) (.int (1+a2 % 4))=some (.int n0);rw[mZ mu0,hn0]
  refine fL ?_;refine bu (w:=nW wd0) (ce':=ce) (by trivial) ?_;refine aY ?_;refine fL ?_;refine bu (w:=nW n0) (ce':=ce) (by trivial) ?_;refine aY ?_;refine fL ?_;have last:∀(wd hg n:Nat),0<wd->0<hg->wd*hg=n->n<=36->∀(tail:DS),Run (aq (aq (aQ 3 (cL eR [1] (e9 (ah (aE eD (ae 2) (ae 1)) ai)) de (eK (ah (ae 0) (ah (aE cK (ae 0) (ae 1)) ai)))))
    (aq (aQ 4 (cL bc [1] (e9 (ah (aE eD (ae 2) (dC (.int 1))) ai)) (dB (aE gq (aE bG (aE cK (ae 0) (dC (.int 1))) (ae 1)) (dC (.int 0)))) (ae 0)))
    (aT (eK (ah (ae 2) (ah (je bc (ae 3) (cL bc [] (dY (ae 4)) de (eK (ah (ae 0) (ah (aE cK (ae 0) (dC (.int 1))) ai))))) ai)))))) tail)
    [some (sW xs),some (nW wd),some (nW n),none,none,none,none,none] ce
    (Rt fun v ce'=>∃w c',mP ce ce' v=some (.ok w c')/\∃many ls l,Own ce c' l/\fD ce.length c' 6 w=some (.tup [nW many,.lst (ls.map pW)])/\0<many/\many<=36/\LsOk many ls):=by
   intro wd hg n w1 h1 hn n36 tail;have n0:0<n:=by rw[<- hn];exact mul_pos w1 h1
   have wn:wd<=n:=by rw[<- hn];exact le_mul_of_pos_right wd h1
   have sb:eD (nW n) (nW wd)=some (nW (n-wd)):=by
    refine(oP (x:=nW n) (y:=nW wd) (i:=n) (j:=wd) rfl rfl).trans ?_;have:((n:Int)-(wd:Int))=((n-wd:Nat):Int):=by omega
    rw[this];rfl
   have sb1:eD (nW n) (.int 1)=some (nW (n-1)):=by
    refine(oP (x:=nW n) (y:=.int 1) (i:=n) (j:=1) rfl rfl).trans ?_;have:((n:Int)-1)=((n-1:Nat):Int):=by omega
    rw[this];rfl
   have md:∀p:Nat,bG (.int ((p:Int)+1)) (nW wd)=some (.int (((p:Int)+1) % (wd:Int))):=fun p=>nj (i:=(p:Int)+1) (j:=wd) rfl rfl (by omega);have nz:(List.range (n-wd)).length<=sizeLine:=by rw[length_range];omega
   have nz2:(List.range (n-1)).length<=sizeLine:=by rw[length_range];omega
   have r1:n-wd<=1000:=by omega
   have r2:n-1<=1000:=by omega
   refine fL ?_;refine bu (qf (zs:=List.range (n-wd)) (en:=nW) (g:=fun p=>pW (p,p+wd)) (gW (by trivial) r1).is nz (fun p hp=>?_)) ?_
   ·have e:pW (p,p+wd)=.tup [nW p,.int ((p:Int)+wd)]:=by simp[pW,nW]
    rw[e];trivial
   refine aY ?_;have O1:=(Own.start ce).alloc (C.lst ((List.range (n-wd)).map fun p=>pW (p,p+wd)));generalize ce.length=k3 at O1 ⊢;generalize hc1:ce++[C.lst ((List.range (n-wd)).map fun p=>pW (p,p+wd))]=c1 at O1 ⊢;have g3:=eX O1.g0
   let t:Nat->Bool:=fun p=>decide ((0:Int)<((p:Int)+1) % (wd:Int))
   refine fL ?_;refine bu (w:=wL ((List.range (n-1)).filter t)) (ce':=c1) (qe (zs:=List.range (n-1)) (en:=nW) (t:=t) (gW (by trivial) r2).is nz2 (fun p hp=>?_)) ?_
   ·have:=md p;trivial
   refine aY ?_;have hl1:((List.range (n-1)).filter t).length<=36:=by have:=length_filter_le t (List.range (n-1));rw[length_range] at this;omega
   refine ju ?_;refine bP (jY (ws:=[nW n,.lst (((List.range (n-wd)).map fun p=>pW (p,p+wd))++((List.range (n-1)).filter t).map fun p=>pW (p,p+1))]) (c1:=c1) (ay (by trivial) (ay (rM (by trivial) (nS (zs:=(List.range (n-1)).filter t) (en:=nW) (g:=fun p=>pW (p,p+1)) (qy (by trivial) (.fr _)) (by omega) (fun p hp=>?_)) g3 rfl ?_) aB)) z2) ?_
   ·have e:pW (p,p+1)=.tup [nW p,.int ((p:Int)+1)]:=by simp[pW,nW]
    rw[e];trivial
   ·rw[length_map,length_map,length_range];omega
   ·refine⟨_,_,rfl,n,((List.range (n-wd)).map fun p=>(p,p+wd))++(((List.range (n-1)).filter t).map fun p=>(p,p+1)),_,O1,?_,n0,n36,?_⟩
    ·have e:((List.range (n-wd)).map fun p=>pW (p,p+wd))++(((List.range (n-1)).filter t).map fun p=>pW (p,p+1))=(((List.range (n-wd)).map fun p=>(p,p+wd))++(((List.range (n-1)).filter t).map fun p=>(p,p+1))).map pW:=by rw[map_append,map_map,map_map];rfl
     rw[e];simp only[fD,gA,rn,r6,map_some]
    ·constructor
     ·rw[nodup_append];refine⟨bL nodup_range (fun x y h=>by simpa using congrArg Prod.fst h),bL (List.Pairwise.filter _ nodup_range) (fun x y h=>by simpa using congrArg Prod.fst h),?_⟩;intro a ha c hc e;subst e;obtain⟨x,hx,e⟩:=mem_map.mp ha;obtain⟨y,hy,rfl⟩:=mem_map.mp hc;have hy':=of_decide_eq_true (mem_filter.mp hy).2;injection e with e1 e2;subst e1;have:wd=1:=by omega
      subst this;omega
     ·intro p hp;rcases mem_append.mp hp with hp|hp
      ·obtain⟨x,hx,rfl⟩:=mem_map.mp hp;have hx:=mem_range.mp hx;exact⟨by show x<x+wd;omega,by show x+wd<n;omega⟩
      ·obtain⟨x,hx,rfl⟩:=mem_map.mp hp;have hx:=mem_range.mp (mem_filter.mp hx).1;exact⟨by show x<x+1;omega,by show x+1<n;omega⟩
  have dv:ko (.int a2) (.int 4)=some (.int (a2 / 4)):=rq (i:=a2) (j:=4) rfl rfl (by omega);refine bU (p:=decide (a2 / 4 % 9=0)) (ce':=ce) (by trivial) (fun _=>?_) (fun _=>?_)
  ·obtain⟨wd,hwd⟩:∃wd:Nat,3+a0 % 4=wd:=⟨(3+a0 % 4).toNat,by omega⟩
   have f2:cK (.int 3) (.int (a0 % 4))=some (nW wd):=by rw[l_ rfl rfl,hwd];rfl
   have f3:eL (.int 6) (nW wd)=some (nW (wd*6)):=by show eL (.int 6) (.int wd)=some (.int ((wd*6:Nat):Int));rw[mZ (.inl (by omega))];congr 2;omega
   refine fL ?_;refine bu (w:=nW wd) (ce':=ce) (by trivial) ?_;refine aY ?_;refine bu (w:=nW (wd*6)) (ce':=ce) (by trivial) ?_;refine aY ?_;exact last wd 6 _ (by omega) (by omega) rfl (by omega) _
  ·refine cy ?_;obtain⟨hg,hhg⟩:∃hg:Nat,1+a2 % 4=hg:=⟨(1+a2 % 4).toNat,by omega⟩
   have en:wd0*hg=n0:=by rw[hhg,<- natCast_mul] at hn0;exact Int.ofNat.inj hn0
   have:n0<=36:=by rw[<- en];exact le_trans (mul_le_mul (by omega:wd0<=4) (by omega:hg<=4)) (by omega)
   exact last wd0 hg _ (by omega) (by omega) en this _
 ·-- a row,a ring,drawn lines
  refine cy ?_;have q':=of_decide_eq_false q;obtain⟨way,hway⟩:∃way:Nat,a1 % 4=way:=⟨(a1 % 4).toNat,by omega⟩
  have hway4:way<4:=by omega
  have m0:bG (.int a1) (.int 4)=some (nW way):=by rw[nj (i:=a1) (j:=4) rfl rfl (by omega),hway];rfl
  obtain⟨md,hmd,hmd1,hmd2⟩:∃md:Nat,aJ ce (.lst [.int 0,.int 7,.int 9,.int 5]) (nW way)=some (nW md)/\0<md/\md<=9:=by
   have:way=1\/way=2\/way=3:=by omega
   rcases this with rfl|rfl|rfl
   ·exact⟨7,rfl,by omega,by omega⟩
   ·exact⟨9,rfl,by omega,by omega⟩
   ·exact⟨5,rfl,by omega,by omega⟩
  obtain⟨r,hr,er⟩:=rE a0 (n:=md) hmd1;have m1:bG (.int a0) (nW md)=some (nW r):=oK hmd1 er;obtain⟨n,hn⟩:∃n:Nat,1+r=n:=⟨_,rfl⟩
  have f1:cK (.int 1) (nW r)=some (nW n):=by
   refine(l_ (x:=.int 1) (y:=nW r) (i:=1) (j:=r) rfl rfl).trans ?_;have:(1:Int)+(r:Int)=((n:Nat):Int):=by omega
   rw[this];rfl
  have n9:0<n/\n<=9:=by omega
  refine bu (w:=nW n) (ce':=ce) (ck (by trivial) (ck (by trivial) (bO (x:=.lst [.int 0,.int 7,.int 9,.int 5]) (y:=nW way) (gB (ws:=[.int 0,.int 7,.int 9,.int 5]) (by trivial) z4) (by trivial) hmd) m1) f1) ?_;refine aY ?_;have sb1:eD (nW n) (.int 1)=some (nW (n-1)):=by
   refine(oP (x:=nW n) (y:=.int 1) (i:=n) (j:=1) rfl rfl).trans ?_;have:((n:Int)-1)=((n-1:Nat):Int):=by omega
   rw[this];rfl
  have nz2:(List.range (n-1)).length<=sizeLine:=by rw[length_range];omega
  have r2:n-1<=1000:=by omega
  refine bu (qf (zs:=List.range (n-1)) (en:=nW) (g:=fun p=>pW (p,p+1)) (gW (by trivial) r2).is nz2 (fun p hp=>?_)) ?_
  ·have e:pW (p,p+1)=.tup [nW p,.int ((p:Int)+1)]:=by simp[pW,nW]
   rw[e];trivial
  refine aY ?_;have el:(List.range (n-1)).map (fun p=>pW (p,p+1))=((List.range (n-1)).map fun p=>(p,p+1)).map pW:=by rw[map_map];rfl
  rw[el];have L0:LsOk n ((List.range (n-1)).map fun p=>(p,p+1)):=⟨bL nodup_range (fun x y h=>by simpa using congrArg Prod.fst h),fun p hp=>by
   obtain⟨x,hx,rfl⟩:=mem_map.mp hp;have hx:=mem_range.mp hx;exact⟨by show x<x+1;omega,by show x+1<n;omega⟩⟩
  have ll0:((List.range (n-1)).map fun p=>(p,p+1)).length<=36:=by rw[length_map,length_range];omega
  have hno:2<n->(0,n-1)∉(List.range (n-1)).map fun p=>(p,p+1):=fun h2 hm=>by
   obtain⟨x,_,e⟩:=mem_map.mp hm;injection e with e1 e2;omega
  generalize (List.range (n-1)).map (fun p=>(p,p+1))=ls0 at L0 ll0 hno ⊢;have O1:=(Own.start ce).alloc (C.lst (ls0.map pW));generalize hk3:ce.length=k3 at O1 ⊢;generalize ce++[C.lst (ls0.map pW)]=c1 at O1 ⊢;have fin:∀(ls:List (Nat×Nat)) (c:Ce) (l:List (Nat×C)) (k:Nat) (x5 x6 x7:Option W),LsOk n ls->Own ce c ((k,C.lst (ls.map pW))::l)->Run (aT (eK (ah (ae 2) (ah (ae 3) ai)))) [some (sW xs),none,some (nW n),some (.cel k),none,x5,x6,x7] c
    (Rt fun v ce'=>∃w c',mP ce ce' v=some (.ok w c')/\∃many ls l,Own ce c' l/\fD k3 c' 6 w=some (.tup [nW many,.lst (ls.map pW)])/\0<many/\many<=36/\LsOk many ls):=by
   intro ls c l k x5 x6 x7 L O;refine bP (jY (ws:=[nW n,.cel k]) (c1:=c) (by trivial) z2) ?_;refine⟨_,_,rfl,n,ls,_,O,?_,n9.1,by omega,L⟩;have hk:¬k<k3:=by have:=O.ge _ mem_cons_self;rw[<- hk3];omega
   have g:=O.g0;simp only[fD,gA,rn,if_neg hk,g,r6,map_some]
  have i1c1:=i1 c1;have i2c1:=i2 c1;have m2:bG (.int a2) (.int 2)=some (.int (a2 % 2)):=nj (i:=a2) (j:=2) rfl rfl (by omega);have gt2:gq (nW n) (.int 2)=some (.bl (decide (2<(n:Int)))):=qD (i:=n) (j:=2) rfl rfl;have hm3:(ls0.map pW).length<sizeLine:=by rw[length_map];omega
  have way1:eQ (nW way) (.int 1)=some (.bl (decide ((way:Int)=1))):=kR (i:=way) (j:=1) rfl rfl;have wgt:∀c:Ce,dB (aE gq (aE bG (aI aJ (ae 0) (dC (.int 1))) (dC (.int 4))) (dC (.int 1))) [some (sW xs),none,some (nW n),some (.cel k3),none,none,none,none] c=some (.ok (decide (1<(way:Int))) c):=fun c=>by
   have i1':=i1 c;have w2:gq (nW way) (.int 1)=some (.bl (decide (1<(way:Int)))):=qD (i:=way) (j:=1) rfl rfl;trivial
  refine bU (p:=decide ((way:Int)=1)&&(decide (2<(n:Int))&&decide (a2 % 2=0))) (ce':=c1) (by trivial) (fun q2=>?_) (fun q2=>?_)
  ·simp only[and_eq_true,decide_eq_true_eq] at q2;have hn2:2<n:=by omega
   refine jZ (w:=.non) (ce':=c1.set k3 (C.lst (ls0.map pW++[pW (0,n-1)]))) (gS (ws:=[pW (0,n-1)]) (by trivial) (eX O1.g0) (ay (jY (ws:=[.int 0,nW (n-1)]) (by trivial) z2) aB) (by rw[oo (kJ O1.g0) hm3])) ?_;have O2:=O1.set0 (C.lst (ls0.map pW++[pW (0,n-1)]));have e2:ls0.map pW++[pW (0,n-1)]=(ls0++[(0,n-1)]).map pW:=by simp
   rw[e2] at O2 ⊢;generalize c1.set k3 (C.lst ((ls0++[(0,n-1)]).map pW))=c2 at O2 ⊢;refine bU (p:=decide (1<(way:Int))) (ce':=c2) (wgt c2) (fun q3=>absurd (of_decide_eq_true q3) (by omega)) (fun _=>?_);refine cy ?_;refine fin _ c2 _ k3 _ _ _ ⟨?_,fun p hp=>?_⟩ O2
   ·rw[nodup_append];exact⟨L0.nd,by simp,fun a ha b hb=>by rw[mem_singleton] at hb;subst hb;intro e;subst e;exact hno hn2 ha⟩
   ·rcases mem_append.mp hp with hp|hp
    ·exact L0.lt p hp
    ·rw[mem_singleton] at hp;subst hp;exact⟨by show 0<n-1;omega,by show n-1<n;omega⟩
  ·refine cy ?_;refine bU (p:=decide (1<(way:Int))) (ce':=c1) (wgt c1) (fun q3=>?_) (fun _=>?_)
   ·obtain⟨nn,hnn⟩:∃nn:Nat,n*n=nn:=⟨_,rfl⟩
    have nn81:nn<=81:=by rw[<- hnn];exact mul_le_mul n9.2 n9.2
    have fm:eL (nW n) (nW n)=some (nW nn):=by show eL (.int n) (.int n)=some (.int (nn:Int));rw[mZ (.inl (by omega)),<- hnn,natCast_mul]
    obtain⟨ys,e5,hyl,hy⟩:=yj (ce:=c1) fu a2 (m:=nn) (by omega);refine fL ?_;refine bu (w:=sW ys) (ce':=c1) (cE (ws:=[.int a2,nW nn]) (by trivial) rfl e5) ?_;refine aY ?_;refine fL ?_;refine bu (iT aB (zero_le _)) ?_;refine aY ?_;have O2:=(O1.alloc (C.lst [])).perm (.swap _ _ _) |>.drop;have O2:=O1.drop.alloc (C.lst []);generalize c1.length=k4 at O2 ⊢;generalize c1++[C.lst []]=c2 at O2 ⊢;have n1000:n<=1000:=by omega
    refine kX (zs:=List.range n) (en:=nW) (gW (by trivial) n1000)
     (fun d sl c=>∃ls x6 x7,sl=[some (sW xs),none,some (nW n),some (.cel k4),none,some (sW ys),x6,x7]/\Own ce c [(k4,C.lst (ls.map pW))]/\ls.Nodup/\ls.length<=40*d.length/\∀p∈ls,p.1<p.2/\p.2<d.length)
     ⟨[],_,_,rfl,O2,by simp,by simp,by simp⟩ ?_ ?_
    ·rintro d p r' sl c e hp ⟨ls,x6,x7,rfl,O,nd,hl,lt⟩;have hp':p<n:=mem_range.mp hp;have hd:=qZ e;have hdl:d.length=p:=by rw[hd,length_range]
     have p1000:p<=1000:=by omega
     unfold yZ;refine o9 (zs:=List.range p) (en:=nW) (gW (by trivial) p1000)
      (fun d' sl c=>∃ls x7,sl=[some (sW xs),none,some (nW n),some (.cel k4),none,some (sW ys),some (nW p),x7]/\Own ce c [(k4,C.lst (ls.map pW))]/\ls.Nodup/\ls.length<=40*p+d'.length/\∀q∈ls,q.1<q.2/\(q.2<p\/(q.2=p/\q.1<d'.length)))
      ⟨ls,x7,rfl,O,nd,by simpa[hdl] using hl,fun q hq=>⟨(lt q hq).1,.inl (by have:=(lt q hq).2;omega)⟩⟩ ?_ ?_
     ·rintro d' q r'' sl c e' hq ⟨ls,x7,rfl,O,nd,hl,lt⟩;have hq':q<p:=mem_range.mp hq;have hd':=qZ e';have hdl':d'.length=q:=by rw[hd',length_range]
      have g5:=O.g0;have hm:(ls.map pW).length<sizeLine:=by rw[length_map];omega
      obtain⟨ix,hix⟩:∃ix:Nat,p*n+q=ix:=⟨_,rfl⟩
      have hixl:ix<ys.length:=by rw[hyl,<- hnn,<- hix];have:(p+1)*n<=n*n:=mul_le_mul_right n hp';rw[add_mul] at this;omega
      have fm2:eL (nW p) (nW n)=some (nW (p*n)):=by show eL (.int p) (.int n)=some (.int ((p*n:Nat):Int));rw[mZ (.inl (by omega)),natCast_mul]
      have fa:cK (nW (p*n)) (nW q)=some (nW ix):=by
       refine(l_ (x:=nW (p*n)) (y:=nW q) (i:=((p*n:Nat):Int)) (j:=q) rfl rfl).trans ?_;have:((p*n:Nat):Int)+(q:Int)=((ix:Nat):Int):=by omega
       rw[this];rfl
      have iy:aJ c (sW ys) (nW ix)=some (.int (ys.getD ix 0)):=kF hixl c (i:=(ix:Int)) rfl;have i1':=i1 c;unfold y6;refine aY ?_;have lw:mz (.int (ys.getD ix 0 % 5)) (nW way)=some (.bl (decide (ys.getD ix 0 % 5<(way:Int)))):=vj (i:=ys.getD ix 0 % 5) (j:=way) rfl rfl;have m5:bG (.int (ys.getD ix 0)) (.int 5)=some (.int (ys.getD ix 0 % 5)):=nj (i:=ys.getD ix 0) (j:=5) rfl rfl (by omega);refine gC (p:=decide (ys.getD ix 0 % 5<(way:Int))) (ce':=c) (by trivial) (fun _=>?_) (fun _=>?_)
      ·refine j2 (w:=.non) (ce':=c.set k4 (C.lst (ls.map pW++[pW (q,p)]))) (gS (ws:=[pW (q,p)]) (by trivial) (eX O.g0) (ay (jY (ws:=[nW q,nW p]) (by trivial) z2) aB) (by rw[oo (kJ O.g0) hm])) ?_;refine⟨ls++[(q,p)],_,rfl,?_,?_,?_,fun x hx=>?_⟩
       ·rw[map_append];exact O.set0 _
       ·rw[nodup_append];refine⟨nd,by simp,fun a ha b hb=>?_⟩;rw[mem_singleton] at hb;subst hb;intro e;subst e;have:=(lt _ ha).2;simp only at this;omega
       ·simp only[length_append,length_cons,length_nil];omega
       ·rcases mem_append.mp hx with hx|hx
        ·refine⟨(lt x hx).1,?_⟩;rcases(lt x hx).2 with h|h
         ·exact .inl h
         ·exact .inr ⟨h.1,by rw[length_append,length_cons,length_nil];omega⟩
        ·rw[mem_singleton] at hx;subst hx;exact⟨hq',.inr ⟨rfl,by show q<_;rw[length_append,length_cons,length_nil];omega⟩⟩
      ·refine kc ?_;refine⟨ls,_,rfl,O,nd,by simp only[length_append,length_cons,length_nil];omega,fun x hx=>⟨(lt x hx).1,?_⟩⟩;rcases(lt x hx).2 with h|h
       ·exact .inl h
       ·exact .inr ⟨h.1,by rw[length_append,length_cons,length_nil];omega⟩
     ·rintro sl c ⟨ls,x7,rfl,O,nd,hl,lt⟩;rw[length_range] at hl;refine⟨ls,_,_,rfl,O,nd,by simp only[length_append,length_cons,length_nil];omega,fun x hx=>⟨(lt x hx).1,?_⟩⟩;simp only[length_append,length_cons,length_nil];rcases(lt x hx).2 with h|h
      ·omega
      ·omega
    ·rintro sl c ⟨ls,x6,x7,rfl,O,nd,hl,lt⟩;exact fin ls c [] k4 _ _ _ ⟨nd,fun p hp=>by have:=lt p hp;rw[length_range] at this;exact this⟩ O
   ·refine cy ?_;exact fin ls0 c1 [] k3 _ _ _ L0 O1
section
variable {mk:W} {s:Nat}
def Mk(b:List (List Nat))(mk:W)(vl:Nat->Int):Prop:=∀(ce:Ce) (x y:Nat),x<b.length->y<b.length->∃wx wy,aJ ce mk (nW x)=some wx/\aJ ce mk (nW y)=some wy/\bD false ce wx wy=some (.bl (decide (vl x=vl y)))
theorem ue{is:List Int}(h:is.length=b.length):Mk b (wS is) (fun x=>is.getD x 0):=fun ce x y hx hy=>⟨_,_,kH (by omega),kH (by omega),nM⟩
theorem yx(fu:Nat)(hfu:200<=fu)(hm:Mk b mk vl)(hb:Bd b)(h36:b.length<=36)(hs:s<b.length) :
  d_z fu [wB b,mk,nW s] ce=some (.ok (.cel ce.length) (ce++[.lst ((aR b vl s).map nW)])):=by
 have hz:=fw;unfold d_z;refine dj [some (wB b),some mk,some (nW s),none,none,none,none] rfl ?_;trivial;have O0:=((Own.start ce).alloc (C.dct (kvs [s]))).alloc (C.lst ([s].map nW));refine(?_:Run _ _ ((ce++[C.dct (kvs [s])])++[C.lst ([s].map nW)]) _);generalize h4:(ce++[C.dct (kvs [s])]).length=k4 at O0;have h4':∀x:Key×W,(ce++[C.dct [x]]).length=k4:=fun x=>by rw[<- h4];simp
 rw[h4'];generalize h3:ce.length=k3 at O0 ⊢;generalize (ce++[C.dct (kvs [s])])++[C.lst ([s].map nW)]=c0 at O0 ⊢;refine Fy (σ:=List Nat×List Nat) (fun st sl c=>∃x5 x6,sl=[some (wB b),some mk,some (nW s),some (.cel k3),some (.cel k4),x5,x6]/\Own ce c [(k4,C.lst (st.2.map nW)),(k3,C.dct (kvs st.1))]/\st.1.Nodup/\s∈st.1/\(∀x∈st.1,x<b.length)/\(∀x∈st.2,x∈st.1)/\st.2.length<=st.1.length/\(∀x∈st.1,Reach b (dQ vl s) s x)/\∀x∈st.1,x∉st.2->∀y∈b.getD x [],dQ vl s y->y∈st.1)
  (fun st=>st.2.length+2*(36-st.1.length)) ([s],[s]) ⟨_,_,rfl,O0,by simp,by simp,by simpa using hs,by simp,by simp,by simpa using Reach.refl,by simp⟩ (by show [s].length+2*(36-[s].length)<fu;simp;omega) ?_
 rintro⟨F,Wt⟩ sl c ⟨x5,x6,rfl,O,nd,hsF,lt,sub,hW,re,cl⟩;have g4:=O.g0;have g3:=O.g1;dsimp only at g4 g3 O nd hsF lt sub hW re cl;have hF36:F.length<=36:=le_trans (gI nd lt) h36;refine⟨!(Wt.map nW).isEmpty,by trivial,fun q=>?_,fun q=>?_⟩
 ·rcases eq_nil_or_concat Wt with rfl|⟨W0,p,hWt⟩
  ·simp at q
  ·rw[concat_eq_append] at hWt;subst hWt;have hpF:p∈F:=sub p (by simp);have hp:=lt p hpF;have pp:=oB (ys:=W0.map nW) (y:=nW p) g4 (by simp);have O1:=O.set0 (C.lst (W0.map nW));generalize c.set k4 (C.lst (W0.map nW))=c1 at O1 pp;unfold yA;trivial;refine o9 (zs:=b.getD p []) (en:=nW) (qE (by trivial)) (fun d sl c=>∃new x6,sl=[some (wB b),some mk,some (nW s),some (.cel k3),some (.cel k4),some (nW p),x6]/\Own ce c [(k4,C.lst ((W0++new).map nW)),(k3,C.dct (kvs (F++new)))]/\(F++new).Nodup/\(∀x∈new,x∈b.getD p []/\dQ vl s x)/\∀x∈d,dQ vl s x->x∈F++new)
    ⟨[],x6,rfl,by simpa using O1,by simpa using nd,by simp,by simp⟩ ?_ ?_
   ·rintro d y r sl c e hy ⟨new,x6,rfl,O,nd2,hnew,hd⟩;have g4:=O.g0;have g3:=O.g1;have gd:=qG g3;have hy':=hb.get hy;obtain⟨wx,wy,i1,i2,q1⟩:=hm c y s hy' hs;have lt2:∀x∈F++new,x<b.length:=fun x hx=>by
     rcases mem_append.mp hx with hx|hx
     ·exact lt x hx
     ·exact hb.get (hnew x hx).1
    have hl2:=gI nd2 lt2;have hk:(kvs (F++new)).length<sizeLine:=by rw[sX];omega
    have hw:((W0++new).map nW).length<sizeLine:=by rw[length_map,length_append];rw[length_append] at hl2;simp only[length_append,length_cons,length_nil] at hW;omega
    unfold yB;refine gC (p:=!decide (y∈F++new)&&decide (vl y=vl s)) (ce':=c) (by trivial) (fun q=>?_) (fun q=>?_)
    ·simp only[and_eq_true,not_eq_true',decide_eq_false_iff_not,decide_eq_true_eq] at q;have O2:=O.set1 (C.dct (gu (kvs (F++new)) (.inl (y:Int)) (.bl true)));rw[rF _ _ q.1] at O2;have g4:=O2.g0;have e1:C.dct (kvs (F++new++[y]))=C.dct (gu (kvs (F++new)) (.inl (y:Int)) (.bl true)):=by rw[rF _ _ q.1]
     rw[e1] at g4;trivial;refine⟨new++[y],_,rfl,?_,?_,fun x hx=>?_,fun x hx o=>?_⟩
     ·have e2:(W0++(new++[y])).map nW=(W0++new).map nW++[nW y]:=by simp
      rw[<- e1,e2,<- append_assoc];exact O2.set0 _
     ·rw[<- append_assoc,nodup_append];exact⟨nd2,by simp,fun a ha c hc=>by rw[mem_singleton] at hc;subst hc;intro e;subst e;exact q.1 ha⟩
     ·rcases mem_append.mp hx with hx|hx
      ·exact hnew x hx
      ·rw[mem_singleton] at hx;subst hx;exact⟨hy,q.2⟩
     ·rw[<- append_assoc];rcases mem_append.mp hx with hx|hx
      ·exact mem_append_left _ (hd x hx o)
      ·rw[mem_singleton] at hx;subst hx;simp
    ·trivial;refine⟨new,_,rfl,O,nd2,hnew,fun x hx o=>?_⟩;rcases mem_append.mp hx with hx|hx
     ·exact hd x hx o
     ·rw[mem_singleton] at hx;subst hx;have o':vl x=vl s:=o;simp only[o',decide_true,Bool.and_true,not_eq_false',decide_eq_true_eq] at q;exact q
   ·rintro sl c ⟨new,x6,rfl,O,nd2,hnew,hd⟩;have lt2:∀x∈F++new,x<b.length:=fun x hx=>by
     rcases mem_append.mp hx with hx|hx
     ·exact lt x hx
     ·exact hb.get (hnew x hx).1
    have hl2:=gI nd2 lt2;simp only[length_append] at hl2;simp only[length_append,length_cons,length_nil] at hW;refine⟨(F++new,W0++new),?_,_,_,rfl,O,nd2,mem_append_left _ hsF,lt2,fun x hx=>?_,?_,fun x hx=>?_,fun x hx hn y hy o=>?_⟩
    ·show(W0++new).length+2*(36-(F++new).length)<(W0++[p]).length+2*(36-F.length);simp only[length_append,length_cons,length_nil];omega
    ·rcases mem_append.mp hx with hx|hx
     ·exact mem_append_left _ (sub x (by simp[hx]))
     ·exact mem_append_right _ hx
    ·show(W0++new).length<=(F++new).length;simp only[length_append];omega
    ·rcases mem_append.mp hx with hx|hx
     ·exact re x hx
     ·exact(re p hpF).step (hnew x hx).1 (hnew x hx).2
    ·rcases mem_append.mp hx with hx|hx
     ·by_cases hxp:x=p
      ·subst hxp;exact hd y hy o
      ·exact mem_append_left _ (cl x hx (fun q=>by rcases mem_append.mp q with q|q;exact hn (mem_append_left _ q);exact hxp (by simpa using q)) y hy o)
     ·exact absurd (mem_append_right _ hx) hn
 ·have hW0:Wt=[]:=by simpa using q
  subst hW0;have comp:Comp b (dQ vl s) s F:=⟨nd,hsF,lt,fun x hx y hy o=>cl x hx (by simp) y hy o,re⟩
  trivial
  ·rw[xR g3 (by omega),ma (by rw[length_map,o8];omega)]
  ·rw[Dh comp];subst h3;exact(O.alloc _).finO (by simp only[eB];exact aL _ _)
theorem AH(fu:Nat)(hfu:200<=fu)(hm:Mk b mk vl)(hb:Bd b)(h36:b.length<=36)(hs:s<b.length):cX (d_z fu) [wB b,mk,nW s] ce=some (.ok (wL (aR b vl s)) ce) :=
 jv (yx fu hfu hm hb h36 hs) (aL _ _)
end
section
variable {mk:W} {s:Nat}
theorem GS(fu:Nat)(hfu:200<=fu)(hm:Mk b mk vl)(hb:Bd b)(sym:Sym b)(h36:b.length<=36) :
  d_fa fu [wB b,mk] ce=some (.ok (.cel ce.length) (ce++[.lst ((g6 b vl).map wL)])):=by
 have hz:=fw;unfold d_fa;refine dj [some (wB b),some mk,none,none,none,none,none] rfl ?_;trivial;have O0:=((Own.start ce).alloc (C.dct (kvs []))).alloc (C.lst []);refine(?_:Run _ _ ((ce++[C.dct (kvs [])])++[C.lst []]) _);generalize h3:(ce++[C.dct []]).length=k3;have h3':(ce++[C.dct (kvs [])]).length=k3:=h3;rw[h3'] at O0;generalize h2:ce.length=k2 at O0 ⊢;generalize (ce++[C.dct (kvs [])])++[C.lst []]=c0 at O0 ⊢;have hl':b.length<=1000:=by omega
 refine kX (zs:=List.range b.length) (en:=nW) (gW (by trivial) hl')
  (fun d sl c=>∃S x4 x5 x6,sl=[some (wB b),some mk,some (.cel k2),some (.cel k3),x4,x5,x6]/\Own ce c [(k3,C.lst (((d.filter (dN b vl)).map (aR b vl)).map wL)),(k2,C.dct (kvs S))]/\S.Nodup/\(∀x∈S,x<b.length)/\∀x,x∈S↔∃y∈d,x∈aR b vl y)
  ⟨[],_,_,_,rfl,O0,by simp,by simp,by simp⟩ ?_ ?_
 ·rintro d p r sl c e hp ⟨S,x4,x5,x6,rfl,O,nd,lt,mem⟩;have hp':p<b.length:=mem_range.mp hp;have hd:=qZ e;have g3:=O.g0;have g2:=O.g1;have key:p∈S↔¬dN b vl p=true:=by
   rw[mem];constructor
   ·rintro⟨y,hy,hpy⟩ hl;rw[hd] at hy;have hy':=mem_range.mp hy;unfold dN at hl;rw[all_eq_true] at hl;have:=of_decide_eq_true (hl y (xC hb sym (by omega) hpy));omega
   ·intro hl;unfold dN at hl;rw[all_eq_true] at hl;obtain⟨y,hy⟩:=Classical.not_forall.mp hl;obtain⟨hy,hn⟩:=Classical.not_imp.mp hy;have hn':¬p<=y:=fun q=>hn (decide_eq_true q);exact⟨y,by rw[hd];exact mem_range.mpr (by omega),xC hb sym hp' hy⟩
  unfold yE;have hdl:d.length<b.length:=by have:=congrArg List.length e;simp at this;omega
  have hm3:(((d.filter (dN b vl)).map (aR b vl)).map wL).length<sizeLine:=by simp only[length_map];have:=length_filter_le (dN b vl) d;omega
  have e1:=fun c=>AH (ce:=c) fu hfu hm hb h36 hp';have e1c:=e1 c;trivial
  ·rename_i q;have q':p∉S:=by simpa using q
   have hl:dN b vl p=true:=Classical.byContradiction fun h=>q' (key.mpr h);have O1:=O.set0 (C.lst (((d.filter (dN b vl)).map (aR b vl)).map wL++[wL (aR b vl p)]));generalize c.set k3 (C.lst (((d.filter (dN b vl)).map (aR b vl)).map wL++[wL (aR b vl p)]))=c1 at O1 ⊢;have ef:((d++[p]).filter (dN b vl)).map (aR b vl)=(d.filter (dN b vl)).map (aR b vl)++[aR b vl p]:=by rw[filter_append,filter_cons_of_pos hl];simp
   refine o9 (zs:=aR b vl p) (en:=nW) (jQ (by trivial)) (fun d' sl c=>∃S' x6,sl=[some (wB b),some mk,some (.cel k2),some (.cel k3),some (nW p),some (wL (aR b vl p)),x6]/\Own ce c [(k3,C.lst ((((d++[p]).filter (dN b vl)).map (aR b vl)).map wL)),(k2,C.dct (kvs S'))]/\S'.Nodup/\(∀x∈S',x<b.length)/\∀x,x∈S'↔x∈S\/x∈d')
    ⟨S,x6,rfl,by rw[ef,map_append];exact O1,nd,lt,by simp⟩ ?_ ?_
   ·rintro d' y r' sl c e' hy ⟨S',x6,rfl,O,nd',lt',mem'⟩;have gd:=qG O.g1;have hS:=gI nd' lt';have hk:(kvs S').length<sizeLine:=by rw[sX];omega
    unfold yF;trivial;refine⟨ins S' y,_,rfl,by rw[v7];exact O.set1 _,vk nd',fun x hx=>?_,fun x=>?_⟩
    ·rcases dR.mp hx with hx|rfl
     ·exact lt' x hx
     ·exact cu hy
    ·rw[dR,mem',mem_append,mem_singleton,or_assoc]
   ·rintro sl c ⟨S',x6,rfl,O,nd',lt',mem'⟩;refine⟨S',_,_,_,rfl,O,nd',lt',fun x=>?_⟩;rw[mem',mem];constructor
    ·rintro(⟨y,hy,h⟩|h)
     ·exact⟨y,mem_append_left _ hy,h⟩
     ·exact⟨p,by simp,h⟩
    ·rintro⟨y,hy,h⟩;rcases mem_append.mp hy with hy|hy
     ·exact .inl ⟨y,hy,h⟩
     ·rw[mem_singleton] at hy;subst hy;exact .inr h
  ·rename_i q;have q':p∈S:=by simpa using q
   have hl:¬dN b vl p=true:=key.mp q';refine⟨S,_,_,_,rfl,?_,nd,lt,fun x=>?_⟩
   ·rw[filter_append,filter_cons_of_neg hl,filter_nil,append_nil];exact O
   ·rw[mem];constructor
    ·rintro⟨y,hy,h⟩;exact⟨y,mem_append_left _ hy,h⟩
    ·rintro⟨y,hy,h⟩;rcases mem_append.mp hy with hy|hy
     ·exact⟨y,hy,h⟩
     ·rw[mem_singleton] at hy;subst hy;obtain⟨z,hz,hyz⟩:=(mem y).mp q';have hz':z<b.length:=by rw[hd] at hz;have:=mem_range.mp hz;omega
      exact⟨z,hz,by rw[<- kG hb sym hz' hyz];exact h⟩
 ·rintro sl c ⟨S,x4,x5,x6,rfl,O,nd,lt,mem⟩;trivial;subst h2;exact O.finO (by simp only[eB];exact oO _ _)
theorem AG(fu:Nat)(hfu:200<=fu)(hm:Mk b mk vl)(hb:Bd b)(sym:Sym b)(h36:b.length<=36):cX (d_fa fu) [wB b,mk] ce=some (.ok (.lst ((g6 b vl).map wL)) ce) :=
 jv (GS fu hfu hm hb sym h36) (oO _ _)
end
def ie(b:List (List Nat))(row:List Nat):List Nat:=(List.range b.length).filter fun y=>row.any fun p=>decide (y∈b.getD p [])
section
variable {b0:Ce}
theorem HU(fu:Nat)(hb:Bd b)(h36:b.length<=36)(hw:bT ce w1 (row.map nW))(hr:∀p∈row,p<b.length) :
  d_d fu [wB b,w1] ce=some (.ok (.cel ce.length) (ce++[.lst ((ie b row).map nW)])):=by
 unfold d_d;have hz:=fw;refine lU ?_;simp only[map_cons,map_nil,cons_append,nil_append,length_cons,length_nil,List.replicate,Nat.reduceAdd,Nat.reduceSub];trivial;have O0:=(Own.start ce).alloc (C.dct []);obtain⟨s,hs,hsi,_⟩:=hw.src;have hst:∀{c1:Ce} {l:List (Nat×C)},Own ce c1 l->s.Stays c1:=by
  intro c1 l h;obtain⟨t,rfl⟩:=h.cut;cases hw with
  | fr=>simp only[fZ] at hs;cases hs;exact True.intro
  | cl g =>
   simp only[fZ,g] at hs;cases hs;show(ce++t)[_]?=_;rw[getElem?_append_left (List.getElem?_eq_some_iff.mp g).1];exact g
 have hs':∀{c1:Ce} {l:List (Nat×C)},Own ce c1 l->fZ c1 w1=some s:=by
  intro c1 l h;obtain⟨t,rfl⟩:=h.cut;cases hw with
  | fr=>exact hs
  | cl g =>
   simp only[fZ,g] at hs ⊢;rw[getElem?_append_left (List.getElem?_eq_some_iff.mp g).1,g];exact hs
 refine rD (xs:=row) (en:=nW) (src:=s) (ce0:=ce++[C.dct []]) (by trivial;exact hs' O0) hsi
  (fun d sl c=>∃F x3 x4,sl=[some (wB b),some w1,some (.cel ce.length),x3,x4]/\Own ce c [(ce.length,C.dct (kvs F))]/\F.Nodup/\(∀x∈F,x<b.length)/\∀x,x∈F↔∃p∈d,x∈b.getD p [])
  ⟨[],none,none,rfl,O0,by simp,by simp,by simp⟩ ?_ (fun sl c h=>by obtain⟨_,_,_,_,O,_⟩:=h;exact hst O) ?_
 ·rintro d p r sl c e hp ⟨F,x3,x4,rfl,O,nd,lt,mem⟩;refine⟨hst O,?_⟩;have hp':=hr p hp;unfold zh;refine o9 (zs:=b.getD p []) (en:=nW) (qE (by trivial))
   (fun d' sl c=>∃F x4,sl=[some (wB b),some w1,some (.cel ce.length),some (nW p),x4]/\Own ce c [(ce.length,C.dct (kvs F))]/\F.Nodup/\(∀x∈F,x<b.length)/\∀x,x∈F↔(∃p∈d,x∈b.getD p [])\/x∈d')
   ⟨F,x4,rfl,O,nd,lt,by simpa using mem⟩ ?_ ?_
  ·rintro d' y r' sl c e' hy ⟨F,x4,rfl,O,nd,lt,mem⟩;unfold zi;have g:=qG O.g0;have hl:(kvs F).length<sizeLine:=by rw[sX];have:=gI nd lt;omega
   trivial;refine⟨ins F y,some (nW y),rfl,?_,vk nd,fun x hx=>?_,fun x=>?_⟩
   ·rw[v7];exact O.set0 _
   ·rcases dR.mp hx with hx|rfl
    ·exact lt x hx
    ·exact hb.get hy
   ·rw[dR,mem,mem_append,mem_singleton,or_assoc]
  ·rintro sl c ⟨F,x4,rfl,O,nd,lt,mem⟩;refine⟨F,some (nW p),x4,rfl,O,nd,lt,fun x=>?_⟩;rw[mem];constructor
   ·rintro(⟨q,hq,h⟩|h)
    ·exact⟨q,mem_append_left _ hq,h⟩
    ·exact⟨p,by simp,h⟩
   ·rintro⟨q,hq,h⟩;rcases mem_append.mp hq with hq|hq
    ·exact .inl ⟨q,hq,h⟩
    ·rw[mem_singleton] at hq;subst hq;exact .inr h
 ·rintro sl c ⟨F,x3,x4,rfl,O,nd,lt,mem⟩;have hl:=gI nd lt;have es:cD F=ie b row:=by rw[r_ nd lt];unfold ie;apply filter_congr;intro x _;rw[Bool.eq_iff_iff];simp[mem]
  trivial
  ·rw[xR O.g0 (by omega),ma (by rw[es,length_map];unfold ie;have:=length_filter_le (fun y=>row.any fun p=>decide (y∈b.getD p [])) (List.range b.length);rw[length_range] at this;omega)]
  ·rw[es];exact((O.alloc _).finO (by simp only[eB];exact aL _ _))
end
def dJ(b:List (List Nat))(is:List Int)(row:List Nat):List Nat:=(ie b row).filter fun p=>decide (is.getD p 0=0)
section
variable {is:List Int}
theorem Gh{y:Nat}(h:y∈ie b row):y<b.length:=mem_range.mp (mem_filter.mp h).1
theorem Hc:(ie b row).length<=b.length:=by have:=length_filter_le (fun y=>row.any fun p=>decide (y∈b.getD p [])) (List.range b.length);rw[length_range] at this;exact this
theorem AF(fu:Nat)(hb:Bd b)(h36:b.length<=36)(hw:bT ce w1 (row.map nW))(hr:∀p∈row,p<b.length):cX (d_d fu) [wB b,w1] ce=some (.ok (wL (ie b row)) ce) :=
 jv (HU fu hb h36 hw hr) (aL _ _)
theorem yC(fu:Nat)(hb:Bd b)(h36:b.length<=36)(hl:is.length=b.length)(hw:bT ce w1 (row.map nW))(hr:∀p∈row,p<b.length) :
  d_da fu [wB b,wS is,w1] ce=some (.ok (.cel ce.length) (ce++[.lst ((dJ b is row).map nW)])):=by
 unfold d_da;have hz:=fw;have e1:=AF fu hb h36 hw hr;have h2:=Hc (b:=b) (row:=row);refine dj [some (wB b),some (wS is),some w1] rfl ?_;refine bP (uh (zs:=ie b row) (en:=nW) (t:=fun p=>decide (is.getD p 0=0)) (by trivial) (by omega) (fun p hp=>?_)) ?_
 ·have:=Gh hp;have hp':p<is.length:=by omega
  trivial
 ·exact(((Own.start ce).alloc _).finO (by simp only[eB];exact aL _ _))
end
open Classical in
def vT(T:List Nat):Nat->Int:=fun x=>if x∈T then 0 else 1
theorem uu{x:Nat}(h:x∈T):vT T x=0:=if_pos h
theorem mR{s y:Nat}(hs:s∈T):dQ (vT T) s y↔y∈T:=by
 unfold dQ;rw[uu hs];constructor
 ·intro h
  by_cases hy:y∈T
  ·exact hy
  ·unfold vT at h;rw[if_neg hy] at h;omega
 ·exact uu
def e8(is H:List Int):List Nat:=(List.range is.length).filter fun p=>decide (is.getD p 0∈H)
def i5(b:List (List Nat))(T:List Nat):List (List Nat):=(T.filter (dN b (vT T))).map (aR b (vT T))
theorem o4(is:List Int)(p q:Nat)(v:Int):(is.set p v).getD q 0=if p=q/\p<is.length then v else is.getD q 0:=by
 simp only[getD_eq_getElem?_getD,getElem?_set]
 by_cases h:p=q
 ·subst h
  by_cases h2:p<is.length
  ·simp[h2]
  ·simp[h2]
 ·simp[h]
abbrev vS(is:List Int):Nat->Int:=fun x=>is.getD x 0
abbrev vH(is:List Int)(h:Int):Nat->Int:=fun x=>if is.getD x 0=h then 1 else 0
theorem mj{ok ok':Nat->Prop}{s:Nat}(h:∀x y,Reach b ok s x->Reach b ok' s x->y∈b.getD x []->ok y->ok' y){x:Nat}(r:Reach b ok s x):Reach b ok' s x:=by
 induction r with
 | refl=>exact .refl
 | step r hy o ih=>exact ih.step hy (h _ _ r ih hy o)
open Classical in
theorem wo{vl':Nat->Int}{s:Nat}(e:∀y,Reach b (dQ vl s) s y↔Reach b (dQ vl' s) s y):aR b vl s=aR b vl' s:=by unfold aR;apply filter_congr;intro y _;rw[Bool.eq_iff_iff,decide_eq_true_eq,decide_eq_true_eq];exact e y
theorem ED(hb:Bd b)(sym:Sym b){s t:Nat}(hs:s<b.length)(ht:t<b.length)(h1:q∈aR b vl s)(h2:q∈aR b vl t):aR b vl s=aR b vl t:=by rw[<- kG hb sym hs h1,<- kG hb sym ht h2]
def iB(b:List (List Nat))(is:List Int)(h:Int):Prop:=∀s,s<b.length->is.getD s 0=h->∃x y,Reach b (dQ (vS is) s) s x/\y∈b.getD x []/\is.getD y 0=0
theorem oV{is:List Int}(hb:Bd b){y:Nat}:y∈dJ b is r↔(∃x∈r,y∈b.getD x [])/\is.getD y 0=0:=by
 unfold dJ ie;rw[mem_filter,mem_filter,mem_range,any_eq_true,decide_eq_true_eq];constructor
 ·rintro⟨⟨_,x,hx,q⟩,h0⟩;exact⟨⟨x,hx,of_decide_eq_true q⟩,h0⟩
 ·rintro⟨⟨x,hx,q⟩,h0⟩;exact⟨⟨hb.get q,x,hx,decide_eq_true q⟩,h0⟩
theorem wm{is:List Int}(hb:Bd b):dJ b is r=[]↔∀x∈r,∀y∈b.getD x [],is.getD y 0≠0:=by
 rw[eq_nil_iff_forall_not_mem];constructor
 ·intro h x hx y hy h0;exact h y ((oV hb).mpr ⟨⟨x,hx,hy⟩,h0⟩)
 ·intro h y hy;obtain⟨⟨x,hx,hy⟩,h0⟩:=(oV hb).mp hy;exact h x hx y hy h0
structure kg (b:List (List Nat)) (is:List Int) (h:Int) (d:List (List Nat)) (is':List Int) (D:List (List Nat)):Prop where
 len:is'.length=is.length
 sub:∀r∈D,r∈d
 zp:∀r∈D,∀q∈r,is'.getD q 0=0
 was:∀q,is'.getD q 0=is.getD q 0\/(is'.getD q 0=0/\∃r∈D,q∈r)
 fre:∀r∈d,r∈D\/∃x∈r,∃y∈b.getD x [],is'.getD y 0=0
 no:∀r∈D,∀x∈r,∀y∈b.getD x [],is.getD y 0≠0
theorem bK{is:List Int}{h:Int}:p∈e8 is [h]↔p<is.length/\is.getD p 0=h:=by unfold e8;rw[mem_filter,mem_range,decide_eq_true_eq,mem_singleton]
theorem qL(hb:Bd b)(sym:Sym b)(hT:∀x∈T,x<b.length){s:Nat}(hs:s∈T):aR b (vT T) s∈i5 b T:=by obtain⟨m,h1,h2,h3⟩:=sD (vl:=vT T) hb sym (hT s hs);have hm:m∈T:=(mR hs).mp (cB hb (hT s hs) h1);exact mem_map.mpr ⟨m,mem_filter.mpr ⟨hm,h2⟩,h3⟩
theorem qK{c:List Nat}(h:c∈i5 b T):∃s∈T,c=aR b (vT T) s:=by obtain⟨s,hs,rfl⟩:=mem_map.mp h;exact⟨s,(mem_filter.mp hs).1,rfl⟩
theorem rK{is:List Int}(hb:Bd b)(hl:is.length=b.length){s:Nat}(hs:s<b.length):aR b (vT (e8 is [is.getD s 0])) s=aR b (vS is) s:=by
 have hT:s∈e8 is [is.getD s 0]:=bK.mpr ⟨by omega,rfl⟩;refine wo fun y=>⟨fun r=>mj (fun x y _ _ _ o=>?_) r,fun r=>mj (fun x y _ _ hy o=>?_) r⟩
 ·exact(bK.mp ((mR hT).mp o)).2
 ·exact(mR hT).mpr (bK.mpr ⟨by rw[hl];exact hb.get hy,o⟩)
section
variable {is:List Int} {h:Int} {D:List (List Nat)}
theorem kg.hand{d:List (List Nat)}(S:kg b is h d is' D)(hb:Bd b)(hl:is.length=b.length)(hd:∀r∈d,r∈i5 b (e8 is [h]))(hr:r∈D)(hq:q∈r):is.getD q 0=h/\r=aR b (vS is) q\/¬Sym b:=by
 by_cases sym:Sym b
 ·left;obtain⟨s,hs,rfl⟩:=qK (hd r (S.sub r hr));have hs':=bK.mp hs;have hsb:s<b.length:=by omega
  have e:=hs'.2;subst e;rw[rK hb hl hsb] at hq ⊢;exact⟨cB hb hsb hq,(kG hb sym hsb hq).symm⟩
 ·exact .inr sym
theorem kg.hand'{d:List (List Nat)}(S:kg b is h d is' D)(hb:Bd b)(sym:Sym b)(hl:is.length=b.length)(hd:∀r∈d,r∈i5 b (e8 is [h]))(hr:r∈D)(hq:q∈r):is.getD q 0=h/\r=aR b (vS is) q:=(S.hand hb hl hd hr hq).resolve_right (fun n=>n sym)
theorem kg.snd(S:kg b is h (i5 b (e8 is [h])) is' D)(hb:Bd b)(sym:Sym b)(hl:is.length=b.length)(h0:h≠0):iB b is' h:=by
 intro s hs e;have es:is.getD s 0=h:=by
  rcases S.was s with q|q
  ·rw[<- q];exact e
  ·exact absurd (e.symm.trans q.1) h0
 have hr:aR b (vS is) s∈i5 b (e8 is [h]):=by have:=qL (T:=e8 is [is.getD s 0]) hb sym (fun x hx=>by have:=(bK.mp hx).1;omega) (bK.mpr ⟨by omega,rfl⟩:s∈_);rwa [rK hb hl hs,es] at this
 have nD:aR b (vS is) s∉D:=fun hD=>h0 (by rw[<- e];exact S.zp _ hD s (mq hb hs));rcases S.fre _ hr with q|⟨x,hx,y,hy,hy0⟩
 ·exact absurd q nD
 ·refine⟨x,y,?_,hy,hy0⟩;refine mj (fun u z ru _ hz oz=>?_) ((kQ hb hs).mp hx);have hzr:z∈aR b (vS is) s:=(kQ hb hs).mpr (ru.step hz oz);show is'.getD z 0=is'.getD s 0;rw[e];rcases S.was z with q|⟨_,r,hrD,hzr2⟩
  ·rw[q];exact oz.trans es
  ·obtain⟨_,er⟩:=S.hand' hb sym hl (fun r hr=>hr) hrD hzr2;rw[er,kG hb sym hs hzr] at hrD;exact absurd hrD nD
structure Jr (b:List (List Nat)) (is:List Int) (h:Int) (R C:List (List Nat)):Prop where
 row:∀r∈R,∃s,s<b.length/\is.getD s 0=h/\r=aR b (vS is) s
 cl:∀c∈C,∃s,s<b.length/\is.getD s 0≠h/\c=aR b (vH is h) s
 firm:∀r∈R,∃c1∈C,∃c2∈C,c1≠c2/\(∀p∈c1,is.getD p 0=0->p∈dJ b is r)/\∀p∈c2,is.getD p 0=0->p∈dJ b is r
 wall:∀c∈C,∀x∈c,∀y∈b.getD x [],is.getD y 0=h->∃r∈R,y∈r
structure bo (b:List (List Nat)) (is:List Int) (h o:Int) (p:Nat) (is':List Int) (D:List (List Nat)):Prop where
 hl:is.length=b.length
 hp:p<b.length
 p0:is.getD p 0=0
 sw:kg b (is.set p o) h (i5 b (e8 (is.set p o) [h])) is' D
 br:∃x y,Reach b (dQ (vS is') p) p x/\y∈b.getD x []/\is'.getD y 0=0
structure eO (h o:Int):Prop where
 h0:h≠0
 o0:o≠0
 ho:o≠h
theorem bo.set1(L:bo b is h o p is' D)(q:Nat):(is.set p o).getD q 0=if q=p then o else is.getD q 0:=by
 rw[o4]
 by_cases e:q=p
 ·subst e;rw[if_pos ⟨rfl,by rw[L.hl];exact L.hp⟩,if_pos rfl]
 ·rw[if_neg (fun x=>e x.1.symm),if_neg e]
theorem bo.val(L:bo b is h o p is' D)(hb:Bd b)(sym:Sym b)(H:eO h o)(q:Nat):is'.getD q 0=(if q=p then o else is.getD q 0)\/(is'.getD q 0=0/\is.getD q 0=h/\q≠p/\∃r∈D,q∈r):=by
 rcases L.sw.was q with e|⟨e,r,hr,hq⟩
 ·left;rw[e,L.set1]
 ·obtain⟨e1,_⟩:=L.sw.hand' hb sym (by rw[length_set];exact L.hl) (fun r hr=>hr) hr hq;rw[L.set1] at e1
  by_cases hqp:q=p
  ·rw[if_pos hqp] at e1;exact absurd e1 H.ho
  ·rw[if_neg hqp] at e1;exact .inr ⟨e,e1,hqp,r,hr,hq⟩
theorem bo.isO(L:bo b is h o p is' D)(hb:Bd b)(sym:Sym b)(H:eO h o)(e:is.getD q 0=o):is'.getD q 0=o:=by
 rcases L.val hb sym H q with v|v
 ·rw[v];split
  ·rfl
  ·exact e
 ·exact absurd (e.symm.trans v.2.1) H.ho
theorem bo.isP(L:bo b is h o p is' D)(hb:Bd b)(sym:Sym b)(H:eO h o):is'.getD p 0=o:=by
 rcases L.val hb sym H p with v|v
 ·rw[v,if_pos rfl]
 ·exact absurd rfl v.2.2.1
theorem bo.is0(L:bo b is h o p is' D)(hb:Bd b)(sym:Sym b)(H:eO h o)(e:is.getD q 0=0)(hq:q≠p):is'.getD q 0=0:=by
 rcases L.val hb sym H q with v|v
 ·rw[v,if_neg hq];exact e
 ·exact v.1
theorem bo.snd(L:bo b is h o p is' D)(hb:Bd b)(sym:Sym b)(H:eO h o)(N:iB b is o):iB b is' o:=by
 intro s hs e;have eP:=L.isP hb sym H
 by_cases hsp:Reach b (dQ (vS is') s) s p
 ·obtain⟨x,y,r,hy,h0⟩:=L.br;refine⟨x,y,hsp.trans ?_,hy,h0⟩;have:dQ (vS is') s=dQ (vS is') p:=vi (vl:=vS is') (x:=s) (s:=p) (e.trans eP.symm);rw[this];exact r
 ·have hne:s≠p:=fun q=>hsp (by subst q;exact .refl);have es:is.getD s 0=o:=by
   rcases L.val hb sym H s with v|v
   ·rw[if_neg hne] at v;exact v.symm.trans e
   ·exact absurd (e.symm.trans v.1) H.o0
  obtain⟨x,y,r,hy,h0⟩:=N s hs es;have r':Reach b (dQ (vS is') s) s x:=mj (fun u z _ _ _ oz=>by
   show is'.getD z 0=is'.getD s 0;rw[e];exact L.isO hb sym H (oz.trans es)) r
  refine⟨x,y,r',hy,L.is0 hb sym H h0 fun q=>hsp ?_⟩;subst q;exact r'.step hy (eP.trans e.symm)
end
theorem Hx{t:Nat->Bool}{x:Nat}:x∈(List.range n).filter t↔x<n/\t x=true:=by rw[mem_filter,mem_range]
def lD(b:List (List Nat))(is:List Int)(o:Int)(p:Nat):List (List Nat):=(i5 b (e8 (is.set p o) [3-o])).filter fun r=>decide (dJ b (is.set p o) r=[])
def lT(b:List (List Nat))(is:List Int)(o:Int)(p:Nat):List Nat:=(List.range b.length).filter fun q=>(lD b is o p).any fun r=>decide (q∈r)
def lS(b:List (List Nat))(is:List Int)(o:Int)(p:Nat):List Int:=(List.range is.length).map fun q=>if q=p then o else if q∈lT b is o p then 0 else is.getD q 0
structure c9 (b:List (List Nat)) (is:List Int) (o:Int) (p:Nat):Prop where
 bd:Bd b
 sym:Sym b
 nl:∀i,i∉b.getD i []
 hl:is.length=b.length
 hp:p<b.length
 p0:is.getD p 0=0
 H:eO (3-o) o
 v:∀q,q<b.length->is.getD q 0=0\/is.getD q 0=3-o\/is.getD q 0=o
 nh:iB b is (3-o)
 no:iB b is o
section
variable {is:List Int}
theorem m7:(lS b is o p).length=is.length:=by simp[lS]
theorem c9.s1(A:c9 b is o p)(q:Nat):(is.set p o).getD q 0=if q=p then o else is.getD q 0:=by
 rw[o4]
 by_cases e:q=p
 ·subst e;rw[if_pos ⟨rfl,by rw[A.hl];exact A.hp⟩,if_pos rfl]
 ·rw[if_neg (fun x=>e x.1.symm),if_neg e]
theorem c9.l1(A:c9 b is o p):(is.set p o).length=b.length:=by rw[length_set];exact A.hl
theorem c9.get(A:c9 b is o p)(hq:q<b.length):(lS b is o p).getD q 0=if q=p then o else if q∈lT b is o p then 0 else is.getD q 0:=by unfold lS;rw[getD_eq_getElem?_getD,getElem?_map,getElem?_range (by rw[A.hl];exact hq)];rfl
theorem c9.far(A:c9 b is o p)(hq:¬q<b.length):(lS b is o p).getD q 0=0/\is.getD q 0=0:=by
 have h1:=A.hl;constructor
 ·rw[getD_eq_getElem?_getD,getElem?_eq_none (by rw[m7];omega)];rfl
 ·rw[getD_eq_getElem?_getD,getElem?_eq_none (by omega)];rfl
theorem c9.dead(A:c9 b is o p):r∈lD b is o p↔∃s,s<b.length/\is.getD s 0=3-o/\r=aR b (vS is) s/\∀x∈r,∀y∈b.getD x [],is.getD y 0=0->y=p:=by
 have hT:∀{s},s∈e8 (is.set p o) [3-o]↔s<b.length/\is.getD s 0=3-o:=fun {s}=>by
  rw[bK,A.l1,A.s1];constructor
  ·rintro⟨h1,h2⟩
   by_cases e:s=p
   ·rw[if_pos e] at h2;exact absurd h2 A.H.ho
   ·rw[if_neg e] at h2;exact⟨h1,h2⟩
  ·rintro⟨h1,h2⟩;have e:s≠p:=fun e=>by subst e;exact A.H.h0 (h2.symm.trans A.p0)
   exact⟨h1,by rw[if_neg e];exact h2⟩
 have hc:∀{s},s<b.length->is.getD s 0=3-o->aR b (vT (e8 (is.set p o) [3-o])) s=aR b (vS is) s:=fun {s} hs es=>by
  have hsT:=hT.mpr ⟨hs,es⟩;refine wo fun y=>⟨fun r=>mj (fun u z _ _ hz oz=>?_) r,fun r=>mj (fun u z _ _ hz oz=>?_) r⟩
  ·exact(hT.mp ((mR hsT).mp oz)).2.trans es.symm
  ·exact(mR hsT).mpr (hT.mpr ⟨A.bd.get hz,Eq.trans oz es⟩)
 have hb1:∀{r:List Nat},dJ b (is.set p o) r=[]↔∀x∈r,∀y∈b.getD x [],is.getD y 0=0->y=p:=fun {r}=>by
  rw[wm A.bd];constructor
  ·intro h x hx y hy y0;apply Classical.byContradiction;intro hne;exact h x hx y hy (by rw[A.s1,if_neg hne];exact y0)
  ·intro h x hx y hy;rw[A.s1]
   by_cases e:y=p
   ·rw[if_pos e];exact A.H.o0
   ·rw[if_neg e];exact fun y0=>e (h x hx y hy y0)
 unfold lD;rw[mem_filter,decide_eq_true_eq,hb1];constructor
 ·rintro⟨h1,h2⟩;obtain⟨s,hs,rfl⟩:=qK h1;obtain⟨q1,q2⟩:=hT.mp hs;rw[hc q1 q2] at h2 ⊢;exact⟨s,q1,q2,rfl,h2⟩
 ·rintro⟨s,q1,q2,rfl,h2⟩;refine⟨?_,h2⟩;have:=qL (T:=e8 (is.set p o) [3-o]) A.bd A.sym (fun x hx=>(hT.mp hx).1) (hT.mpr ⟨q1,q2⟩);rwa [hc q1 q2] at this
theorem c9.tk(A:c9 b is o p):q∈lT b is o p↔∃r∈lD b is o p,q∈r:=by
 unfold lT;rw[Hx,any_eq_true];constructor
 ·rintro⟨_,r,hr,hq⟩;exact⟨r,hr,of_decide_eq_true hq⟩
 ·rintro⟨r,hr,hq⟩;obtain⟨s,hs,_,rfl,_⟩:=A.dead.mp hr;exact⟨cu hq,_,hr,decide_eq_true hq⟩
theorem c9.tkh(A:c9 b is o p)(h:q∈lT b is o p):q<b.length/\is.getD q 0=3-o/\q≠p:=by obtain⟨r,hr,hq⟩:=A.tk.mp h;obtain⟨s,hs,es,rfl,_⟩:=A.dead.mp hr;have e:is.getD q 0=3-o:=(cB A.bd hs hq).trans es;exact⟨cu hq,e,fun e'=>by subst e';exact A.H.h0 (e.symm.trans A.p0)⟩
theorem c9.swp(A:c9 b is o p):kg b (is.set p o) (3-o) (i5 b (e8 (is.set p o) [3-o])) (lS b is o p) (lD b is o p):=by
 have low:∀y,(is.set p o).getD y 0=0->(lS b is o p).getD y 0=0:=fun y h0=>by
  by_cases hy:y<b.length
  ·rw[A.s1] at h0;rw[A.get hy]
   by_cases e:y=p
   ·rw[if_pos e] at h0;exact absurd h0 A.H.o0
   ·rw[if_neg e] at h0 ⊢;split
    ·rfl
    ·exact h0
  ·exact(A.far hy).1
 refine⟨by rw[m7,length_set],fun r hr=>(mem_filter.mp hr).1,fun r hr q hq=>?_,fun q=>?_,fun r hr=>?_,fun r hr=>?_⟩
 ·have ht:=A.tk.mpr ⟨r,hr,hq⟩;obtain⟨h1,_,h3⟩:=A.tkh ht;rw[A.get h1,if_neg h3,if_pos ht]
 ·by_cases hq:q<b.length
  ·rw[A.get hq,A.s1]
   by_cases e:q=p
   ·rw[if_pos e,if_pos e];exact .inl rfl
   ·rw[if_neg e,if_neg e]
    by_cases ht:q∈lT b is o p
    ·rw[if_pos ht];exact .inr ⟨rfl,A.tk.mp ht⟩
    ·rw[if_neg ht];exact .inl rfl
  ·left;rw[(A.far hq).1,A.s1,if_neg (fun e=>hq (by rw[e];exact A.hp)),(A.far hq).2]
 ·by_cases e:dJ b (is.set p o) r=[]
  ·exact .inl (mem_filter.mpr ⟨hr,decide_eq_true e⟩)
  ·obtain⟨y,hy⟩:=exists_mem_of_ne_nil _ e;obtain⟨⟨x,hx,hy⟩,h0⟩:=(oV A.bd).mp hy;exact .inr ⟨x,hx,y,hy,low y h0⟩
 ·exact(wm A.bd).mp (of_decide_eq_true (mem_filter.mp hr).2)
def g8(b:List (List Nat))(is:List Int)(o:Int)(p:Nat):Prop:=dJ b (lS b is o p) (aR b (vS (lS b is o p)) p)≠[]
theorem c9.laid(A:c9 b is o p)(h:g8 b is o p):bo b is (3-o) o p (lS b is o p) (lD b is o p):=by refine⟨A.hl,A.hp,A.p0,A.swp,?_⟩;obtain⟨y,hy⟩:=exists_mem_of_ne_nil _ h;obtain⟨⟨x,hx,hy⟩,h0⟩:=(oV A.bd).mp hy;exact⟨x,y,(kQ A.bd A.hp).mp hx,hy,h0⟩
theorem c9.snd(A:c9 b is o p)(h:g8 b is o p):iB b (lS b is o p) o/\iB b (lS b is o p) (3-o) :=
 ⟨(A.laid h).snd A.bd A.sym A.H A.no,A.swp.snd A.bd A.sym A.l1 A.H.h0⟩
theorem c9.vals(A:c9 b is o p):∀q,q<b.length->(lS b is o p).getD q 0=0\/(lS b is o p).getD q 0=3-o\/(lS b is o p).getD q 0=o:=fun q hq=>by
 rw[A.get hq];split
 ·exact .inr (.inr rfl)
 ·split
  ·exact .inl rfl
  ·exact A.v q hq
end
structure bq (b:List (List Nat)) (is:List Int):Prop where
 hl:is.length=b.length
 v:∀q,q<b.length->0<=is.getD q 0/\is.getD q 0<=2
 s1:iB b is 1
 s2:iB b is 2
structure bF (b:List (List Nat)):Prop where
 B:ll b
 nl:∀i,i∉b.getD i []
section
variable {is:List Int}
theorem bq.ly(S:bq b is)(N:bF b)(ho:o=1\/o=2)(hp:p<b.length)(p0:is.getD p 0=0):c9 b is o p:=by
 refine⟨N.B.bd,N.B.sym,N.nl,S.hl,hp,p0,⟨by omega,by omega,by omega⟩,fun q hq=>by have:=S.v q hq;omega,?_,?_⟩
 ·rcases ho with rfl|rfl
  ·exact S.s2
  ·exact S.s1
 ·rcases ho with rfl|rfl
  ·exact S.s1
  ·exact S.s2
theorem c9.std(A:c9 b is o p)(ho:o=1\/o=2)(h:g8 b is o p):bq b (lS b is o p):=by
 obtain⟨n1,n2⟩:=A.snd h;refine⟨by rw[m7];exact A.hl,fun q hq=>by have:=A.vals q hq;omega,?_,?_⟩
 ·rcases ho with rfl|rfl
  ·exact n1
  ·exact n2
 ·rcases ho with rfl|rfl
  ·exact n2
  ·exact n1
theorem xn{l:List Int}(hl:l.length=m.length)(h:∀q,q<l.length->l.getD q 0=m.getD q 0):l=m:=by apply ext_getElem hl;intro i h1 h2;have:=h i h1;rw[getD_eq_getElem?_getD,getD_eq_getElem?_getD,getElem?_eq_getElem h1,getElem?_eq_getElem h2] at this;exact this
end
section
variable {is:List Int}
theorem ja(b:List (List Nat)):bq b (b.map fun _=>0):=by
 have z:∀q,(b.map fun _=>(0:Int)).getD q 0=0:=fun q=>by
  rw[getD_eq_getElem?_getD,getElem?_map];cases b[q]?<;>rfl
 exact⟨by simp,fun q _=>by rw[z];omega,fun s _ e=>by rw[z] at e;omega,fun s _ e=>by rw[z] at e;omega⟩
theorem sq(fu:Nat)(h:Int):d_s fu [.int h] ce=some (.ok (.int (3-h)) ce):=by unfold d_s;refine dj [some (.int h)] rfl ?_;refine bP (w:=.int (3-h)) (ce':=ce) (by trivial) (fg (by simp only[aU]))
theorem Gg(fu:Nat){v:Int}(hw:bT ce w1 (pts.map nW))(hl:is.length<=36)(hp:∀q∈pts,q<is.length):∃is',d_ga fu [wS is,w1,.int v] ce=some (.ok (wS is') ce)/\is'.length=is.length/\(∀q∈pts,is'.getD q 0=v)/\∀q,q∉pts->is'.getD q 0=is.getD q 0:=by
 have hz:=fw
 suffices hs:∃w c',d_ga fu [wS is,w1,.int v] ce=some (.ok w c')/\∃is',w=wS is'/\c'=ce/\is'.length=is.length/\(∀q∈pts,is'.getD q 0=v)/\∀q,q∉pts->is'.getD q 0=is.getD q 0 by
  obtain⟨w,c',e,is',rfl,rfl,h⟩:=hs;exact⟨is',e,h⟩
 obtain⟨s,hs,hsi,_⟩:=hw.src;have hst:∀{c1:Ce} {l:List (Nat×C)},Own ce c1 l->s.Stays c1:=by
  intro c1 l h;obtain⟨t,rfl⟩:=h.cut;cases hw with
  | fr=>simp only[fZ] at hs;cases hs;exact True.intro
  | cl g =>
   simp only[fZ,g] at hs;cases hs;show(ce++t)[_]?=_;rw[getElem?_append_left (List.getElem?_eq_some_iff.mp g).1];exact g
 have hs':∀{c1:Ce} {l:List (Nat×C)},Own ce c1 l->fZ c1 w1=some s:=by
  intro c1 l h;obtain⟨t,rfl⟩:=h.cut;cases hw with
  | fr=>exact hs
  | cl g =>
   simp only[fZ,g] at hs ⊢;rw[getElem?_append_left (List.getElem?_eq_some_iff.mp g).1,g];exact hs
 unfold d_ga;refine mT [some (wS is),some w1,some (.int v),none,none] rfl ?_;refine bu (w:=.cel ce.length) (ce':=ce++[.lst (is.map W.int)]) (dO (ay (by trivial) aB) (by rw[rA (xs:=is.map W.int) rfl,ma (by rw[length_map];omega)])) ?_;refine aY ?_;have O0:=(Own.start ce).alloc (C.lst (is.map W.int));generalize hk:ce.length=k3 at O0 ⊢;generalize ce++[C.lst (is.map W.int)]=c0 at O0 ⊢;refine rD (xs:=pts) (en:=nW) (src:=s) (ce0:=c0) (n6 (ao rfl) (hs' O0)) hsi
  (fun d sl c=>∃is' x4,sl=[some (wS is),some w1,some (.int v),some (.cel k3),x4]/\Own ce c [(k3,C.lst (is'.map W.int))]/\is'.length=is.length/\(∀q∈d,is'.getD q 0=v)/\∀q,q∉d->is'.getD q 0=is.getD q 0)
  ⟨is,_,rfl,O0,rfl,by simp,fun _ _=>rfl⟩ ?_ (fun sl c h=>by obtain⟨_,_,_,O,_⟩:=h;exact hst O) ?_
 ·rintro d u r sl c e hu ⟨is',x4,rfl,O,l',z1,z2⟩;refine⟨hst O,?_⟩;have hul:u<is'.length:=by rw[l'];exact hp u hu
  unfold xU;refine aY ?_;refine Ek (w:=.int v) (k:=k3) (ij:=u) (j:=u) (by trivial) (by trivial) (by trivial) O.g0 (Dg (by rw[length_map];exact hul)) ?_;refine⟨is'.set u v,_,rfl,by rw[map_set];exact O.set0 _,by rw[length_set];exact l',fun q hq=>?_,fun q hq=>?_⟩
  ·rw[o4];split
   ·rfl
   ·rename_i hn;rcases mem_append.mp hq with hq|hq
    ·exact z1 q hq
    ·rw[mem_singleton] at hq;exact absurd ⟨hq.symm,hul⟩ hn
  ·rw[o4,if_neg (fun x=>hq (by rw[<- x.1];simp))];exact z2 q fun x=>hq (mem_append_left _ x)
 ·rintro sl c ⟨is',x4,rfl,O,l',z1,z2⟩;refine bP (w:=wS is') (ce':=c) (dO (ay (by trivial) aB) (uY O.g0 (by omega))) ?_;subst hk;exact⟨_,_,O.finC (by simp only[aU];exact bZ _ _),is',rfl,rfl,l',z1,z2⟩
theorem yh(fu:Nat){v:Int}(hl:is.length<=36)(hp:∀q∈pts,q<is.length):∃is',d_ga fu [wS is,wL pts,.int v] ce=some (.ok (wS is') ce)/\is'.length=is.length/\(∀q∈pts,is'.getD q 0=v)/\∀q,q∉pts->is'.getD q 0=is.getD q 0:=Gg fu (.fr _) hl hp
theorem AE(hb:Bd b):(g6 b vl).Nodup:=by unfold g6;refine List.Pairwise.map _ ?_ (List.Pairwise.and_mem.mp (List.Pairwise.filter _ nodup_range));rintro s t ⟨hs,ht,hne⟩ e;obtain⟨s1,s2⟩:=mem_filter.mp hs;obtain⟨t1,t2⟩:=mem_filter.mp ht;have a:=mn (vl:=vl) hb (mem_range.mp s1) s2;rw[e,mn hb (mem_range.mp t1) t2] at a;exact hne a.symm
theorem rH(hb:Bd b){c:List Nat}(h:c∈g6 b vl):0<c.length/\c.length<=b.length/\∀p∈c,p<b.length:=by obtain⟨s,hs,_,rfl⟩:=(kP hb).mp h;exact⟨length_pos_of_mem (mq hb hs),Di,fun p hp=>cu hp⟩
theorem wk{c:List Nat}(h0:0<c.length)(h:∀p∈c,p<n):c.getD 0 0<n:=by rw[getD_eq_getElem?_getD,getElem?_eq_getElem h0];exact h _ (getElem_mem h0)
theorem vG{c:List Nat}(h0:0<c.length):aJ ce (wL c) (.int 0)=some (nW (c.getD 0 0)):=vm (p:=0) h0
def fJ(b:List (List Nat))(is:List Int):List (List Nat):=(g6 b (vS is)).filter fun c=>!decide (is.getD (c.getD 0 0) 0=0)
theorem wj(fu:Nat)(hfu:200<=fu)(B:ll b)(hl:is.length=b.length):d_ia fu [wB b,wS is] ce=some (.ok (.lst ((fJ b is).map wL)) ce):=by
 have hz:=fw;have h36:=B.h36;have e1:=AG (ce:=ce) fu hfu (ue hl) B.bd B.sym h36;have hzl:(g6 b (vS is)).length<=sizeLine:=by have:=vZ (b:=b) (vl:=vS is);omega
 unfold d_ia;refine dj [some (wB b),some (wS is)] rfl ?_;refine bP (qe (zs:=g6 b (vS is)) (en:=wL) (t:=fun c=>!decide (is.getD (c.getD 0 0) 0=0)) (qy (cE (ws:=[wB b,wS is]) (by trivial) rfl e1) (.fr _)) hzl (fun c hc=>?_)) ?_
 ·obtain⟨p0,_,p2⟩:=rH B.bd hc;have hh:c.getD 0 0<is.length:=by rw[hl];exact wk p0 p2
  have i1:=vG (ce:=ce) p0;have i2:=kH (ce:=ce) hh;trivial
 ·exact fg (by simp only[aU];exact oO _ _)
theorem ur(fu:Nat)(B:ll b)(hl:is.length=b.length)(hr:∀p∈r,p<b.length):cX (d_da fu) [wB b,wS is,wL r] ce=some (.ok (wL (dJ b is r)) ce):=jv (yC fu B.bd B.h36 hl (.fr _) hr) (aL _ _)
theorem wg:fG ce (wL l)=some (!decide (l=[])):=by show some (!(l.map nW).isEmpty)=_;cases l<;>simp
theorem Hw(fu:Nat)(hfu:200<=fu)(B:ll b)(hl:is.length=b.length){h:Int}(h0:h≠0):d_n fu [wB b,wS is,.int h] ce=some (.ok (.cel ce.length) (ce++[.lst (((List.range b.length).filter fun q=>(fJ b is).any fun r=>decide (is.getD (r.getD 0 0) 0=h)&&(decide (dJ b is r=[])&&decide (q∈r))).map nW)])):=by
 have hz:=fw;have h36:=B.h36;have e1:=wj (ce:=ce++[C.lst []]) fu hfu B hl;have rok:∀r∈fJ b is,0<r.length/\r.length<=b.length/\∀p∈r,p<b.length:=fun r hr=>rH B.bd (mem_filter.mp hr).1;have rnd:(fJ b is).Nodup:=List.Pairwise.filter _ (AE B.bd);have rnd1:∀r∈fJ b is,r.Nodup:=fun r hr=>by
  obtain⟨s,hs,_,rfl⟩:=(kP B.bd).mp (mem_filter.mp hr).1;exact BI
 have rmeet:∀r∈fJ b is,∀r'∈fJ b is,∀q,q∈r->q∈r'->r=r':=fun r hr r' hr' q h1 h2=>by
  obtain⟨s,hs,_,rfl⟩:=(kP B.bd).mp (mem_filter.mp hr).1;obtain⟨t,ht,_,rfl⟩:=(kP B.bd).mp (mem_filter.mp hr').1;exact ED B.bd B.sym hs ht h1 h2
 unfold d_n;refine dj [some (wB b),some (wS is),some (.int h),none,none] rfl ?_;refine bu (iT aB (zero_le _)) ?_;refine aY ?_;have O0:=(Own.start ce).alloc (C.lst (([]:List Nat).map nW));refine(?_:Run _ _ (ce++[C.lst []]) _);generalize hk:ce.length=k3 at O0 ⊢;generalize hc0:ce++[C.lst []]=c0 at e1 ⊢;have O0:Own ce c0 [(k3,C.lst (([]:List Nat).map nW))]:=by rw[<- hc0];exact O0
 generalize fJ b is=R at *;refine kX (zs:=R) (en:=wL) (c1:=c0) (jQ (by trivial))
  (fun d sl c=>∃F x4,sl=[some (wB b),some (wS is),some (.int h),some (.cel k3),x4]/\Own ce c [(k3,C.lst (F.map nW))]/\F.Nodup/\(∀x∈F,x<b.length)/\∀x,x∈F↔∃r∈d,is.getD (r.getD 0 0) 0=h/\dJ b is r=[]/\x∈r)
  ⟨[],_,rfl,O0,by simp,by simp,by simp⟩ ?_ ?_
 ·rintro d r rest sl c e hr ⟨F,x4,rfl,O,nd,lt,mem⟩;obtain⟨r0,r1,r2⟩:=rok r hr;have hh:r.getD 0 0<is.length:=by rw[hl];exact wk r0 r2
  have i1:=vG (ce:=c) r0;have i2:=kH (ce:=c) hh;have e2:=ur (ce:=c) fu B hl r2;have t2:=wg (ce:=c) (l:=dJ b is r);have hdr:∀r'∈d,r'≠r:=fun r' hr' e'=>by
   subst e';rw[<- e] at rnd;exact(nodup_append.mp rnd).2.2 r' hr' r' (by simp) rfl
  have hdR:∀r'∈d,r'∈R:=fun r' hr'=>by rw[<- e];exact mem_append_left _ hr'
  unfold y7;refine aY ?_;refine gC (p:=decide (is.getD (r.getD 0 0) 0=h)&&!(!decide (dJ b is r=[]))) (ce':=c) (me (by trivial) (fun _=>gE (oJ (cE (ws:=[wB b,wS is,wL r]) (by trivial) rfl e2) t2))) (fun q=>?_) (fun q=>?_)
  ·simp only[not_not,and_eq_true,decide_eq_true_eq] at q;have nd2:(F++r).Nodup:=by
    rw[nodup_append];refine⟨nd,?_,fun a ha b' hb' e'=>?_⟩
    ·exact rnd1 r hr
    ·subst e';obtain⟨r',hr',_,_,h3⟩:=(mem a).mp ha;exact hdr r' hr' (rmeet r' (hdR r' hr') r hr a h3 hb')
   have lt2:∀x∈F++r,x<b.length:=fun x hx=>by
    rcases mem_append.mp hx with hx|hx
    ·exact lt x hx
    ·exact r2 x hx
   have hl2:=gI nd2 lt2;rw[length_append] at hl2;refine j2 (w:=.non) (ce':=c.set k3 (.lst (F.map nW++r.map nW))) (gS (ws:=[wL r]) (by trivial) (eX O.g0) (by trivial) (Dj O.g0 (ys:=r.map nW) rfl (by rw[length_map,length_map];omega))) ?_;refine⟨F++r,_,rfl,by rw[map_append];exact O.set0 _,nd2,lt2,fun x=>?_⟩;rw[mem_append,mem];constructor
   ·rintro(⟨r',hr',h⟩|hx)
    ·exact⟨r',mem_append_left _ hr',h⟩
    ·exact⟨r,by simp,q.1,q.2,hx⟩
   ·rintro⟨r',hr',h⟩;rcases mem_append.mp hr' with hr'|hr'
    ·exact .inl ⟨r',hr',h⟩
    ·rw[mem_singleton] at hr';subst hr';exact .inr h.2.2
  ·refine kc ?_;refine⟨F,_,rfl,O,nd,lt,fun x=>?_⟩;rw[mem];constructor
   ·rintro⟨r',hr',h⟩;exact⟨r',mem_append_left _ hr',h⟩
   ·rintro⟨r',hr',h⟩;rcases mem_append.mp hr' with hr'|hr'
    ·exact⟨r',hr',h⟩
    ·rw[mem_singleton] at hr';subst hr';rw[decide_eq_true h.1,decide_eq_true h.2.1] at q;cases q
 ·rintro sl c ⟨F,x4,rfl,O,nd,lt,mem⟩;have hl':=gI nd lt;have es:cD F=(List.range b.length).filter fun q=>R.any fun r=>decide (is.getD (r.getD 0 0) 0=h)&&(decide (dJ b is r=[])&&decide (q∈r)):=by rw[r_ nd lt];apply filter_congr;intro x _;rw[Bool.eq_iff_iff,any_eq_true,decide_eq_true_eq,mem];simp only[and_eq_true,decide_eq_true_eq]
  rw[<- es];refine bP (dO (ay (by trivial) aB) ((Eo (mk:=eR) O.g0 (by omega)).trans (ma (by rw[length_map,o8];omega)))) ?_;subst hk;exact(O.alloc _).finO (by simp only[eB];exact aL _ _)
end
section
variable {is:List Int}
theorem EC(fu:Nat)(hfu:200<=fu)(B:ll b)(hl:is.length=b.length)(hp:p<b.length):cX (d_ha fu) [wB b,wS is,nW p] ce=some (.ok (wL (aR b (vS is) p)) ce):=by refine jv ?_ (aL _ _);have e1:=yx (ce:=ce) fu hfu (ue hl) B.bd B.h36 hp;unfold d_ha;refine dj [some (wB b),some (wS is),some (nW p)] rfl ?_;refine bP (cE (ws:=[wB b,wS is,nW p]) (by trivial) rfl e1) ?_;exact((Own.start ce).alloc _).finO (by simp only[eB];exact aL _ _)
theorem c9.rows(A:c9 b is o p):(r∈fJ b (is.set p o)/\(is.set p o).getD (r.getD 0 0) 0=3-o)↔r∈i5 b (e8 (is.set p o) [3-o]):=by
 have hT:∀{s},s∈e8 (is.set p o) [3-o]↔s<b.length/\(is.set p o).getD s 0=3-o:=fun {s}=>by rw[bK,A.l1]
 have hc:∀{s},s<b.length->(is.set p o).getD s 0=3-o->aR b (vT (e8 (is.set p o) [3-o])) s=aR b (vS (is.set p o)) s:=fun {s} hs es=>by
  have:=rK (is:=is.set p o) A.bd A.l1 hs;rwa [es] at this
 unfold fJ;rw[mem_filter,kP A.bd];constructor
 ·rintro⟨⟨⟨s,hs,hm,rfl⟩,_⟩,q⟩;rw[mn A.bd hs hm] at q;have:=qL (T:=e8 (is.set p o) [3-o]) A.bd A.sym (fun x hx=>(hT.mp hx).1) (hT.mpr ⟨hs,q⟩);rwa [hc hs q] at this
 ·intro h;obtain⟨s,hs,rfl⟩:=qK h;obtain⟨q1,q2⟩:=hT.mp hs;rw[hc q1 q2];obtain⟨m,h1,h2,h3⟩:=sD (vl:=vS (is.set p o)) A.bd A.sym q1;have hm:=cu h1;have em:(is.set p o).getD m 0=3-o:=(cB A.bd q1 h1).trans q2;rw[<- h3,mn A.bd hm h2,em];have h0:=A.H.h0;exact⟨⟨⟨m,hm,h2,rfl⟩,by simp[h0]⟩,rfl⟩
theorem c9.blist(A:c9 b is o p):((List.range b.length).filter fun q=>(fJ b (is.set p o)).any fun r=>decide ((is.set p o).getD (r.getD 0 0) 0=3-o)&&(decide (dJ b (is.set p o) r=[])&&decide (q∈r)))=lT b is o p:=by
 unfold lT;apply filter_congr;intro q _;rw[Bool.eq_iff_iff,any_eq_true,any_eq_true];simp only[and_eq_true,decide_eq_true_eq];constructor
 ·rintro⟨r,h1,h2,h3,h4⟩;exact⟨r,mem_filter.mpr ⟨A.rows.mp ⟨h1,h2⟩,decide_eq_true h3⟩,h4⟩
 ·rintro⟨r,h1,h4⟩;obtain⟨h1,h3⟩:=mem_filter.mp h1;obtain⟨h1,h2⟩:=A.rows.mpr h1;exact⟨r,h1,h2,of_decide_eq_true h3,h4⟩
theorem qq(h:sl[i]?=some (some (nW p)))(hp:p<1000):[i].all (k8 sl)=true:=by simp only[all_cons,all_nil,Bool.and_true,k8,h,nW];exact decide_eq_true (by simpa using hp)
theorem xm(fu:Nat)(hfu:200<=fu)(N:bF b)(S:bq b is)(ho:o=1\/o=2)(hp:p<b.length)(p0:is.getD p 0=0)(h:Run (aq (bh (eE (g_ (aV 3 (cX (d_da fu)) (ah (ae 0) (ah (ae 6) (ah (aV 3 (cX (d_ha fu)) (ah (ae 0) (ah (ae 6) (ah (ae 3) ai)))) ai)))))) (eW "NoBreath" [3]) bz) (aT (eK (ah (ae 6) (ah (ae 5) ai)))))
   [some (wB b),some (wS is),some (.int o),some (nW p),some (wS (is.set p o)),some (wL (lT b is o p)),some (wS (lS b is o p))] ce Q) :
  Run (aq (bh (dB (aI (bD true) (aI aJ (ae 1) (ae 3)) (dC (.int 0)))) (eW "NoLay" [3]) bz)
   (aq (aQ 4 (aV 3 (d_ga fu) (ah (ae 1) (ah (eS (ah (ae 3) ai)) (ah (ae 2) ai)))))
   (aq (aQ 5 (aV 3 (cX (d_n fu)) (ah (ae 0) (ah (ae 4) (ah (aV 1 (d_s fu) (ah (ae 2) ai)) ai)))))
   (aq (aQ 6 (aV 3 (d_ga fu) (ah (ae 4) (ah (ae 5) (ah (dC (.int 0)) ai)))))
   (aq (bh (eE (g_ (aV 3 (cX (d_da fu)) (ah (ae 0) (ah (ae 6) (ah (aV 3 (cX (d_ha fu)) (ah (ae 0) (ah (ae 6) (ah (ae 3) ai)))) ai)))))) (eW "NoBreath" [3]) bz)
   (aT (eK (ah (ae 6) (ah (ae 5) ai)))))))))
   [some (wB b),some (wS is),some (.int o),some (nW p),none,none,none] ce Q:=by
 have hz:=fw;have A:=S.ly N ho hp p0;have B:=N.B;have h36:=B.h36;have hl:=S.hl;have jp:=kH (ce:=ce) (is:=is) (p:=p) (by omega);refine bU (p:=!decide (is.getD p 0=0)) (ce':=ce) (by trivial) (fun q=>by rw[decide_eq_true p0] at q;cases q) (fun _=>?_);refine cy ?_;obtain⟨is1,e1,l1,a1,b1⟩:=yh (ce:=ce) (is:=is) fu (pts:=[p]) (v:=o) (by omega) (fun q hq=>by rw[mem_singleton] at hq;subst hq;omega);have ei1:is1=is.set p o:=xn (by rw[l1,length_set]) fun q _=>by
  rw[A.s1]
  by_cases e:q=p
  ·rw[if_pos e,e];exact a1 p (by simp)
  ·rw[if_neg e];exact b1 q (by simpa using e)
 subst ei1;have z1:1<=sizeLine:=by decide
 refine bu (w:=wS (is.set p o)) (ce':=ce) (cE (ws:=[wS is,wL [p],.int o]) (ay (by trivial) (ay (gB (ws:=[nW p]) (by trivial) z1) (by trivial))) rfl e1) ?_;refine aY ?_;have e2:=Hw (ce:=ce) (is:=is.set p o) fu hfu B A.l1 (h:=3-o) A.H.h0;rw[A.blist] at e2;have e2f:=jv e2 (aL _ _);have e3:=sq (ce:=ce) fu o;refine bu (w:=wL (lT b is o p)) (ce':=ce) (cE (ws:=[wB b,wS (is.set p o),.int (3-o)]) (by trivial) rfl e2f) ?_;refine aY ?_;obtain⟨is2,e4,l2,a2,b2⟩:=yh (ce:=ce) (is:=is.set p o) fu (pts:=lT b is o p) (v:=0) (by rw[A.l1];omega) (fun q hq=>by rw[A.l1];exact(A.tkh hq).1);have ei2:is2=lS b is o p:=xn (by rw[l2,length_set,m7]) fun q hq=>by
  rw[l2,A.l1] at hq;rw[A.get hq]
  by_cases e:q=p
  ·rw[if_pos e,b2 q (fun h=>(A.tkh h).2.2 e),A.s1,if_pos e]
  ·rw[if_neg e]
   by_cases ht:q∈lT b is o p
   ·rw[if_pos ht];exact a2 q ht
   ·rw[if_neg ht,b2 q ht,A.s1,if_neg e]
 subst ei2;refine bu (w:=wS (lS b is o p)) (ce':=ce) (cE (ws:=[wS (is.set p o),wL (lT b is o p),.int 0]) (by trivial) rfl e4) ?_;refine aY ?_;exact h
theorem we(fu:Nat)(hfu:200<=fu)(N:bF b)(S:bq b is)(hp:p<b.length){x1 x2 x4 x5:Option W} :
  eE (g_ (aV 3 (cX (d_da fu)) (ah (ae 0) (ah (ae 6) (ah (aV 3 (cX (d_ha fu)) (ah (ae 0) (ah (ae 6) (ah (ae 3) ai)))) ai))))) [some (wB b),x1,x2,some (nW p),x4,x5,some (wS (lS b is o p))] ce=some (.ok (!(!decide (dJ b (lS b is o p) (aR b (vS (lS b is o p)) p)=[]))) ce):=by
 have hl:(lS b is o p).length=b.length:=by rw[m7];exact S.hl
 have e1:=EC (ce:=ce) fu hfu N.B hl hp;have e2:=ur (ce:=ce) (is:=lS b is o p) fu N.B hl (r:=aR b (vS (lS b is o p)) p) (fun x hx=>cu hx);exact gE (oJ (cE (ws:=[wB b,wS (lS b is o p),wL (aR b (vS (lS b is o p)) p)]) (ay (by trivial) (ay (by trivial) (ay (cE (ws:=[wB b,wS (lS b is o p),nW p]) (by trivial) rfl e1) aB))) rfl e2) wg)
theorem wc(fu:Nat)(S:bq b is)(h36:b.length<=36)(hp:p<b.length)(p0:¬is.getD p 0=0):d_ja fu [wB b,wS is,.int o,nW p] ce=some (.ex ⟨"NoLay",none⟩ ce):=by have hl:=S.hl;have jp:=kH (ce:=ce) (is:=is) (p:=p) (by omega);unfold d_ja;refine nv [some (wB b),some (wS is),some (.int o),some (nW p),none,none,none] rfl ?_;refine bU (p:=!decide (is.getD p 0=0)) (ce':=ce) (by trivial) (fun _=>pA (qq (p:=p) rfl (by omega)) ⟨rfl,[],by simp⟩) (fun q=>by rw[decide_eq_false p0] at q;cases q)
theorem wb(fu:Nat)(hfu:200<=fu)(N:bF b)(S:bq b is)(ho:o=1\/o=2)(hp:p<b.length)(p0:is.getD p 0=0)(nf:¬g8 b is o p):d_ja fu [wB b,wS is,.int o,nW p] ce=some (.ex ⟨"NoBreath",none⟩ ce):=by have h36:=N.B.h36;have nf':dJ b (lS b is o p) (aR b (vS (lS b is o p)) p)=[]:=Classical.byContradiction nf;have eb:=we (ce:=ce) (o:=o) fu hfu N S hp (x1:=some (wS is)) (x2:=some (.int o)) (x4:=some (wS (is.set p o))) (x5:=some (wL (lT b is o p)));rw[decide_eq_true nf'] at eb;unfold d_ja;refine nv [some (wB b),some (wS is),some (.int o),some (nW p),none,none,none] rfl ?_;refine xm fu hfu N S ho hp p0 ?_;exact bU (p:=!(!true)) (ce':=ce) eb (fun _=>pA (qq (p:=p) rfl (by omega)) ⟨rfl,[],by simp⟩) (fun q=>by cases q)
end
section
variable {is:List Int}
theorem rG(fu:Nat)(hfu:200<=fu)(N:bF b)(S:bq b is)(ho:o=1\/o=2)(hp:p<b.length)(p0:is.getD p 0=0)(fr:g8 b is o p):d_ja fu [wB b,wS is,.int o,nW p] ce=some (.ok (.tup [wS (lS b is o p),wL (lT b is o p)]) ce):=by
 have z2:2<=sizeLine:=by decide
 have eb:=we (ce:=ce) (o:=o) fu hfu N S hp (x1:=some (wS is)) (x2:=some (.int o)) (x4:=some (wS (is.set p o))) (x5:=some (wL (lT b is o p)));rw[decide_eq_false fr] at eb;unfold d_ja;refine dj [some (wB b),some (wS is),some (.int o),some (nW p),none,none,none] rfl ?_;refine xm fu hfu N S ho hp p0 ?_;refine bU (p:=!(!false)) (ce':=ce) eb (fun q=>by cases q) (fun _=>?_);refine cy ?_;refine bP (jY (ws:=[wS (lS b is o p),wL (lT b is o p)]) (by trivial) z2) ?_;exact fg (by simp only[aU,cp];exact⟨bZ _ _,aL _ _,trivial⟩)
end
theorem wI(L:LsOk n ls)(i:Nat):i∉(fE n ls).getD i []:=by
 rw[o5];split
 ·intro h;rcases(oX L).mp ((pb _ _).mp h) with h|h<;>(have:=(L.lt _ h).1;simp only at this;omega)
 ·simp
inductive Pl:W->Prop
 | non:Pl .non
 | bl (b:Bool):Pl (.bl b)
 | int (i:Int):Pl (.int i)
 | str (x:PySem.Str):Pl (.str x)
 | lst (xs:List W):Pl (.lst xs)
 | tup (xs:List W):Pl (.tup xs)
def k6:W->Bool
 | .int i=>decide (0<=i)&&decide (i<=2)
 | _=>false
def pR:W->Bool
 | .int _=>true
 | _=>false
section
variable {a b c:Sl->M W}
theorem EB{i j k:Int}(ha:a sl ce=some (.ok (.int i) ce))(hb:b sl ce=some (.ok (.int j) ce))(hc:c sl ce=some (.ok (.int k) ce)):m4 (fun _=>jH) (fun _=>jH) a b c sl ce=some (.ok (.bl (decide (i<=j)&&decide (j<=k))) ce):=by
 have h1:jH (.int i) (.int j)=some (.bl (decide (i<=j))):=rfl;have h2:jH (.int j) (.int k)=some (.bl (decide (j<=k))):=rfl;simp only[m4,au,ha,hb,look,h1,map_some];cases decide (i<=j) with
 | true=>simp only[au,look,hc,h2,map_some,Bool.true_and]
 | false=>simp only[VS.ret,Bool.false_and]
theorem EA(fu:Nat){w:W}(h:Pl w):d_ca fu [w] ce=some (.ok (.bl (pR w)) ce):=by
 unfold d_ca;refine dj [some w] rfl ?_;refine bP (w:=.bl (pR w)) (ce':=ce) ?_ (fg (by simp only[aU]));cases h<;>first|rfl|(rename_i b;cases b<;>rfl)
theorem wH:b_ [.tup xs] ce=some (.ok (nW xs.length) ce):=by simp[b_];rfl
theorem Ez(fu:Nat){bs:List W}(hx:∀w∈xs,Pl w)(hl:xs.length<=100):d_aa fu [.tup bs,.tup xs] ce=some (.ok (.bl (decide (xs.length=bs.length)&&xs.all k6)) ce):=by
 have z:(100:Nat)<sizeLine:=by decide
 have i0:lp [.tup xs,.ty "tuple"] ce=some (.ok (.bl true) ce):=rfl;have l1:=wH (ce:=ce) (xs:=xs);have l2:=wH (ce:=ce) (xs:=bs);have en:bD true ce (nW xs.length) (nW bs.length)=some (.bl (!decide (xs.length=bs.length))):=by have:=ug (ce:=ce) (i:=(xs.length:Int)) (j:=(bs.length:Int));rw[show decide ((xs.length:Int)=(bs.length:Int))=decide (xs.length=bs.length) by rw[Bool.eq_iff_iff,decide_eq_true_eq,decide_eq_true_eq];omega] at this;exact this
 unfold d_aa;refine dj [some (.tup bs),some (.tup xs)] rfl ?_;refine bU (p:=!true||!decide (xs.length=bs.length)) (ce':=ce) (by trivial) (fun q=>?_) (fun q=>?_)
 ·have q':¬xs.length=bs.length:=by simpa using q
  refine ju ?_;trivial;rw[decide_eq_false q'];exact jt (fg (by simp only[aU]))
 ·have q':xs.length=bs.length:=by simpa using q
  refine cy ?_;refine bP (dO (ay (uV (zs:=xs) (en:=id) (f:=k6) (by rw[map_id];exact(n5 (by trivial)).is) (by omega) (fun w hw=>?_)) aB) qB) ?_
  ·have ew:=EA (ce:=ce) fu (hx w hw);have hc:aV 1 (d_ca fu) (ah (ae 0) ai) (some (id w)::cY [] [some (.tup bs),some (.tup xs)]) ce=some (.ok (.bl (pR w)) ce):=cE (ws:=[w]) (by trivial) rfl ew;cases hx w hw with
   | int i =>
    exact iJ (oA hc (EB aN (ao rfl) aN))
   | _=>simp only[dw,noX,iG,au,hc,pR,VS.ret,k6]
  ·rw[decide_eq_true q',Bool.true_and];refine jt ?_;have e:(xs.map k6).all id=xs.all k6:=by rw[all_map];rfl
   rw[e];exact fg (by simp only[aU])
end
def uz(b:List (List Nat))(is:List Int):Prop:=∀p,p<b.length->is.getD p 0≠0->∃q∈aR b (vS is) p,∃y∈b.getD q [],is.getD y 0=0
section
variable {is:List Int}
open Classical in
theorem Hb(fu:Nat)(hfu:200<=fu)(B:ll b)(hl:is.length=b.length):d_ba fu [wB b,wS is] ce=some (.ok (.bl (decide (uz b is))) ce):=by
 have hz:=fw;have hb:=B.bd;have sym:=B.sym;have h36:=B.h36;have e1:=wj (ce:=ce) fu hfu B hl;have hrl:(fJ b is).length<=b.length:=le_trans (length_filter_le _ _) vZ;unfold d_ba;refine dj [some (wB b),some (wS is)] rfl ?_;refine bP (dO (ay (uV (zs:=fJ b is) (en:=wL) (f:=fun c=>decide ((0:Int)<((dJ b is c).length:Int))) (by trivial) (by omega) (fun c hc=>?_)) aB) qB) ?_
 ·have hc':=(mem_filter.mp hc).1;obtain⟨h0,_,h2⟩:=rH hb hc';have e2:=jv (yC (ce:=ce) fu hb h36 hl (bT.fr _) h2) (aL _ _);trivial
 ·refine(?_:finC ce ce (W.bl _)=_);rw[fg (by simp only[aU])];have:((fJ b is).map fun c=>decide ((0:Int)<((dJ b is c).length:Int))).all id=decide (uz b is):=by
   rw[Bool.eq_iff_iff,decide_eq_true_eq,all_eq_true];simp only[mem_map,forall_exists_index,and_imp,forall_apply_eq_imp_iff₂,id,decide_eq_true_eq];have br:∀c:List Nat,(0:Int)<((dJ b is c).length:Int)↔∃q∈c,∃y∈b.getD q [],is.getD y 0=0:=by
    intro c;have:(0:Int)<((dJ b is c).length:Int)↔0<(dJ b is c).length:=by omega
    rw[this,length_pos_iff_exists_mem];unfold dJ ie;simp only[mem_filter,mem_range,any_eq_true,decide_eq_true_eq];constructor
    ·rintro⟨y,⟨_,q,hq,hy⟩,h⟩;exact⟨q,hq,y,hy,h⟩
    ·rintro⟨q,hq,y,hy,h⟩;exact⟨y,⟨hb.get hy,q,hq,hy⟩,h⟩
   simp only[br];constructor
   ·intro h p hp hv;obtain⟨m,h1,h2,h3⟩:=sD (vl:=vS is) hb sym hp;have hm:=cu h1;have hmem:aR b (vS is) m∈fJ b is:=by refine mem_filter.mpr ⟨(kP hb).mpr ⟨m,hm,h2,rfl⟩,?_⟩;rw[mn hb hm h2];have:=cB hb hp h1;simp only[vS] at this;simp[-getD_eq_getElem?_getD,this,hv]
    have:=h _ hmem;rwa [h3] at this
   ·intro h c hc;obtain⟨hc1,hc2⟩:=mem_filter.mp hc;obtain⟨m,hm,h2,rfl⟩:=(kP hb).mp hc1;rw[mn hb hm h2] at hc2;exact h m hm (by simpa[-getD_eq_getElem?_getD] using hc2)
  rw[this]
end
theorem BZ(l:List Int):∀x∈l.map W.int,Pl x:=fun x hx=>by
 obtain⟨i,_,rfl⟩:=mem_map.mp hx;exact .int i
section
variable {is:List Int}
theorem A_(fu:Nat){is:List Int}(hl:is.length=b.length)(h36:b.length<=36)(v:∀q,q<b.length->0<=is.getD q 0/\is.getD q 0<=2)(c:Ce):d_aa fu [wB b,wS is] c=some (.ok (.bl true) c):=by
 have e:=Ez (ce:=c) fu (bs:=b.map wT) (xs:=is.map W.int) (BZ is) (by rw[length_map];omega);have ha:(is.map W.int).all k6=true:=by rw[all_eq_true];intro w hw;obtain⟨i,hi,rfl⟩:=mem_map.mp hw;obtain⟨j,hj,e⟩:=getElem_of_mem hi;have:=v j (by omega);rw[getD_eq_getElem?_getD,getElem?_eq_getElem hj,e] at this;simp only[getD_some] at this;simp[k6,this]
 rw[length_map,length_map,ha,decide_eq_true hl] at e;exact e
open Classical in
theorem BY(fu:Nat)(hfu:200<=fu)(N:bF b)(S:bq b is)(c:Ce):d_ba fu [wB b,wS is] c=some (.ok (.bl true) c):=by
 rw[Hb fu hfu N.B S.hl,decide_eq_true];intro p hp hv;have v:=S.v p hp;have k:∀h:Int,iB b is h->is.getD p 0=h->∃q∈aR b (vS is) p,∃y∈b.getD q [],is.getD y 0=0:=fun h H e=>by
  obtain⟨x,y,r,hy,e0⟩:=H p hp e;exact⟨x,(kQ N.B.bd hp).mpr r,y,hy,e0⟩
 have:is.getD p 0=1\/is.getD p 0=2:=by omega
 rcases this with h|h
 ·exact k 1 S.s1 h
 ·exact k 2 S.s2 h
end
structure Gm where
 past:List (List Int)
 done:List (Option Nat)
 tk:List Nat
def oW:Option Nat->W
 | none=>.non
 | some p=>nW p
def rl(s:Bool):PySem.Str:=if s then "stones" else "turns"
def mx(b:List (List Nat))(s:Bool)(h:Int)(k:Nat):List (PySem.Str×W):=[("joined",wB b),("barring",.str (rl s)),("first",.int h),("past",.cel (k+1)),("done",.cel (k+2)),("takings",.cel (k+3))]
structure GC (c:Ce) (k:Nat) (b:List (List Nat)) (s:Bool) (h:Int) (g:Gm):Prop where
 i:c[k]?=some (.ins "Game" (mx b s h k))
 p:c[k+1]?=some (.lst (g.past.map wS))
 d:c[k+2]?=some (.lst (g.done.map oW))
 t:c[k+3]?=some (.lst (g.tk.map nW))
def a_(c:Ce)(k:Nat)(g:Gm):Ce:=((c.set (k+1) (.lst (g.past.map wS))).set (k+2) (.lst (g.done.map oW))).set (k+3) (.lst (g.tk.map nW))
theorem fc{o:C}(h:c[k]?=some o):k<c.length:=(List.getElem?_eq_some_iff.mp h).1
variable {g':Gm}
section
variable {l:Ce} {s:Bool} {h:Int} {g:Gm}
theorem kU:(a_ c k g).length=c.length:=by simp[a_]
theorem lY(h1:j≠k+1)(h2:j≠k+2)(h3:j≠k+3):(a_ c k g)[j]?=c[j]?:=by unfold a_;rw[getElem?_set_ne (Ne.symm h3),getElem?_set_ne (Ne.symm h2),getElem?_set_ne (Ne.symm h1)]
theorem GC.put(G:GC c k b s h g)(g':Gm):GC (a_ c k g') k b s h g':=by
 have l1:=fc G.p;have l2:=fc G.d;have l3:=fc G.t;refine⟨(lY (by omega) (by omega) (by omega)).trans G.i,?_,?_,?_⟩
 ·unfold a_;rw[getElem?_set_ne (by omega),getElem?_set_ne (by omega),getElem?_set_self l1]
 ·unfold a_;rw[getElem?_set_ne (by omega),getElem?_set_self (by simp;exact l2)]
 ·unfold a_;rw[getElem?_set_self (by simp;exact l3)]
theorem GC.app(G:GC c k b s h g)(l:Ce):GC (c++l) k b s h g :=
 ⟨by rw[getElem?_append_left (fc G.i)];exact G.i,by rw[getElem?_append_left (fc G.p)];exact G.p,by rw[getElem?_append_left (fc G.d)];exact G.d,by rw[getElem?_append_left (fc G.t)];exact G.t⟩
theorem Ey(G:GC c k b s h g)(l:Ce)(g':Gm):a_ (c++l) k g'=a_ c k g'++l:=by have l1:=fc G.p;have l2:=fc G.d;have l3:=fc G.t;unfold a_;rw[set_append_left _ _ l1,set_append_left _ _ (by simp;exact l2),set_append_left _ _ (by simp;exact l3)]
theorem sm(n:Nat):∀l:List (List Int),cp n (l.map wS)
 | []=>by simp only[map_nil,cp]
 | a::r=>by simp only[map_cons,cp,aU];exact⟨bZ _ _,sm n r⟩
theorem kT(n:Nat):∀l:List (Option Nat),cp n (l.map oW)
 | []=>by simp only[map_nil,cp]
 | none::r=>by simp only[map_cons,cp,oW,aU];exact⟨trivial,kT n r⟩
 | some a::r=>by simp only[map_cons,cp,oW,nW,aU];exact⟨trivial,kT n r⟩
theorem oU{x:C}(h:fB c c')(hx:eB c.length x):fB c (c'.set k x):=by
 refine⟨by rw[length_set];exact h.1,fun j y hj e=>?_⟩
 by_cases hk:k=j
 ·subst hk;have hl:k<c'.length:=by have:=h.1;omega
  rw[getElem?_set_self hl] at e;cases e;exact .inr hx
 ·rw[getElem?_set_ne hk] at e;exact h.2 j y hj e
theorem sk(c:Ce)(k:Nat)(g:Gm):fB c (a_ c k g) :=
 oU (oU (oU (by have:=cA c [];rwa [append_nil] at this) (by simp only[eB];exact sm _ _)) (by simp only[eB];exact kT _ _)) (by simp only[eB];exact aL _ _)
theorem jI(h:fB c c')(l:Ce):fB c (c'++l):=by refine⟨by rw[length_append];have:=h.1;omega,fun j y hj e=>h.2 j y hj ?_⟩;rwa [getElem?_append_left (by have:=h.1;omega)] at e
theorem sj{w:W}(l:Ce)(hb:aU c.length w):finC c (a_ c k g++l) w=some (.ok w (a_ c k g)):=by unfold finC;rw[if_pos ⟨jI (sk c k g) l,hb⟩,take_append_of_le_length (by rw[kU];exact le_refl _),take_of_length_le (by rw[kU];exact le_refl _)]
def cur(g:Gm):List Int:=g.past.getD (g.past.length-1) []
def hnd(h:Int)(m:Nat):Int:=if m % 2=0 then h else 3-h
def passed(g:Gm):Bool:=decide (g.done.drop (g.done.length-2)=[none,none])
def ended(g:Gm):Bool:=passed g||decide (300<=g.done.length)
def fj(g:Gm):W:=if passed g=true then .str "passed" else if 300<=g.done.length then .str "long" else .non
def bar(s:Bool)(h:Int)(n m:Nat):Bool:=s||decide (hnd h m=3-hnd h n)
def eJ(s:Bool)(h:Int)(g:Gm)(is:List Int):Option Nat:=(List.range g.past.length).find? fun m=>decide (g.past.getD m []=is)&&bar s h g.done.length m
def push(g:Gm)(is:List Int)(w:Option Nat)(n:Nat):Gm:=⟨g.past++[is],g.done++[w],g.tk++[n]⟩
structure cQ (b:List (List Nat)) (g:Gm):Prop where
 n1:g.past.length=g.done.length+1
 nt:g.tk.length=g.done.length
 st:∀i,i<g.past.length->bq b (g.past.getD i [])
 lim:g.done.length<=300
theorem lE{h:Int}(h12:h=1\/h=2)(m:Nat):hnd h m=1\/hnd h m=2:=by unfold hnd;split<;>omega
theorem qp{h:Int}(m:Nat):hnd h (m+1)=3-hnd h m:=by
 unfold hnd
 by_cases q:m % 2=0
 ·rw[if_pos q,if_neg (by omega)]
 ·rw[if_neg q,if_pos (by omega)];omega
theorem wG{x:W}(hs:fi ce x=some xs)(h0:0<xs.length):aJ ce x (.int (-1))=xs[xs.length-1]?:=by
 simp only[aJ,hs,L2.atI];have:gn xs.length (-1)=some (xs.length-1):=by
  unfold gn;simp only[show ¬(0:Int)<=-1 by omega,if_false];split
  ·congr 1;omega
  ·omega
 rw[this];rfl
theorem Ex(G:GC c k b s h g){m:Nat}(hm:m<g.past.length):aJ c (.cel (k+1)) (nW m)=some (wS (g.past.getD m [])):=by rw[ji (j5 G.p),getElem?_map,getD_eq_getElem?_getD,getElem?_eq_getElem hm];rfl
theorem FN(G:GC c k b s h g):b_ [.cel (k+1)] c=some (.ok (nW g.past.length) c):=by simp only[b_,j5 G.p,length_map];rfl
theorem yg(G:GC c k b s h g):b_ [.cel (k+2)] c=some (.ok (nW g.done.length) c):=by simp only[b_,j5 G.d,length_map];rfl
theorem mi(fu:Nat)(G:GC c k b s h g)(O:cQ b g):d_p fu [.cel k] c=some (.ok (wS (cur g)) c):=by
 have hn:=O.n1;have e:aJ c (.cel (k+1)) (.int (-1))=some (wS (cur g)):=by rw[wG (j5 G.p) (by rw[length_map];omega),length_map,getElem?_map,cur,getD_eq_getElem?_getD,getElem?_eq_getElem (by omega)];rfl
 unfold d_p;refine dj [some (.cel k)] rfl ?_;exact bP (w:=wS (cur g)) (ce':=c) (bO (eA (ao rfl) G.i rfl) (cM aN rfl) e) (fg (by simp only[aU];exact bZ _ _))
theorem qo{l:List (Option Nat)}(hl:l.length<=2):bD false c (.lst (l.map oW)) (.lst [.non,.non])=some (.bl (decide (l=[none,none]))):=by
 match l,hl with
 | [],_=>rfl
 | [none],_=>rfl
 | [some x],_=>rfl
 | [none,none],_=>rfl
 | [none,some y],_=>rfl
 | [some x,none],_=>rfl
 | [some x,some y],_=>rfl
theorem iQ(fu:Nat)(G:GC c k b s h g)(O:cQ b g):d_r fu [.cel k] c=some (.ok (fj g) c):=by
 have hz:(1000:Nat)<sizeLine:=by decide
 have lim:=O.lim;have s1:dX bc (cC "Game" "done" (ae 0)) (dm (bR fH (dC (.int 2)))) eM [some (.cel k)] c=some (.ok (.lst ((g.done.drop (g.done.length-2)).map oW)) c):=by
  have:=lZ (sl:=[some (.cel k)]) (ce:=c) (a:=cC "Game" "done" (ae 0)) (x:=.cel (k+2)) (xs:=g.done.map oW) (dl:=dm (bR fH (dC (.int 2)))) (lo:=some (-2)) (dh:=eM) (hi:=none) (eA (ao rfl) G.i rfl) (jr (cM aN rfl)) rfl (by simp only[bV,G.d]) (by rw[length_map];omega);rw[this];have e:HT.sIx (g.done.map oW).length 0 (some (-2))=g.done.length-2:=by simp only[HT.sIx,length_map];rw[if_pos (by omega)];omega
  unfold fF;rw[e,show HT.sIx (g.done.map oW).length (g.done.map oW).length none=g.done.length from by simp[HT.sIx],take_of_length_le (by simp),map_drop]
 have e1:=qo (c:=c) (l:=g.done.drop (g.done.length-2)) (by rw[length_drop];omega);unfold d_r;refine dj [some (.cel k)] rfl ?_;refine bU (p:=passed g) (ce':=c) (bt (bO s1 (gB (ws:=[.non,.non]) (by trivial) (by decide)) e1)) (fun q=>?_) (fun q=>cy ?_)
 ·refine ju (bP (w:=.str "passed") (ce':=c) aN ?_);rw[show fj g=.str "passed" from if_pos q];exact fg (by simp only[aU])
 refine bU (p:=decide ((g.done.length:Int)≥300)) (ce':=c) (bt (ck (x:=nW g.done.length) (dO (ws:=[.cel (k+2)]) (ay (eA (ao rfl) G.i rfl) aB) (yg G)) aN rfl)) (fun q2=>?_) (fun q2=>cy ?_)
 ·refine ju (bP (w:=.str "long") (ce':=c) aN ?_);have:300<=g.done.length:=by have:=of_decide_eq_true q2;omega
  rw[show fj g=.str "long" by unfold fj;rw[if_neg (by rw[q];simp),if_pos this]];exact fg (by simp only[aU])
 ·refine bP (w:=.non) (ce':=c) aN ?_;have:¬300<=g.done.length:=by have:=of_decide_eq_false q2;omega
  rw[show fj g=.non by unfold fj;rw[if_neg (by rw[q];simp),if_neg this]];exact fg (by simp only[aU])
theorem jy(g:Gm):c5 (fj g)=!ended g:=by
 unfold fj ended;cases passed g with
 | true=>rfl
 | false =>
  by_cases q:300<=g.done.length
  ·rw[if_neg (by simp),if_pos q,decide_eq_true q];rfl
  ·rw[if_neg (by simp),if_neg q,decide_eq_false q];rfl
theorem yw(fu:Nat)(G:GC c k b s h g)(m:Nat):d_f fu [.cel k,nW m] c=some (.ok (.int (hnd h m)) c):=by
 have e1:bG (nW m) (.int 2)=some (nW (m % 2)):=oK (k:=(m:Int)) (n:=2) (by omega) (by omega);have e2:=oQ c (((m % 2:Nat)):Int) 0 false;have e3:=sq (ce:=c) fu h;unfold d_f;refine dj [some (.cel k),some (nW m)] rfl ?_;refine bP (vn (p:=decide ((((m % 2:Nat)):Int)=0)) (c1:=c) (x:=.int h) (y:=.int (3-h)) (bt (bO (ck (ao rfl) aN e1) aN e2)) (fun _=>eA (ao rfl) G.i rfl) (fun _=>cE (ws:=[.int h]) (ay (eA (ao rfl) G.i rfl) aB) rfl e3)) ?_;have:(if decide ((((m % 2:Nat)):Int)=0)=true then W.int h else .int (3-h))=.int (hnd h m):=by
  unfold hnd
  by_cases q:m % 2=0
  ·rw[if_pos q,if_pos (decide_eq_true (by omega))]
  ·rw[if_neg q,if_neg (by rw[decide_eq_false (by omega)];simp)]
 rw[this];exact fg (by simp only[aU])
theorem jx(fu:Nat)(G:GC c k b s h g):d_x fu [.cel k] c=some (.ok (.int (hnd h g.done.length)) c):=by have e:=yw fu G g.done.length;unfold d_x;refine dj [some (.cel k)] rfl ?_;exact bP (bI (ws:=[nW g.done.length]) (ao rfl) G.i rfl (ay (dO (ws:=[.cel (k+2)]) (ay (eA (ao rfl) G.i rfl) aB) (yg G)) aB) rfl e) (fg (by simp only[aU]))
theorem AA{a:Sl->M W}{p q:Bool}(ha:a sl ce=some (.ok (.bl p) c1))(hb:p=false->d sl c1=some (.ok (.bl q) c1)):nN a d sl ce=some (.ok (.bl (p||q)) c1):=by
 cases p with
 | true=>simp only[nN,au,ha,VS.ret,Bool.true_or]
 | false=>simp only[nN,au,ha,hb rfl,Bool.false_or]
theorem BX(fu:Nat)(G:GC c k b s h g)(m:Nat):d_b fu [.cel k,nW m] c=some (.ok (.bl (bar s h g.done.length m)) c):=by
 have e1:=yw fu G m;have e2:=jx fu G;have e3:=sq (ce:=c) fu (hnd h g.done.length);have e4:=oQ c (hnd h m) (3-hnd h g.done.length) false;have e5:bD false c (.str (rl s)) (.str "stones")=some (.bl s):=by cases s<;>rfl
 unfold d_b;refine dj [some (.cel k),some (nW m)] rfl ?_;exact bP (w:=.bl (bar s h g.done.length m)) (AA (bO (eA (ao rfl) G.i rfl) aN e5) (fun _=>bO (bI (ws:=[nW m]) (ao rfl) G.i rfl (ay (ao rfl) aB) rfl e1) (cE (ws:=[.int (hnd h g.done.length)]) (ay (bI (ws:=[]) (ao rfl) G.i rfl aB rfl e2) aB) rfl e3) e4)) (fg (by simp only[aU]))
theorem wF(fu:Nat)(G:GC c k b s h g)(O:cQ b g)(is:List Int):d_g fu [.cel k,wS is] c=some (.ok (oW (eJ s h g is)) c):=by
 have hz:(1000:Nat)<sizeLine:=by decide
 have lim:=O.lim;have n1:=O.n1;unfold d_g;refine dj [some (.cel k),some (wS is),none] rfl ?_;refine pC (zs:=List.range g.past.length) (en:=nW) (c1:=c) (gW (n:=g.past.length) (ay (dO (ws:=[.cel (k+1)]) (ay (eA (ao rfl) G.i rfl) aB) (FN G)) aB) (by omega))
  (fun d sl c'=>∃x2,sl=[some (.cel k),some (wS is),x2]/\c'=c/\∀m∈d,(decide (g.past.getD m []=is)&&bar s h g.done.length m)=false) (fun w c'=>c'=c/\w=oW (eJ s h g is)) ⟨_,rfl,rfl,by simp⟩ ?_ ?_ ?_
 ·rintro d m r sl c' e hm ⟨x2,rfl,rfl,hd⟩;have hm':=mem_range.mp hm;have i1:=Ex G hm';have q1:=zw (ce:=c') false (g.past.getD m []) is;have q2:=BX fu G m;unfold ze;refine aY ?_;refine gC (p:=decide (g.past.getD m []=is)&&bar s h g.done.length m) (ce':=c') (me (bt (bO (bO (eA (ao rfl) G.i rfl) (ao rfl) i1) (ao rfl) q1)) (fun _=>bt (bI (ws:=[nW m]) (ao rfl) G.i rfl (ay (ao rfl) aB) rfl q2))) (fun q=>?_) (fun q=>?_)
  ·refine bP (w:=nW m) (ce':=c') (ao rfl) ⟨rfl,?_⟩;have:eJ s h g is=some m:=by unfold eJ;rw[find?_eq_some_iff_append];exact⟨q,d,r,e.symm,fun a ha=>by rw[hd a ha];rfl⟩
   rw[this];rfl
  ·refine kc ⟨_,rfl,rfl,fun x hx=>?_⟩;rcases mem_append.mp hx with hx|hx
   ·exact hd x hx
   ·rw[mem_singleton.mp hx];exact q
 ·rintro w sl c' ⟨rfl,rfl⟩;refine jt (fg ?_);cases eJ s h g is<;>simp only[oW,nW,aU]
 ·rintro sl c' ⟨x2,rfl,rfl,hd⟩;refine bP (w:=.non) (ce':=c') aN ?_;have:eJ s h g is=none:=by
   unfold eJ;rw[find?_eq_none];exact fun m hm=>by rw[hd m hm];simp
  rw[this];exact fg (by simp only[aU])
end
section
variable {l:Ce} {s:Bool} {h:Int} {g:Gm}
def bN(b:List (List Nat))(s:Bool)(h:Int)(g:Gm)(w:Option Nat)(g':Gm):Prop:=ended g=false/\match w with
 | none=>g'=push g (cur g) none 0
 | some p=>p<b.length/\(cur g).getD p 0=0/\g8 b (cur g) (hnd h g.done.length) p/\eJ s h g (lS b (cur g) (hnd h g.done.length) p)=none/\g'=push g (lS b (cur g) (hnd h g.done.length) p) (some p) (lT b (cur g) (hnd h g.done.length) p).length
theorem cQ.cur(O:cQ b g):bq b (cur g):=O.st _ (by have:=O.n1;omega)
theorem o3(O:cQ b g)(he:ended g=false){is:List Int}(S:bq b is)(w:Option Nat)(n:Nat):cQ b (push g is w n):=by
 have n1:=O.n1;have nt:=O.nt;have:¬300<=g.done.length:=by unfold ended at he;rw[or_eq_false_iff] at he;exact of_decide_eq_false he.2
 refine⟨by simp[push,n1],by simp[push,nt],fun i hi=>?_,by simp[push];omega⟩;simp only[push,length_append,length_cons,length_nil] at hi
 by_cases q:i<g.past.length
 ·have:=O.st i q;simp only[push,getD_eq_getElem?_getD,getElem?_append_left q] at this ⊢;exact this
 ·have:i=g.past.length:=by omega
  subst this;simp only[push,getD_eq_getElem?_getD,getElem?_append_right (le_refl _),sub_self,getElem?_cons_zero,getD_some];exact S
theorem bN.ok{w}(D:bN b s h g w g')(O:cQ b g)(N:bF b)(h12:h=1\/h=2):cQ b g':=by
 obtain⟨he,D⟩:=D;cases w with
 | none=>subst D;exact o3 O he O.cur _ _
 | some p =>
  obtain⟨hp,p0,fr,_,rfl⟩:=D;exact o3 O he ((O.cur.ly N (lE h12 _) hp p0).std (lE h12 _) fr) _ _
theorem yf(fu:Nat)(G:GC c k b s h g)(O:cQ b g)(w:W)(he:ended g=true):d_u fu [.cel k,w] c=some (.ex ⟨"Over",none⟩ c):=by
 have e1:=iQ fu G O;have hn:cG (fj g)=some (.bl true):=by simp only[cG,jy,he];rfl
 unfold d_u;refine nv [some (.cel k),some w,none,none,none,none] rfl ?_;exact bU (p:=true) (ce':=c) (bt (cM (bI (ws:=[]) (ao rfl) G.i rfl aB rfl e1) hn)) (fun _=>pA rfl ⟨rfl,[],by simp⟩) (fun q=>by cases q)
theorem xk(G:GC c k b s h g)(O:cQ b g){is:List Int}{w:Option Nat}{x4 x5:Option W}{Q:VS.O->Prop}(q:Q (.go .nx [some (.cel k),some (oW w),some (wS is),some (nW n),x4,x5] (a_ c k (push g is w n)))) :
  Run (aq (cz (c6 cS (cC "Game" "past" (ae 0)) (ah (ae 2) ai))) (aq (cz (c6 cS (cC "Game" "done" (ae 0)) (ah (ae 1) ai))) (cz (c6 cS (cC "Game" "takings" (ae 0)) (ah (ae 3) ai)))))
   [some (.cel k),some (oW w),some (wS is),some (nW n),x4,x5] c Q:=by
 have hz:(1000:Nat)<sizeLine:=by decide
 have lim:=O.lim;have n1:=O.n1;have nt:=O.nt;have l1:=fc G.p;have l2:=fc G.d;have l3:=fc G.t;have a1:=jo (y:=wS is) G.p (by rw[length_map];omega);have G1i:(c.set (k+1) (.lst (g.past.map wS++[wS is])))[k]?=some (.ins "Game" (mx b s h k)):=by rw[getElem?_set_ne (by omega)];exact G.i
 have G1d:(c.set (k+1) (.lst (g.past.map wS++[wS is])))[k+2]?=some (.lst (g.done.map oW)):=by rw[getElem?_set_ne (by omega)];exact G.d
 have a2:=jo (y:=oW w) G1d (by rw[length_map];omega);have G2i:((c.set (k+1) (.lst (g.past.map wS++[wS is]))).set (k+2) (.lst (g.done.map oW++[oW w])))[k]?=some (.ins "Game" (mx b s h k)):=by rw[getElem?_set_ne (by omega)];exact G1i
 have G2t:((c.set (k+1) (.lst (g.past.map wS++[wS is]))).set (k+2) (.lst (g.done.map oW++[oW w])))[k+3]?=some (.lst (g.tk.map nW)):=by rw[getElem?_set_ne (by omega),getElem?_set_ne (by omega)];exact G.t
 have a3:=jo (y:=nW n) G2t (by rw[length_map];omega);refine jZ (gS (ws:=[wS is]) (eA (ao rfl) G.i rfl) (by simp only[bV,G.p];rfl) (ay (ao rfl) aB) a1) ?_;refine jZ (gS (ws:=[oW w]) (eA (ao rfl) G1i rfl) (by simp only[bV,G1d];rfl) (ay (ao rfl) aB) a2) ?_;refine j2 (gS (ws:=[nW n]) (eA (ao rfl) G2i rfl) (by simp only[bV,G2t];rfl) (ay (ao rfl) aB) a3) ?_;have:a_ c k (push g is w n)=((c.set (k+1) (.lst (g.past.map wS++[wS is]))).set (k+2) (.lst (g.done.map oW++[oW w]))).set (k+3) (.lst (g.tk.map nW++[nW n])):=by simp only[a_,push,map_append,map_cons,map_nil]
 rw[<- this];exact q
theorem xj{is:List Int}{w:Option Nat}:∃sl' c',VS.O.go .nx sl (a_ c k (push g is w n))=.go .nx sl' c'/\finC c c' .non=some (.ok .non (a_ c k (push g is w n))) :=
 ⟨_,_,rfl,by have:=sj (c:=c) (k:=k) (g:=push g is w n) (w:=.non) [] (by simp only[aU]);rwa [append_nil] at this⟩
theorem ye(fu:Nat)(G:GC c k b s h g)(O:cQ b g)(he:ended g=false):d_u fu [.cel k,.non] c=some (.ok .non (a_ c k (push g (cur g) none 0))):=by
 have e1:=iQ fu G O;have e2:=mi fu G O;have hn:cG (fj g)=some (.bl false):=by simp only[cG,jy,he];rfl
 unfold d_u;refine n4 [some (.cel k),some .non,none,none,none,none] rfl ?_;refine bU (p:=false) (ce':=c) (bt (cM (bI (ws:=[]) (ao rfl) G.i rfl aB rfl e1) hn)) (fun q=>by cases q) (fun _=>cy ?_);refine bu (w:=wS (cur g)) (ce':=c) (bI (ws:=[]) (ao rfl) G.i rfl aB rfl e2) ?_;refine aY ?_;refine bu (w:=nW 0) (ce':=c) aN ?_;refine aY ?_;refine bU (p:=false) (ce':=c) (bt (cM (ao rfl) rfl)) (fun q=>by cases q) (fun _=>cy ?_);exact xk (w:=none) G O xj
theorem Ew{e:Sl->M W}{x:cJ}{a:DS}{Q:VS.O->Prop}(h:e sl ce=some (.ex x c1))(q:Q (.ex x c1)):Run (aq (aQ i e) a) sl ce Q:=wA ⟨.ex x c1,by simp only[aQ,bY,h],q⟩
theorem xh(fu:Nat)(G:GC c k b s h g)(O:cQ b g)(he:ended g=false){nm:PySem.Str}(hl:d_ja fu [wB b,wS (cur g),.int (hnd h g.done.length),nW p] c=some (.ex ⟨nm,none⟩ c)):d_u fu [.cel k,nW p] c=some (.ex ⟨nm,none⟩ c):=by
 have e1:=iQ fu G O;have e2:=mi fu G O;have e3:=jx fu G;have hn:cG (fj g)=some (.bl false):=by simp only[cG,jy,he];rfl
 unfold d_u;refine nv [some (.cel k),some (nW p),none,none,none,none] rfl ?_;refine bU (p:=false) (ce':=c) (bt (cM (bI (ws:=[]) (ao rfl) G.i rfl aB rfl e1) hn)) (fun q=>by cases q) (fun _=>cy ?_);refine bu (w:=wS (cur g)) (ce':=c) (bI (ws:=[]) (ao rfl) G.i rfl aB rfl e2) ?_;refine aY ?_;refine bu (w:=nW 0) (ce':=c) aN ?_;refine aY ?_;refine bU (p:=true) (ce':=c) (bt (cM (ao rfl) rfl)) (fun _=>?_) (fun q=>by cases q);refine fL (Ew (Ea (ws:=[wB b,wS (cur g),.int (hnd h g.done.length),nW p]) (c1:=c) (ay (eA (ao rfl) G.i rfl) (ay (ao rfl) (ay (bI (ws:=[]) (ao rfl) G.i rfl aB rfl e3) (ay (ao rfl) aB)))) rfl hl) ⟨rfl,[],by simp⟩)
theorem wD(fu:Nat)(G:GC c k b s h g)(O:cQ b g)(he:ended g=false){is:List Int}{t:List Nat}(hl:d_ja fu [wB b,wS (cur g),.int (hnd h g.done.length),nW p] c=some (.ok (.tup [wS is,wL t]) c)){Q:VS.O->Prop}(q1:∀m,eJ s h g is=some m->Q (.ex ⟨"Again",none⟩ c))(q2:eJ s h g is=none->∀sl,Q (.go .nx sl (a_ c k (push g is (some p) t.length)))) :
  Run (aq (bh (dB (bR cG (bj "Game" "ended" 1 (d_r fu) (ae 0) ai))) (eW "Over" []) bz)
 (aq (aQ 2 (bj "Game" "stand" 1 (d_p fu) (ae 0) ai))
 (aq (aQ 3 (dC (.int 0)))
 (aq (bh (dB (bR cG (ae 1))) (aq (aQ 4 (aV 4 (d_ja fu) (ah (cC "Game" "joined" (ae 0)) (ah (ae 2) (ah (bj "Game" "hand" 1 (d_x fu) (ae 0) ai) (ah (ae 1) ai))))))
 (aq (aQ 2 (aI aJ (ae 4) (dC (.int 0))))
 (aq (aQ 3 (bB b_ (ah (aI aJ (ae 4) (dC (.int 1))) ai)))
 (aq (aQ 5 (bj "Game" "came_at" 2 (d_g fu) (ae 0) (ah (ae 2) ai)))
 (bh (dB (bR cG (ae 5))) (eW "Again" [5]) bz))))) bz)
 (aq (cz (c6 cS (cC "Game" "past" (ae 0)) (ah (ae 2) ai)))
 (aq (cz (c6 cS (cC "Game" "done" (ae 0)) (ah (ae 1) ai)))
 (cz (c6 cS (cC "Game" "takings" (ae 0)) (ah (ae 3) ai))))))))) [some (.cel k),some (nW p),none,none,none,none] c Q:=by
 have lim:=O.lim;have n1:=O.n1;have e1:=iQ fu G O;have e2:=mi fu G O;have e3:=jx fu G;have e4:=wF fu G O is;have hn:cG (fj g)=some (.bl false):=by simp only[cG,jy,he];rfl
 refine bU (p:=false) (ce':=c) (bt (cM (bI (ws:=[]) (ao rfl) G.i rfl aB rfl e1) hn)) (fun q=>by cases q) (fun _=>cy ?_);refine bu (w:=wS (cur g)) (ce':=c) (bI (ws:=[]) (ao rfl) G.i rfl aB rfl e2) ?_;refine aY ?_;refine bu (w:=nW 0) (ce':=c) aN ?_;refine aY ?_;refine bU (p:=true) (ce':=c) (bt (cM (ao rfl) rfl)) (fun _=>?_) (fun q=>by cases q);refine fL ?_;refine bu (w:=.tup [wS is,wL t]) (ce':=c) (cE (ws:=[wB b,wS (cur g),.int (hnd h g.done.length),nW p]) (ay (eA (ao rfl) G.i rfl) (ay (ao rfl) (ay (bI (ws:=[]) (ao rfl) G.i rfl aB rfl e3) (ay (ao rfl) aB)))) rfl hl) ?_;refine aY ?_;have j0:aJ c (.tup [wS is,wL t]) (.int 0)=some (wS is):=g9 (xs:=[wS is,wL t]) (j:=0) rfl rfl;have j1:aJ c (.tup [wS is,wL t]) (.int 1)=some (wL t):=g9 (xs:=[wS is,wL t]) (j:=1) rfl rfl;have jl:b_ [wL t] c=some (.ok (nW t.length) c):=by simp[b_,fi,bV];rfl
 refine fL (bu (w:=wS is) (ce':=c) (bO (ao rfl) aN j0) ?_);refine aY ?_;refine fL (bu (w:=nW t.length) (ce':=c) (dO (ws:=[wL t]) (ay (bO (ao rfl) aN j1) aB) jl) ?_);refine aY ?_;refine fL (bu (w:=oW (eJ s h g is)) (ce':=c) (bI (ws:=[wS is]) (ao rfl) G.i rfl (ay (ao rfl) aB) rfl e4) ?_);refine aY ?_;cases hc:eJ s h g is with
 | none =>
  refine bU (p:=false) (ce':=c) (bt (cM (ao rfl) rfl)) (fun q=>by cases q) (fun _=>cy ?_);exact xk (w:=some p) G O (q2 hc _)
 | some m =>
  have hm:m<g.past.length:=mem_range.mp (mem_of_find?_eq_some hc);refine bU (p:=true) (ce':=c) (bt (cM (ao rfl) rfl)) (fun _=>?_) (fun q=>by cases q);exact pA (qq (p:=m) rfl (by omega)) (q1 m hc)
theorem Gf(fu:Nat)(hfu:200<=fu)(N:bF b)(G:GC c k b s h g)(O:cQ b g)(h12:h=1\/h=2)(he:ended g=false){m:Nat}(hp:p<b.length)(p0:(cur g).getD p 0=0)(fr:g8 b (cur g) (hnd h g.done.length) p)(hm:eJ s h g (lS b (cur g) (hnd h g.done.length) p)=some m):d_u fu [.cel k,nW p] c=some (.ex ⟨"Again",none⟩ c):=by have hl:=rG (ce:=c) fu hfu N O.cur (lE h12 g.done.length) hp p0 fr;unfold d_u;refine nv [some (.cel k),some (nW p),none,none,none,none] rfl ?_;exact wD fu G O he hl (fun m _=>⟨rfl,[],by simp⟩) (fun q=>by rw[hm] at q;cases q)
theorem Eu(fu:Nat)(hfu:200<=fu)(N:bF b)(G:GC c k b s h g)(O:cQ b g)(h12:h=1\/h=2)(he:ended g=false)(hp:p<b.length)(p0:(cur g).getD p 0=0)(fr:g8 b (cur g) (hnd h g.done.length) p)(hm:eJ s h g (lS b (cur g) (hnd h g.done.length) p)=none):d_u fu [.cel k,nW p] c=some (.ok .non (a_ c k (push g (lS b (cur g) (hnd h g.done.length) p) (some p) (lT b (cur g) (hnd h g.done.length) p).length))):=by have hl:=rG (ce:=c) fu hfu N O.cur (lE h12 g.done.length) hp p0 fr;unfold d_u;refine n4 [some (.cel k),some (nW p),none,none,none,none] rfl ?_;exact wD fu G O he hl (fun m q=>by rw[hm] at q;cases q) (fun _ sl=>xj)
theorem wC(fu:Nat)(hfu:200<=fu)(N:bF b)(G:GC c k b s h g)(O:cQ b g)(h12:h=1\/h=2){w:Option Nat}(hw:∀p,w=some p->p<b.length) :
  (∃g',bN b s h g w g'/\d_u fu [.cel k,oW w] c=some (.ok .non (a_ c k g')))\/((∀g',¬bN b s h g w g')/\∃nm:PySem.Str,(nm = "Over" \/ nm = "NoLay" \/ nm = "NoBreath" \/ nm = "Again")/\d_u fu [.cel k,oW w] c=some (.ex ⟨nm,none⟩ c)):=by
 cases he:ended g with
 | true=>exact .inr ⟨fun g' D=>(by rw[D.1] at he;cases he), "Over",.inl rfl,yf fu G O _ he⟩
 | false =>
  cases w with
  | none=>exact .inl ⟨_,⟨he,rfl⟩,ye fu G O he⟩
  | some p =>
   have hp:=hw p rfl
   by_cases p0:(cur g).getD p 0=0
   ·by_cases fr:g8 b (cur g) (hnd h g.done.length) p
    ·cases hm:eJ s h g (lS b (cur g) (hnd h g.done.length) p) with
     | none=>exact .inl ⟨_,⟨he,hp,p0,fr,hm,rfl⟩,Eu fu hfu N G O h12 he hp p0 fr hm⟩
     | some m=>exact .inr ⟨fun g' D=>(by rw[D.2.2.2.2.1] at hm;cases hm), "Again",.inr (.inr (.inr rfl)),Gf fu hfu N G O h12 he hp p0 fr hm⟩
    ·exact .inr ⟨fun g' D=>fr D.2.2.2.1, "NoBreath",.inr (.inr (.inl rfl)),xh fu G O he (wb fu hfu N O.cur (lE h12 _) hp p0 fr)⟩
   ·exact .inr ⟨fun g' D=>p0 D.2.2.1, "NoLay",.inr (.inl rfl),xh fu G O he (wc fu O.cur N.B.h36 hp p0)⟩
end
section
variable {l:Ce} {s:Bool} {h:Int} {g:Gm}
theorem lX(c:Ce)(x y:C)(l:Ce):(c++x::l).set c.length y=c++y::l:=by simp
theorem dS(c:Ce)(x:C)(l:Ce):(c++x::l)[c.length]?=some x:=by simp
def lg(is:List Int):Gm:=⟨[is],[],[]⟩
theorem zu{is:List Int}(S:bq b is):cQ b (lg is):=⟨rfl,rfl,fun i hi=>by
 have:i=0:=by simp[lg] at hi;exact hi
 subst this;exact S,zero_le _⟩
def my(b:List (List Nat))(s:Bool)(h:Int)(k:Nat)(is:List Int):Ce:=[.ins "Game" (mx b s h k),.lst [wS is],.lst [],.lst []]
theorem Ii(c:Ce)(is:List Int):GC (c++my b s h c.length is) c.length b s h (lg is):=by
 unfold my;refine⟨dS _ _ _,?_,?_,?_⟩
 ·rw[getElem?_append_right (by omega),show c.length+1-c.length=1 by omega];rfl
 ·rw[getElem?_append_right (by omega),show c.length+2-c.length=2 by omega];rfl
 ·rw[getElem?_append_right (by omega),show c.length+3-c.length=3 by omega];rfl
theorem BW(fu:Nat){is:List Int}(hn:∀c,d_aa fu [wB b,wS is] c=some (.ok (.bl true) c))(hs:∀c,d_ba fu [wB b,wS is] c=some (.ok (.bl true) c)) :
  d_e fu [.cel c.length,wB b,.str (rl s),wS is,.int h] (c++[C.ins "Game" []])=some (.ok .non (c++my b s h c.length is)):=by
 have z1:1<=sizeLine:=by decide
 unfold d_e;refine n4 [some (.cel c.length),some (wB b),some (.str (rl s)),some (wS is),some (.int h)] rfl ?_;refine bU (p:=!true) (ce':=c++[C.ins "Game" []]) (gE (bt (cE (ws:=[wB b,wS is]) (by trivial) rfl (hn _)))) (fun q=>by cases q) (fun _=>cy ?_);refine bU (p:=!true) (ce':=c++[C.ins "Game" []]) (gE (bt (cE (ws:=[wB b,wS is]) (by trivial) rfl (hs _)))) (fun q=>by cases q) (fun _=>cy ?_);refine nu (w:=wB b) (k:=c.length) (ao rfl) (ao rfl) (j4 _ _) (lt_of_le_of_lt (le_refl 0) (by decide)) ?_;rw[lX];refine nu (w:=.str (rl s)) (k:=c.length) (ao rfl) (ao rfl) (j4 _ _) (lt_of_le_of_lt (fK (le_refl 0)) (by decide)) ?_;rw[lX];refine nu (w:=.int h) (k:=c.length) (ao rfl) (ao rfl) (j4 _ _) (lt_of_le_of_lt (fK (fK (le_refl 0))) (by decide)) ?_;rw[lX];refine nu (k:=c.length) (iT (ws:=[wS is]) (by trivial) z1) (ao rfl) (by rw[append_assoc];exact dS _ _ _) (lt_of_le_of_lt (fK (fK (fK (le_refl 0)))) (by decide)) ?_;rw[append_assoc,cons_append,nil_append,lX,length_append,length_cons,length_nil];refine nu (k:=c.length) (iT aB (zero_le _)) (ao rfl) (by rw[append_assoc];exact dS _ _ _) (lt_of_le_of_lt (fK (fK (fK (fK (le_refl 0))))) (by decide)) ?_;rw[append_assoc,cons_append,cons_append,nil_append,lX,length_append,length_cons,length_cons,length_nil];refine D6 (k:=c.length) (iT aB (zero_le _)) (ao rfl) (by rw[append_assoc];exact dS _ _ _) (lt_of_le_of_lt (fK (fK (fK (fK (fK (le_refl 0)))))) (by decide)) ?_;rw[append_assoc,cons_append,cons_append,cons_append,nil_append,lX,length_append,length_cons,length_cons,length_cons,length_nil];exact⟨_,_,rfl,rfl⟩
theorem pG(fu:Nat)(G:GC c k b s h g)(O:cQ b g):d_l fu [.cel k] c=some (.ok (.lst (g.past.map wS)) c):=by
 have hz:(1000:Nat)<sizeLine:=by decide
 have lim:=O.lim;have n1:=O.n1;unfold d_l;refine dj [some (.cel k)] rfl ?_;exact bP (w:=.lst (g.past.map wS)) (ce':=c) (dO (ws:=[.cel (k+1)]) (ay (eA (ao rfl) G.i rfl) aB) (by rw[rA (j5 G.p)];exact kS (by rw[length_map];omega))) (fg (by simp only[aU];exact sm _ _))
theorem sx(fu:Nat)(G:GC c k b s h g)(O:cQ b g):d_q fu [.cel k] c=some (.ok (.lst (g.done.map oW)) c):=by
 have hz:(1000:Nat)<sizeLine:=by decide
 have lim:=O.lim;unfold d_q;refine dj [some (.cel k)] rfl ?_;exact bP (w:=.lst (g.done.map oW)) (ce':=c) (dO (ws:=[.cel (k+2)]) (ay (eA (ao rfl) G.i rfl) aB) (by rw[rA (j5 G.d)];exact kS (by rw[length_map];omega))) (fg (by simp only[aU];exact kT _ _))
end
theorem yP{α:Type}{l m:List α}{d:α}(h:i<l.length):(l++m).getD i d=l.getD i d:=by simp only[getD_eq_getElem?_getD,getElem?_append_left h]
theorem sG{α:Type}{l:List α}{x d:α}(h:i=l.length):(l++[x]).getD i d=x:=by subst h;simp only[getD_eq_getElem?_getD,getElem?_append_right (le_refl _),sub_self,getElem?_cons_zero,getD_some]
section
variable {l:Ce} {s:Bool} {h:Int} {g:Gm} {w:Option Nat}
theorem BV{m:Nat}{ps:List (List Int)}(hm:m<ps.length):aJ c (.lst (ps.map wS)) (nW m)=some (wS (ps.getD m [])):=by rw[ji (xs:=ps.map wS) rfl,getElem?_map,getD_eq_getElem?_getD,getElem?_eq_getElem hm];rfl
theorem BU{m:Nat}(hm:m<ds.length):aJ c (.lst (ds.map oW)) (nW m)=some (oW (ds.getD m none)):=by rw[ji (xs:=ds.map oW) rfl,getElem?_map,getD_eq_getElem?_getD,getElem?_eq_getElem hm];rfl
end
theorem xg{c:Sl->M W}{put:Option Nat}{ok:cJ->Bool}{b:DS}{x:cJ}(h:c sl ce=some (.ex x c1))(hok:ok x=true)(e:hd x sl c1=some (.go .ct sl' c2))(q:Q (.go .ct sl' c2)):Run (aq (fv c put ok hd) b) sl ce Q :=
 ⟨_,by simp only[aq,fv,h,hok,if_true,e],q⟩
section
variable {is:List Int}
def jM(b:List (List Nat))(is:List Int)(o:Int)(p:Nat):W:=.tup [nW p,wS (lS b is o p),wL (lT b is o p)]
open Classical in
def fX(b:List (List Nat))(is:List Int)(o:Int)(p:Nat):Bool:=decide (is.getD p 0=0/\g8 b is o p)
open Classical in
theorem cw:fX b is o p=true↔is.getD p 0=0/\g8 b is o p:=by unfold fX;exact decide_eq_true_iff
theorem xf(n:Nat)(p:Nat):aU n (jM b is o p):=by simp only[aU,cp,jM,nW];exact⟨trivial,bZ _ _,aL _ _,trivial⟩
theorem si{α:Type}{f:α->W}(n:Nat)(h:∀x,aU n (f x)):∀l:List α,cp n (l.map f)
 | []=>by simp only[map_nil,cp]
 | x::l=>by simp only[map_cons,cp];exact⟨h x,si n h l⟩
theorem Ge(fu:Nat)(hfu:200<=fu)(N:bF b)(S:bq b is)(ho:o=1\/o=2)(hlt:∀p∈pts,p<b.length)(hlen:pts.length<=100) :
  cX (d_ea fu) [wB b,wS is,.int o,wL pts] ce=some (.ok (.lst ((pts.filter (fX b is o)).map (jM b is o))) ce):=by
 have hz:=fw;have z200:200<sizeLine:=by decide
 have z3:3<=sizeLine:=by decide
 have h36:=N.B.h36;refine jv ?_ (si _ (xf _) _);unfold d_ea;refine dj [some (wB b),some (wS is),some (.int o),some (wL pts),none,none,none] rfl ?_;refine bu (iT aB (zero_le _)) ?_;refine aY ?_;have O0:=(Own.start ce).alloc (C.lst []);refine kX (zs:=pts) (en:=nW) (c1:=ce++[.lst []]) (jQ (ao rfl))
  (fun d sl c=>∃x5 x6,sl=[some (wB b),some (wS is),some (.int o),some (wL pts),some (.cel ce.length),x5,x6]/\Own ce c [(ce.length,C.lst ((d.filter (fX b is o)).map (jM b is o)))])
  ⟨_,_,rfl,O0⟩ ?_ ?_
 ·rintro d x r sl c e hx ⟨x5,x6,rfl,O⟩;have hxb:=hlt x hx;have hdl:d.length<100:=by have:=congrArg List.length e;simp only[length_append,length_cons] at this;omega
  have go:aV 4 (d_ja fu) (dw (ah (ae 0) (ah (ae 1) (ah (ae 2) (ah (ae 5) ai))))) [some (wB b),some (wS is),some (.int o),some (wL pts),some (.cel ce.length),some (nW x),x6] c=d_ja fu [wB b,wS is,.int o,nW x] c:=by have:dw (ah (ae 0) (ah (ae 1) (ah (ae 2) (ah (ae 5) ai)))) [some (wB b),some (wS is),some (.int o),some (wL pts),some (.cel ce.length),some (nW x),x6] c=some (.ok [wB b,wS is,.int o,nW x] c):=iJ (ay (ao rfl) (ay (ao rfl) (ay (ao rfl) (ay (ao rfl) aB))));simp only[aV,au,this];rfl
  unfold yD;refine aY ?_
  by_cases p0:is.getD x 0=0
  ·by_cases hf:g8 b is o x
   ·have ec:fX b is o x=true:=cw.mpr ⟨p0,hf⟩;refine xx (go.trans (rG (ce:=c) fu hfu N S ho hxb p0 hf)) ?_;have ea:=jo (y:=jM b is o x) O.g0 (by rw[length_map];exact lt_of_le_of_lt (length_filter_le _ _) (by omega));refine j2 (w:=.non) (gS (ao rfl) (eX O.g0) (ay (jY (ws:=[nW x,wS (lS b is o x),wL (lT b is o x)]) (ay (ao rfl) (ay (bO (ao rfl) aN (g9 (xs:=[wS (lS b is o x),wL (lT b is o x)]) (j:=0) rfl rfl)) (ay (bO (ao rfl) aN (g9 (xs:=[wS (lS b is o x),wL (lT b is o x)]) (j:=1) rfl rfl)) aB))) z3) aB) ea) ?_;refine⟨_,_,rfl,?_⟩;rw[filter_append,filter_cons_of_pos ec,filter_nil,map_append];exact O.set0 _
   ·have ec:¬fX b is o x=true:=by intro q;exact hf (cw.mp q).2
    refine xg (go.trans (wb (ce:=c) fu hfu N S ho hxb p0 hf)) (by decide +kernel) rfl ?_;refine⟨_,_,rfl,?_⟩;rw[filter_append,filter_cons_of_neg ec,filter_nil,append_nil];exact O
  ·have ec:¬fX b is o x=true:=by intro q;exact p0 (cw.mp q).1
   refine xg (go.trans (wc (ce:=c) fu S h36 hxb p0)) (by decide +kernel) rfl ?_;refine⟨_,_,rfl,?_⟩;rw[filter_append,filter_cons_of_neg ec,filter_nil,append_nil];exact O
 ·rintro sl c ⟨x5,x6,rfl,O⟩;exact bP (w:=.cel ce.length) (ce':=c) (ao rfl) (O.finO (by simp only[eB];exact si _ (xf _) _))
end
theorem BS(h:n<=1000):lG bc [nW n] c=some (.ok (wL (List.range n)) c):=by
 have z:2000<sizeLine:=by decide
 have r1:iF [nW n]=some (.rng 0 n):=by simp only[iF,nW];rw[if_pos ⟨by omega,by omega⟩,toNat_natCast]
 simp only[lG,r1];rw[if_pos (by omega)];have e:(List.range n).map (fun(i:Nat)=>W.int (0+(i:Int)))=(List.range n).map nW:=by apply map_congr_left;intro i _;simp[nW]
 rw[e,kS (by rw[length_map,length_range];omega)]
section
variable {l:Ce} {s:Bool} {h:Int} {g:Gm} {w:Option Nat} {is:List Int}
theorem Et(fu:Nat)(G:GC c k b s h (push g is w n)):d_t fu [.cel k] c=some (.ok .non (a_ c k g)):=by
 have l1:=fc G.p;have l2:=fc G.d;have l3:=fc G.t;have e1:(push g is w n).past.map wS=g.past.map wS++[wS is]:=by simp[push]
 have e2:(push g is w n).done.map oW=g.done.map oW++[oW w]:=by simp[push]
 have e3:(push g is w n).tk.map nW=g.tk.map nW++[nW n]:=by simp[push]
 have a1:=oB G.p e1;have G1i:(c.set (k+1) (.lst (g.past.map wS)))[k]?=some (.ins "Game" (mx b s h k)):=by rw[getElem?_set_ne (by omega)];exact G.i
 have G1d:(c.set (k+1) (.lst (g.past.map wS)))[k+2]?=some (.lst ((push g is w n).done.map oW)):=by rw[getElem?_set_ne (by omega)];exact G.d
 have a2:=oB G1d e2;have G2i:((c.set (k+1) (.lst (g.past.map wS))).set (k+2) (.lst (g.done.map oW)))[k]?=some (.ins "Game" (mx b s h k)):=by rw[getElem?_set_ne (by omega)];exact G1i
 have G2t:((c.set (k+1) (.lst (g.past.map wS))).set (k+2) (.lst (g.done.map oW)))[k+3]?=some (.lst ((push g is w n).tk.map nW)):=by rw[getElem?_set_ne (by omega),getElem?_set_ne (by omega)];exact G.t
 have a3:=oB G2t e3;have tr:=v5 G.d;rw[e2,show((g.done.map oW++[oW w]).isEmpty)=false by simp] at tr;unfold d_t;refine n4 [some (.cel k)] rfl ?_;refine bU (p:=!true) (ce':=c) (gE (oJ (eA (ao rfl) G.i rfl) tr)) (fun q=>by cases q) (fun _=>cy ?_);refine jZ (oI (eA (ao rfl) G.i rfl) (by simp only[bV,G.p];rfl) a1) ?_;refine jZ (oI (eA (ao rfl) G1i rfl) (by simp only[bV,G1d];rfl) a2) ?_;refine j2 (oI (eA (ao rfl) G2i rfl) (by simp only[bV,G2t];rfl) a3) ?_;exact⟨_,_,rfl,by have:=sj (c:=c) (k:=k) (g:=g) (w:=.non) [] (by simp only[aU]);rwa [append_nil] at this⟩
end
theorem FL(n:Nat)(ps:List (List Int)):bM (n+2) (.lst (ps.map wS))=true:=by simp only[bM,all_eq_true];intro x hx;obtain⟨is,_,rfl⟩:=mem_map.mp hx;exact sd is n
theorem sv(n:Nat)(ds:List (Option Nat)):bM (n+1) (.lst (ds.map oW))=true:=by
 simp only[bM,all_eq_true];intro x hx;obtain⟨o,_,rfl⟩:=mem_map.mp hx;cases o<;>(cases n<;>rfl)
section
variable {l:Ce} {s:Bool} {h:Int} {g:Gm} {w:Option Nat} {is:List Int}
open Classical in
def jm(b:List (List Nat))(s:Bool)(h:Int)(g:Gm):List Nat:=((List.range b.length).filter (fX b (cur g) (hnd h g.done.length))).filter fun p=>decide (eJ s h g (lS b (cur g) (hnd h g.done.length) p)=none)
def cF(b:List (List Nat))(s:Bool)(h:Int)(g:Gm):List (Option Nat):=if ended g=true then [] else (jm b s h g).map some++[none]
theorem gL:w∈cF b s h g↔∃g',bN b s h g w g':=by
 unfold cF;cases he:ended g with
 | true =>
  rw[if_pos rfl];constructor
  ·intro q;cases q
  ·rintro⟨g',D⟩;rw[D.1] at he;cases he
 | false =>
  rw[if_neg (by simp),mem_append,mem_map,mem_singleton];cases w with
  | none=>exact⟨fun _=>⟨_,he,rfl⟩,fun _=>.inr rfl⟩
  | some p =>
   constructor
   ·rintro(⟨q,hq,e⟩|q)
    ·cases e;obtain⟨h1,h2⟩:=mem_filter.mp hq;obtain⟨h1,h3⟩:=mem_filter.mp h1;obtain⟨h3,h4⟩:=cw.mp h3;exact⟨_,he,mem_range.mp h1,h3,h4,by simpa using h2,rfl⟩
    ·cases q
   ·rintro⟨g',_,hp,p0,fr,hc,_⟩;exact .inl ⟨p,mem_filter.mpr ⟨mem_filter.mpr ⟨mem_range.mpr hp,cw.mpr ⟨p0,fr⟩⟩,decide_eq_true hc⟩,rfl⟩
theorem FK(fu:Nat)(hfu:200<=fu)(N:bF b)(G:GC c k b s h g)(O:cQ b g)(h12:h=1\/h=2):d_a fu [.cel k] c=some (.ok (.cel c.length) (c++[.lst ((cF b s h g).map oW)])):=by
 have hz:=fw;have z200:200<sizeLine:=by decide
 have h36:=N.B.h36;have e1:=iQ fu G O;have e2:=mi fu G O;have e3:=jx fu G;have e4:=Ge (ce:=c) fu hfu N O.cur (lE h12 g.done.length) (pts:=List.range b.length) (fun p hp=>mem_range.mp hp) (by rw[length_range];omega);have er:lG bc [nW b.length] c=some (.ok (wL (List.range b.length)) c):=BS (by omega);unfold d_a;refine dj [some (.cel k),none,none] rfl ?_;refine bU (p:=!(!ended g)) (ce':=c) (bt (cM (bI (ws:=[]) (ao rfl) G.i rfl aB rfl e1) (by simp only[cG,jy]))) (fun q=>?_) (fun q=>cy ?_)
 ·have he:ended g=true:=by simpa using q
  refine ju (bP (iT aB (zero_le _)) ?_);have:cF b s h g=[]:=by unfold cF;rw[if_pos he]
  rw[this];exact((Own.start c).alloc (C.lst [])).finO (by simp only[eB,cp])
 ·have he:ended g=false:=by simpa using q
  refine bu (w:=.lst (((List.range b.length).filter (fX b (cur g) (hnd h g.done.length))).map (jM b (cur g) (hnd h g.done.length)))) (ce':=c) (cE (ws:=[wB b,wS (cur g),.int (hnd h g.done.length),wL (List.range b.length)]) (ay (eA (ao rfl) G.i rfl) (ay (bI (ws:=[]) (ao rfl) G.i rfl aB rfl e2) (ay (bI (ws:=[]) (ao rfl) G.i rfl aB rfl e3) (ay (dO (ws:=[nW b.length]) (ay (dO (ws:=[wB b]) (ay (eA (ao rfl) G.i rfl) aB) nk) aB) er) aB)))) rfl e4) ?_;refine aY ?_;have hfl:((List.range b.length).filter (fX b (cur g) (hnd h g.done.length))).length<=36:=by have h1:=length_filter_le (fX b (cur g) (hnd h g.done.length)) (List.range b.length);rw[length_range] at h1;omega
  have lc:=pQ (zs:=(List.range b.length).filter (fX b (cur g) (hnd h g.done.length))) (en:=jM b (cur g) (hnd h g.done.length)) (t:=fun p=>c5 (oW (eJ s h g (lS b (cur g) (hnd h g.done.length) p)))) (g:=nW) (js:=[0]) (di:=dY (ae 1)) (sl:=[some (.cel k),some (.lst (((List.range b.length).filter (fX b (cur g) (hnd h g.done.length))).map (jM b (cur g) (hnd h g.done.length)))),none]) (ce:=c) (c1:=c)
   (c:=dw (dB (bR mL (bj "Game" "came_at" 2 (d_g fu) (ae 1) (ah (aI aJ (ae 0) (dC (.int 1))) ai))))) (e:=aI aJ (ae 0) (dC (.int 0))) (jQ (ao rfl)).is (by omega)
   (fun p _=>iJ (bt (cM (bI (ws:=[wS (lS b (cur g) (hnd h g.done.length) p)]) (ao rfl) G.i rfl (ay (bO (ao rfl) aN (g9 (xs:=[nW p,wS (lS b (cur g) (hnd h g.done.length) p),wL (lT b (cur g) (hnd h g.done.length) p)]) (j:=1) rfl rfl)) aB) rfl (wF fu G O _)) rfl)))
   (fun p _ _=>bO (ao rfl) aN (g9 (xs:=[nW p,wS (lS b (cur g) (hnd h g.done.length) p),wL (lT b (cur g) (hnd h g.done.length) p)]) (j:=0) rfl rfl))
  have ef:((List.range b.length).filter (fX b (cur g) (hnd h g.done.length))).filter (fun p=>c5 (oW (eJ s h g (lS b (cur g) (hnd h g.done.length) p))))=jm b s h g:=by
   unfold jm;apply filter_congr;intro p _;cases eJ s h g (lS b (cur g) (hnd h g.done.length) p) with
   | none=>simp[oW,c5]
   | some m=>simp[oW,nW,c5]
  rw[ef] at lc;refine bu lc ?_;refine aY ?_;have O0:=(Own.start c).alloc (C.lst ((jm b s h g).map nW));have hop:(jm b s h g).length<=36:=le_trans (length_filter_le _ _) hfl;have ea:=jo (y:=.non) O0.g0 (by rw[length_map];omega);refine jZ (gS (ws:=[.non]) (ao rfl) (eX O0.g0) (ay aN aB) ea) ?_;have O1:=O0.set0 (C.lst ((jm b s h g).map nW++[.non]));have eo:(cF b s h g).map oW=(jm b s h g).map nW++[.non]:=by unfold cF;rw[if_neg (by rw[he];simp),map_append,map_map];rfl
  rw[eo];refine bP (w:=.cel c.length) (ao rfl) (O1.finO ?_);rw[<- eo];simp only[eB];exact kT _ _
theorem xb(fu:Nat)(hfu:200<=fu)(N:bF b)(G:GC c k b s h g)(O:cQ b g)(h12:h=1\/h=2):cX (d_a fu) [.cel k] c=some (.ok (.lst ((cF b s h g).map oW)) c):=jv (FK fu hfu N G O h12) (kT _ _)
end
section
variable {l:Ce} {s:Bool} {h:Int} {g g1 g2:Gm} {w:Option Nat} {is0:List Int}
theorem bN.done(D:bN b s h g w g'):g'.done=g.done++[w]:=by
 cases w with
 | none=>rw[D.2];rfl
 | some p=>rw[D.2.2.2.2.2];rfl
theorem bN.psh(D:bN b s h g w g'):∃is n,g'=push g is w n:=by
 cases w with
 | none=>exact⟨_,_,D.2⟩
 | some p=>exact⟨_,_,D.2.2.2.2.2⟩
theorem bN.uniq(D1:bN b s h g w g1)(D2:bN b s' h g w g2):g1=g2:=by
 cases w with
 | none=>exact D1.2.trans D2.2.symm
 | some p=>exact D1.2.2.2.2.2.trans D2.2.2.2.2.2.symm
theorem bN.lt(D:bN b s h g w g'):∀p,w=some p->p<b.length:=fun p e=>by subst e;exact D.2.1
theorem qP{f:Ce->W->Option W}{w:W}(h:d sl c=some (.ok w c1))(hf:f c1 w=some w'):i_ f d sl c=some (.ok w' c1):=by simp only[i_,au,h,look,hf,map_some]
theorem qm(nm:PySem.Str):kC (ce++[.exn nm]) (.cel ce.length)=some nm:=by simp only[kC,j4]
end
section
variable {l:Ce} {s:Bool} {h:Int} {g:Gm} {w:Option Nat} {is:List Int}
theorem vF{w:W}(hc:fB c c')(hl:c'.length=c.length)(hb:aU c.length w):finC c c' w=some (.ok w c'):=by unfold finC;rw[if_pos ⟨hc,hb⟩,take_of_length_le (by omega)]
theorem ka{x v:W}(hx:fh c x=v)(hy:fh c y=v)(hc:bM 8 v=true)(ng:Bool):bD ng c x y=some (.bl (!ng)):=by unfold bD;rw[hx,hy,hc,xF 8 hc];cases ng<;>rfl
theorem BR(fu:Nat)(G:GC c k b s h g)(O:cQ b g)(he:ended g=true)(x:W):d_h fu [.cel k,x] c=some (.ok (.bl true) c):=by
 have hu:gD fT "StoneError" ⟨"Over",none⟩=true:=by decide +kernel
 have ha:iH fT "Over" = some (["Over", "StoneError"]:List PySem.Str):=by decide +kernel
 unfold d_h;refine dj [some (.cel k),some x,none,none] rfl ?_;refine bu (w:=.non) (ce':=c) aN ?_;refine aY ?_;have hc:bj "Game" "deed" 2 (d_u fu) (dw (ae 0)) (dw (ah (ae 1) ai)) [some (.cel k),some x,some .non,none] c=some (.ex ⟨"Over",none⟩ c):=bI (ws:=[x]) (iJ (ao rfl)) G.i rfl (iJ (ay (ao rfl) aB)) rfl (yf fu G O x he);refine xw (sl':=[some (.cel k),some x,some (.cel c.length),none]) (c2:=c++[.exn "Over"]) hc hu rfl ?_;have v0:mH fT (c++[.exn "Over"]) (.cel c.length) "Over" = some (.bl true):=by unfold mH;rw[qm,bind_some,ha,bind_some,if_pos (by decide +kernel)];rfl
 have v1:mF fT (c++[.exn "Over"]) (.cel c.length) ["Again", "NoBack", "NoBreath", "NoLay", "NoStand"]=some (.bl false):=by unfold mF;rw[qm,bind_some,ha,bind_some,if_pos (by decide +kernel)];exact congrArg (fun t=>some (W.bl t)) (by decide +kernel)
 have v3:mG fT (c++[.exn "Over"]) (.cel c.length)=some (.bl true):=by unfold mG;rw[qm,bind_some,ha,bind_some]
 refine bU (p:=!true||!true) (ce':=c++[.exn "Over"]) (kI (gE (bt (qP (ao rfl) v0))) (fun _=>gE (bt (qP (ao rfl) v3)))) (fun q=>by cases q) (fun _=>cy ?_);exact bP (w:=.bl (!false)) (ce':=c++[.exn "Over"]) (AN (qP (ao rfl) v1)) (jt (mr (by simp only[aU])))
theorem BQ(fu:Nat)(hfu:200<=fu)(N:bF b)(G:GC c k b s h g)(O:cQ b g)(h12:h=1\/h=2)(st:Int):∃r c',d_w fu [.cel k,nW b.length,.int st] c=some (.ok (oW r) c')/\((r=none/\c'=c)\/∃p g',r=some p/\bN b s h g (some p) g'/\c'=a_ c k g'):=by
 have h36:=N.B.h36;have pos:=N.B.pos
 suffices hs:∃w c',d_w fu [.cel k,nW b.length,.int st] c=some (.ok w c')/\∃r,w=oW r/\((r=none/\c'=c)\/∃p g',r=some p/\bN b s h g (some p) g'/\c'=a_ c k g') by
  obtain⟨w,c',e,r,rfl,q⟩:=hs;exact⟨r,c',e,q⟩
 unfold d_w;refine mT [some (.cel k),some (nW b.length),some (.int st),none,none,none,none] rfl ?_;refine pC (zs:=List.range b.length) (en:=nW) (c1:=c) (gW (n:=b.length) (ay (ao rfl) aB) (by omega))
  (fun d sl c'=>∃x3 x4 x5 x6 l,sl=[some (.cel k),some (nW b.length),some (.int st),x3,x4,x5,x6]/\c'=c++l)
  (fun w c'=>∃w2 c2,finC c c' w=some (.ok w2 c2)/\∃r,w2=oW r/\((r=none/\c2=c)\/∃p g',r=some p/\bN b s h g (some p) g'/\c2=a_ c k g'))
  ⟨_,_,_,_,[],rfl,by rw[append_nil]⟩ ?_ (fun w sl c' h=>h) ?_
 ·rintro d q r sl c' e hm ⟨x3,x4,x5,x6,l,rfl,rfl⟩;obtain⟨m,hm,em⟩:=rE (st+q) pos;have e2:bG (.int (st+q)) (nW b.length)=some (nW m):=oK pos em;unfold yQ;refine aY ?_;refine bu (w:=nW m) (ce':=c++l) (ck (x:=.int (st+q)) (ck (x:=.int st) (y:=nW q) (ao rfl) (ao rfl) rfl) (ao rfl) e2) ?_;refine aY ?_;refine bu (w:=.non) (ce':=c++l) aN ?_;refine aY ?_;have G1:=G.app l;rcases wC fu hfu N G1 O h12 (w:=some m) (fun p hp=>by cases hp;exact hm) with ⟨g',D,f⟩|⟨_,nm,hn,f⟩
  ·rw[Ey G] at f;refine xx (w:=.non) (c1:=a_ c k g'++l) (bI (ws:=[nW m]) (iJ (ao rfl)) G1.i rfl (iJ (ay (ao rfl) aB)) rfl f) ?_;refine(?_:Run _ [some (.cel k),some (nW b.length),some (.int st),some (nW q),some (nW m),some .non,x6] (a_ c k g'++l) _);refine gC (p:=true) (ce':=a_ c k g'++l) (bt (cM (ao rfl) rfl)) (fun _=>?_) (fun z=>by cases z);exact bP (w:=nW m) (ce':=a_ c k g'++l) (ao rfl) ⟨nW m,a_ c k g',sj l (by simp only[nW,aU]),some m,rfl,.inr ⟨m,g',rfl,D,rfl⟩⟩
  ·have hu:gD fT "StoneError" ⟨nm,none⟩=true:=by rcases hn with rfl|rfl|rfl|rfl<;>decide +kernel
   have hc:bj "Game" "deed" 2 (d_u fu) (dw (ae 0)) (dw (ah (ae 4) ai)) [some (.cel k),some (nW b.length),some (.int st),some (nW q),some (nW m),some .non,x6] (c++l)=some (.ex ⟨nm,none⟩ (c++l)):=bI (ws:=[nW m]) (iJ (ao rfl)) G1.i rfl (iJ (ay (ao rfl) aB)) rfl f;refine xw (sl':=[some (.cel k),some (nW b.length),some (.int st),some (nW q),some (nW m),some (.cel (c++l).length),none]) (c2:=(c++l)++[.exn nm]) hc hu rfl ?_;refine gC (p:=false) (ce':=(c++l)++[.exn nm]) (bt (cM (ao rfl) rfl)) (fun z=>by cases z) (fun _=>kc ?_);exact⟨_,_,_,_,l++[.exn nm],rfl,by rw[append_assoc]⟩
 ·rintro sl c' ⟨x3,x4,x5,x6,l,rfl,rfl⟩;exact bP (w:=.non) (ce':=c++l) aN ⟨.non,c,mr (by simp only[aU]),none,rfl,.inl ⟨rfl,rfl⟩⟩
theorem Es(n:Nat):cur (push g is w n)=is:=by unfold cur push;rw[length_append,length_cons,length_nil,show g.past.length+(0+1)-1=g.past.length by omega,sG rfl]
theorem su(fu:Nat)(G:GC c 0 b s h g)(O:cQ b g)(he:ended g=false)(hj:4<=j)(hx:c[j]?=some (.lst (ds.map oW)))(hl:ds.length<1000) :
  d_j fu [.cel 0,.cel j] c=some (.ok (.bl true) ((a_ c 0 (push g (cur g) none 0)).set j (.lst ((ds++[none]).map oW)))):=by
 have hz:(2000:Nat)<sizeLine:=by decide
 have f1:=ye fu G O he;have O':cQ b (push g (cur g) none 0):=o3 O he O.cur none 0;have jl:=fc hx;have G1:=G.put (push g (cur g) none 0);have d1:(a_ c 0 (push g (cur g) none 0))[j]?=some (.lst (ds.map oW)):=(lY (by omega) (by omega) (by omega)).trans hx;have k1:=sk c 0 (push g (cur g) none 0);have l1:(a_ c 0 (push g (cur g) none 0)).length=c.length:=kU;generalize hg1:push g (cur g) none 0=g1 at f1 O' G1 d1 k1 l1;have ec:cur g1=cur g:=by rw[<- hg1];exact Es _
 have en:g1.done.length=g.done.length+1:=by rw[<- hg1];simp[push]
 generalize a_ c 0 g1=c1 at f1 G1 d1 k1 l1;unfold d_j;refine dj [some (.cel 0),some (.cel j),none,none] rfl ?_;refine bu (w:=wS (cur g)) (ce':=c) (bI (ws:=[]) (ao rfl) G.i rfl aB rfl (mi fu G O)) ?_;refine aY ?_;refine bu (w:=.int (hnd h g.done.length)) (ce':=c) (bI (ws:=[]) (ao rfl) G.i rfl aB rfl (jx fu G)) ?_;refine aY ?_;refine bU (p:=false) (ce':=c1) (bt (cM (bI (ws:=[.non]) (ao rfl) G.i rfl (ay aN aB) rfl f1) rfl)) (fun z=>by cases z) (fun _=>cy ?_);have a1:=jo (y:=.non) d1 (by rw[length_map];omega);rw[show ds.map oW++[W.non]=(ds++[none]).map oW by rw[map_append];rfl] at a1;refine jZ (gS (ws:=[.non]) (ao rfl) (eX d1) (ay aN aB) a1) ?_;have ne:∀{i:Nat},i≠j->(c1.set j (.lst ((ds++[none]).map oW)))[i]?=c1[i]?:=fun hi=>getElem?_set_ne (Ne.symm hi);have G2:GC (c1.set j (.lst ((ds++[none]).map oW))) 0 b s h g1:=⟨(ne (by omega)).trans G1.i,(ne (by omega)).trans G1.p,(ne (by omega)).trans G1.d,(ne (by omega)).trans G1.t⟩
 have k2:fB c (c1.set j (.lst ((ds++[none]).map oW))):=oU k1 (by simp only[eB];exact kT _ _);have l2:(c1.set j (.lst ((ds++[none]).map oW))).length=c.length:=by rw[length_set,l1]
 generalize c1.set j (.lst ((ds++[none]).map oW))=c2 at G2 k2 l2;have q1:bD false c2 (wS (cur g)) (wS (cur g))=some (.bl (!false)):=ka (v:=wS (cur g)) rfl rfl (sd _ 7) false;have e2:=mi fu G2 O';rw[ec] at e2;have e3:=jx fu G2;rw[en,qp] at e3;have q2:eQ (.int (3-hnd h g.done.length)) (.int (3-hnd h g.done.length))=some (.bl true):=by rw[kR rfl rfl,decide_eq_true rfl]
 exact bP (w:=.bl true) (ce':=c2) (oA (bO (bI (ws:=[]) (ao rfl) G2.i rfl aB rfl e2) (ao rfl) q1) (ck (bI (ws:=[]) (ao rfl) G2.i rfl aB rfl e3) (ck (x:=.int 3) aN (ao rfl) rfl) q2)) (jt (vF k2 l2 (by simp only[aU])))
end
section
variable {s:Bool} {h:Int} {g:Gm} {is0:List Int}
inductive Cn (b:List (List Nat)) (s:Bool) (h:Int) (is0:List Int):Gm->Prop
 | zero:Cn b s h is0 (lg is0)
 | step {g g':Gm} {w:Option Nat} (C:Cn b s h is0 g) (D:bN b s h g w g'):Cn b s h is0 g'
theorem Cn.ok(N:bF b)(S:bq b is0)(h12:h=1\/h=2)(C:Cn b s h is0 g):cQ b g:=by
 induction C with
 | zero=>exact zu S
 | step C D ih=>exact D.ok ih N h12
end
theorem vX{ta tb:Sl->M Bool}{q:Bool}(ha:ta sl ce=some (.ok false c1))(hb:tb sl c1=some (.ok q c2)):fx ta tb sl ce=some (.ok q c2):=by simp only[fx,au,ha,hb]
section
variable {l:Ce} {s:Bool} {h:Int} {g g0:Gm} {w:Option Nat} {is is0:List Int}
theorem sg{x:W}:fF (xs++[x]) none (some (-1))=xs:=by
 unfold fF;have e:HT.sIx (xs++[x]).length (xs++[x]).length (some (-1))=xs.length:=by show(if (-1:Int)<0 then ((-1:Int)+((xs++[x]).length:Int)).toNat else min (-1:Int).toNat (xs++[x]).length)=_;rw[if_pos (by omega),length_append];simp only[length_cons,length_nil];omega
 rw[HT.sIx_none,e,drop_zero,Nat.sub_zero,take_left]
theorem vW(fu:Nat)(hfu:200<=fu)(N:bF b)(h12:h=1\/h=2)(eg:g=push g0 is w n)(G:GC c 0 b s h g)(O:cQ b g)(O0:cQ b g0)(he:ended g=true)(he0:ended g0=false)(hd:c[4]?=some (.lst (g.done.map oW))){due:PySem.Str}(hdue:fj g=.str due) :
  d_c fu [.cel 0,nW b.length,.cel 4,.str due] c=some (.ok (.bl true) (a_ c 0 g0)):=by
 have hz:(2000:Nat)<sizeLine:=by decide
 have z3:3<=sizeLine:=by decide
 have lim:=O.lim;have n1:=O.n1;unfold d_c;refine dj [some (.cel 0),some (nW b.length),some (.cel 4),some (.str due),none,none,none] rfl ?_;refine bu (w:=.lst (g.past.map wS)) (ce':=c) (bI (ws:=[]) (ao rfl) G.i rfl aB rfl (pG fu G O)) ?_;refine aY ?_;refine bu (w:=.int (hnd h g.done.length)) (ce':=c) (bI (ws:=[]) (ao rfl) G.i rfl aB rfl (jx fu G)) ?_;refine aY ?_;have e1:=iQ fu G O;rw[hdue] at e1;have q1:bD true c (.str due) (.str due)=some (.bl (!true)):=ka (v:=.str due) rfl rfl rfl true;have e2:=xb fu hfu N G O h12;rw[show cF b s h g=[] by unfold cF;rw[if_pos he]] at e2;have q2:bD true c (.lst []) (.lst [])=some (.bl (!true)):=ka (v:=.lst []) rfl rfl rfl true;refine bU (p:=!true||!true) (ce':=c) (kI (bt (bO (bI (ws:=[]) (ao rfl) G.i rfl aB rfl e1) (ao rfl) q1)) (fun _=>bt (bO (bI (ws:=[]) (ao rfl) G.i rfl aB rfl e2) (gB aB (zero_le _)) q2))) (fun z=>by cases z) (fun _=>cy ?_);refine kX (zs:=[W.non,.int 0,.int ((b.length:Int)-1)]) (en:=fun x=>x) (c1:=c) (jQ (xs:=[W.non,.int 0,.int ((b.length:Int)-1)]) (gB (ay aN (ay aN (ay (ck (x:=nW b.length) (ao rfl) aN rfl) aB))) z3))
  (fun d sl c'=>∃x6,sl=[some (.cel 0),some (nW b.length),some (.cel 4),some (.str due),some (.lst (g.past.map wS)),some (.int (hnd h g.done.length)),x6]/\c'=c) ⟨_,rfl,rfl⟩ ?_ ?_
 ·rintro d x r sl c' _ _ ⟨x6,rfl,rfl⟩;unfold zb;refine aY ?_;refine gC (p:=!true) (ce':=c') (gE (bt (cE (ws:=[.cel 0,x]) (ay (ao rfl) (ay (ao rfl) aB)) rfl (BR fu G O he x)))) (fun z=>by cases z) (fun _=>kc ?_);exact⟨_,rfl,rfl⟩
 ·rintro sl c' ⟨x6,rfl,rfl⟩;have q3:bD true c' (.lst (g.past.map wS)) (.lst (g.past.map wS))=some (.bl (!true)):=ka (v:=.lst (g.past.map wS)) rfl rfl (FL 6 _) true;have q4:bD true c' (.lst (g.done.map oW)) (.cel 4)=some (.bl (!true)):=ka (v:=.lst (g.done.map oW)) rfl (by simp only[fh,hd]) (sv 7 _) true;have q5:bD true c' (.int (hnd h g.done.length)) (.int (hnd h g.done.length))=some (.bl (!true)):=ka (v:=.int (hnd h g.done.length)) rfl rfl rfl true;refine bU (p:=!true||(!true||!true)) (ce':=c') (kI (bt (bO (bI (ws:=[]) (ao rfl) G.i rfl aB rfl (pG fu G O)) (ao rfl) q3)) (fun _=>kI (bt (bO (bI (ws:=[]) (ao rfl) G.i rfl aB rfl (sx fu G O)) (ao rfl) q4)) (fun _=>bt (bO (bI (ws:=[]) (ao rfl) G.i rfl aB rfl (jx fu G)) (ao rfl) q5)))) (fun z=>by cases z) (fun _=>cy ?_);have fb:d_t fu [.cel 0] c'=some (.ok .non (a_ c' 0 g0)):=Et (n:=n) fu (by rw[<- eg];exact G);have G0:=G.put g0;have hd0:(a_ c' 0 g0)[4]?=some (.lst (g.done.map oW)):=(lY (by omega) (by omega) (by omega)).trans hd;have k1:=sk c' 0 g0;have l1:(a_ c' 0 g0).length=c'.length:=kU;generalize a_ c' 0 g0=c1 at fb G0 hd0 k1 l1;have en:g.done.length=g0.done.length+1:=by rw[eg];simp[push]
  have ed:g.done.map oW=g0.done.map oW++[oW w]:=by rw[eg];simp[push]
  refine bU (p:=!(!ended g0)) (ce':=c1) (vX (bt (cM (bI (ws:=[]) (ao rfl) G.i rfl aB rfl fb) rfl)) (bt (cM (bI (ws:=[]) (ao rfl) G0.i rfl aB rfl (iQ fu G0 O0)) (by simp only[cG,jy])))) (fun z=>by rw[he0] at z;cases z) (fun _=>cy ?_);have q6:eQ (.int (hnd h g0.done.length)) (.int (3-hnd h g.done.length))=some (.bl true):=by rw[en,qp,kR rfl rfl,decide_eq_true (by omega)]
  have sl1:=lZ (sl:=[some (.cel 0),some (nW b.length),some (.cel 4),some (.str due),some (.lst (g.past.map wS)),some (.int (hnd h g.done.length)),x6]) (ce:=c1) (a:=ae 2) (dl:=eM) (lo:=none) (dh:=dm (bR fH (dC (.int 1)))) (hi:=some (-1)) (xs:=g.done.map oW) (ao rfl) rfl (jr (cM aN rfl)) (eX hd0) (by rw[length_map];omega);rw[ed,sg] at sl1;have q7:bD false c1 (.lst (g0.done.map oW)) (.lst (g0.done.map oW))=some (.bl (!false)):=ka (v:=.lst (g0.done.map oW)) rfl rfl (sv 7 _) false;exact bP (w:=.bl true) (ce':=c1) (oA (ck (bI (ws:=[]) (ao rfl) G0.i rfl aB rfl (jx fu G0)) (ck (x:=.int 3) aN (ao rfl) rfl) q6) (bO (bI (ws:=[]) (ao rfl) G0.i rfl aB rfl (sx fu G0 O0)) sl1 q7)) (jt (vF k1 l1 (by simp only[aU])))
def cZ(s:Bool)(g:Gm)(m:Nat):List Int×Int:=(g.past.getD m [],((m % 2:Nat):Int)*(if s then 0 else 1))
def uy(s:Bool)(g:Gm):Prop:=∀k,0<k->k<g.past.length->g.done.getD (k-1) none≠none->∀m,m<k->cZ s g m≠cZ s g k
theorem BP{m:Nat}(e:m % 2=n % 2):hnd h m=hnd h n:=by unfold hnd;rw[e]
theorem ux(N:bF b)(S:bq b is0)(h12:h=1\/h=2)(Z:Cn b s h is0 g):uy s g:=by
 induction Z with
 | zero=>intro k h0 hk;simp[lg] at hk;omega
 | @step g g' w Z D ih =>
  have O:=Z.ok N S h12;have n1:=O.n1;obtain⟨is,n,eg⟩:=D.psh;intro k h0 hk hd m hm;rw[eg] at hk hd ⊢;have ep:∀i,i<g.past.length->(push g is w n).past.getD i []=g.past.getD i []:=fun i hi=>by simp only[push];rw[yP hi]
  have el:(push g is w n).past.length=g.past.length+1:=by simp[push]
  by_cases q:k<g.past.length
  ·have e1:∀i,i<g.past.length->cZ s (push g is w n) i=cZ s g i:=fun i hi=>by unfold cZ;rw[ep i hi]
   rw[e1 m (by omega),e1 k q];refine ih k h0 q ?_ m hm;simp only[push] at hd;rwa [yP (by omega)] at hd
  ·have ek:k=g.past.length:=by omega
   subst ek;have ew:(push g is w n).done.getD (g.past.length-1) none=w:=by simp only[push];rw[sG (by omega)]
   rw[ew] at hd;cases w with
   | none=>exact absurd rfl hd
   | some p =>
    obtain⟨_,_,_,_,hc,eg2⟩:=D;have ei:is=lS b (cur g) (hnd h g.done.length) p:=by have:=eg.symm.trans eg2;simp only[push,Gm.mk.injEq] at this;have:=append_inj_right' this.1 rfl;simpa using this
    intro e;unfold cZ at e;rw[ep m hm] at e;have e1:g.past.getD m []=is:=by have:=congrArg Prod.fst e;simp only[push] at this;rwa [sG rfl] at this
    have e2:=congrArg Prod.snd e;dsimp only at e2;unfold eJ at hc;have:=find?_eq_none.mp hc m (mem_range.mpr hm);apply this;rw[<- ei,e1,decide_eq_true rfl,Bool.true_and];unfold bar;cases s with
    | true=>rfl
    | false =>
     simp only[false_eq_true,if_false,mul_one] at e2;rw[Bool.false_or,decide_eq_true_iff,<- qp];exact BP (by omega)
theorem vE(fu:Nat)(O:cQ b g)(R:uy s g)(hd:c[4]?=some (.lst (g.done.map oW))):d_y fu [.lst (g.past.map wS),.cel 4,.str (rl s)] c=some (.ok (.bl true) c):=by
 have hz:(2000:Nat)<sizeLine:=by decide
 have z2:2<=sizeLine:=by decide
 have lim:=O.lim;have n1:=O.n1;have h4:=fc hd;unfold d_y;refine dj [some (.lst (g.past.map wS)),some (.cel 4),some (.str (rl s)),none,none,none] rfl ?_;refine bu (w:=.cel c.length) (ce':=c++[.ndt []]) Dk ?_;refine aY ?_;have el:b_ [.lst (g.past.map wS)] (c++[.ndt []])=some (.ok (nW g.past.length) (c++[.ndt []])):=by simp[b_,fi,bV];rfl
 refine kX (zs:=List.range g.past.length) (en:=nW) (c1:=c++[.ndt []]) (gW (n:=g.past.length) (ay (dO (ws:=[.lst (g.past.map wS)]) (ay (ao rfl) aB) el) aB) (by omega))
  (fun d sl c'=>∃x4 x5 ks,sl=[some (.lst (g.past.map wS)),some (.cel 4),some (.str (rl s)),some (.cel c.length),x4,x5]/\c'=c++[.ndt ks]/\ks.length<=d.length/\∀p,p∈ks↔∃m,m<d.length/\cZ s g m=p)
  ⟨_,_,[],rfl,rfl,le_refl _,fun p=>⟨fun q=>(nomatch q),fun⟨m,q,_⟩=>absurd q (not_lt_zero m)⟩⟩ ?_ ?_
 ·rintro d i r sl c' e hm ⟨x4,x5,ks,rfl,rfl,kl,km⟩;have hi:=mem_range.mp hm;have di:i=d.length:=by have:=congrArg (fun l=>l[d.length]?) e;simp only[getElem?_append_right (le_refl _),sub_self,getElem?_cons_zero] at this;rw[getElem?_range (by have:=congrArg List.length e;rw[length_append,length_range] at this;simp at this;omega)] at this;exact Option.some.inj this
  subst di;have at1:∀ks:List (List Int×Int),(c++[C.ndt ks])[c.length]?=some (.ndt ks):=fun ks=>j4 _ _;have at4:∀ks:List (List Int×Int),(c++[C.ndt ks])[4]?=some (.lst (g.done.map oW)):=fun ks=>by rw[getElem?_append_left h4];exact hd
  have i1:=BV (c:=c++[.ndt ks]) (ps:=g.past) hi;have em:bG (nW d.length) (.int 2)=some (.int ((d.length % 2:Nat):Int)):=by rw[show(nW d.length:W)=.int (d.length:Int) from rfl,hX (by omega)];congr 2
  have et:bD false (c++[.ndt ks]) (.str (rl s)) (.str "turns")=some (.bl (!s)):=by cases s<;>rfl
  have ei:nR [.bl (!s)] (c++[.ndt ks])=some (.ok (.int (if s then 0 else 1)) (c++[.ndt ks])):=by cases s<;>rfl
  have mu:d_ ((d.length % 2:Nat):Int) (if s then 0 else 1):=.inl (by cases s<;>simp<;>omega);have ef:=rp (x:=.int ((d.length % 2:Nat):Int)) (y:=.int (if s then 0 else 1)) rfl rfl mu;unfold yz;refine aY ?_;refine bu (w:=.tup [wS (cZ s g d.length).1,.int (cZ s g d.length).2]) (ce':=c++[.ndt ks]) (jY (ay (bO (ao rfl) (ao rfl) i1) (ay (ck (ck (ao rfl) aN em) (dO (ws:=[.bl (!s)]) (ay (bO (ao rfl) aN et) aB) ei) ef) aB)) z2) ?_;refine aY ?_;have pk:=zv (cZ s g d.length).1 (cZ s g d.length).2;have ce1:=AL (at1 ks);have hin:kx (c++[.ndt ks]) (.tup [wS (cZ s g d.length).1,.int (cZ s g d.length).2]) (.cel c.length)=some (.bl (decide (cZ s g d.length∈ks))):=by unfold kx;rw[show ke (.tup [wS (cZ s g d.length).1,.int (cZ s g d.length).2])=some (cZ s g d.length) from pk,ce1]
  have cond:∃p,gb (dB (aE gq (ae 4) (dC (.int 0)))) (gb (dB (bR cG (aI aJ (ae 1) (aE eD (ae 4) (dC (.int 1)))))) (dB (aI kx (ae 5) (ae 3)))) [some (.lst (g.past.map wS)),some (.cel 4),some (.str (rl s)),some (.cel c.length),some (nW d.length),some (.tup [wS (cZ s g d.length).1,.int (cZ s g d.length).2])] (c++[.ndt ks])=some (.ok p (c++[.ndt ks]))/\p=false:=by
   by_cases d0:d.length=0
   ·refine⟨_,me (p:=decide ((d.length:Int)>0)) (q:=false) (bt (ck (x:=nW d.length) (ao rfl) aN rfl)) (fun z=>absurd (of_decide_eq_true z) (by omega)),?_⟩;rw[Bool.and_false]
   ·have ix:aJ (c++[.ndt ks]) (.cel 4) (nW (d.length-1))=some (oW (g.done.getD (d.length-1) none)):=by rw[ji (j5 (at4 ks)),getElem?_map,getElem?_eq_getElem (by omega),getD_eq_getElem?_getD,getElem?_eq_getElem (by omega)];rfl
    have es:eD (nW d.length) (.int 1)=some (nW (d.length-1)):=by show some (W.int ((d.length:Int)-1))=some (W.int ((d.length-1:Nat):Int));congr 2;omega
    refine⟨_,me (p:=decide ((d.length:Int)>0)) (bt (ck (x:=nW d.length) (ao rfl) aN rfl)) (fun _=>me (p:=!c5 (oW (g.done.getD (d.length-1) none))) (bt (cM (bO (ao rfl) (ck (ao rfl) aN es) ix) rfl)) (fun _=>bt (bO (ao rfl) (ao rfl) hin))),?_⟩;rw[and_eq_false_iff];refine .inr ?_;cases hw:g.done.getD (d.length-1) none with
    | none=>rfl
    | some m =>
     have:cZ s g d.length∉ks:=fun q=>by
      obtain⟨m,hm,e⟩:=(km _).mp q;exact R d.length (by omega) hi (by rw[hw];simp) m hm e
     rw[decide_eq_false this,Bool.and_false]
  obtain⟨p,cond,rfl⟩:=cond;refine bU (p:=false) (ce':=c++[.ndt ks]) cond (fun z=>by cases z) (fun _=>cy ?_);have pt:=B2 (sl:=[some (.lst (g.past.map wS)),some (.cel 4),some (.str (rl s)),some (.cel c.length),some (nW d.length),some (.tup [wS (cZ s g d.length).1,.int (cZ s g d.length).2])]) (ce:=c++[.ndt ks]) (o:=ae 3) (i:=ae 5) (v:=dC (.bl true)) (iw:=.tup [wS (cZ s g d.length).1,.int (cZ s g d.length).2]) aN (ao rfl) (ao rfl) pk ce1 (by omega);rw[show(c++[C.ndt ks]).set c.length (.ndt (iD ks (cZ s g d.length)))=c++[.ndt (iD ks (cZ s g d.length))] by rw[uO];rfl] at pt;refine⟨_,pt,_,_,iD ks (cZ s g d.length),rfl,rfl,?_,fun p=>?_⟩
  ·unfold iD;rw[length_append];simp only[length_cons,length_nil];split
   ·omega
   ·rw[length_append];simp only[length_cons,length_nil];omega
  ·rw[length_append];simp only[length_cons,length_nil];have key:p∈iD ks (cZ s g d.length)↔p∈ks\/p=cZ s g d.length:=by
    unfold iD;split
    ·rename_i hin';exact⟨.inl,fun z=>z.elim id fun e=>by rw[e];exact hin'⟩
    ·rw[mem_append,mem_singleton]
   rw[key,km];constructor
   ·rintro(⟨m,hm,e⟩|e)
    ·exact⟨m,by omega,e⟩
    ·exact⟨d.length,by omega,e.symm⟩
   ·rintro⟨m,hm,e⟩
    by_cases q:m<d.length
    ·exact .inl ⟨m,q,e⟩
    ·exact .inr (by rw[<- e,show m=d.length by omega])
 ·rintro sl c' ⟨x4,x5,ks,rfl,rfl,_,_⟩;exact bP (w:=.bl true) (ce':=c++[.ndt ks]) aN (jt (mr (by simp only[aU])))
end
section
variable {l:Ce} {s:Bool} {h:Int} {g g0:Gm} {w:Option Nat} {is is0:List Int}
def i9(b:List (List Nat)):List Int:=b.map fun _=>0
structure St (c:Ce) (b:List (List Nat)) (s:Bool) (h:Int) (g:Gm):Prop where
 gc:GC c 0 b s h g
 ds:c[4]?=some (.lst (g.done.map oW))
 len:c.length=5
 cn:Cn b s h (i9 b) g
theorem Cn.last(Z:Cn b s h is0 g)(h0:0<g.done.length):∃g0 w is n,Cn b s h is0 g0/\bN b s h g0 w g/\g=push g0 is w n:=by
 cases Z with
 | zero=>simp[lg] at h0
 | step Z D =>
  obtain⟨is,n,e⟩:=D.psh;exact⟨_,_,is,n,Z,D,e⟩
theorem St.set(T:St c b s h g)(Z:Cn b s h (i9 b) g'):St ((a_ c 0 g').set 4 (.lst (g'.done.map oW))) b s h g':=by have l5:=T.len;have G1:=T.gc.put g';have ne:∀{i:Nat},i≠4->((a_ c 0 g').set 4 (.lst (g'.done.map oW)))[i]?=(a_ c 0 g')[i]?:=fun hi=>getElem?_set_ne (Ne.symm hi);exact⟨⟨(ne (by omega)).trans G1.i,(ne (by omega)).trans G1.p,(ne (by omega)).trans G1.d,(ne (by omega)).trans G1.t⟩,by rw[getElem?_set_self (by rw[kU];omega)],by rw[length_set,kU];exact l5,Z⟩
theorem BO{a:Sl->M W}{x:W}(ha:a sl ce=some (.ok x c1))(hl:dl sl c1=some (.ok lo c2))(hh:dh sl c2=some (.ok hi c3))(hx:bV c3 x=some xs)(hz:(fF xs lo hi).length<=sizeLine):dX eR a dl dh sl ce=some (.ok (.cel c3.length) (c3++[.lst (fF xs lo hi)])):=by simp only[dX,au,ha,hl,hh,nI,hx];exact ma hz
theorem xa(fu:Nat)(hfu:200<=fu)(N:bF b){x3:W}{n:Nat}{x6:Option W}{tl:DS}{Q:VS.O->Prop}(q:∀c,St c b s h (lg (i9 b))->Run tl [some (wB b),some (.str (rl s)),some (.int h),some x3,some (.cel 0),some (.cel 4),x6,x7,x8] c Q) :
  Run (aq (aQ 4 (lM "Game" 5 (d_e fu) (ah (ae 0) (ah (ae 1) (ah (bB fk (ah (cL bc [] (iq (ae 0)) de (dC (.int 0))) ai)) (ah (ae 2) ai)))))) (aq (aQ 5 (dP ai)) tl)) [some (wB b),some (.str (rl s)),some (.int h),some x3,none,none,x6,x7,x8] [] Q:=by
 have hz:=fw;have B:=N.B;have h36:=B.h36;have S:=ja b;have hbz:b.length<=sizeLine:=by omega
 have gi:d_e fu [.cel 0,wB b,.str (rl s),wS (i9 b),.int h] ([]++[C.ins "Game" []])=some (.ok .non ([]++my b s h 0 (i9 b))):=BW (c:=[]) fu (fun c=>A_ fu S.hl B.h36 S.v c) (fun c=>BY fu hfu N S c);refine bu (w:=.cel 0) (ce':=my b s h 0 (i9 b)) (C0 (ws:=[wB b,.str (rl s),wS (i9 b),.int h]) (c1:=[]) (ay (ao rfl) (ay (ao rfl) (ay (dO (ay (uZ (zs:=b) (en:=wT) (f:=fun _=>0) (n5 (ao rfl)).is hbz (fun x hx=>aN)) aB) (uW (by rw[length_map];exact hbz))) (ay (ao rfl) aB)))) rfl gi) ?_;refine aY ?_;refine bu (w:=.cel 4) (ce':=my b s h 0 (i9 b)++[.lst []]) (iT aB (zero_le _)) ?_;refine aY ?_;exact q _ ⟨(Ii [] (i9 b)).app _,rfl,rfl,.zero⟩
theorem lB(c:Ce)(p:Bool):finC [] c (.bl p)=some (.ok (.bl p) []):=mr (ce:=[]) (l:=c) (by simp only[aU])
theorem E2(fu:Nat)(hfu:200<=fu)(N:bF b)(h12:h=1\/h=2){xs:List Int}(xl:xs.length=64)(T:St c b s h g)(i:Nat)(hi:i<300)(hd:g.done.length=i) :
  Run (tG fu) [some (wB b),some (.str (rl s)),some (.int h),some (sW xs),some (.cel 0),some (.cel 4),some (nW i),x7,x8] c
   (NR (fun sl c=>∃x6 x7 x8 g,sl=[some (wB b),some (.str (rl s)),some (.int h),some (sW xs),some (.cel 0),some (.cel 4),x6,x7,x8]/\St c b s h g/\g.done.length=i+1) (fun w c'=>finC [] c' w=some (.ok (.bl true) []))):=by
 have hz:(2000:Nat)<sizeLine:=by decide
 have O:=T.cn.ok N (ja b) h12;unfold tG;refine bU (p:=!(!ended g)) (ce':=c) (bt (cM (bI (ws:=[]) (ao rfl) T.gc.i rfl aB rfl (iQ fu T.gc O)) (by simp only[cG,jy]))) (fun _=>?_) (fun z=>cy ?_)
 ·exact ju (bP (w:=.bl true) (ce':=c) (cE (ws:=[.lst (g.past.map wS),.cel 4,.str (rl s)]) (ay (bI (ws:=[]) (ao rfl) T.gc.i rfl aB rfl (pG fu T.gc O)) (ay (ao rfl) (ay (ao rfl) aB))) rfl (vE fu O (ux N (ja b) h12 T.cn) T.ds)) (lB _ _))
 ·have he:ended g=false:=by simpa using z
  have im:=mod_lt i (show 60>0 by omega);have em:bG (nW i) (.int 60)=some (nW (i % 60)):=by rw[show(nW i:W)=.int (i:Int) from rfl,hX (by omega)];rfl
  have ea:cK (.int 3) (nW (i % 60))=some (nW (3+i % 60)):=by show some (W.int (3+((i % 60:Nat):Int)))=some (W.int ((3+i % 60:Nat):Int));congr 2
  have ix:=kF (ns:=xs) (p:=3+i % 60) (by omega) c (i:=((3+i % 60:Nat):Int)) rfl;have ml:=rp (x:=.int 5) (y:=nW i) rfl rfl (show d_ 5 (i:Int) from .inl (by omega));obtain⟨r,c1,f,hr⟩:=BQ fu hfu N T.gc O h12 (xs.getD (3+i % 60) 0+5*(i:Int));refine bu (w:=oW r) (ce':=c1) (cE (ws:=[.cel 0,nW b.length,.int (xs.getD (3+i % 60) 0+5*(i:Int))]) (ay (ao rfl) (ay (dO (ws:=[wB b]) (ay (ao rfl) aB) nk) (ay (ck (x:=.int (xs.getD (3+i % 60) 0)) (y:=.int (5*(i:Int))) (bO (ao rfl) (ck (x:=.int 3) aN (ck (ao rfl) aN em) ea) ix) (ck (x:=.int 5) aN (ao rfl) ml) rfl) aB))) rfl f) ?_;refine aY ?_;rcases hr with ⟨rfl,rfl⟩|⟨p,g',rfl,D,rfl⟩
  ·refine gC (p:=true) (ce':=c1) (bt (cM (ao rfl) rfl)) (fun _=>?_) (fun z=>by cases z);have f2:=su fu T.gc O he (j:=4) (by omega) T.ds (by omega);have D:bN b s h g none (push g (cur g) none 0):=⟨he,rfl⟩
   have T2:=T.set (T.cn.step D);refine gC (p:=!true) (gE (bt (cE (ws:=[.cel 0,.cel 4]) (ay (ao rfl) (ay (ao rfl) aB)) rfl f2))) (fun z=>by cases z) (fun _=>kc ?_);exact⟨_,_,_,push g (cur g) none 0,rfl,T2,by simp[push,hd]⟩
  ·have dd:=D.done;have d1:(a_ c 0 g')[4]?=some (.lst (g.done.map oW)):=(lY (by omega) (by omega) (by omega)).trans T.ds;have a1:=jo (y:=nW p) d1 (by rw[length_map];omega);rw[show g.done.map oW++[nW p]=g'.done.map oW by rw[dd,map_append];rfl] at a1;refine gC (p:=false) (ce':=a_ c 0 g') (bt (cM (ao rfl) rfl)) (fun z=>by cases z) (fun _=>?_);refine j2 (gS (ws:=[nW p]) (ao rfl) (eX d1) (ay (ao rfl) aB) a1) ?_;exact⟨_,_,_,g',rfl,T.set (T.cn.step D),by rw[dd,length_append,hd];rfl⟩
theorem BN(fu:Nat)(hfu:200<=fu)(N:bF b)(h12:h=1\/h=2){xs:List Int}(xl:xs.length=64):d_v fu [wB b,.str (rl s),.int h,sW xs] []=some (.ok (.bl true) []):=by
 have hz:(2000:Nat)<sizeLine:=by decide
 have z2:2<=sizeLine:=by decide
 unfold d_v;refine dj [some (wB b),some (.str (rl s)),some (.int h),some (sW xs),none,none,none,none,none] rfl ?_;refine xa (n:=0) fu hfu N fun c0 T0=>?_;refine pC (zs:=List.range 300) (en:=nW) (c1:=c0) (gW (n:=300) (ay aN aB) (by omega))
  (fun d sl c=>∃x6 x7 x8 g,sl=[some (wB b),some (.str (rl s)),some (.int h),some (sW xs),some (.cel 0),some (.cel 4),x6,x7,x8]/\St c b s h g/\g.done.length=d.length)
  (fun w c'=>finC [] c' w=some (.ok (.bl true) []))
  ⟨_,_,_,_,rfl,T0,rfl⟩ ?_ (fun w sl c' h=>h) ?_
 ·rintro d i r sl c e hm ⟨x6,x7,x8,g,rfl,T,hd⟩;have di:i=d.length:=by have:=congrArg (fun l=>l[d.length]?) e;simp only[getElem?_append_right (le_refl _),sub_self,getElem?_cons_zero] at this;rw[getElem?_range (by have:=congrArg List.length e;rw[length_append,length_range] at this;simp at this;omega)] at this;exact Option.some.inj this
  refine aY ?_;have:=E2 (x7:=x7) (x8:=x8) fu hfu N h12 xl T i (mem_range.mp hm) (by rw[hd,di]);rw[di] at this ⊢;rw[show(d++[d.length]).length=d.length+1 by simp];exact this
 ·rintro sl c ⟨x6,x7,x8,g,rfl,T,hd⟩;rw[length_range] at hd;have O:=T.cn.ok N (ja b) h12;have R:=ux N (ja b) h12 T.cn;have fn:=vE fu O R T.ds;have el:b_ [.cel 4] c=some (.ok (nW 300) c):=by simp only[b_,j5 T.ds,length_map,hd];rfl
  refine bU (p:=false||!true) (ce':=c) (kI (bt (ck (x:=nW 300) (dO (ws:=[.cel 4]) (ay (ao rfl) aB) el) aN rfl)) (fun _=>gE (bt (cE (ws:=[.lst (g.past.map wS),.cel 4,.str (rl s)]) (ay (bI (ws:=[]) (ao rfl) T.gc.i rfl aB rfl (pG fu T.gc O)) (ay (ao rfl) (ay (ao rfl) aB))) rfl fn)))) (fun z=>by cases z) (fun _=>cy ?_);refine bu (w:=.str "long") (ce':=c) aN ?_;refine aY ?_;have sl1:=u7 (sl:=[some (wB b),some (.str (rl s)),some (.int h),some (sW xs),some (.cel 0),some (.cel 4),x6,x7,some (.str "long")]) (ce:=c) (a:=ae 5) (n:=298) (i:=298) (xs:=g.done.map oW) (ao rfl) (eX T.ds) rfl (by rw[length_map];omega) (by rw[length_map];omega);rw[<- map_drop] at sl1;have q1:=qo (c:=c) (l:=g.done.drop 298) (by rw[length_drop];omega);have ep:passed g=decide (g.done.drop 298=[none,none]):=by unfold passed;rw[hd]
  obtain⟨g0,w,is,n,Z0,D0,eg⟩:=T.cn.last (by omega);have he:ended g=true:=by unfold ended;rw[hd];simp
  have he0:=D0.1;have O0:=Z0.ok N (ja b) h12;have l0:g0.done.length=299:=by have:=congrArg (fun g=>g.done.length) eg;simp[push] at this;omega
  have rest:∀due:PySem.Str,fj g=.str due->Run (aq (bh (eE (dB (aV 4 (d_c fu) (ah (ae 4) (ah (bB b_ (ah (ae 0) ai)) (ah (ae 5) (ah (ae 8) ai))))))) (aT (dC (.bl false))) bz)
    (aT (iG (aV 2 (d_j fu) (ah (ae 4) (ah (dX eR (ae 5) eM (dm (bR fH (dC (.int 1))))) ai))) (bR cG (bj "Game" "ended" 1 (d_r fu) (ae 4) ai)))))
    [some (wB b),some (.str (rl s)),some (.int h),some (sW xs),some (.cel 0),some (.cel 4),x6,x7,some (.str due)] c (Rt fun w c'=>finC [] c' w=some (.ok (.bl true) [])):=fun due hdue=>by
   have f3:=vW fu hfu N h12 eg T.gc O O0 he he0 T.ds hdue;have G0:=T.gc.put g0;have hd0:(a_ c 0 g0)[4]?=some (.lst (g.done.map oW)):=(lY (by omega) (by omega) (by omega)).trans T.ds;have l1:(a_ c 0 g0).length=5:=by rw[kU,T.len]
   refine bU (p:=!true) (ce':=a_ c 0 g0) (gE (bt (cE (ws:=[.cel 0,nW b.length,.cel 4,.str due]) (ay (ao rfl) (ay (dO (ws:=[wB b]) (ay (ao rfl) aB) nk) (ay (ao rfl) (ay (ao rfl) aB)))) rfl f3))) (fun z=>by cases z) (fun _=>cy ?_);generalize a_ c 0 g0=c1 at G0 hd0 l1;have ed:g.done.map oW=g0.done.map oW++[oW w]:=by rw[eg];simp[push]
   have sl2:=BO (sl:=[some (wB b),some (.str (rl s)),some (.int h),some (sW xs),some (.cel 0),some (.cel 4),x6,x7,some (.str due)]) (ce:=c1) (a:=ae 5) (dl:=eM) (lo:=none) (dh:=dm (bR fH (dC (.int 1)))) (hi:=some (-1)) (xs:=g.done.map oW) (ao rfl) rfl (jr (cM aN rfl)) (eX hd0) (by rw[ed,sg,length_map];omega);rw[ed,sg,l1] at sl2;have G1:=G0.app [.lst (g0.done.map oW)];have at5:(c1++[C.lst (g0.done.map oW)])[5]?=some (.lst (g0.done.map oW)):=by rw[<- l1];exact j4 _ _
   have f4:=su fu G1 O0 he0 (j:=5) (by omega) at5 (by omega);have O1:cQ b (push g0 (cur g0) none 0):=o3 O0 he0 O0.cur none 0;have G2:=G1.put (push g0 (cur g0) none 0);have ne:∀{i:Nat} {x:C},i≠5->((a_ (c1++[.lst (g0.done.map oW)]) 0 (push g0 (cur g0) none 0)).set 5 x)[i]?=(a_ (c1++[.lst (g0.done.map oW)]) 0 (push g0 (cur g0) none 0))[i]?:=fun hi=>getElem?_set_ne (Ne.symm hi);have G3:GC ((a_ (c1++[.lst (g0.done.map oW)]) 0 (push g0 (cur g0) none 0)).set 5 (.lst ((g0.done++[none]).map oW))) 0 b s h (push g0 (cur g0) none 0):=⟨(ne (by omega)).trans G2.i,(ne (by omega)).trans G2.p,(ne (by omega)).trans G2.d,(ne (by omega)).trans G2.t⟩
   generalize (a_ (c1++[.lst (g0.done.map oW)]) 0 (push g0 (cur g0) none 0)).set 5 (.lst ((g0.done++[none]).map oW))=c2 at f4 G3;have e1:ended (push g0 (cur g0) none 0)=true:=by unfold ended;simp[push,l0]
   have e2:=iQ fu G3 O1;exact bP (w:=.bl true) (ce':=c2) (oA (cE (ws:=[.cel 0,.cel 5]) (ay (ao rfl) (ay sl2 aB)) rfl f4) (cM (bI (ws:=[]) (ao rfl) G3.i rfl aB rfl e2) (by simp only[cG,jy,e1];rfl))) (jt (lB _ _))
  refine bU (p:=decide (g.done.drop 298=[none,none])) (ce':=c) (bt (bO sl1 (gB (ws:=[.non,.non]) (ay aN (ay aN aB)) z2) q1)) (fun z=>?_) (fun z=>cy ?_)
  ·refine bu (w:=.str "passed") (ce':=c) aN ?_;refine aY ?_;exact rest "passed" (by unfold fj;rw[if_pos (ep.trans z)])
  ·exact rest "long" (by unfold fj;rw[if_neg (by rw[ep,z];simp),if_pos (by omega)])
end
theorem Er{xs:List Int}{v i j e:Int}{d3:Sl->M W}(h0:sl[0]?=some (some (sW ns)))(h1:sl[1]?=some (some (sW xs)))(hn:ns.length<=63)(hx:xs.length<=1000)(hh:dh sl ce=some (.ok hi ce))(h3:d3 sl ce=some (.ok (.int v) ce)) :
  ∃cs:List Int,dX bc (je bc (dX bc (ae 0) (dm (dC (.int i))) (dm (dC (.int j)))) (dX bc (ae 1) (dm (dC (.int e))) dh)) eM (dm d3) sl ce=some (.ok (sW cs) ce)/\cs.length<=ns.length+xs.length:=by
 have hz:3000<sizeLine:=by decide
 obtain⟨a,e1,l1,_⟩:=sr ns (some i) (some j);obtain⟨b,e2,l2,_⟩:=sr xs (some e) hi;have v0:ae 0 sl ce=some (.ok (sW ns) ce):=ao h0;have v1:ae 1 sl ce=some (.ok (sW xs) ce):=ao h1;have s1:dX bc (ae 0) (dm (dC (.int i))) (dm (dC (.int j))) sl ce=some (.ok (sW a) ce):=by have:=lZ (sl:=sl) (ce:=ce) (a:=ae 0) (xs:=ns.map W.int) v0 (jr (aN (w:=.int i))) (jr (aN (w:=.int j))) rfl (by rw[length_map];omega);rw[e1] at this;exact this
 have s2:dX bc (ae 1) (dm (dC (.int e))) dh sl ce=some (.ok (sW b) ce):=by have:=lZ (sl:=sl) (ce:=ce) (a:=ae 1) (xs:=xs.map W.int) (dh:=dh) (hi:=hi) v1 (jr (aN (w:=.int e))) hh rfl (by rw[length_map];omega);rw[e2] at this;exact this
 have s3:=rM s1 s2 (xs:=a.map W.int) (ys:=b.map W.int) rfl rfl (by rw[length_map,length_map];omega);rw[<- map_append] at s3;obtain⟨cs,e3,l3,_⟩:=sr (a++b) none (some v);refine⟨cs,?_,by rw[length_append] at l3;omega⟩;have:=lZ (dl:=eM) (lo:=none) s3 rfl (jr h3) (xs:=(a++b).map W.int) rfl (by rw[length_map,length_append];omega);rw[e3] at this;exact this
section
variable {l:Ce} {s:Bool} {h:Int} {g g0:Gm} {w:Option Nat} {is is0:List Int}
theorem BM:fF xs (some (-2)) none=xs.drop (xs.length-2):=by
 unfold fF;have e:HT.sIx xs.length 0 (some (-2))=xs.length-2:=by show(if (-2:Int)<0 then ((-2:Int)+(xs.length:Int)).toNat else min (-2:Int).toNat xs.length)=_;rw[if_pos (by omega)];omega
 rw[HT.sIx_none,e,take_of_length_le (by rw[length_drop];omega)]
theorem Gd(fu:Nat)(hfu:200<=fu)(N:bF b)(h12:h=1\/h=2)(T:St c b s h g)(t:Int)(hd:g.done.length<290) :
  Run (tm fu) [some (wB b),some (.str (rl s)),some (.int h),some (sW cs),some (.cel 0),some (.cel 4),some (.int t),x7,x8] c
   (NR (fun sl c=>∃x6 x7 x8 g',sl=[some (wB b),some (.str (rl s)),some (.int h),some (sW cs),some (.cel 0),some (.cel 4),x6,x7,x8]/\St c b s h g'/\g'.done.length=g.done.length+1) (fun w c'=>finC [] c' w=some (.ok (.bl true) []))):=by
 have hz:(2000:Nat)<sizeLine:=by decide
 have z2:2<=sizeLine:=by decide
 have O:=T.cn.ok N (ja b) h12;have sl1:=lZ (sl:=[some (wB b),some (.str (rl s)),some (.int h),some (sW cs),some (.cel 0),some (.cel 4),some (.int t),x7,x8]) (ce:=c) (a:=ae 5) (dl:=dm (bR fH (dC (.int 2)))) (lo:=some (-2)) (dh:=eM) (hi:=none) (xs:=g.done.map oW) (ao rfl) (jr (cM aN rfl)) rfl (eX T.ds) (by rw[length_map];omega);rw[BM,length_map,<- map_drop] at sl1;have q1:=qo (c:=c) (l:=g.done.drop (g.done.length-2)) (by rw[length_drop];omega);unfold tm;refine bU (p:=decide (g.done.drop (g.done.length-2)=[none,none])) (ce':=c) (bt (bO sl1 (gB (ws:=[.non,.non]) (ay aN (ay aN aB)) z2) q1)) (fun z=>?_) (fun z=>cy ?_)
 ·have hp:passed g=true:=z;have he:ended g=true:=by unfold ended;rw[hp];rfl
  have h0:0<g.done.length:=by have:=congrArg List.length (of_decide_eq_true z);rw[length_drop] at this;simp only[length_cons,length_nil] at this;omega
  obtain⟨g0,w,is,n,Z0,D0,eg⟩:=T.cn.last h0;have f3:=vW fu hfu N h12 eg T.gc O (Z0.ok N (ja b) h12) he D0.1 T.ds (due := "passed") (by unfold fj;rw[if_pos hp]);exact ju (bP (w:=.bl true) (ce':=a_ c 0 g0) (cE (ws:=[.cel 0,nW b.length,.cel 4,.str "passed"]) (ay (ao rfl) (ay (dO (ws:=[wB b]) (ay (ao rfl) aB) nk) (ay (ao rfl) (ay aN aB)))) rfl f3) (lB _ _))
 ·have hp:passed g=false:=z;have he:ended g=false:=by unfold ended;rw[hp,Bool.false_or];exact decide_eq_false (by omega)
  refine bU (p:=!(!ended g)) (ce':=c) (bt (cM (bI (ws:=[]) (ao rfl) T.gc.i rfl aB rfl (iQ fu T.gc O)) (by simp only[cG,jy]))) (fun z=>by rw[he] at z;cases z) (fun _=>cy ?_);refine bu (w:=.lst ((cF b s h g).map oW)) (ce':=c) (bI (ws:=[]) (ao rfl) T.gc.i rfl aB rfl (xb fu hfu N T.gc O h12)) ?_;refine aY ?_;have eo:cF b s h g=(jm b s h g).map some++[none]:=by unfold cF;rw[if_neg (by rw[he];simp)]
  have lo:(cF b s h g).length=(jm b s h g).length+1:=by rw[eo];simp
  have el:b_ [.lst ((cF b s h g).map oW)] c=some (.ok (nW (cF b s h g).length) c):=by simp[b_,fi,bV];rfl
  have q2:eQ (nW (cF b s h g).length) (.int 1)=some (.bl (decide (((cF b s h g).length:Int)=1))):=kR rfl rfl;refine gC (p:=decide (t % 2=0)||decide (((cF b s h g).length:Int)=1)) (ce':=c) (kI (bt (ck (x:=.int (t % 2)) (ck (ao rfl) aN (hX (by omega))) aN (kR (i:=t % 2) (j:=0) rfl rfl))) (fun _=>bt (ck (dO (ws:=[.lst ((cF b s h g).map oW)]) (ay (ao rfl) aB) el) aN q2))) (fun _=>?_) (fun q=>?_)
  ·have j1:aJ c (.lst ((cF b s h g).map oW)) (.int (-1))=some .non:=by rw[wG (xs:=(cF b s h g).map oW) rfl (by rw[length_map];omega),eo];simp[oW]
   have f2:=su fu T.gc O he (j:=4) (by omega) T.ds (by omega);have D:bN b s h g none (push g (cur g) none 0):=⟨he,rfl⟩
   have T2:=T.set (T.cn.step D);refine gC (p:=!true) (vX (bt (cM (bO (ao rfl) (cM aN rfl) j1) rfl)) (gE (bt (cE (ws:=[.cel 0,.cel 4]) (ay (ao rfl) (ay (ao rfl) aB)) rfl f2)))) (fun z=>by cases z) (fun _=>kc ?_);exact⟨_,_,_,push g (cur g) none 0,rfl,T2,by simp[push]⟩
  ·rw[or_eq_false_iff] at q;have q2:=of_decide_eq_false q.2;have pos:0<(cF b s h g).length-1:=by omega
   obtain⟨j,hj,ej⟩:=rE (t / 2) pos;have es:eD (nW (cF b s h g).length) (.int 1)=some (nW ((cF b s h g).length-1)):=by show some (W.int (((cF b s h g).length:Int)-1))=some (W.int (((cF b s h g).length-1:Nat):Int));congr 2;omega
   have e2:bG (.int (t / 2)) (nW ((cF b s h g).length-1))=some (nW j):=oK pos ej;have j3:=BU (c:=c) (ds:=cF b s h g) (m:=j) (by omega);have hmem:(cF b s h g).getD j none∈cF b s h g:=by rw[getD_eq_getElem?_getD,getElem?_eq_getElem (by omega)];exact getElem_mem _
   obtain⟨g',D⟩:=gL.mp hmem;generalize (cF b s h g).getD j none=w at j3 D;refine bu (w:=oW w) (ce':=c) (bO (ao rfl) (ck (x:=.int (t / 2)) (ck (ao rfl) aN (rq rfl rfl (by omega))) (ck (dO (ws:=[.lst ((cF b s h g).map oW)]) (ay (ao rfl) aB) el) aN es) e2) j3) ?_;refine aY ?_;rcases wC fu hfu N T.gc O h12 D.lt with ⟨g2,D2,f6⟩|⟨D2,_⟩
   ·obtain rfl:=D.uniq D2;have dd:=D.done;have d1:(a_ c 0 g')[4]?=some (.lst (g.done.map oW)):=(lY (by omega) (by omega) (by omega)).trans T.ds;have a1:=jo (y:=oW w) d1 (by rw[length_map];omega);rw[show g.done.map oW++[oW w]=g'.done.map oW by rw[dd,map_append];rfl] at a1;refine bU (p:=false) (ce':=a_ c 0 g') (bt (cM (bI (ws:=[oW w]) (ao rfl) T.gc.i rfl (ay (ao rfl) aB) rfl f6) rfl)) (fun z=>by cases z) (fun _=>cy ?_);refine j2 (gS (ws:=[oW w]) (ao rfl) (eX d1) (ay (ao rfl) aB) a1) ?_;exact⟨_,_,_,g',rfl,T.set (T.cn.step D),by rw[dd,length_append];rfl⟩
   ·exact absurd D (D2 g')
theorem Ep(fu:Nat)(hfu:200<=fu)(N:bF b)(h12:h=1\/h=2)(cl:cs.length<=200):d_o fu [wB b,.str (rl s),.int h,sW cs] []=some (.ok (.bl true) []):=by
 unfold d_o;refine dj [some (wB b),some (.str (rl s)),some (.int h),some (sW cs),none,none,none,none,none] rfl ?_;refine xa (n:=0) fu hfu N fun c0 T0=>?_;refine pC (zs:=cs) (en:=W.int) (c1:=c0) (jQ (xs:=cs.map W.int) (ao rfl))
  (fun d sl c=>∃x6 x7 x8 g,sl=[some (wB b),some (.str (rl s)),some (.int h),some (sW cs),some (.cel 0),some (.cel 4),x6,x7,x8]/\St c b s h g/\g.done.length=d.length)
  (fun w c'=>finC [] c' w=some (.ok (.bl true) []))
  ⟨_,_,_,_,rfl,T0,rfl⟩ ?_ (fun w sl c' h=>h) ?_
 ·rintro d t r sl c e hm ⟨x6,x7,x8,g,rfl,T,hd⟩;have dl:d.length<=cs.length:=by rw[<- e,length_append];omega
  refine aY ?_;have:=Gd (cs:=cs) (x7:=x7) (x8:=x8) fu hfu N h12 T t (by omega);rw[hd] at this;rw[show(d++[t]).length=d.length+1 by simp];exact this
 ·rintro sl c ⟨x6,x7,x8,g,rfl,T,hd⟩;have O:=T.cn.ok N (ja b) h12;have q4:bD false c (.lst (g.done.map oW)) (.cel 4)=some (.bl (!false)):=ka (v:=.lst (g.done.map oW)) rfl (by simp only[fh,T.ds]) (sv 7 _) false;exact bP (w:=.bl true) (ce':=c) (bO (bI (ws:=[]) (ao rfl) T.gc.i rfl aB rfl (sx fu T.gc O)) (ao rfl) q4) (jt (lB _ _))
end
theorem main(ns:List Int)(_h:ns.length<=63):∃ce',d_law FU [.lst (ns.map W.int)] []=some (.ok (.bl true) ce'):=by
 have hz:=fw;have hfu:200<=FU:=by decide
 have z1:1<=sizeLine:=by decide
 have z2:2<=sizeLine:=by decide
 have z3:3<=sizeLine:=by decide
 have hz3:3000<sizeLine:=by decide
 suffices hs:∃w c,d_law FU [.lst (ns.map W.int)] []=some (.ok w c)/\w=.bl true by
  obtain⟨w,c,e,rfl⟩:=hs;exact⟨c,e⟩
 obtain⟨xs,e1,xl,hxs⟩:=yj (ce:=[]) FU ((ns++[0]).getD 0 0) (m:=64) (by omega);have e1':d_k FU [.int ((ns++[0]).getD 0 0),.int 64] []=some (.ok (sW xs) []):=e1;obtain⟨n,ls,e2,n0,n36,L⟩:=xo (ce:=[]) FU (xs:=xs) (by omega) hxs;have e3:=yi (ce:=[]) FU n0 n36 L;have N:bF (fE n ls):=⟨gr L n0 n36,wI L⟩
 generalize fE n ls=b at e3 N;unfold d_law;refine mT [some (sW ns),none,none,none,none,none] rfl ?_;have ec:je bc (ae 0) (eS (ah (dC (.int 0)) ai)) [some (sW ns),none,none,none,none,none] []=some (.ok (sW (ns++[0])) []):=by have:=rM (sl:=[some (sW ns),none,none,none,none,none]) (ce:=[]) (a:=ae 0) (b:=eS (ah (dC (.int 0)) ai)) (ao rfl) (gB (ws:=[.int 0]) (by trivial) z1) (xs:=ns.map W.int) (ys:=[.int 0]) rfl rfl (by rw[length_map];show ns.length+1<=_;omega);rw[this];show _=some (R.ok (W.lst ((ns++[0]).map W.int)) []);rw[map_append];rfl
 have i0:=kF (ns:=ns++[0]) (p:=0) (by simp) [] (i:=0) rfl;refine bu (w:=sW xs) (ce':=[]) (cE (ws:=[.int ((ns++[0]).getD 0 0),.int 64]) (ay (bO ec aN i0) (by trivial)) rfl e1') ?_;refine aY ?_;refine xA (x:=nW n) (y:=.lst (ls.map pW)) (c1:=[]) (cE (ws:=[sW xs]) (by trivial) rfl e2) ?_;refine(?_:Run _ [some (sW ns),some (sW xs),some (nW n),some (.lst (ls.map pW)),none,none] [] _);have ix:∀{p:Nat} {i:Int},p<64->i=(p:Int)->aJ [] (sW xs) (.int i)=some (.int (xs.getD p 0)):=fun hp ei=>kF (by omega) [] ei;have hy0:∀p,p<64->0<=xs.getD p 0/\xs.getD p 0<2147483647:=fun p hp=>hxs _ (by rw[getD_eq_getElem?_getD,getElem?_eq_getElem (by omega)];exact getElem_mem _);have i3:aJ [] (sW xs) (.int 3)=some (.int (xs.getD 3 0)):=ix (p:=3) (by omega) rfl;obtain⟨st,hst⟩:∃st:Bool,aJ [] (.lst [.str "stones",.str "turns"]) (.int (xs.getD 3 0 % 2))=some (.str (rl st)):=by
  have:xs.getD 3 0 % 2=0\/xs.getD 3 0 % 2=1:=by omega
  rcases this with h|h
  ·rw[h];exact⟨true,g9 (xs:=[.str "stones",.str "turns"]) (j:=0) rfl rfl⟩
  ·rw[h];exact⟨false,g9 (xs:=[.str "stones",.str "turns"]) (j:=1) rfl rfl⟩
 refine bu (w:=.str (rl st)) (ce':=[]) (bO (gB (ws:=[.str "stones",.str "turns"]) (by trivial) z2) (ck (bO (ao rfl) aN i3) aN (hX (by omega))) hst) ?_;refine aY ?_;have h12:1+xs.getD 5 0 % 2=1\/1+xs.getD 5 0 % 2=2:=by omega
 have eh:∀sl:Sl,sl[1]?=some (some (sW xs))->aE cK (dC (.int 1)) (aE bG (aI aJ (ae 1) (dC (.int 5))) (dC (.int 2))) sl []=some (.ok (.int (1+xs.getD 5 0 % 2)) []):=fun sl h=>ck (x:=.int 1) aN (ck (bO (ao h) aN (ix (p:=5) (by omega) rfl)) aN (hX (by omega))) rfl;generalize 1+xs.getD 5 0 % 2=hd at h12 eh;have i60:aJ [] (sW xs) (.int 60)=some (.int (xs.getD 60 0)):=ix (p:=60) (by omega) rfl;have i61:aJ [] (sW xs) (.int 61)=some (.int (xs.getD 61 0)):=ix (p:=61) (by omega) rfl;have i00:aJ [] (sW xs) (.int 0)=some (.int (xs.getD 0 0)):=ix (p:=0) (by omega) rfl;have i2:aJ [] (sW xs) (.int 2)=some (.int (xs.getD 2 0)):=ix (p:=2) (by omega) rfl;have i4:aJ [] (sW xs) (.int 4)=some (.int (xs.getD 4 0)):=ix (p:=4) (by omega) rfl;refine bU (p:=decide (xs.getD 60 0 % 9=0)) (ce':=[]) (bt (ck (x:=.int (xs.getD 60 0 % 9)) (ck (bO (ao rfl) aN i60) aN (hX (by omega))) aN (kR (i:=xs.getD 60 0 % 9) (j:=0) rfl rfl))) (fun _=>?_) (fun _=>cy ?_)
 ·obtain⟨ys,hys,yl,yb⟩:∃ys:List Int,aJ [] (.lst [sW [3,0,7],sW [4+xs.getD 0 0 % 3,1,xs.getD 2 0]]) (.int (xs.getD 61 0 % 2))=some (sW ys)/\ys.length=3/\∀y∈ys,0<=y/\y<2147483647:=by
   have:xs.getD 61 0 % 2=0\/xs.getD 61 0 % 2=1:=by omega
   rcases this with h|h
   ·rw[h];exact⟨[3,0,7],g9 (xs:=[sW [3,0,7],sW [4+xs.getD 0 0 % 3,1,xs.getD 2 0]]) (j:=0) rfl rfl,rfl,by decide⟩
   ·rw[h];refine⟨[4+xs.getD 0 0 % 3,1,xs.getD 2 0],g9 (xs:=[sW [3,0,7],sW [4+xs.getD 0 0 % 3,1,xs.getD 2 0]]) (j:=1) rfl rfl,rfl,fun y hy=>?_⟩;have:=hy0 2 (by omega);simp only[mem_cons,not_mem_nil,or_false] at hy;rcases hy with rfl|rfl|rfl
    ·omega
    ·omega
    ·exact this
  obtain⟨n',ls',e2',n0',n36',L'⟩:=xo (ce:=[]) FU (xs:=ys) (by omega) yb;have e3':=yi (ce:=[]) FU n0' n36' L';have N':bF (fE n' ls'):=⟨gr L' n0' n36',wI L'⟩
  generalize fE n' ls'=b' at e3' N';refine fL ?_;refine xA (x:=nW n') (y:=.lst (ls'.map pW)) (c1:=[]) (cE (ws:=[sW ys]) (ay (bO (gB (ws:=[sW [3,0,7],sW [4+xs.getD 0 0 % 3,1,xs.getD 2 0]]) (ay (gB (ws:=[.int 3,.int 0,.int 7]) (ay aN (ay aN (ay aN aB))) z3) (ay (gB (ws:=[.int (4+xs.getD 0 0 % 3),.int 1,.int (xs.getD 2 0)]) (ay (ck (x:=.int 4) aN (ck (bO (ao rfl) aN i00) aN (hX (by omega))) rfl) (ay aN (ay (bO (ao rfl) aN i2) aB))) z3) aB)) z2) (ck (bO (ao rfl) aN i61) aN (hX (by omega))) hys) aB) rfl e2') ?_;refine(?_:Run _ [some (sW ns),some (sW xs),some (nW n'),some (.lst (ls'.map pW)),some (.str (rl st)),none] [] _);refine ju (bP (w:=.bl true) (ce':=[]) (cE (ws:=[wB b',.str (rl st),.int hd,sW xs]) (ay (cE (ws:=[nW n',.lst (ls'.map pW)]) (ay (ao rfl) (ay (ao rfl) aB)) rfl e3') (ay (ao rfl) (ay (eh _ rfl) (ay (ao rfl) aB)))) rfl (BN FU hfu N' h12 xl)) ?_);exact⟨_,_,lB [] _,rfl⟩
 ·obtain⟨ds,e6,hdl⟩:=Er (ce:=[]) (ns:=ns) (xs:=xs) (v:=xs.getD 4 0 % 31) (i:=1) (j:=31) (e:=8) (sl:=[some (sW ns),some (sW xs),some (nW n),some (.lst (ls.map pW)),some (.str (rl st)),none]) (d3:=aE bG (aI aJ (ae 1) (dC (.int 4))) (dC (.int 31))) (dh:=eM) (hi:=none) rfl rfl (by omega) (by omega) rfl (ck (bO (ao rfl) aN i4) aN (hX (by omega)));refine bu e6 ?_;refine aY ?_;refine bP (w:=.bl true) (ce':=[]) (cE (ws:=[wB b,.str (rl st),.int hd,sW ds]) (ay (cE (ws:=[nW n,.lst (ls.map pW)]) (ay (ao rfl) (ay (ao rfl) aB)) rfl e3) (ay (ao rfl) (ay (eh _ rfl) (ay (ao rfl) aB)))) rfl (Ep FU hfu N h12 (by omega))) ?_;exact⟨_,_,lB [] _,rfl⟩
end K18
namespace K18
theorem fin_mk{l:PySem.W.OpenLaw}(z:∃A:p4,Txt K mg A/\fa=A.f_law/\∀(s:Shared) (v:Value),BindsTo s A.d_law ⟨[v],[]⟩ [("_law_script",v)]) :
  ∃fd:FuncData,(∀(s:Shared) (u:Value),BindsTo s fd ⟨[u],[]⟩ [("_law_script",u)])/\∀base:Heap,K.In base->base.Ns mainGlobals mg->ax l.prog w K mg base CX0 10 fa fd ["_law_script"] (spLaw Gx (d_law FU) K):=by
 obtain⟨A,T,e,b⟩:=z;subst e;exact⟨A.d_law,b,fun base _ _=>C2 T.nl (AK FU T)⟩
end K18
open PySem.W
namespace PySem.W.Fast
theorem tw17681388538005127593:True:=⟨⟩
theorem tw4345022393856711193:True:=⟨⟩
theorem tw16672189422795580733:True:=⟨⟩
theorem tw1835128203047080020:True:=⟨⟩
theorem tw12661234826060610759:True:=⟨⟩
theorem tw9084948417797438341:True:=⟨⟩
theorem tw16782746514736056545:True:=⟨⟩
theorem tw17358430551789517499:True:=⟨⟩
theorem tw17423472496441996055:True:=⟨⟩
theorem tw15305969799307290237:True:=⟨⟩
theorem tw12847947455968030494:True:=⟨⟩
theorem tw13865402347060561861:True:=⟨⟩
theorem tw2113434472985727825:True:=⟨⟩
theorem tw8777921377435843871:True:=⟨⟩
theorem tw2032172335487495218:True:=⟨⟩
theorem tw13736471653906130076:True:=⟨⟩
theorem tw11798530466686025607:True:=⟨⟩
theorem tw10133511903246196578:True:=⟨⟩
theorem tw4642016848226552087:True:=⟨⟩
theorem tw14425785259180592021:True:=⟨⟩
theorem tw6638974630596169485:True:=⟨⟩
theorem tw16499898053875965042:True:=⟨⟩
theorem tw10703254512104679231:True:=⟨⟩
theorem tw16349095265962466789:True:=⟨⟩
theorem tw15338575308061937952:True:=⟨⟩
theorem tw1191416274689465348:True:=⟨⟩
theorem tw2810521103904059216:True:=⟨⟩
theorem tw11201911375092243274:True:=⟨⟩
theorem tw12019845577173517452:True:=⟨⟩
theorem tw11152897919503913586:True:=⟨⟩
theorem tw6048294532487919996:True:=⟨⟩
theorem tw2249225442950445163:True:=⟨⟩
theorem tw14363614092284398478:True:=⟨⟩
theorem tw5539234178887649633:True:=⟨⟩
theorem tw7678824751392379975:True:=⟨⟩
theorem tw10508497248457120069:True:=⟨⟩
theorem tw14679891488179464216:True:=⟨⟩
theorem tw17580071423647884413:True:=⟨⟩
theorem tw5124038502224527409:True:=⟨⟩
theorem tw1462675052822815262:True:=⟨⟩
theorem tw15305935643479909367:True:=⟨⟩
theorem tw8411994958605373134:True:=⟨⟩
theorem tw4490093074700858039:True:=⟨⟩
theorem tw8866637762478689048:True:=⟨⟩
theorem tw334685488827462561:True:=⟨⟩
theorem tw7987009948957209197:True:=⟨⟩
theorem tw3352990056032688751:True:=⟨⟩
theorem tw4946031482721137709:True:=⟨⟩
theorem tw1794163309483055699:True:=⟨⟩
theorem tw17685691588221628392:True:=⟨⟩
theorem tw4866815229703726276:True:=⟨⟩
theorem tw2788327828717714753:True:=⟨⟩
theorem tw8790773841056956323:True:=⟨⟩
theorem tw862400951664896320:True:=⟨⟩
theorem tw2663892092539166453:True:=⟨⟩
theorem tw3426461537812468520:True:=⟨⟩
theorem tw14193795305084741786:True:=⟨⟩
theorem tw17356110233462368099:True:=⟨⟩
theorem tw12283999992883039062:True:=⟨⟩
theorem tw8967396386716583442:True:=⟨⟩
end PySem.W.Fast
theorem PySem.W.Fast.te14163762137760384177 : True := trivial
theorem PySem.W.Fast.tw2953093906351842950 : True := trivial
theorem PySem.W.Fast.tw8844421157418915778 : True := trivial
theorem PySem.W.Fast.tw3113026591408922020 : True := trivial
theorem PySem.W.Fast.tw12759157870468142470 : True := trivial
theorem PySem.W.Fast.tw11317980570645157387 : True := trivial
theorem PySem.W.Fast.tw5383557573018818251 : True := trivial
theorem PySem.W.Fast.tw6887756940065491052 : True := trivial
theorem PySem.W.Fast.tw6601542510040265775 : True := trivial
theorem PySem.W.Fast.tw15376698449570390928 : True := trivial
theorem PySem.W.Fast.tw8203557035088745267 : True := trivial
theorem PySem.W.Fast.tw16415730327426899707 : True := trivial
theorem PySem.W.Fast.tw6964278526743182331 : True := trivial
theorem PySem.W.Fast.tw11307052553707164382 : True := trivial
theorem PySem.W.Fast.tw18416945799020585759 : True := trivial
set_option maxRecDepth 100000 in
theorem PySem.Challenge.cw_stonebreath_k18_passes_and_ends_holds : PySem.Challenge.rw_stonebreath_k18_passes_and_ends.Holds := by
 w_on;o_law;k_head;(case hw=>w_witness2)
 k_fill
 refine L2.walk_ofK (l:=PySem.Challenge.rw_stonebreath_k18_passes_and_ends) (n:=63) (k:=10) (x := "_law_script") (CX:=L2.CX0) (sp:=VS.spLaw K18.Gx (K18.d_law K18.FU)) rfl (by decide) rfl ⟨rfl,by decide,by decide⟩ (fun w h Y=>PySem.W.kIn_of Y) ?F (VS.law_sp K18.main) (fun _ _ _ _ z=>z)
 case F =>
  intro w mg fa h KX G hmg
  refine' K18.fin_mk (K18.all_mk KX G hmg ?ac_Game ?pg_Game ?hd_Game ?po_Game ?sa_Game ?mi_Game ?kc_Game ?na_Game_barring ?na_Game_done ?na_Game_first ?na_Game_joined ?na_Game_past ?na_Game_takings ?a0 ?l0 ?a1 ?l1 ?a2 ?l2 ?a3 ?l3 ?a4 ?l4 ?a5 ?l5 ?a6 ?l6 ?a7 ?l7 ?a8 ?l8 ?a9 ?l9 ?a10 ?l10 ?a11 ?l11 ?a12 ?l12 ?a13 ?l13 ?a14 ?l14 ?a15 ?l15 ?a16 ?l16 ?a17 ?l17 ?a18 ?l18 ?a19 ?l19 ?a20 ?l20 ?a21 ?l21 ?a22 ?l22 ?a23 ?l23 ?a24 ?l24 ?c24 ?k24 ?a25 ?fn25 ?l25 ?a26 ?fn26 ?l26 ?a27 ?fn27 ?l27 ?a28 ?fn28 ?l28 ?a29 ?fn29 ?l29 ?a30 ?fn30 ?l30 ?a31 ?fn31 ?l31 ?a32 ?fn32 ?l32 ?a33 ?fn33 ?l33 ?a34 ?fn34 ?l34 ?a35 ?fn35 ?l35 ?a36 ?fn36 ?l36 ?ac_Again ?ex_Again ?aX0 ?fnX0 ?lX0 ?q0 ?z_ValueError ?z_all ?z_bool ?z_int ?z_isinstance ?z_len ?z_list ?z_range ?z_sorted ?z_tuple ?xt ?nl)
  (case ac_Game=>k_is);(case pg_Game=>k_is);(case hd_Game=>k_is);(case po_Game=>k_is);(case sa_Game=>k_is);(case mi_Game=>k_is);(case kc_Game=>k_is);(case na_Game_barring=>k_is);(case na_Game_done=>k_is);(case na_Game_first=>k_is);(case na_Game_joined=>k_is);(case na_Game_past=>k_is);(case na_Game_takings=>k_is);(case a0=>k_is);(case l0=>exact VS.fnk (by k_is) (by k_is) (by k_is));(case a1=>k_is);(case l1=>exact VS.fnk (by k_is) (by k_is) (by k_is));(case a2=>k_is);(case l2=>exact VS.fnk (by k_is) (by k_is) (by k_is));(case a3=>k_is);(case l3=>exact VS.fnk (by k_is) (by k_is) (by k_is));(case a4=>k_is);(case l4=>exact VS.fnk (by k_is) (by k_is) (by k_is));(case a5=>k_is);(case l5=>exact VS.fnk (by k_is) (by k_is) (by k_is));(case a6=>k_is);(case l6=>exact VS.fnk (by k_is) (by k_is) (by k_is));(case a7=>k_is);(case l7=>exact VS.fnk (by k_is) (by k_is) (by k_is));(case a8=>k_is);(case l8=>exact VS.fnk (by k_is) (by k_is) (by k_is));(case a9=>k_is);(case l9=>exact VS.fnk (by k_is) (by k_is) (by k_is));(case a10=>k_is);(case l10=>exact VS.fnk (by k_is) (by k_is) (by k_is));(case a11=>k_is);(case l11=>exact VS.fnk (by k_is) (by k_is) (by k_is));(case a12=>k_is);(case l12=>exact VS.fnk (by k_is) (by k_is) (by k_is));(case a13=>k_is);(case l13=>exact VS.fnk (by k_is) (by k_is) (by k_is));(case a14=>k_is);(case l14=>exact VS.fnk (by k_is) (by k_is) (by k_is));(case a15=>k_is);(case l15=>exact VS.fnk (by k_is) (by k_is) (by k_is));(case a16=>k_is);(case l16=>exact VS.fnk (by k_is) (by k_is) (by k_is));(case a17=>k_is);(case l17=>exact VS.fnk (by k_is) (by k_is) (by k_is));(case a18=>k_is);(case l18=>exact VS.fnk (by k_is) (by k_is) (by k_is));(case a19=>k_is);(case l19=>exact VS.fnk (by k_is) (by k_is) (by k_is));(case a20=>k_is);(case l20=>exact VS.fnk (by k_is) (by k_is) (by k_is));(case a21=>k_is);(case l21=>exact VS.fnk (by k_is) (by k_is) (by k_is));(case a22=>k_is);(case l22=>exact VS.fnk (by k_is) (by k_is) (by k_is));(case a23=>k_is);(case l23=>exact VS.fnk (by k_is) (by k_is) (by k_is));(case a24=>k_is);(case l24=>k_is);(case c24=>k_is);(case k24=>k_is);(case a25=>k_is);(case fn25=>k_is);(case l25=>exact VS.fnk (by k_is) (by k_is) (by k_is));(case a26=>k_is);(case fn26=>k_is);(case l26=>exact VS.fnk (by k_is) (by k_is) (by k_is));(case a27=>k_is);(case fn27=>k_is);(case l27=>exact VS.fnk (by k_is) (by k_is) (by k_is));(case a28=>k_is);(case fn28=>k_is);(case l28=>exact VS.fnk (by k_is) (by k_is) (by k_is));(case a29=>k_is);(case fn29=>k_is);(case l29=>exact VS.fnk (by k_is) (by k_is) (by k_is));(case a30=>k_is);(case fn30=>k_is);(case l30=>exact VS.fnk (by k_is) (by k_is) (by k_is));(case a31=>k_is);(case fn31=>k_is);(case l31=>exact VS.fnk (by k_is) (by k_is) (by k_is));(case a32=>k_is);(case fn32=>k_is);(case l32=>exact VS.fnk (by k_is) (by k_is) (by k_is));(case a33=>k_is);(case fn33=>k_is);(case l33=>exact VS.fnk (by k_is) (by k_is) (by k_is));(case a34=>k_is);(case fn34=>k_is);(case l34=>exact VS.fnk (by k_is) (by k_is) (by k_is));(case a35=>k_is);(case fn35=>k_is);(case l35=>exact VS.fnk (by k_is) (by k_is) (by k_is));(case a36=>k_is);(case fn36=>k_is);(case l36=>exact VS.fnk (by k_is) (by k_is) (by k_is));(case ac_Again=>k_is);(case ex_Again=>kernel_rfl);(case aX0=>k_is);(case fnX0=>k_is);(case lX0=>exact VS.fnk (by k_is) (by k_is) (by k_is));(case q0=>k_is);(case z_ValueError=>k_is);(case z_all=>k_is);(case z_bool=>k_is);(case z_int=>k_is);(case z_isinstance=>k_is);(case z_len=>k_is);(case z_list=>k_is);(case z_range=>k_is);(case z_sorted=>k_is);(case z_tuple=>k_is);(case xt=>kernel_rfl);(case nl=>kernel_rfl)
