import PyProof.Rows.All
import Wide.All
import OpenK.AllK
import Wide.FinOn
import Lean
import PyProof.EqAt
import PyProof.EqKinds
import PyProof.TupleCall
import PyProof.NeKinds
import KE.KDictSum
import KE.KListLetter
import KE.KIsAll
import KE.KTryMore
import PySem.Challenge.RW_stonebreath_k25_whole_the_difference
set_option Elab.async false
set_option linter.all false
set_option maxRecDepth 100000
local macro_rules|`(tactic|omega)=>`(tactic|first
 |assumption
 |with_reducible exact Nat.le_of_lt (by assumption)
 |with_reducible exact Nat.le_trans (by assumption) (by assumption)
 |with_reducible exact Nat.lt_of_le_of_lt (by assumption) (by assumption)
 |with_reducible exact Nat.lt_of_lt_of_le (by assumption) (by assumption)
 |with_reducible exact Nat.lt_of_le_of_lt (by assumption) (by decide)
 |with_reducible exact Nat.le_trans (by assumption) (by decide)
 |lia)
open List (length_map map_cons mem_append mem_singleton getD_eq_getElem?_getD length_cons mem_filter mem_range length_append getElem?_eq_getElem mem_append_left size_toArray mem_map getElem?_map length_nil all_eq_true getElem?_append_left mem_cons_of_mem getElem?_set_ne mem_cons_self length_range mem_cons mem_append_right map_nil append_assoc any_eq_true length_set getElem?_eq_none map_append map_map lookup_cons getElem?_append_right append_nil nodup_append getElem?_set_self length_take length_filter_le nodup_range filter_congr sum_cons map_congr_left find?_cons exists_mem_of_ne_nil nodup_cons nil_append mem_of_getElem? length_drop cons_append mem_filterMap length_eq_zero_iff any_cons take_of_length_le sum_append ne_nil_of_mem filter_nil set_append_left map_set map_id map_drop getElem_mem getElem?_of_mem filter_cons_of_pos filter_cons_of_neg filter_cons ext_getElem? all_cons range_succ pairwise_cons of_mem_zip mem_of_find?_eq_some length_singleton getElem?_range getElem?_cons_zero filterMap_cons drop_length drop_eq_getElem_cons contains_cons any_eq_false take_zero take_sublist take_left take_append_of_le_length sum_nil set_append_right range_succ_eq_map pairwise_lt_range mem_of_mem_drop mem_flatten map_take length_pos_of_mem getElem_of_mem getElem?_take_of_lt getElem?_replicate getElem?_cons_succ find?_some filter_eq_self filter_eq_nil_iff filter_append erase_cons eraseIdx_eq_take_drop_succ eq_nil_iff_forall_not_mem dropLast_eq_take contains_iff_mem all_map take_range take_length take_add_one set_cons_succ replicate_succ perm_iff_count pairwise_mergeSort pairwise_map pairwise_iff_getElem not_mem_nil nodup_nil nil_perm mergeSort_perm mem_of_mem_take mem_of_mem_erase mem_iff_getElem length_replicate length_pos_iff_exists_mem length_flatten length_filter_eq_length_iff length_erase_of_mem length_erase_le length_dropLast idxOf_lt_length_iff getElem_range getElem_map getElem_inj getElem_idxOf getElem?_zip_eq_some getElem?_set forIn_cons flatten_cons find?_eq_some_iff_append find?_eq_none filter_filter filterMap_append ext_getElem erase_eq_eraseIdx_of_idxOf eraseIdx_cons_succ eraseIdxIfInBounds_toArray eq_nil_or_concat count_eq_countP count_append countP_nil countP_map countP_eq_length_filter countP_cons concat_eq_append all_nil)
open Nat (le_refl ne_of_lt lt_of_lt_of_le le_trans zero_le lt_irrefl le_succ lt_of_le_of_lt lt_succ_self le_of_lt ne_of_gt min_eq_left le_add_right sub_self not_lt_zero mul_le_mul lt_succ_of_lt le_of_eq add_sub_cancel_left zero_add succ_ne_self not_lt mul_pos mul_le_mul_right min_self lt_trichotomy lt_trans log2_lt le_of_not_lt le_mul_of_pos_right exists_eq_add_of_le add_zero add_mul)
open Option (map_some map_eq_some_iff getD_some isSome_map getD_none isSome_some isSome_iff_exists bind_some bind_eq_some_iff)
open Bool (and_eq_true false_eq_true not_eq_true' not_eq_false' or_eq_true or_eq_false_iff not_not eq_false_iff and_eq_true_iff)
open Array (length_toList toArray_toList getElem?_toList toList_inj toList_eraseIdxIfInBounds size_push mem_toList_iff find?_toList any_eq_true')
open Int (natCast_mul toNat_natCast ofNat_inj mul_one fmod_eq_emod_of_nonneg fdiv_eq_ediv_of_nonneg emod_nonneg emod_lt_of_pos add_assoc)
noncomputable section
namespace L2
open PySem PySem.Spec PyProof.Rows
abbrev Key:=Sum Int Str
def zjo:Key->Value->Bool
 | .inl k,v=>Value.isInt k v
 | .inr x,v=>Value.isStrOf x v
def zuB(w:World):Key->Int
 | .inl k=>hashInt k
 | .inr x=>hashStr w x
theorem zaO:∀{k:Key} {v:Value},zjo k v=true->(∃i t,k=Sum.inl i/\v=Value.int i t)\/(∃x t,k=Sum.inr x/\v=Value.str x t)
 | .inl i,v,h=>by
  obtain⟨t,e⟩:=Value.isInt_shape (k:=i) (v:=v) h
  exact .inl ⟨i,t,rfl,e⟩
 | .inr x,v,h=>by
  obtain⟨t,e⟩:=Value.isStrOf_shape (x:=x) (v:=v) h
  exact .inr ⟨x,t,rfl,e⟩
theorem zj5(i:Int)(t:Tok):zjo (.inl i) (.int i t)=true:=by simp[zjo,Value.isInt]
theorem zj6(x:Str)(t:Tok):zjo (.inr x) (.str x t)=true:=by simp[zjo,Value.isStrOf]
theorem zqs(a b:Int):decide ((Sum.inl a:Key)=Sum.inl b)=(a==b):=by
 by_cases e:a=b
 ·subst e;simp
 ·have h:¬(Sum.inl a:Key)=Sum.inl b:=fun q=>e (Sum.inl.inj q)
  rw[decide_eq_false h]
  exact(beq_eq_false_iff_ne.mpr e).symm
theorem zqt(a b:Str):decide ((Sum.inr a:Key)=Sum.inr b)=decide (a=b):=by
 by_cases e:a=b
 ·subst e;simp
 ·have h:¬(Sum.inr a:Key)=Sum.inr b:=fun q=>e (Sum.inr.inj q)
  rw[decide_eq_false h,decide_eq_false e]
theorem zqu(a:Int)(b:Str):decide ((Sum.inl a:Key)=Sum.inr b)=false:=decide_eq_false (fun q=>nomatch q)
theorem zqv(a:Str)(b:Int):decide ((Sum.inr a:Key)=Sum.inl b)=false:=decide_eq_false (fun q=>nomatch q)
def zaN(prog:Program)(w:World):PySem.KeyKind prog w Key where
 is:=zjo
 hash:=zuB w
 inj:=fun v a b ha hb=>by
  rcases zaO ha with ⟨i,t,rfl,rfl⟩|⟨x,t,rfl,rfl⟩
  ·rcases zaO hb with ⟨j,u,rfl,e⟩|⟨y,u,rfl,e⟩
   ·injection e with e1 _;rw[e1]
   ·exact nomatch e
  ·rcases zaO hb with ⟨j,u,rfl,e⟩|⟨y,u,rfl,e⟩
   ·exact nomatch e
   ·injection e with e1 _;rw[e1]
 byValue:=fun k v h=>by
  rcases zaO h with ⟨i,t,rfl,rfl⟩|⟨x,t,rfl,rfl⟩<;>rfl
 pyHash:=fun hv h=>by
  rcases zaO hv with ⟨i,t,rfl,rfl⟩|⟨x,t,rfl,rfl⟩
  ·exact wpAny_pyHash_int h
  ·exact wpAny_pyHash_str h
 eqBool:=fun hu hv h=>by
  rcases zaO hu with ⟨i,t,rfl,rfl⟩|⟨x,t,rfl,rfl⟩
  ·rcases zaO hv with ⟨j,u,rfl,rfl⟩|⟨y,u,rfl,rfl⟩
   ·rw[zqs] at h;exact wpAny_eqBool_int h
   ·rw[zqu] at h;exact SeqAt.EqAt.int_str i t y u _ _ _ _ h
  ·rcases zaO hv with ⟨j,u,rfl,rfl⟩|⟨y,u,rfl,rfl⟩
   ·rw[zqv] at h;exact SeqAt.EqAt.str_int x t j u _ _ _ _ h
   ·rw[zqt] at h;exact wpAny_eqBool_str h
 «strs»:=fun k x t v h=>by
  rcases zaO h with ⟨i,u,rfl,e⟩|⟨y,u,rfl,e⟩
  ·exact nomatch e
  ·injection e with e1 _
   subst e1
   cases v<;>rfl
theorem zh1(prog:Program)(w:World)(i:Int)(t:Tok):(zaN prog w).is (.inl i) (.int i t)=true:=zj5 i t
theorem zh2(prog:Program)(w:World)(x:Str)(t:Tok):(zaN prog w).is (.inr x) (.str x t)=true:=zj6 x t
inductive V where
 | non|bl (b:Bool)|int (i:Int)|str (x:Str)|byt (b:Array UInt8)|flt (b:UInt64)|ref (a:Addr)|ty (n:String)
 deriving DecidableEq
def RelV:V->Value->Prop
 | .non,u=>u=Value.none
 | .bl b,u=>u=Value.bool b
 | .int i,u=>∃t,u=Value.int i t
 | .str x,u=>∃t,u=Value.str x t
 | .byt b,u=>∃t,u=Value.bytes b t
 | .flt b,u=>∃t,u=Value.float b t
 | .ref a,u=>u=Value.ref a
 | .ty n,u=>u=Value.type n
abbrev Vals:List V->List Value->Prop:=Paired RelV
theorem Vals.length{xs:List V}{us:List Value}(r:Vals xs us):xs.length=us.length:=Paired.length r
theorem Vals.get:∀{xs:List V} {us:List Value} {i:Nat} {x:V},Vals xs us->xs[i]?=some x->∃u,us[i]?=some u/\RelV x u
 | _,_,_,_,.nil,e=>by simp at e
 | _,_,0,_,.cons r _,e=>by simp at e;subst e;exact⟨_,rfl,r⟩
 | _,_,i+1,x,.cons _ t,e=>by
  obtain⟨u,h1,h2⟩:=Vals.get (i:=i) (x:=x) t (by simpa using e)
  exact⟨u,by simpa using h1,h2⟩
theorem Vals.set{x:V}{u:Value}(r:RelV x u):∀{xs:List V} {us:List Value} (i:Nat),Vals xs us->Vals (xs.set i x) (us.set i u)
 | _,_,_,.nil=>.nil
 | _,_,0,.cons _ t=>.cons r t
 | _,_,i+1,.cons q t=>.cons q (Vals.set r i t)
theorem Vals.append:∀{xs ys:List V} {us ws:List Value},Vals xs us->Vals ys ws->Vals (xs++ys) (us++ws)
 | _,_,_,_,.nil,s=>s
 | _,_,_,_,.cons r t,s=>.cons r (Vals.append t s)
theorem Vals.take:∀{xs:List V} {us:List Value} (n:Nat),Vals xs us->Vals (xs.take n) (us.take n)
 | _,_,0,_=>.nil
 | _,_,_+1,.nil=>.nil
 | _,_,n+1,.cons r t=>.cons r (Vals.take n t)
theorem Vals.drop:∀{xs:List V} {us:List Value} (n:Nat),Vals xs us->Vals (xs.drop n) (us.drop n)
 | _,_,0,r=>r
 | _,_,_+1,.nil=>.nil
 | _,_,n+1,.cons _ t=>Vals.drop n t
def RelO:Option V->Option Value->Prop
 | some v,some u=>RelV v u
 | none,none=>True
 | _,_=>False
def KV{κ:Type}:List (κ×V)->List (κ×Value)->Prop:=Paired fun(p:κ×V) (q:κ×Value)=>p.1=q.1/\RelV p.2 q.2
def kV:Key->V
 | .inl i=>.int i
 | .inr x=>.str x
inductive HO where
  | lst (xs:List V)
  | tup (xs:List V)
  | dK (kvs:List (Key×V))|dT (kvs:List (List Key×V))
  | set (S:Int->Bool) (n:Nat)
  | ins (C dx:Addr) (fs:List (Str×V))
  | own (x:Addr)
  | xd (fs:List (Str×V))
  | met (f x:Addr)
  | rng (lo hi:Int)
  | frz (o:Obj) (u:HO)
  | tbl (ps:Array Value)
  | ext (φ:Heap->Prop)
abbrev Hp:=Addr->Option HO
def upd(H:Hp)(a:Addr)(o:HO):Hp:=fun b=>if b=a then some o else H b
theorem zaw{H:Hp}{a:Addr}{o:HO}:upd H a o a=some o:=by unfold upd;rw[if_pos rfl]
theorem zaD{H:Hp}{a b:Addr}{o:HO}(h:b≠a):upd H a o b=H b:=by unfold upd;rw[if_neg h]
theorem zoA{H:Hp}{a:Addr}{o u:HO}:upd (upd H a o) a u=upd H a u:=by
 funext b;unfold upd;split<;>rfl
theorem zsD{H:Hp}{a b:Addr}{o u:HO}(h:H a=some o)(h':H b=some u)(d:o≠u):a≠b:=by
 intro e;subst e;rw[h] at h';exact d (Option.some.inj h')
theorem zaC{H:Hp}{a b:Addr}{o:HO}(h:H a=some o)(h':H b=none):a≠b:=by
 intro e;subst e;rw[h] at h';cases h'
def TupN(h:Heap)(a:Addr)(items:Array Value):Prop:=∃o,h.get? a=some o/\o.cls=.type "tuple" /\ (∃n,o.data=.seq items n)/\o.dict=none
theorem TupN.isTup{h:Heap}{a:Addr}{items:Array Value}(t:TupN h a items):PyProof.Rows.IsTup h a items:=by
 obtain⟨o,e,c,⟨n,d⟩,_⟩:=t
 exact⟨o,e,c,n,d⟩
theorem TupN.new(h:Heap)(items:Array Value):TupN (h.push { cls:=.type "tuple",data:=.seq items }) h.objs.size items:=⟨_,Heap.get?_push_size _ rfl,rfl,⟨_,rfl⟩,rfl⟩
section
variable (P:Program) (w:World)
def ObjOk(H:Hp)(h:Heap)(a:Addr):HO->Prop
 | .lst xs=>xs.length<=sizeLine/\∃(its:List Value) (n:Nat),Vals xs its/\h.get? a=some { cls:=.type "list",data:=.seq its.toArray n }
 | .tup xs=>xs.length<=sizeLine/\∃its:List Value,Vals xs its/\TupN h a its.toArray
 | .dK kvs=>kvs.length<=sizeLine/\(a==sysModules)=false/\∃vs,KV kvs vs/\h.DictOf (zaN P w) a vs
 | .dT kvs=>kvs.length<=sizeLine/\(a==sysModules)=false/\∃xs:List (List Key×Addr×Value),
   Paired (fun(p:List Key×V) (q:List Key×Addr×Value)=>p.1=q.1/\H q.2.1=some (.tup (p.1.map kV))/\RelV p.2 q.2.2) kvs xs /\
   ∃o es ep,h.get? a=some o/\o.ExactDict/\o.data=.dict es ep/\es.toList=xs.map (entryOfKey (tupleKind (zaN P w)))/\(xs.map (·.1)).Nodup
 | .set S n=>h.SetOf (intKind P w) a S n
 | .ins C dx fs=>H dx=some (.own a)/\fs.length<=1000/\dx≠a/\h.get? a=some (PySem.W.instObj C dx) /\
   ∃mA,h.Ns1 dx mA/\(∀f,RelO (fs.lookup f) (mA f))/\PySem.Within mA (fs.map (·.1))
 | .own _=>∃o,h.get? a=some o
 | .xd fs=>∃mA,h.Ns1 a mA/\∀f,RelO (fs.lookup f) (mA f)
 | .rng lo hi=>∃t u v,h.get? a=some { cls:=.type "range",data:=.fields #[.int lo t,.int hi u,.int 1 v] }
 | .frz o u=>h.get? a=some o/\ObjOk H h a u
 | .tbl ps=>h.get? a=some { cls:=.none,data:=.fields ps }
 | .met f x=>h.get? a=some (PySem.W.methodObj (.ref f) (.ref x))
 | .ext φ=>φ h/\(∃o,h.get? a=some o)/\∀h1 h2:Heap,φ h1->(∀o,h1.get? a=some o->h2.get? a=some o)->φ h2
def HOk(H:Hp)(h:Heap):Prop:=∀a o,H a=some o->ObjOk P w H h a o
end
section
variable {P:Program} {w:World} {H H':Hp} {h h':Heap} {a:Addr} {o:HO}
theorem ObjOk.lt(x:ObjOk P w H h a o):a<h.objs.size:=by
 cases o with
 | lst xs=>obtain⟨_,_,_,_,e⟩:=x;exact Heap.lt_size e
 | tup xs=>obtain⟨_,_,_,p⟩:=x;exact(TupN.isTup p).lt
 | dK kvs=>obtain⟨_,_,_,_,o,_,_,e,_⟩:=x;exact Heap.lt_size e
 | dT kvs=>obtain⟨_,_,_,_,o,_,_,e,_⟩:=x;exact Heap.lt_size e
 | set S n=>obtain⟨o,_,_,_,e,_⟩:=x;exact Heap.lt_size e
 | ins C dx fs=>obtain⟨_,_,_,e,_⟩:=x;exact Heap.lt_size e
 | own y=>obtain⟨_,e⟩:=x;exact Heap.lt_size e
 | xd fs=>obtain⟨_,⟨_,_,_,e,_⟩,_⟩:=x;exact Heap.lt_size e
 | rng lo hi=>obtain⟨_,_,_,e⟩:=x;exact Heap.lt_size e
 | frz ob u=>obtain⟨e,_⟩:=x;exact Heap.lt_size e
 | tbl ps=>exact Heap.lt_size (show h.get? a=some _ from x)
 | met f y=>exact Heap.lt_size (show h.get? a=some _ from x)
 | ext φ=>obtain⟨_,⟨_,e⟩,_⟩:=x;exact Heap.lt_size e
theorem Paired.mapP{α β:Type}{F G:α->β->Prop}:∀{l₁:List α} {l₂:List β},Paired F l₁ l₂->(∀a b,F a b->G a b)->Paired G l₁ l₂
 | _,_,.nil,_=>.nil
 | _,_,.cons r t,f=>.cons (f _ _ r) (Paired.mapP t f)
theorem ObjOk.stay(x:ObjOk P w H h a o)(k:∀b u,(b=a\/H b=some (.own a))->h.get? b=some u->h'.get? b=some u)(ho:∀b,H b=some (.own a)->H' b=some (.own a))(ht:∀b xs,H b=some (.tup xs)->H' b=some (.tup xs)):ObjOk P w H' h' a o:=by
 induction o with
 | lst xs=>obtain⟨z,its,n,r,e⟩:=x;exact⟨z,its,n,r,k _ _ (.inl rfl) e⟩
 | tup xs=>obtain⟨z,its,r,ob,e,c⟩:=x;exact⟨z,its,r,ob,k _ _ (.inl rfl) e,c⟩
 | dK kvs=>obtain⟨z,y,vs,r,ob,es,ep,e,c⟩:=x;exact⟨z,y,vs,r,ob,es,ep,k _ _ (.inl rfl) e,c⟩
 | dT kvs =>
  obtain⟨z,y,xs,r,ob,es,ep,e,c⟩:=x
  exact⟨z,y,xs,Paired.mapP r fun p q z=>⟨z.1,ht _ _ z.2.1,z.2.2⟩,ob,es,ep,k _ _ (.inl rfl) e,c⟩
 | set S n=>obtain⟨ob,es,ep,t,e,c⟩:=x;exact⟨ob,es,ep,t,k _ _ (.inl rfl) e,c⟩
 | ins C dx fs =>
  obtain⟨d,z,ne,e,mA,⟨od,es,ep,e2,c⟩,r⟩:=x
  exact⟨ho _ d,z,ne,k _ _ (.inl rfl) e,mA,⟨od,es,ep,k _ _ (.inr d) e2,c⟩,r⟩
 | own y=>obtain⟨ob,e⟩:=x;exact⟨ob,k _ _ (.inl rfl) e⟩
 | xd fs=>obtain⟨mA,⟨od,es,ep,e,c⟩,r⟩:=x;exact⟨mA,⟨od,es,ep,k _ _ (.inl rfl) e,c⟩,r⟩
 | rng lo hi=>obtain⟨t,u,v,e⟩:=x;exact⟨t,u,v,k _ _ (.inl rfl) e⟩
 | frz ob u ih=>obtain⟨e,q⟩:=x;exact⟨k _ _ (.inl rfl) e,ih q⟩
 | tbl ps =>
  have e:h.get? a=some { cls:=.none,data:=.fields ps }:=x
  show h'.get? a=some { cls:=.none,data:=.fields ps }
  exact k a _ (.inl rfl) e
 | met f y =>
  have e:h.get? a=some (PySem.W.methodObj (.ref f) (.ref y)):=x
  show h'.get? a=some (PySem.W.methodObj (.ref f) (.ref y))
  exact k a _ (.inl rfl) e
 | ext φ=>obtain⟨p,⟨o,e⟩,st⟩:=x;exact⟨st _ _ p fun o q=>k _ _ (.inl rfl) q,⟨o,k _ _ (.inl rfl) e⟩,st⟩
theorem HOk.lt(x:HOk P w H h)(e:H a=some o):a<h.objs.size:=(x a o e).lt
theorem HOk.fresh(x:HOk P w H h)(e:h.objs.size<=a):H a=none:=by
 cases q:H a with
 | none=>rfl
 | some u=>exact absurd (lt_of_lt_of_le (x.lt q) e) (lt_irrefl _)
theorem HOk.kept(x:HOk P w H h)(k:∀b u,h.get? b=some u->h'.get? b=some u):HOk P w H h':=fun a o e =>
 (x a o e).stay (fun b u _ q=>k b u q) (fun _ q=>q) fun _ _ q=>q
theorem HOk.laid(x:HOk P w H h)(k:∀b u,h.get? b=some u->h'.get? b=some u)(hp:h.objs.size<=a)(new:ObjOk P w (upd H a o) h' a o):HOk P w (upd H a o) h':=fun b u e=>by
 have hn:=x.fresh hp
 by_cases hb:b=a
 ·subst hb;rw[zaw] at e;cases e;exact new
 ·rw[zaD hb] at e
  exact(x b u e).stay (fun c v _ q=>k c v q) (fun c q=>by rw[zaD (zaC q hn)];exact q) fun c xs q=>by rw[zaD (zaC q hn)];exact q
end
def Rd(H:Hp)(a:Addr)(u:HO):Prop:=H a=some u\/∃o,H a=some (.frz o u)
theorem Rd.ok{P:Program}{w:World}{H:Hp}{h:Heap}{a:Addr}{u:HO}(r:Rd H a u)(x:HOk P w H h):ObjOk P w H h a u:=by
 rcases r with r|⟨o,r⟩
 ·exact x a u r
 ·obtain⟨_,q⟩:=x a _ r
  exact q
def Mut:Option HO->Prop
 | some (.lst _)=>True
 | some (.dK _)=>True
 | some (.dT _)=>True
 | some (.set _ _)=>True
 | some (.ins _ _ _)=>True
 | some (.ext _)=>True
 | _=>False
section
variable {P:Program} {w:World} {H:Hp} {h h':Heap} {x e:Addr} {o':HO}
theorem HOk.write(ok:HOk P w H h)(mu:Mut (H x))(he:e=x\/H e=some (.own x))(k:∀b u,b≠e->h.get? b=some u->h'.get? b=some u)(heo:∃u,h'.get? e=some u)(new:ObjOk P w (upd H x o') h' x o'):HOk P w (upd H x o') h':=fun b u q=>by
 have nown:∀c y,H c=some (.own y)->c≠x:=fun c y r z=>by subst z;rw[r] at mu;exact mu
 have ntup:∀c xs,H c=some (.tup xs)->c≠x:=fun c xs r z=>by subst z;rw[r] at mu;exact mu
 by_cases hb:b=x
 ·subst hb;rw[zaw] at q;cases q;exact new
 ·rw[zaD hb] at q
  by_cases hbe:b=e
  ·have q':H b=some (.own x):=by
    rcases he with z|z
    ·exact absurd (hbe.trans z) hb
    ·rw[hbe];exact z
   rw[q] at q';cases q'
   obtain⟨v,hv⟩:=heo
   exact⟨v,by rw[hbe];exact hv⟩
  ·refine(ok b u q).stay (fun c v hc r=>k c v ?_ r) (fun c r=>by rw[zaD (nown c b r)];exact r) fun c xs r=>by rw[zaD (ntup c xs r)];exact r
   rcases hc with rfl|hc
   ·exact hbe
   ·rintro rfl
    rcases he with z|z
    ·exact nown c b hc z
    ·rw[hc] at z;cases z;exact hb rfl
end
structure Un (fs ex:List Addr) (H H':Hp) (h h':Heap):Prop where
 keep:∀b o,h.get? b=some o->H b=none->b∉fs->b∉ex->h'.get? b=some o
 slot:∀b o,h.get? b=some o->H b=none->b∈fs->b∉ex->∃sl,h'.get? b=some { o with slots:=sl }
 free:∀b o,h.get? b=some o->H b=none->b∉ex->H' b=none
 there:∀b o,h.get? b=some o->b∉ex->∃o',h'.get? b=some o'
 tups:∀b xs,H b=some (.tup xs)->H' b=some (.tup xs)
 frzs:∀b o u,H b=some (.frz o u)->H' b=some (.frz o u)
 tbls:∀b ps,H b=some (.tbl ps)->∃more,H' b=some (.tbl (ps++more))
section
variable {fs fs' ex ex':List Addr} {H H1 H2:Hp} {h h1 h2 h':Heap} {a x e:Addr} {o:HO}
theorem Un.any(u:Un fs ex H H1 h h1){b:Addr}{ob:Obj}(q:h.get? b=some ob)(n:H b=none)(hx:b∉ex):∃sl,h1.get? b=some { ob with slots:=sl }:=by
 by_cases hb:b∈fs
 ·exact u.slot b ob q n hb hx
 ·exact⟨ob.slots,u.keep b ob q n hb hx⟩
theorem Un.kept(k:∀b u,h.get? b=some u->h'.get? b=some u):Un fs ex H H h h' :=
 ⟨fun b ob q _ _ _=>k b ob q,fun b ob q _ _ _=>⟨ob.slots,k b ob q⟩,fun _ _ _ n _=>n,fun b ob q _=>⟨ob,k b ob q⟩,fun _ _ q=>q,fun _ _ _ q=>q,fun _ ps q=>⟨#[],by rw[q];simp⟩⟩
theorem Un.refl:Un fs ex H H h h:=Un.kept fun _ _ q=>q
theorem Un.laid(k:∀b u,h.get? b=some u->h'.get? b=some u)(hp:h.objs.size<=a)(hn:H a=none):Un fs ex H (upd H a o) h h' where
 keep:=fun b u q _ _ _=>k b u q
 slot:=fun b u q _ _ _=>⟨u.slots,k b u q⟩
 free:=fun b u q n _=>by rw[zaD (ne_of_lt (lt_of_lt_of_le (Heap.lt_size q) hp))];exact n
 there:=fun b u q _=>⟨u,k b u q⟩
 tups:=fun b xs q=>by rw[zaD (zaC q hn)];exact q
 frzs:=fun b u xs q=>by rw[zaD (zaC q hn)];exact q
 tbls:=fun b ps q=>⟨#[],by rw[zaD (zaC q hn),q];simp⟩
theorem Un.write(mu:Mut (H x))(he:e=x\/H e=some (.own x))(k:∀b u,b≠e->h.get? b=some u->h'.get? b=some u)(heo:∃u,h'.get? e=some u):Un fs ex H (upd H x o) h h':=by
 have hx:∀b,H b=none->b≠x:=fun b n z=>by subst z;rw[n] at mu;exact mu
 have hb:∀b,H b=none->b≠e:=fun b n z=>by
  subst z
  rcases he with r|r
  ·exact hx b n r
  ·rw[n] at r;cases r
 have hm:∀b u,H b=some u->¬Mut (some u)->b≠x:=fun b u q nm z=>by subst z;rw[q] at mu;exact nm mu
 refine⟨fun b u q n _ _=>k b u (hb b n) q,fun b u q n _ _=>⟨u.slots,k b u (hb b n) q⟩,fun b u q n _=>by rw[zaD (hx b n)];exact n,fun b u q _=>?_,
  fun b xs q=>by rw[zaD (hm b _ q fun z=>z)];exact q,fun b u xs q=>by rw[zaD (hm b _ q fun z=>z)];exact q,fun b ps q=>⟨#[],by rw[zaD (hm b _ q fun z=>z),q];simp⟩⟩
 by_cases hbe:b=e
 ·subst hbe;exact heo
 ·exact⟨u,k b u hbe q⟩
end
def trk(h:Heap)(H:Hp):List Addr:=(List.range h.objs.size).filter fun a=>(H a).isSome
def zmb(h:Heap)(H:Hp):Heap:=PySem.W.hideAll h (trk h H)
theorem zj7(h:Heap)(H:Hp):(zmb h H).objs.size=h.objs.size:=PySem.W.hideAll_size _ _
theorem zmc{h:Heap}{H:Hp}{b:Addr}{o:Obj}(e:h.get? b=some o)(n:H b=none):(zmb h H).get? b=some o :=
 PySem.W.hideAll_get _ e fun hm=>by
  have q:(H b).isSome=true:=(mem_filter.mp hm).2
  rw[n] at q;simp at q
theorem zoB{h:Heap}{H:Hp}{b:Addr}{o:Obj}(e:(zmb h H).get? b=some o):h.get? b=some o/\H b=none:=by
 have e':h.get? b=some o:=PySem.W.of_hideAll (trk h H) e
 refine⟨e',?_⟩
 cases q:H b with
 | none=>rfl
 | some x =>
  have hm:b∈trk h H:=mem_filter.mpr ⟨mem_range.mpr (Heap.lt_size e'),by simp[q]⟩
  have z:(zmb h H).get? b=none:=PySem.W.hideAll_none (trk h H) hm
  rw[z] at e;cases e
def zoC(g h:Heap)(L:Addr):List (Addr×Obj):=(List.range h.objs.size).filterMap fun a=>if a=L\/(g.get? a).isSome=true then none else (h.get? a).map fun o=>(a,o)
def rest(g h:Heap)(L d:Addr):List (Addr×Obj):=(zoC g h L).filter fun p=>decide (p.1≠d)
structure Mod (K:PySem.W.Frag) (mg:Str->Option Value) (base:Heap):Prop where
 kin:K.In base
 glob:base.Ns mainGlobals mg
 blt:∃mb,base.Ns builtinsNs mb/\∀x:Str,x ≠ "__name__" -> mb x=bootBuiltins x
 nolimit:base.NoLimit
structure Cx where
 prog:Program
 w:World
 K:PySem.W.Frag
 mg:Str->Option Value
 base:Heap
 A:Around
 N:List Str
 s₀:Shared
 H₀:Hp
 env:Env
 outer:List Env
 stack:List Env
 ex:List Addr
 fn:Str->Bool
 calm:Bool
 pn:List (Addr×Obj)
 xe:Value->Shared->Prop
def frs(l:List Env):List Addr:=l.filterMap (·.frame)
abbrev Cx.fs(X:Cx):List Addr:=frs X.outer
def Vis(sc:Scope)(x:Str):Prop:=sc.names.lookup x=some .local\/sc.names.lookup x=some .cell\/sc.names.lookup x=some .free
def Loc(sc:Scope)(x:Str):Prop:=sc.names.lookup x=some .local\/sc.names.lookup x=some .cell
def zuC(env:Env)(h:Heap)(m:Str->Option Value)(x:Str)(u:Value):Prop :=
 (env.kindOf x=some .local/\m x=some u)\/((env.kindOf x=some .cell\/env.kindOf x=some .free)/\∃c,env.cells.lookup x=some c/\h.IsCell c (some u))
structure Cx.Ok (X:Cx):Prop where
 mod:Mod X.K X.mg X.base
 kind:X.env.scope.kind=.function
 glob:X.env.globals=mainGlobals
 blt:X.env.builtins=builtinsNs
 above:X.s₀.heap.objs.size<=X.env.locals
 inj:∀x y c,X.env.cells.lookup x=some c->X.env.cells.lookup y=some c->x=y
 has:∀x,(X.env.kindOf x=some .cell\/X.env.kindOf x=some .free)->∃c,X.env.cells.lookup x=some c
 cab:∀x c,X.fn x=true->X.env.cells.lookup x=some c->X.s₀.heap.objs.size<=c
 hd:X.calm=true->X.A.handled=none
 frames:X.A.frames=some X.stack
 stk:X.stack=X.outer\/(X.stack=X.env::X.outer/\X.env.frame=some X.env.locals)
 exf:∀b∈X.ex,b≠X.env.locals/\∀x c,X.env.cells.lookup x=some c->c≠b
 bs:∀b o,X.base.get? b=some o->X.s₀.heap.get? b=some o/\X.H₀ b=none
 bsz:X.base.objs.size<=X.s₀.heap.objs.size
 noex:∀b o,X.base.get? b=some o->b∉X.ex
 exfs:∀b∈X.ex,b∉X.fs
 funs:X.s₀.heap.FunFrames X.base X.outer
 frf:∀b∈X.fs,X.H₀ b=none
structure Inv (X:Cx) (pins:List (Addr×Obj)) (σ:List (Option V)) (H:Hp) (s:Shared):Prop where
 ok:X.Ok
 os:s.os=X.s₀.os
 bare:AllBare s.gens
 base:Un X.fs X.ex X.H₀ H X.s₀.heap s.heap
 loc:∃m,s.heap.Ns X.env.locals m/\∀(i:Nat) (x:Str) (v:V),X.N[i]?=some x->σ[i]?=some (some v)->Vis X.env.scope x->∃u,RelV v u/\zuC X.env s.heap m x u
 cell:∀x c,X.env.cells.lookup x=some c->∃v,s.heap.IsCell c v
 free:H X.env.locals=none
 freeC:∀x c,X.env.cells.lookup x=some c->H c=none
 pin:∀p∈X.pn++pins,s.heap.get? p.1=some p.2/\H p.1=none/\p.1≠X.env.locals/\p.1∉X.fs/\∀v,p.2.data≠.cell v
 hok:HOk X.prog X.w H s.heap
 len:σ.length=X.N.length
section
variable {X:Cx} {pins:List (Addr×Obj)} {σ:List (Option V)} {H H':Hp} {s:Shared} {h':Heap}
theorem Cx.Ok.nofr(ok:X.Ok){b:Addr}{o:Obj}(e:X.base.get? b=some o):b∉X.fs:=fun hb=>by
 have:=(ok.funs.mem hb).1
 rw[e] at this;cases this
theorem Inv.bs(I:Inv X pins σ H s):∀b o,X.base.get? b=some o->s.heap.get? b=some o/\H b=none:=fun b o e =>
 ⟨I.base.keep b o (I.ok.bs b o e).1 (I.ok.bs b o e).2 (I.ok.nofr e) (I.ok.noex b o e),I.base.free b o (I.ok.bs b o e).1 (I.ok.bs b o e).2 (I.ok.noex b o e)⟩
theorem Inv.bk(I:Inv X pins σ H s):∀b o,X.base.get? b=some o->s.heap.get? b=some o:=fun b o e=>(I.bs b o e).1
theorem Inv.mod(I:Inv X pins σ H s):Mod X.K X.mg X.base:=I.ok.mod
theorem Inv.kIn(I:Inv X pins σ H s):X.K.In s.heap:=I.ok.mod.kin.keeps I.bk
theorem Inv.lt(I:Inv X pins σ H s):X.env.locals<s.heap.objs.size:=let ⟨_,hn,_⟩:=I.loc;hn.lt
theorem Inv.sz(I:Inv X pins σ H s):X.s₀.heap.objs.size<=s.heap.objs.size:=le_trans I.ok.above (le_of_lt I.lt)
theorem Inv.nofs(I:Inv X pins σ H s){a:Addr}(h:s.heap.objs.size<=a):a∉X.fs:=fun hb=>by
 obtain⟨_,o,ho,_⟩:=I.ok.funs.mem hb
 exact absurd (lt_of_lt_of_le (Heap.lt_size ho) (le_trans I.sz h)) (lt_irrefl _)
theorem Inv.cne(I:Inv X pins σ H s):∀x c,X.env.cells.lookup x=some c->c≠X.env.locals:=fun x c e z=>by
 obtain⟨v,o,ho,hd⟩:=I.cell x c e
 obtain⟨m,⟨o',es,ep,ho',hd',_⟩,_⟩:=I.loc
 rw[z,ho'] at ho;cases ho;rw[hd'] at hd;cases hd
theorem Inv.funs(I:Inv X pins σ H s):s.heap.FunFrames X.base X.outer:=by
 have all:∀(l:List Env),(∀b∈frs l,b∈X.fs)->X.s₀.heap.FunFrames X.base l->s.heap.FunFrames X.base l:=by
  intro l
  induction l with
  | nil=>intro _ _;trivial
  | cons env r ih =>
   intro hs hl
   obtain⟨hk,⟨L,o,hf,hn,ho,hd⟩,hr⟩:=hl
   have hL:L∈X.fs:=hs L (by unfold frs;rw[filterMap_cons,hf];exact mem_cons_self)
   obtain⟨sl,e⟩:=I.base.slot L o ho (I.ok.frf L hL) hL fun z=>I.ok.exfs L z hL
   exact⟨hk,⟨L,_,hf,hn,e,hd⟩,ih (fun b hb=>hs b (by unfold frs;rw[filterMap_cons,hf];exact mem_cons_of_mem _ hb)) hr⟩
 exact all X.outer (fun _ hb=>hb) I.ok.funs
theorem Inv.stack(I:Inv X pins σ H s):s.heap.FunFrames X.base X.stack:=by
 rcases I.ok.stk with e|⟨e,hf⟩
 ·rw[e];exact I.funs
 ·rw[e]
  obtain⟨m,hn,_⟩:=I.loc
  refine .cons (by rw[I.ok.kind];decide) hf hn ?_ I.funs
  exact Heap.get?_none_of_le (le_trans I.ok.bsz I.ok.above)
theorem Inv.stkSub(I:Inv X pins σ H s):∀b∈frs X.stack,b∈X.env.locals::X.fs:=fun b hb=>by
 rcases I.ok.stk with e|⟨e,hf⟩
 ·rw[e] at hb;exact mem_cons_of_mem _ hb
 ·rw[e] at hb
  unfold frs at hb
  rw[filterMap_cons,hf] at hb
  exact hb
theorem Inv.stkFree(I:Inv X pins σ H s):∀b∈frs X.stack,H b=none:=fun b hb=>by
 rcases mem_cons.mp (I.stkSub b hb) with e|hb
 ·rw[e];exact I.free
 ·obtain⟨_,o,ho,_⟩:=I.ok.funs.mem hb
  exact I.base.free b o ho (I.ok.frf b hb) fun z=>I.ok.exfs b z hb
theorem Inv.step{g':Array GenState}{t':Nat}{d':Drawn}{ch:List Addr}(I:Inv X pins σ H s)(hch:∀b∈ch,(b∈X.ex\/X.s₀.heap.objs.size<=b)/\b≠X.env.locals/\(∀x c,X.env.cells.lookup x=some c->c≠b)/\∀p∈X.pn++pins,p.1≠b)(keep:∀b o,b≠X.env.locals->b∉X.fs->b∉ch->s.heap.get? b=some o->H b=none->h'.get? b=some o)(slot:∀b o,b≠X.env.locals->b∈X.fs->b∉ch->s.heap.get? b=some o->H b=none->∃sl,h'.get? b=some { o with slots:=sl })(free:∀b o,b∉ch->s.heap.get? b=some o->H b=none->H' b=none)(there:∀b o,b∉ch->s.heap.get? b=some o->∃o',h'.get? b=some o')(tups:∀b xs,H b=some (.tup xs)->H' b=some (.tup xs))(frzs:∀b o u,H b=some (.frz o u)->H' b=some (.frz o u))(tbls:∀b ps,H b=some (.tbl ps)->∃more,H' b=some (.tbl (ps++more)))(ns:∀m,s.heap.Ns X.env.locals m->h'.Ns X.env.locals m)(hok:HOk X.prog X.w H' h')(hg:AllBare g') :
  Inv X pins σ H' { s with heap:=h',gens:=g',drawn:=d',toks:=t' }:=by
 have neL:∀b o,X.s₀.heap.get? b=some o->b≠X.env.locals:=fun b o e=>ne_of_lt (lt_of_lt_of_le (Heap.lt_size e) I.ok.above)
 have neC:∀b o,X.s₀.heap.get? b=some o->b∉X.ex->b∉ch:=fun b o e hx hb=>by
  rcases(hch b hb).1 with z|z
  ·exact hx z
  ·exact absurd (lt_of_lt_of_le (Heap.lt_size e) z) (lt_irrefl _)
 have cellK:∀x c,X.env.cells.lookup x=some c->∀v,s.heap.IsCell c v->h'.IsCell c v:=fun x c e v ⟨o,ho,hd⟩=>by
  have nch:c∉ch:=fun z=>(hch c z).2.2.1 x c e rfl
  by_cases hc:c∈X.fs
  ·obtain⟨sl,q⟩:=slot c o (I.cne x c e) hc nch ho (I.freeC x c e)
   exact⟨_,q,hd⟩
  ·exact⟨o,keep c o (I.cne x c e) hc nch ho (I.freeC x c e),hd⟩
 refine⟨I.ok,I.os,hg,⟨fun b o e n hb hx=>?_,fun b o e n hb hx=>?_,fun b o e n hx=>?_,fun b o e hx=>?_,fun b xs e=>tups b xs (I.base.tups b xs e),fun b o xs e=>frzs b o xs (I.base.frzs b o xs e),fun b ps e=>?_⟩,?_,fun x c e=>?_,?_,fun x c e=>?_,fun p hp=>?_,hok,I.len⟩
 ·exact keep b o (neL b o e) hb (neC b o e hx) (I.base.keep b o e n hb hx) (I.base.free b o e n hx)
 ·obtain⟨sl,e1⟩:=I.base.slot b o e n hb hx
  obtain⟨sl',e2⟩:=slot b _ (neL b o e) hb (neC b o e hx) e1 (I.base.free b o e n hx)
  exact⟨sl',e2⟩
 ·obtain⟨o',e1⟩:=I.base.there b o e hx
  exact free b o' (neC b o e hx) e1 (I.base.free b o e n hx)
 ·obtain⟨o',e1⟩:=I.base.there b o e hx
  exact there b o' (neC b o e hx) e1
 ·obtain⟨m1,e1⟩:=I.base.tbls b ps e
  obtain⟨m2,e2⟩:=tbls b _ e1
  exact⟨m1++m2,by rw[e2,Array.append_assoc]⟩
 ·obtain⟨m,hn,hl⟩:=I.loc
  refine⟨m,ns m hn,fun i x v e1 e2 e3=>?_⟩
  obtain⟨u,r,l⟩:=hl i x v e1 e2 e3
  refine⟨u,r,?_⟩
  rcases l with l|⟨k,c,e,z⟩
  ·exact .inl l
  ·exact .inr ⟨k,c,e,cellK x c e _ z⟩
 ·obtain⟨v,z⟩:=I.cell x c e
  exact⟨v,cellK x c e v z⟩
 ·obtain⟨m,⟨o,_,_,ho,_⟩,_⟩:=I.loc
  exact free _ o (fun z=>(hch _ z).2.1 rfl) ho I.free
 ·obtain⟨v,o,ho,hd⟩:=I.cell x c e
  exact free c o (fun z=>(hch c z).2.2.1 x c e rfl) ho (I.freeC x c e)
 ·obtain⟨e,n,ne,nf,d⟩:=I.pin p hp
  have nch:p.1∉ch:=fun z=>(hch p.1 z).2.2.2 p hp rfl
  exact⟨keep p.1 p.2 ne nf nch e n,free p.1 p.2 nch e n,ne,nf,d⟩
theorem Inv.un{t':Nat}(I:Inv X pins σ H s)(u:Un X.fs [] H H' s.heap h')(hok:HOk X.prog X.w H' h'):Inv X pins σ H' { s with heap:=h',toks:=t' }:=by
 obtain⟨m,⟨o,es,ep,ho,r⟩,_⟩:=id I.loc
 obtain⟨sl,hL⟩:=u.any ho I.free (by simp)
 exact I.step (g':=s.gens) (d':=s.drawn) (ch:=[]) (fun _ z=>nomatch z) (fun b o _ hb _ e n=>u.keep b o e n hb (by simp)) (fun b o _ hb _ e n=>u.slot b o e n hb (by simp)) (fun b o _ e n=>u.free b o e n (by simp)) (fun b o _ e=>u.there b o e (by simp)) u.tups u.frzs u.tbls (fun m' hm=>by
  obtain⟨o',es',ep',ho',r'⟩:=hm
  rw[ho] at ho';cases ho'
  exact⟨_,es',ep',hL,r'⟩) hok I.bare
theorem Inv.call{g':Array GenState}{t':Nat}{d':Drawn}{ch:List Addr}(I:Inv X pins σ H s)(u:Un (frs X.stack) ch H H' s.heap h')(hok:HOk X.prog X.w H' h')(hg:AllBare g')(hch:∀b∈ch,(b∈X.ex\/X.s₀.heap.objs.size<=b)/\b≠X.env.locals/\(∀x c,X.env.cells.lookup x=some c->c≠b)/\∀p∈X.pn++pins,p.1≠b) :
  Inv X pins σ H' { s with heap:=h',gens:=g',drawn:=d',toks:=t' }:=by
 obtain⟨m,⟨o,es,ep,ho,r⟩,_⟩:=id I.loc
 obtain⟨sl,hL⟩:=u.any ho I.free fun z=>(hch _ z).2.1 rfl
 exact I.step (ch:=ch) hch (fun b o hL hb hc e n=>u.keep b o e n (fun z=>(mem_cons.mp (I.stkSub b z)).elim hL hb) hc) (fun b o _ _ hc e n=>u.any e n hc) (fun b o hc e n=>u.free b o e n hc) (fun b o hc e=>u.there b o e hc) u.tups u.frzs u.tbls (fun m' hm=>by
  obtain⟨o',es',ep',ho',r'⟩:=hm
  rw[ho] at ho';cases ho'
  exact⟨_,es',ep',hL,r'⟩) hok hg
theorem Inv.turned{t':Nat}{it:Addr}(I:Inv X pins σ H s)(k:∀b o,b≠it->s.heap.get? b=some o->h'.get? b=some o)(hn:H it=none)(hL:it≠X.env.locals)(h1:it∈X.ex\/X.s₀.heap.objs.size<=it)(h2:∀x c,X.env.cells.lookup x=some c->c≠it)(h3:∀p∈X.pn++pins,p.1≠it):Inv X pins σ H { s with heap:=h',toks:=t' }:=by
 have nit:∀b u,H b=some u->b≠it:=fun b u e z=>by rw[z,hn] at e;cases e
 refine I.step (g':=s.gens) (d':=s.drawn) (ch:=[it]) (fun b hb=>?_) (fun b o _ _ hc e _=>k b o (fun z=>hc (by simp[z])) e) (fun b o _ _ hc e _=>⟨o.slots,k b o (fun z=>hc (by simp[z])) e⟩) (fun _ _ _ _ n=>n)
  (fun b o hc e=>⟨o,k b o (fun z=>hc (by simp[z])) e⟩) (fun _ _ e=>e) (fun _ _ _ e=>e) (fun b ps e=>⟨#[],by rw[e];simp⟩) (fun m hm=>?_) (fun b u e=>?_) I.bare
 ·have e:b=it:=by simpa using hb
  subst e
  exact⟨h1,hL,h2,h3⟩
 ·obtain⟨o,es,ep,ho,r⟩:=hm
  exact⟨o,es,ep,k _ o (Ne.symm hL) ho,r⟩
 ·refine(I.hok b u e).stay (fun c v hc q=>k c v ?_ q) (fun _ q=>q) fun _ _ q=>q
  rcases hc with z|z
  ·rw[z];exact nit b u e
  ·exact nit c _ z
theorem Inv.tok(I:Inv X pins σ H s)(t:Nat):Inv X pins σ H { s with toks:=t }:=I.un (h':=s.heap) (t':=t) Un.refl I.hok
theorem Inv.kept{t':Nat}(I:Inv X pins σ H s)(k:∀b u,s.heap.get? b=some u->h'.get? b=some u):Inv X pins σ H { s with heap:=h',toks:=t' }:=I.un (Un.kept k) (I.hok.kept k)
theorem Inv.laid{a:Addr}{o:HO}{t':Nat}(I:Inv X pins σ H s)(k:∀b u,s.heap.get? b=some u->h'.get? b=some u)(hp:s.heap.objs.size<=a)(new:ObjOk X.prog X.w (upd H a o) h' a o) :
  Inv X pins σ (upd H a o) { s with heap:=h',toks:=t' }:=I.un (Un.laid k hp (I.hok.fresh hp)) (I.hok.laid k hp new)
theorem Inv.write{x e:Addr}{o:HO}{t':Nat}(I:Inv X pins σ H s)(mu:Mut (H x))(he:e=x\/H e=some (.own x))(k:∀b u,b≠e->s.heap.get? b=some u->h'.get? b=some u)(heo:∃u,h'.get? e=some u)(new:ObjOk X.prog X.w (upd H x o) h' x o):Inv X pins σ (upd H x o) { s with heap:=h',toks:=t' }:=I.un (Un.write mu he k heo) (I.hok.write mu he k heo new)
theorem Inv.weak{σ':List (Option V)}(I:Inv X pins σ H s)(hl:σ'.length=σ.length)(w:∀(i:Nat) v,σ'[i]?=some (some v)->σ[i]?=some (some v)):Inv X pins σ' H s :=
 ⟨I.ok,I.os,I.bare,I.base,let ⟨m,hn,hl'⟩:=I.loc;⟨m,hn,fun i x v e1 e2 e3=>hl' i x v e1 (w i v e2) e3⟩,I.cell,I.free,I.freeC,I.pin,I.hok,hl.trans I.len⟩
theorem Inv.pins_of{pins':List (Addr×Obj)}(I:Inv X pins σ H s)(h:∀p∈pins',s.heap.get? p.1=some p.2/\H p.1=none/\p.1≠X.env.locals/\p.1∉X.fs/\∀v,p.2.data≠.cell v):Inv X pins' σ H s :=
 ⟨I.ok,I.os,I.bare,I.base,I.loc,I.cell,I.free,I.freeC,fun p hp=>(mem_append.mp hp).elim (fun z=>I.pin p (mem_append_left _ z)) (h p),I.hok,I.len⟩
theorem zgj{N:List Str}(hN:N.Nodup){i j:Nat}{x:Str}(a:N[i]?=some x)(b:N[j]?=some x):i=j:=by
 obtain⟨h1,e1⟩:=List.getElem?_eq_some_iff.mp a
 obtain⟨h2,e2⟩:=List.getElem?_eq_some_iff.mp b
 exact(getElem_inj hN).mp (e1.trans e2.symm)
theorem zj8{M:Model}{A:Around}{E:Value->Shared->Prop}{i:Nat}{x:Str}{v:V}{u:Value}{Q:Unit->Shared->Prop}(I:Inv X pins σ H s)(hN:X.N.Nodup)(hi:X.N[i]?=some x)(hx:Loc X.env.scope x)(r:RelV v u)(h:∀s',Inv X pins (σ.set i (some v)) H s'->(∃a,Heap.SameBut a s.heap s'.heap/\(a=X.env.locals\/X.env.cells.lookup x=some a))->Q () s')(hf:X.fn x=true\/X.env.scope.names.lookup x=some .local:=by first|exact .inl rfl|exact .inr rfl|assumption):wpAny M A (storeName X.env x u) Q E s:=by
 obtain⟨m,hn,hl⟩:=id I.loc
 have hcls:(X.env.scope.kind==.class||(X.env.scope.kind==.module&&X.env.locals != X.env.globals))=false:=by rw[I.ok.kind];rfl
 have hiσ:i<σ.length:=by rw[I.len];exact(List.getElem?_eq_some_iff.mp hi).1
 have cne:=I.cne
 have tracked:∀{a:Addr} {h':Heap},(∃o,s.heap.get? a=some o/\H a=none)->Heap.SameBut a s.heap h'->HOk X.prog X.w H h':=fun {a h'} ha hs b ob e=>by
  obtain⟨_,_,hfree⟩:=ha
  refine(I.hok b ob e).stay (fun c w' hc q=>(hs.2 c ?_).trans q) (fun _ q=>q) fun _ _ q=>q
  rintro rfl
  rcases hc with rfl|hc
  ·rw[hfree] at e;cases e
  ·rw[hfree] at hc;cases hc
 rcases hx with hk|hk
 ·refine wpAny_storeName_local hk hn (fun h' hn' hs=>?_) hcls
  obtain⟨oL,_,_,hoL,_⟩:=id hn
  refine h _ ⟨I.ok,I.os,I.bare,⟨fun b o e n hb hx=>?_,fun b o e n hb hx=>?_,I.base.free,fun b o e hx=>?_,I.base.tups,I.base.frzs,I.base.tbls⟩,⟨_,hn',fun j y v' e1 e2 e3=>?_⟩,fun y c e=>?_,I.free,I.freeC,fun p hp=>?_,tracked ⟨oL,hoL,I.free⟩ hs,by simpa using I.len⟩ ⟨_,hs,.inl rfl⟩
  ·exact(hs.2 b (ne_of_lt (lt_of_lt_of_le (Heap.lt_size e) I.ok.above))).trans (I.base.keep b o e n hb hx)
  ·obtain⟨sl,e1⟩:=I.base.slot b o e n hb hx
   exact⟨sl,(hs.2 b (ne_of_lt (lt_of_lt_of_le (Heap.lt_size e) I.ok.above))).trans e1⟩
  ·obtain⟨o',e1⟩:=I.base.there b o e hx
   exact⟨o',(hs.2 b (ne_of_lt (lt_of_lt_of_le (Heap.lt_size e) I.ok.above))).trans e1⟩
  ·by_cases hj:j=i
   ·subst hj
    rw[hi] at e1;cases e1
    rw[getElem?_set_self hiσ] at e2
    cases e2
    exact⟨u,r,.inl ⟨hk,by simp⟩⟩
   ·rw[getElem?_set_ne (Ne.symm hj)] at e2
    obtain⟨u',r',q⟩:=hl j y v' e1 e2 e3
    refine⟨u',r',?_⟩
    rcases q with ⟨k,e⟩|⟨k,c,e,z⟩
    ·refine .inl ⟨k,?_⟩
     have:y≠x:=fun e=>hj (zgj hN e1 (e▸hi))
     simp[this,e]
    ·exact .inr ⟨k,c,e,z.sameBut hs (cne y c e)⟩
  ·obtain⟨w',z⟩:=I.cell y c e
   exact⟨w',z.sameBut hs (cne y c e)⟩
  ·obtain⟨e,n,ne,nf,d⟩:=I.pin p hp
   exact⟨(hs.2 p.1 ne).trans e,n,ne,nf,d⟩
 ·have hfn:X.fn x=true:=by
   rcases hf with z|z
   ·exact z
   ·rw[z] at hk;cases hk
  obtain⟨c,hc⟩:=I.ok.has x (.inl hk)
  obtain⟨w',z⟩:=I.cell x c hc
  refine wpAny_storeName_cell I.ok.kind hk hc z (fun h' hc' hs=>?_)
  obtain⟨oc,hoc,hocd⟩:=id z
  refine h { s with heap:=h' } ⟨I.ok,I.os,I.bare,⟨fun b o e n hb hx=>?_,fun b o e n hb hx=>?_,I.base.free,fun b o e hx=>?_,I.base.tups,I.base.frzs,I.base.tbls⟩,⟨m,hn.sameBut hs (Ne.symm (cne x c hc)),fun j y v' e1 e2 e3=>?_⟩,fun y c' e=>?_,I.free,I.freeC,fun p hp=>?_,tracked ⟨oc,hoc,I.freeC x c hc⟩ hs,by simpa using I.len⟩ ⟨c,hs,.inr hc⟩
  ·exact(hs.2 b (ne_of_lt (lt_of_lt_of_le (Heap.lt_size e) (I.ok.cab x c hfn hc)))).trans (I.base.keep b o e n hb hx)
  ·obtain⟨sl,e1⟩:=I.base.slot b o e n hb hx
   exact⟨sl,(hs.2 b (ne_of_lt (lt_of_lt_of_le (Heap.lt_size e) (I.ok.cab x c hfn hc)))).trans e1⟩
  ·obtain⟨o',e1⟩:=I.base.there b o e hx
   exact⟨o',(hs.2 b (ne_of_lt (lt_of_lt_of_le (Heap.lt_size e) (I.ok.cab x c hfn hc)))).trans e1⟩
  ·by_cases hj:j=i
   ·subst hj
    rw[hi] at e1;cases e1
    rw[getElem?_set_self hiσ] at e2
    cases e2
    exact⟨u,r,.inr ⟨.inl hk,c,hc,hc'⟩⟩
   ·rw[getElem?_set_ne (Ne.symm hj)] at e2
    obtain⟨u',r',q⟩:=hl j y v' e1 e2 e3
    refine⟨u',r',?_⟩
    rcases q with q|⟨k,c',e,z'⟩
    ·exact .inl q
    ·refine .inr ⟨k,c',e,z'.sameBut hs ?_⟩
     rintro rfl
     exact hj (zgj hN e1 (I.ok.inj _ _ _ e hc▸hi))
  ·by_cases hcc:c'=c
   ·subst hcc;exact⟨_,hc'⟩
   ·obtain⟨w2,z2⟩:=I.cell y c' e
    exact⟨w2,z2.sameBut hs hcc⟩
  ·obtain⟨e,n,ne,nf,d⟩:=I.pin p hp
   refine⟨(hs.2 p.1 ?_).trans e,n,ne,nf,d⟩
   intro q
   rw[q,hoc] at e
   have q':oc=p.2:=Option.some.inj e
   exact d w' (by rw[<- q'];exact hocd)
theorem zgk{M:Model}{A:Around}{E:Value->Shared->Prop}{i:Nat}{x:Str}{v:V}{u:Value}{Q:Unit->Shared->Prop}(I:Inv X pins σ H s)(hN:X.N.Nodup)(hi:X.N[i]?=some x)(hx:Loc X.env.scope x)(r:RelV v u)(h:∀s',Inv X pins (σ.set i (some v)) H s'->Q () s')(hf:X.fn x=true\/X.env.scope.names.lookup x=some .local:=by first|exact .inl rfl|exact .inr rfl|assumption):wpAny M A (storeName X.env x u) Q E s :=
 zj8 I hN hi hx r (fun s' I' _=>h s' I') hf
theorem Inv.call'{s':Shared}{ch:List Addr}(I:Inv X pins σ H s)(ho:s'.os=s.os)(u:Un (frs X.stack) ch H H' s.heap s'.heap)(hok:HOk X.prog X.w H' s'.heap)(hg:AllBare s'.gens)(hch:∀b∈ch,(b∈X.ex\/X.s₀.heap.objs.size<=b)/\b≠X.env.locals/\(∀x c,X.env.cells.lookup x=some c->c≠b)/\∀p∈X.pn++pins,p.1≠b):Inv X pins σ H' s':=by
 obtain⟨h',g',d',t',o'⟩:=s'
 have e:o'=s.os:=ho
 subst e
 exact I.call (g':=g') (t':=t') (d':=d') u hok hg hch
end
abbrev XK:=Value->Option Addr->Hp->Prop
abbrev St:=List (Option V)
abbrev VK:=V->Hp->Prop
abbrev TE:=St->Hp->VK->Prop
abbrev TT:=St->Hp->(Bool->Hp->Prop)->Prop
abbrev TA:=St->Hp->(List V->Hp->Prop)->Prop
structure Ends where
 nx:St->Hp->Prop
 rt:VK
 bk:St->Hp->Prop:=fun _ _=>False
 ct:St->Hp->Prop:=fun _ _=>False
abbrev TS:=Ends->St->Hp->Prop
def EP(X:Cx)(pins:List (Addr×Obj))(σ:St)(Q:VK)(u:Value)(s':Shared):Prop:=∃v H',Inv X pins σ H' s'/\RelV v u/\Q v H'
def TP(X:Cx)(pins:List (Addr×Obj))(σ:St)(Q:Bool->Hp->Prop)(b:Bool)(s':Shared):Prop:=∃H',Inv X pins σ H' s'/\Q b H'
def AP(X:Cx)(pins:List (Addr×Obj))(σ:St)(Q:List V->Hp->Prop)(us:List Value)(s':Shared):Prop:=∃vs H',Inv X pins σ H' s'/\Vals vs us/\Q vs H'
def SP(X:Cx)(pins:List (Addr×Obj))(D:Ends)(f:Flow)(s':Shared):Prop :=
 match f with
 | .next=>∃σ' H',Inv X pins σ' H' s'/\D.nx σ' H'
 | .brk=>∃σ' H',Inv X pins σ' H' s'/\D.bk σ' H'
 | .cont=>∃σ' H',Inv X pins σ' H' s'/\D.ct σ' H'
 | .ret u=>∃v σ' H',Inv X pins σ' H' s'/\RelV v u/\D.rt v H'
def PE(X:Cx)(e:Expr)(t:TE):Prop :=
 ∀(pins:List (Addr×Obj)) (s:Shared) (σ:St) (H:Hp) (Q:VK),Inv X pins σ H s->t σ H Q->wpAny (model X.prog X.w) X.A (eval e X.env) (EP X pins σ Q) X.xe s
def PT(X:Cx)(e:Expr)(t:TT):Prop :=
 ∀(pins:List (Addr×Obj)) (s:Shared) (σ:St) (H:Hp) (Q:Bool->Hp->Prop),Inv X pins σ H s->t σ H Q->wpAny (model X.prog X.w) X.A (isTrue e X.env (eval e X.env)) (TP X pins σ Q) X.xe s
def PW(X:Cx)(e:Expr)(t:TT):Prop :=
 ∀(whole:Sem Value) (pins:List (Addr×Obj)) (s:Shared) (σ:St) (H:Hp) (Q:Bool->Hp->Prop),Inv X pins σ H s->t σ H Q->wpAny (model X.prog X.w) X.A (isTrue e X.env whole) (TP X pins σ Q) X.xe s
theorem PW.pt{X:Cx}{e:Expr}{t:TT}(h:PW X e t):PT X e t:=h _
def PA(X:Cx)(es:List Expr)(t:TA):Prop :=
 ∀(pos:Pos) (pins:List (Addr×Obj)) (s:Shared) (σ:St) (H:Hp) (Q:List V->Hp->Prop),Inv X pins σ H s->t σ H Q->wpAny (model X.prog X.w) X.A (spliced (backTo pos (starEach es X.env))) (AP X pins σ Q) X.xe s
def PS(X:Cx)(st:Stmt)(t:TS):Prop :=
 ∀(pins:List (Addr×Obj)) (s:Shared) (σ:St) (H:Hp) (D:Ends),Inv X pins σ H s->t D σ H->wpAny (model X.prog X.w) X.A (exec st X.env) (SP X pins D) X.xe s
def PSs(X:Cx)(st:List Stmt)(t:TS):Prop :=
 ∀(pins:List (Addr×Obj)) (s:Shared) (σ:St) (H:Hp) (D:Ends),Inv X pins σ H s->t D σ H->wpAny (model X.prog X.w) X.A (execs st X.env) (SP X pins D) X.xe s
theorem thn{α:Type}{t:Sem α}{Q Q':α->Shared->Prop}{M:Model}{A:Around}{E:Value->Shared->Prop}{s:Shared}(h:wpAny M A t Q E s)(hQ:∀a s,Q a s->Q' a s):wpAny M A t Q' E s:=wpAny_mono h hQ fun _ _ x=>x
section
variable {X:Cx}
def zuD(i:Nat):TE:=fun σ H Q=>∃v,σ[i]?=some (some v)/\Q v H
def tC(v:V):TE:=fun _ H Q=>Q v H
theorem zfV{i:Nat}{x:Str}{pos:Pos}(hN:X.N[i]?=some x)(hv:Vis X.env.scope x)(hd:(x==("__debug__" : Str))=false:=by decide)(hcd:(x==("__classdict__" : Str))=false:=by decide):PE X (.Name x pos) (zuD i):=by
 intro pins s σ H Q I h
 obtain⟨v,e,h⟩:=h
 obtain⟨m,hn,hl⟩:=I.loc
 obtain⟨u,r,l⟩:=hl i x v hN e hv
 have fin:EP X pins σ Q u s:=⟨v,H,I,r,h⟩
 rcases l with ⟨hk,hm⟩|⟨hk,c,hc,hcell⟩
 ·exact wpAny_Name (wpAny_loadName_local I.ok.kind hk hn hm fin) hd
 ·rcases hk with hk|hk
  ·exact wpAny_Name (wpAny_loadName_cell I.ok.kind hk hc hcell fin) hd
  ·exact wpAny_Name (wpAny_loadName_free I.ok.kind hk hc hcell fin hcd) hd
theorem zqw{i j pos}:PE X (.Constant (.int i) j pos) (tC (.int i)):=fun _ _ _ H _ I h=>wpAny_Constant_int ⟨.int i,H,I.tok _,⟨_,rfl⟩,h⟩
theorem zsE{b j pos}:PE X (.Constant (.bool b) j pos) (tC (.bl b)):=fun _ _ _ H _ I h=>Constant_bool ⟨.bl b,H,I,rfl,h⟩
theorem zqx{j pos}:PE X (.Constant .none j pos) (tC .non):=fun _ _ _ H _ I h=>Constant_none ⟨.non,H,I,rfl,h⟩
theorem zqy{x j pos}:PE X (.Constant (.str x) j pos) (tC (.str x)):=fun _ _ _ H _ I h=>Calls.Constant_str ⟨.str x,H,I.tok _,⟨_,rfl⟩,h⟩
def Gl(X:Cx)(x:Str):Prop:=X.env.kindOf x=some .globalImplicit
theorem zdq{E:Value->Shared->Prop}{pins:List (Addr×Obj)}{s:Shared}{σ:St}{H:Hp}{x:Str}{u:Value}{pos:Pos}{Q:Value->Shared->Prop}(I:Inv X pins σ H s)(hg:Gl X x)(hm:X.mg x=some u)(h:Q u s)(hd:(x==("__debug__" : Str))=false:=by decide):wpAny (model X.prog X.w) X.A (eval (.Name x pos) X.env) Q E s :=
 Calls.Name_function_global I.ok.kind hg (Calls.loadGlobal_global (by rw[I.ok.glob];exact I.mod.glob.keeps I.bk) hm h) hd
theorem zhg{E:Value->Shared->Prop}{pins:List (Addr×Obj)}{s:Shared}{σ:St}{H:Hp}{x:Str}{u:Value}{pos:Pos}{Q:Value->Shared->Prop}(I:Inv X pins σ H s)(hg:Gl X x)(hm:X.mg x=none)(hv:bootBuiltins x=some u)(h:Q u s)(hn:x ≠ "__name__" := by decide)(hd:(x==("__debug__" : Str))=false:=by decide):wpAny (model X.prog X.w) X.A (eval (.Name x pos) X.env) Q E s:=by
 obtain⟨mb,h1,h2⟩:=I.mod.blt
 exact Calls.Name_function_global I.ok.kind hg (Calls.loadGlobal_builtin (by rw[I.ok.glob];exact I.mod.glob.keeps I.bk) hm (by rw[I.ok.blt];exact h1.keeps I.bk) ((h2 x hn).trans hv) h) hd
theorem zoD{x:Str}{v:V}{u:Value}{pos:Pos}(hg:Gl X x)(hm:X.mg x=some u)(r:RelV v u)(hd:(x==("__debug__" : Str))=false:=by decide):PE X (.Name x pos) (tC v) :=
 fun _ _ _ H _ I h=>zdq I hg hm ⟨v,H,I,r,h⟩ hd
theorem zoE{x:Str}{v:V}{u:Value}{pos:Pos}(hg:Gl X x)(hm:X.mg x=none)(hv:bootBuiltins x=some u)(r:RelV v u)(hn:x ≠ "__name__" := by decide)(hd:(x==("__debug__" : Str))=false:=by decide):PE X (.Name x pos) (tC v) :=
 fun _ _ _ H _ I h=>zhg I hg hm hv ⟨v,H,I,r,h⟩ hn hd
variable {a b:Expr} {ta tb:TE} {pos:Pos}
def PC(X:Cx)(op:CmpOp)(a b:Expr)(t:TE):Prop :=
 ∀(pins:List (Addr×Obj)) (s:Shared) (σ:St) (H:Hp) (Q:VK),Inv X pins σ H s->t σ H Q ->
  wpAny (model X.prog X.w) X.A (eval a X.env) (fun v s₁=>wpAny (model X.prog X.w) X.A (eval b X.env) (fun u s₂=>wpAny (model X.prog X.w) X.A (compareOp op v u) (EP X pins σ Q) X.xe s₂) X.xe s₁) X.xe s
def zuE(ta:TE):TE:=fun σ H Q=>ta σ H fun x H1=>Q (.bl (decide (x=.non))) H1
def zsF(ta:TE):TE:=fun σ H Q=>ta σ H fun x H1=>Q (.bl (!decide (x=.non))) H1
theorem RelV.none_iff{x:V}{v:Value}(r:RelV x v):(v==Value.none)=decide (x=.non):=by
 cases x with
 | non=>cases r;rfl
 | bl _=>cases r;rfl
 | int _=>obtain⟨t,rfl⟩:=r;rfl
 | str _=>obtain⟨t,rfl⟩:=r;rfl
 | byt _=>obtain⟨t,rfl⟩:=r;rfl
 | flt _=>obtain⟨t,rfl⟩:=r;rfl
 | ref _=>cases r;rfl
 | ty _=>cases r;rfl
theorem zqz{j pos'}(ha:PE X a ta):PC X .Is a (.Constant .none j pos') (zuE ta):=by
 intro pins s σ H Q I h
 refine thn (ha pins s σ H _ I h) fun v s1 ⟨x,H1,I1,r1,q1⟩=>?_
 exact Constant_none (is_none_gen ⟨.bl _,H1,I1,by rw[r1.none_iff];rfl,q1⟩)
theorem zoF{j pos'}(ha:PE X a ta):PC X .IsNot a (.Constant .none j pos') (zsF ta):=by
 intro pins s σ H Q I h
 refine thn (ha pins s σ H _ I h) fun v s1 ⟨x,H1,I1,r1,q1⟩=>?_
 exact Constant_none (isnot_none_gen ⟨.bl _,H1,I1,by rw[r1.none_iff];rfl,q1⟩)
def tB(t:TE):TT:=fun σ H Q=>t σ H fun x H1=>∃c,x=.bl c/\Q c H1
theorem zqA{op:CmpOp}{t:TE}(h:PC X op a b t)(h1:behindInMarks op b=false:=by first|exact nobehind _ (by decide) (by decide)|rfl):PT X (.Compare a [op] [b] pos) (tB t):=by
 intro pins s σ H Q I hw
 refine wpAny_isTrue_Compare1 (thn (h pins s σ H _ I hw) fun v s1 h1=>thn h1 fun u s2 h2=>thn h2 fun c s3 ⟨x,H1,I1,r1,q1⟩=>?_) h1
 obtain⟨d,rfl,q⟩:=q1
 cases r1
 exact wpAny_truthy_bool ⟨H1,I1,q⟩
theorem zqB{e:Expr}{t:TE}(h:PE X e t)(he:∀whole,isTrue e X.env whole=(do let v <- whole;standAt e.pos;holding [v] (truthy v)):=by intro _;rfl):PT X e (tB t):=by
 intro pins s σ H Q I hw
 refine isTrue_plain (thn (h pins s σ H _ I hw) fun v s1 ⟨x,H1,I1,r1,q1⟩=>?_) (he _)
 obtain⟨d,rfl,q⟩:=q1
 cases r1
 exact wpAny_truthy_bool ⟨H1,I1,q⟩
variable {tA tB':TT} {rest:List Expr}
def zuF(t u:TT):TT:=fun σ H Q=>t σ H fun c H1=>if c=true then u σ H1 Q else Q false H1
def tOr(t u:TT):TT:=fun σ H Q=>t σ H fun c H1=>if c=true then Q true H1 else u σ H1 Q
def zuG(t:TT):TT:=fun σ H Q=>t σ H fun c H1=>Q (!c) H1
theorem zoG(ha:PT X a tA):PW X (.BoolOp .And [a] pos) tA:=by
 intro wh pins s σ H Q I h
 refine isTrue_and (thn (ha pins s σ H Q I h) fun c s1 e=>?_)
 cases c with
 | true=>exact isTrue_and_nil e
 | false=>exact e
theorem zqC(ha:PT X a tA):PW X (.BoolOp .Or [a] pos) tA:=by
 intro wh pins s σ H Q I h
 refine isTrue_or (thn (ha pins s σ H Q I h) fun c s1 e=>?_)
 cases c with
 | false=>exact isTrue_or_nil e
 | true=>exact e
theorem zqD(ha:PT X a tA)(hb:PW X (.BoolOp .And (b::rest) pos) tB'):PW X (.BoolOp .And (a::b::rest) pos) (zuF tA tB'):=by
 intro wh pins s σ H Q I h
 refine isTrue_and (thn (ha pins s σ H _ I h) fun c s1 ⟨H1,I1,q1⟩=>?_)
 cases c with
 | true=>exact hb wh pins s1 σ H1 Q I1 q1
 | false=>exact⟨H1,I1,q1⟩
theorem zsG(ha:PT X a tA)(hb:PW X (.BoolOp .Or (b::rest) pos) tB'):PW X (.BoolOp .Or (a::b::rest) pos) (tOr tA tB'):=by
 intro wh pins s σ H Q I h
 refine isTrue_or (thn (ha pins s σ H _ I h) fun c s1 ⟨H1,I1,q1⟩=>?_)
 cases c with
 | true=>exact⟨H1,I1,q1⟩
 | false=>exact hb wh pins s1 σ H1 Q I1 q1
theorem zqE(ha:PT X a tA):PT X (.UnaryOp .Not a pos) (zuG tA):=by
 intro pins s σ H Q I h
 exact isTrue_not (ha pins s σ H (fun c H1=>Q (!c) H1) I h)
def zsH(ta tb:TE):TE:=fun σ H Q=>ta σ H fun x H1=>∃c,x=.bl c/\if c=true then tb σ H1 Q else Q (.bl false) H1
def zuH(ta tb:TE):TE:=fun σ H Q=>ta σ H fun x H1=>∃c,x=.bl c/\if c=true then Q (.bl true) H1 else tb σ H1 Q
def zsI(ta:TE):TE:=fun σ H Q=>ta σ H fun x H1=>∃c,x=.bl c/\Q (.bl (!c)) H1
theorem zqF{op}{t:TE}(h:PE X a t):PE X (.BoolOp op [a] pos) t:=fun pins s σ H Q I hw=>BoolOp_one (h pins s σ H Q I hw)
theorem zqG(ha:PE X a ta)(hb:PE X (.BoolOp .And (b::rest) pos) tb):PE X (.BoolOp .And (a::b::rest) pos) (zsH ta tb):=by
 intro pins s σ H Q I h
 refine BoolOp_and (thn (ha pins s σ H _ I h) fun v s1 ⟨x,H1,I1,r1,q1⟩=>?_)
 obtain⟨c,rfl,q1⟩:=q1
 cases r1
 refine wpAny_truthy_bool ?_
 cases c with
 | true=>exact hb pins s1 σ H1 Q I1 q1
 | false=>exact⟨.bl false,H1,I1,rfl,q1⟩
theorem zsJ(ha:PE X a ta)(hb:PE X (.BoolOp .Or (b::rest) pos) tb):PE X (.BoolOp .Or (a::b::rest) pos) (zuH ta tb):=by
 intro pins s σ H Q I h
 refine BoolOp_or (thn (ha pins s σ H _ I h) fun v s1 ⟨x,H1,I1,r1,q1⟩=>?_)
 obtain⟨c,rfl,q1⟩:=q1
 cases r1
 refine wpAny_truthy_bool ?_
 cases c with
 | false=>exact hb pins s1 σ H1 Q I1 q1
 | true=>exact⟨.bl true,H1,I1,rfl,q1⟩
theorem zqH(ha:PE X a ta):PE X (.UnaryOp .Not a pos) (zsI ta):=by
 intro pins s σ H Q I h
 refine UnaryOp_ (thn (ha pins s σ H _ I h) fun v s1 ⟨x,H1,I1,r1,q1⟩=>?_)
 obtain⟨c,rfl,q1⟩:=q1
 cases r1
 exact not_of (wpAny_truthy_bool ⟨.bl (!c),H1,I1,rfl,q1⟩)
def tIf(t:TT)(ta tb:TE):TE:=fun σ H Q=>t σ H fun c H1=>if c=true then ta σ H1 Q else tb σ H1 Q
theorem zmd{c:Expr}(hc:PT X c tA)(ha:PE X a ta)(hb:PE X b tb):PE X (.IfExp c a b pos) (tIf tA ta tb):=by
 intro pins s σ H Q I h
 refine wpAny_IfExp (thn (hc pins s σ H _ I h) fun d s1 ⟨H1,I1,q1⟩=>?_)
 cases d with
 | true=>exact ha pins s1 σ H1 Q I1 q1
 | false=>exact hb pins s1 σ H1 Q I1 q1
end
def SqL(K:PySem.W.Frag)(H:Hp)(a:Addr)(xs:List V):Prop :=
 Rd H a (.lst xs) \/
  ∃(o:Obj) (its:Array Value) (n:Nat),K.lookup a=some o/\o.cls=.type "list" /\ o.dict=none/\o.data=.seq its n/\its.size<=sizeLine/\Vals xs its.toList
def SqT(K:PySem.W.Frag)(H:Hp)(a:Addr)(xs:List V):Prop :=
 Rd H a (.tup xs) \/
  ∃(o:Obj) (its:Array Value) (n:Nat),K.lookup a=some o/\o.cls=.type "tuple" /\ o.data=.seq its n/\its.size<=sizeLine/\Vals xs its.toList
def zuI:Value->Option V
 | .none=>some .non
 | .bool b=>some (.bl b)
 | .int i _=>some (.int i)
 | .str x _=>some (.str x)
 | .bytes b _=>some (.byt b)
 | .float b _=>some (.flt b)
 | .ref a=>some (.ref a)
 | .type n=>some (.ty n)
 | _=>none
theorem RelV.abs{x:V}{u:Value}(r:RelV x u):zuI u=some x:=by
 cases x with
 | non=>cases r;rfl
 | bl _=>cases r;rfl
 | int _=>obtain⟨t,rfl⟩:=r;rfl
 | str _=>obtain⟨t,rfl⟩:=r;rfl
 | byt _=>obtain⟨t,rfl⟩:=r;rfl
 | flt _=>obtain⟨t,rfl⟩:=r;rfl
 | ref _=>cases r;rfl
 | ty _=>cases r;rfl
theorem RelV.inj{x y:V}{u:Value}(r:RelV x u)(q:RelV y u):x=y:=Option.some.inj (r.abs.symm.trans q.abs)
theorem Vals.inj:∀{xs ys:List V} {us:List Value},Vals xs us->Vals ys us->xs=ys
 | _,_,_,.nil,.nil=>rfl
 | _,_,_,.cons r t,.cons r' t'=>by rw[r.inj r',Vals.inj t t']
section
variable {X:Cx} {pins:List (Addr×Obj)} {σ:St} {H:Hp} {s:Shared} {a:Addr} {xs ys:List V}
theorem Inv.list(I:Inv X pins σ H s)(h:SqL X.K H a xs):∃its:List Value,Vals xs its/\PlainL s.heap a its.toArray/\xs.length<=sizeLine:=by
 rcases h with h|⟨o,its,n,hk,hc,hd,hs,hz,r⟩
 ·obtain⟨z,its,n,r,e⟩:=h.ok I.hok
  exact⟨its,r,⟨_,n,e,rfl,rfl,rfl⟩,z⟩
 ·refine⟨its.toList,r,⟨o,n,I.kIn a o hk,hc,hd,by simpa using hs⟩,?_⟩
  have e:=r.length
  simp only[length_toList] at e
  omega
theorem Inv.tuple(I:Inv X pins σ H s)(h:SqT X.K H a xs):∃its:List Value,Vals xs its/\IsTup s.heap a its.toArray/\xs.length<=sizeLine:=by
 rcases h with h|⟨o,its,n,hk,hc,hs,hz,r⟩
 ·obtain⟨z,its,r,p⟩:=h.ok I.hok
  exact⟨its,r,p.isTup,z⟩
 ·refine⟨its.toList,r,⟨o,I.kIn a o hk,hc,n,by simpa using hs⟩,?_⟩
  have e:=r.length
  simp only[length_toList] at e
  omega
theorem Inv.list_inj(I:Inv X pins σ H s)(h:SqL X.K H a xs)(h':SqL X.K H a ys):xs=ys:=by
 obtain⟨its,r,⟨o,n,e,_,_,d⟩,_⟩:=I.list h
 obtain⟨its',r',⟨o',n',e',_,_,d'⟩,_⟩:=I.list h'
 rw[e] at e';cases e'
 rw[d] at d'
 injection d' with d1 _
 have:its=its':=by simpa using congrArg Array.toList d1
 subst this
 exact r.inj r'
theorem Inv.tuple_inj(I:Inv X pins σ H s)(h:SqT X.K H a xs)(h':SqT X.K H a ys):xs=ys:=by
 obtain⟨its,r,⟨o,e,_,n,d⟩,_⟩:=I.tuple h
 obtain⟨its',r',⟨o',e',_,n',d'⟩,_⟩:=I.tuple h'
 rw[e] at e';cases e'
 rw[d] at d'
 injection d' with d1 _
 have:its=its':=by simpa using congrArg Array.toList d1
 subst this
 exact r.inj r'
end
abbrev Cx.wish(X:Cx)(E:Value->Shared->Prop):Cx:={ X with xe:=E }
abbrev Cx.nox(X:Cx):Cx:=X.wish fun _ _=>False
theorem Cx.Ok.wish{X:Cx}(ok:X.Ok)(E:Value->Shared->Prop):(X.wish E).Ok :=
 ⟨ok.mod,ok.kind,ok.glob,ok.blt,ok.above,ok.inj,ok.has,ok.cab,ok.hd,ok.frames,ok.stk,ok.exf,ok.bs,ok.bsz,ok.noex,ok.exfs,ok.funs,ok.frf⟩
theorem Cx.Ok.unwish{X:Cx}{E:Value->Shared->Prop}(ok:(X.wish E).Ok):X.Ok :=
 ⟨ok.mod,ok.kind,ok.glob,ok.blt,ok.above,ok.inj,ok.has,ok.cab,ok.hd,ok.frames,ok.stk,ok.exf,ok.bs,ok.bsz,ok.noex,ok.exfs,ok.funs,ok.frf⟩
section
variable {X:Cx} {pins:List (Addr×Obj)} {σ:St} {H:Hp} {s:Shared} {E:Value->Shared->Prop}
theorem Inv.wish(I:Inv X pins σ H s)(E:Value->Shared->Prop):Inv (X.wish E) pins σ H s:=⟨I.ok.wish E,I.os,I.bare,I.base,I.loc,I.cell,I.free,I.freeC,I.pin,I.hok,I.len⟩
theorem Inv.unwish(I:Inv (X.wish E) pins σ H s):Inv X pins σ H s:=⟨I.ok.unwish,I.os,I.bare,I.base,I.loc,I.cell,I.free,I.freeC,I.pin,I.hok,I.len⟩
end
section
variable {X:Cx} {st:Stmt} {rest:List Stmt} {t u:TS} {e:Expr} {te:TE} {pos:Pos}
def zsK:TS:=fun D σ H=>D.nx σ H
def zuJ(t u:TS):TS:=fun D σ H=>t { D with nx:=u D } σ H
theorem zoH:PSs X [] zsK:=fun _ _ σ H _ I h=>wpAny_execs_nil ⟨σ,H,I,h⟩
theorem ziL(h1:PS X st t)(h2:PSs X rest u):PSs X (st::rest) (zuJ t u):=by
 intro pins s σ H D I h
 refine wpAny_execs_cons (thn (h1 pins s σ H { D with nx:=u D } I h) fun f s1 q=>?_)
 cases f with
 | next =>
  obtain⟨σ',H',I',q⟩:=q
  exact h2 pins s1 σ' H' D I' q
 | ret v=>exact q
 | brk=>exact q
 | cont=>exact q
theorem zj9(h1:PS X st t):PSs X [st] t:=by
 intro pins s σ H D I h
 refine wpAny_execs_cons (thn (h1 pins s σ H D I h) fun f s1 q=>?_)
 cases f with
 | next=>exact wpAny_execs_nil q
 | ret v=>exact q
 | brk=>exact q
 | cont=>exact q
theorem Inv.quiet{pins:List (Addr×Obj)}{σ:St}{H:Hp}{s:Shared}(I:Inv X pins σ H s):interactive X.env=false:=by simp[interactive,I.ok.kind]
def zsL(te:TE):TS:=fun D σ H=>te σ H fun _ H1=>D.nx σ H1
theorem zka(he:PE X e te)(hs:swapsWith e none pos.line X.env=pure false:=by rfl):PS X (.Expr e pos) (zsL te):=by
 intro pins s σ H D I h
 exact wpAny_Expr_any (thn (he pins s σ H _ I h) fun v s1 ⟨x,H1,I1,r1,q1⟩=>⟨σ,H1,I1,q1⟩) I.quiet hs
def zuK(te:TE):TS:=fun D σ H=>te σ H D.rt
theorem zqI(he:PE X e te):PS X (.Return (some e) pos) (zuK te):=by
 intro pins s σ H D I h
 exact wpAny_Return_some (thn (he pins s σ H _ I h) fun v s1 ⟨x,H1,I1,r1,q1⟩=>⟨x,σ,H1,I1,r1,q1⟩)
def zuL(c:TT)(t u:TS):TS:=fun D σ H=>c σ H fun b H1=>if b=true then t D σ H1 else u D σ H1
theorem zsM{c:Expr}{a b:List Stmt}{tc:TT}(hc:PT X c tc)(ha:PSs X a t)(hb:PSs X b u):PS X (.If c a b pos) (zuL tc t u):=by
 intro pins s σ H D I h
 refine wpAny_If (thn (hc pins s σ H _ I h) fun d s1 ⟨H1,I1,q1⟩=>?_)
 cases d with
 | true=>exact ha pins s1 σ H1 D I1 q1
 | false=>exact hb pins s1 σ H1 D I1 q1
end
abbrev TG:=V->St->Hp->(St->Hp->Prop)->Prop
abbrev TGs:=List V->St->Hp->(St->Hp->Prop)->Prop
def PG(X:Cx)(target:Expr)(t:TG):Prop :=
 ∀(pins:List (Addr×Obj)) (s:Shared) (σ:St) (H:Hp) (v:V) (u:Value) (Q:St->Hp->Prop),Inv X pins σ H s->RelV v u->t v σ H Q ->
  wpAny (model X.prog X.w) X.A (assign target X.env u) (fun _ s'=>∃σ' H',Inv X pins σ' H' s'/\Q σ' H') X.xe s
def PGs(X:Cx)(ts:List Expr)(t:TGs):Prop :=
 ∀(pins:List (Addr×Obj)) (s:Shared) (σ:St) (H:Hp) (vs:List V) (us:List Value) (Q:St->Hp->Prop),Inv X pins σ H s->Vals vs us->t vs σ H Q ->
  wpAny (model X.prog X.w) X.A (assignInOrder ((assignEach ts X.env).map (·.2)) us) (fun _ s'=>∃σ' H',Inv X pins σ' H' s'/\Q σ' H') X.xe s
abbrev zsN:=V->V->V->Hp->(Hp->Prop)->Prop
def zt0(X:Cx)(t:zsN):Prop :=
 ∀(pins:List (Addr×Obj)) (s:Shared) (σ:St) (H:Hp) (o i v:V) (ov iv u:Value) (Q:Hp->Prop),Inv X pins σ H s->RelV o ov->RelV i iv->RelV v u->t o i v H Q ->
  wpAny (model X.prog X.w) X.A (setItem ov iv u) (fun _ s'=>∃H',Inv X pins σ H' s'/\Q H') X.xe s
section
variable {X:Cx} {pos:Pos}
def gName(i:Nat):TG:=fun v σ H Q=>Q (σ.set i (some v)) H
theorem zh3{i:Nat}{x:Str}(hN:X.N.Nodup)(hi:X.N[i]?=some x)(hx:Loc X.env.scope x)(hf:X.fn x=true\/X.env.scope.names.lookup x=some .local:=by first|exact .inl rfl|exact .inr rfl|assumption):PG X (.Name x pos) (gName i):=by
 intro pins s σ H v u Q I r h
 exact wpAny_assign_Name (zgk I hN hi hx r (fun s' I'=>⟨_,H,I',h⟩) hf)
def zuM:TGs:=fun vs σ H Q=>vs=[]/\Q σ H
def zsO(t:TG)(u:TGs):TGs:=fun vs σ H Q=>∃v r,vs=v::r/\t v σ H fun σ' H'=>u r σ' H' Q
theorem zoI:PGs X [] zuM:=by
 intro pins s σ H vs us Q I r h
 obtain⟨e,h⟩:=h
 subst e
 cases r
 exact assignInOrder_nil ⟨σ,H,I,h⟩
theorem zme{e:Expr}{es:List Expr}{t:TG}{u:TGs}(h1:PG X e t)(h2:PGs X es u)(hs:(assignEach (e::es) X.env).map (·.2)=assign e X.env::(assignEach es X.env).map (·.2):=by rfl):PGs X (e::es) (zsO t u):=by
 intro pins s σ H vs us Q I r h
 obtain⟨v,vr,e1,h⟩:=h
 subst e1
 cases r with
 | cons r rr =>
  rw[hs]
  refine assignInOrder_cons (thn (h1 pins s σ H _ _ _ I r h) fun _ s1 ⟨σ1,H1,I1,q1⟩=>?_)
  exact h2 pins s1 σ1 H1 _ _ Q I1 rr q1
def zuN(K:PySem.W.Frag)(n:Nat)(t:TGs):TG:=fun v σ H Q=>∃a xs,v=.ref a/\SqT K H a xs/\xs.length=n/\t xs σ H Q
theorem zqJ{es:List Expr}{k:Nat}{t:TGs}{n:Nat}(hc:X.calm=true)(h:PGs X es t)(hn:(assignEach es X.env).length=n:=by rfl)(hst:(assignEach es X.env).findIdx? (·.1)=none:=by rfl):PG X (.Tuple es k pos) (zuN X.K n t):=by
 intro pins s σ H v u Q I r hw
 obtain⟨a,xs,e1,hq,hl,hw⟩:=hw
 subst e1
 cases r
 obtain⟨its,rv,ht,hz⟩:=I.tuple hq
 refine assign_Tuple_tuple (I.ok.hd hc) ht (by simp[hn,<- hl,rv.length]) hst fun h' hx=>?_
 have I1:Inv X pins σ H { s with heap:=h' }:=I.kept (t':=s.toks) fun b o e=>hx b o (ne_of_lt (Heap.lt_size e)) e
 exact h pins _ σ H xs _ Q I1 (by simpa using rv) hw
def zuO(to ti:TE)(t:zsN):TG:=fun v σ H Q=>to σ H fun o H1=>ti σ H1 fun i H2=>t o i v H2 fun H3=>Q σ H3
theorem zqK{o i:Expr}{to ti:TE}{t:zsN}(ho:PE X o to)(hi:PE X i ti)(hs:zt0 X t)(ha:∀v,assign (.Subscript o i pos) X.env v=(do
   let ov <- holding [v] (eval o X.env)
   let iv <- holding [v,ov] (eval i X.env)
   standAt pos
   holding [v,ov,iv] (setItem ov iv v)
   release [v,ov,iv] []):=by intro _;rfl):PG X (.Subscript o i pos) (zuO to ti t):=by
 intro pins s σ H v u Q I r h
 rw[ha]
 refine wpAny_bind (wpAny_holding (thn (ho pins s σ H _ I h) fun ov s1 ⟨x,H1,I1,r1,q1⟩=>?_))
 refine wpAny_bind (wpAny_holding (thn (hi pins s1 σ H1 _ I1 q1) fun iv s2 ⟨y,H2,I2,r2,q2⟩=>?_))
 refine wpAny_bind (wpAny_standAt (wpAny_bind (wpAny_holding (thn (hs pins s2 σ H2 x y v ov iv u _ I2 r1 r2 r q2) fun _ s3 ⟨H3,I3,q3⟩=>?_))))
 exact wpAny_release ⟨σ,H3,I3,q3⟩
def zsP(te:TE)(g:TG):TS:=fun D σ H=>te σ H fun x H1=>g x σ H1 D.nx
theorem zqL{tg e:Expr}{te:TE}{g:TG}(he:PE X e te)(hg:PG X tg g)(hs:swapsWithSole [tg] e pos.line X.env=pure false:=by rfl)(hw:swappedStores [tg] e X.env=pure none:=by rfl)(h1:(assignEach [tg] X.env).map (·.2)=[assign tg X.env]:=by rfl):PS X (.Assign [tg] e pos) (zsP te g):=by
 intro pins s σ H D I h
 refine wpAny_Assign_stores (thn (he pins s σ H _ I h) fun v s1 ⟨x,H1,I1,r1,q1⟩=>?_) hs hw
 rw[h1]
 exact thn (hg pins s1 σ H1 x v _ I1 r1 q1) fun _ s2 q=>q
theorem zqM{i:Nat}{x:Str}{e:Expr}{te:TE}{pos':Pos}(hN:X.N.Nodup)(hi:X.N[i]?=some x)(hx:Loc X.env.scope x)(he:PE X e te)(hs:swapsWith e (some (.Name x pos')) pos.line X.env=pure false:=by rfl)(hf:X.fn x=true\/X.env.scope.names.lookup x=some .local:=by first|exact .inl rfl|exact .inr rfl|assumption) :
  PS X (.Assign [.Name x pos'] e pos) (zsP te (gName i)):=by
 intro pins s σ H D I h
 refine wpAny_Assign_Name (thn (he pins s σ H _ I h) fun v s1 ⟨y,H1,I1,r1,q1⟩=>?_) hs
 exact zgk I1 hN hi hx r1 (fun s2 I2=>⟨_,H1,I2,q1⟩) hf
end
section
variable {X:Cx} {pos:Pos}
def zqN(c:TT)(tb:TS):TS:=fun D σ H=>∃W:Nat->St->Hp->Prop,(∃m,W m σ H)/\∀m σ H,W m σ H ->
 c σ H fun b H1=>if b=true then ∃N:St->Hp->Prop,(∀σ' H',N σ' H'->∃m',m'<m/\W m' σ' H')/\tb { D with nx:=N,ct:=N,bk:=D.nx } σ H1 else D.nx σ H1
theorem zmf{c:Expr}{body:List Stmt}{tc:TT}{tb:TS}(hp:PassesOwn (model X.prog X.w) X.A X.env X.xe)(hc:PT X c tc)(hb:PSs X body tb):PS X (.While c body [] pos) (zqN tc tb):=by
 intro pins s σ H D I h
 obtain⟨W,⟨m0,w0⟩,turn⟩:=h
 refine wpAny_While (codeAny_whileLoop (fun n s'=>∃σ' H',Inv X pins σ' H' s'/\W n σ' H') ?_ m0 ⟨σ,H,I,w0⟩)
 rintro n s1 ⟨σ1,H1,I1,w1⟩
 refine wpAny_passesOwn hp (thn (hc pins s1 σ1 H1 _ I1 (turn n σ1 H1 w1)) fun b s2 ⟨H2,I2,q2⟩=>?_)
 cases b with
 | true =>
  obtain⟨N,hN,q2⟩:=q2
  rw[if_pos rfl]
  refine wpAny_passesOwn hp (thn (hb pins s2 σ1 H2 _ I2 q2) fun f s3 q3=>?_)
  cases f with
  | next =>
   obtain⟨σ3,H3,I3,n3⟩:=q3
   obtain⟨m',hm,w3⟩:=hN σ3 H3 n3
   exact⟨m',hm,σ3,H3,I3,w3⟩
  | cont =>
   obtain⟨σ3,H3,I3,n3⟩:=q3
   obtain⟨m',hm,w3⟩:=hN σ3 H3 n3
   exact⟨m',hm,σ3,H3,I3,w3⟩
  | brk=>exact q3
  | ret v=>exact q3
 | false =>
  rw[if_neg Bool.false_ne_true]
  exact wpAny_execs_nil ⟨σ1,H2,I2,q2⟩
end
structure It where
 go:Nat->Hp->Prop
 yld:Nat->Hp->V->Hp->Prop
 stop:Nat->Hp->Prop
def zj1(X:Cx)(pins:List (Addr×Obj))(H:Hp)(b:Addr):Prop :=
 H b=none/\b≠X.env.locals/\b∉X.fs/\(b∈X.ex\/X.s₀.heap.objs.size<=b)/\(∀x c,X.env.cells.lookup x=some c->c≠b)/\∀p∈X.pn++pins,p.1≠b
theorem Inv.fpOk{X:Cx}{pins:List (Addr×Obj)}{σ:St}{H H':Hp}{s:Shared}{b:Addr}(I:Inv X pins σ H s)(hb:s.heap.objs.size<=b)(hn:H' b=none):zj1 X pins H' b:=by
 refine⟨hn,ne_of_gt (lt_of_lt_of_le I.lt hb),I.nofs hb,.inr (le_trans I.sz hb),fun x c e z=>?_,fun p hp z=>?_⟩
 ·obtain⟨v,q⟩:=I.cell x c e
  exact absurd (lt_of_lt_of_le q.lt (by rw[z];exact hb)) (lt_irrefl _)
 ·exact absurd (lt_of_lt_of_le (Heap.lt_size (I.pin p hp).1) (by rw[z];exact hb)) (lt_irrefl _)
structure Turn (P:Program) (w:World) (K:PySem.W.Frag) (tg:Expr) (J:It) (fp:List Addr) (it:Addr) (tn:Nat->Heap->Prop):Prop where
 mem:it∈fp
 obj:∀i h,tn i h->∀b∈fp,∃o,h.get? b=some o/\∀v,o.data≠.cell v
 keep:∀i h h',tn i h->(∀b∈fp,∀o,h.get? b=some o->h'.get? b=some o)->tn i h'
 item:∀(X:Cx),X.prog=P->X.w=w->X.K=K->X.calm=true->∀(i:Nat) (pins:List (Addr×Obj)) (s:Shared) (σ:St) (H:Hp) (E:Value->Shared->Prop),Inv X pins σ H s->(∀b∈fp,zj1 X pins H b)->tn i s.heap->J.go i H ->
  wpAny (model P w) X.A (pyNext (.ref it)) (fun r s1=>∃u,r=some u /\
   wpAny (model P w) X.A (letOwnedTupleGo tg (.ref it) u) (fun _ s2=>∃x H',Inv X pins σ H' s2/\RelV x u/\J.yld i H x H'/\tn (i+1) s2.heap/\∀b∈fp,H' b=none) E s1) E s
 done:∀(X:Cx),X.prog=P->X.w=w->X.K=K->X.calm=true->∀(i:Nat) (pins:List (Addr×Obj)) (s:Shared) (σ:St) (H:Hp) (E:Value->Shared->Prop),Inv X pins σ H s->(∀b∈fp,zj1 X pins H b)->tn i s.heap->J.stop i H ->
  wpAny (model P w) X.A (pyNext (.ref it)) (fun r s1=>r=none/\Inv X pins σ H s1) E s
 self:∀(A:Around) (i:Nat) (s:Shared) (Q:Value->Shared->Prop) (E:Value->Shared->Prop),tn i s.heap->Q (.ref it) s->wpAny (model P w) A (pyIter (.ref it)) Q E s
abbrev TI:=St->Hp->(It->Hp->Prop)->Prop
def PIE(X:Cx)(pins:List (Addr×Obj))(σ:St)(tg:Expr)(R:It->Hp->Prop)(itv:Value)(s2:Shared):Prop :=
 ∃(it:Addr) (fp:List Addr) (tn:Nat->Heap->Prop) (J:It) (H':Hp),itv=.ref it/\Inv X pins σ H' s2/\Turn X.prog X.w X.K tg J fp it tn/\tn 0 s2.heap/\(∀b∈fp,zj1 X pins H' b)/\R J H'
def PI(X:Cx)(tg iter:Expr)(wi:TI):Prop :=
 ∀(pins:List (Addr×Obj)) (s:Shared) (σ:St) (H:Hp) (R:It->Hp->Prop),Inv X pins σ H s->wi σ H R ->
  wpAny (model X.prog X.w) X.A (eval iter X.env) (fun v s1=>wpAny (model X.prog X.w) X.A (pyIter v) (PIE X pins σ tg R) X.xe s1) X.xe s
theorem zmg{M:Model}{A:Around}{E:Value->Shared->Prop}{s:Shared}{tg:Expr}{it:Addr}{u:Value}{o:Obj}{n:String}{vs:Array Value}{Q:Unit->Shared->Prop}(ho:s.heap.get? it=some o)(hc:o.cls=.type n)(hd:o.data=.fields vs)(hn:["enumerate", "zip", "dict_itemiterator", "dict_reverseitemiterator", "odict_iterator", "itertools.zip_longest", "itertools.pairwise"].contains n=false)(hQ:Q () s):wpAny M A (letOwnedTupleGo tg (.ref it) u) Q E s:=by
 unfold letOwnedTupleGo
 cases tg<;>first
  | exact wpAny_pure hQ
  | (cases u<;>first
    | exact wpAny_pure hQ
    | (refine wpAny_bind (wpAny_load ho ?_)
       rw[hc,hd]
       show wpAny M A (if (["enumerate", "zip", "dict_itemiterator", "dict_reverseitemiterator", "odict_iterator", "itertools.zip_longest", "itertools.pairwise"].contains n&&vs[0]?==some (rawInt _))=true then _ else _) Q E s
       rw[if_neg (by intro h;rw[hn,Bool.false_and] at h;cases h)]
       exact wpAny_pure hQ))
def Itl(K:PySem.W.Frag)(a:Addr):It :=
 ⟨fun i H=>∃xs x,SqL K H a xs/\xs[i]?=some x,fun i H x H'=>H'=H/\∀xs,SqL K H a xs->xs[i]?=some x,fun i H=>∃xs,SqL K H a xs/\xs.length<=i⟩
def Itt(K:PySem.W.Frag)(a:Addr):It :=
 ⟨fun i H=>∃xs x,SqT K H a xs/\xs[i]?=some x,fun i H x H'=>H'=H/\∀xs,SqT K H a xs->xs[i]?=some x,fun i H=>∃xs,SqT K H a xs/\xs.length<=i⟩
def Itr(lo:Int)(n:Nat):It:=⟨fun i _=>i<n,fun i H x H'=>H'=H/\x=.int (lo+i),fun i _=>n<=i⟩
theorem zkb{P:Program}{w:World}{K:PySem.W.Frag}{tg:Expr}(a it:Addr):Turn P w K tg (Itl K a) [it] it (fun i h=>h.IsListIter it a i) where
 mem:=by simp
 obj:=fun i h st b hb=>by
  have e:b=it:=by simpa using hb
  subst e
  obtain⟨o,e,c,d⟩:=st
  exact⟨o,e,fun v z=>by rw[d] at z;cases z⟩
 keep:=fun i h h' st k=>st.at fun o e=>k it (by simp) o e
 item:=by
  intro X hP hw hK hc i pins s σ H E I hf st hg
  subst hP hw hK
  obtain⟨xs,x,hq,hx⟩:=hg
  obtain⟨its,rv,p,hz⟩:=I.list hq
  obtain⟨u,hu,ru⟩:=rv.get hx
  obtain⟨f0,f1,f2,f3,f4,f5⟩:=hf it (by simp)
  refine wpAny_pyNext_list_item st p.isList (x:=u) (by simpa using hu) fun h' st' sb=>?_
  have I1:Inv X pins σ H { s with heap:=h' }:=I.turned (t':=s.toks) (fun b o hb e=>(sb.2 b hb).trans e) f0 f1 f3 f4 f5
  obtain⟨o,e,c,d⟩:=id st'
  exact⟨u,rfl,zmg (s:={ s with heap:=h' }) e c d (by decide) ⟨x,H,I1,ru,⟨rfl,fun ys hy=>by rw[I.list_inj hy hq];exact hx⟩,st',fun b hb=>(hf b hb).1⟩⟩
 done:=by
  intro X hP hw hK hc i pins s σ H E I hf st hg
  subst hP hw hK
  obtain⟨xs,hq,hx⟩:=hg
  obtain⟨its,rv,p,hz⟩:=I.list hq
  obtain⟨f0,f1,f2,f3,f4,f5⟩:=hf it (by simp)
  have hl:=rv.length
  exact wpAny_pyNext_list_end (I.ok.hd hc) st p.isList (by simp;omega) fun h' eb=>⟨rfl,I.turned (t':=s.toks) (fun b o hb e=>eb b o hb e) f0 f1 f3 f4 f5⟩
 self:=fun _ _ _ _ _ st h=>wpAny_pyIter_listiter st h
theorem zjp{P:Program}{w:World}{K:PySem.W.Frag}{tg:Expr}(a it:Addr):Turn P w K tg (Itt K a) [it] it (fun i h=>h.IsTupleIter it a i) where
 mem:=by simp
 obj:=fun i h st b hb=>by
  have e:b=it:=by simpa using hb
  subst e
  obtain⟨o,e,c,d⟩:=st
  exact⟨o,e,fun v z=>by rw[d] at z;cases z⟩
 keep:=fun i h h' st k=>st.at fun o e=>k it (by simp) o e
 item:=by
  intro X hP hw hK hc i pins s σ H E I hf st hg
  subst hP hw hK
  obtain⟨xs,x,hq,hx⟩:=hg
  obtain⟨its,rv,p,hz⟩:=I.tuple hq
  obtain⟨u,hu,ru⟩:=rv.get hx
  obtain⟨f0,f1,f2,f3,f4,f5⟩:=hf it (by simp)
  refine wpAny_pyNext_tuple_item st (show s.heap.IsTuple a its.toArray from p) (x:=u) (by simpa using hu) fun h' st' sb=>?_
  have I1:Inv X pins σ H { s with heap:=h' }:=I.turned (t':=s.toks) (fun b o hb e=>(sb.2 b hb).trans e) f0 f1 f3 f4 f5
  obtain⟨o,e,c,d⟩:=id st'
  exact⟨u,rfl,zmg (s:={ s with heap:=h' }) e c d (by decide) ⟨x,H,I1,ru,⟨rfl,fun ys hy=>by rw[I.tuple_inj hy hq];exact hx⟩,st',fun b hb=>(hf b hb).1⟩⟩
 done:=by
  intro X hP hw hK hc i pins s σ H E I hf st hg
  subst hP hw hK
  obtain⟨xs,hq,hx⟩:=hg
  obtain⟨its,rv,p,hz⟩:=I.tuple hq
  obtain⟨f0,f1,f2,f3,f4,f5⟩:=hf it (by simp)
  have hl:=rv.length
  exact wpAny_pyNext_tuple_end (I.ok.hd hc) st (show s.heap.IsTuple a its.toArray from p) (by simp;omega) fun h' eb=>⟨rfl,I.turned (t':=s.toks) (fun b o hb e=>eb b o hb e) f0 f1 f3 f4 f5⟩
 self:=fun _ _ _ _ _ st h=>wpAny_pyIter_tupleiter st h
theorem zjq{P:Program}{w:World}{K:PySem.W.Frag}{tg:Expr}(it:Addr)(lo:Int)(n:Nat):Turn P w K tg (Itr lo n) [it] it (fun i h=>IsRangeIter h it (lo+(i:Nat)*1) ((n:Int)-(i:Nat)) 1) where
 mem:=by simp
 obj:=fun i h st b hb=>by
  have e:b=it:=by simpa using hb
  subst e
  exact⟨_,st,fun v z=>by
   have z':Data.fields _=Data.cell v:=z
   cases z'⟩
 keep:=fun i h h' st k=>k it (by simp) _ st
 item:=by
  intro X hP hw hK hc i pins s σ H E I hf st hg
  subst hP hw hK
  obtain⟨f0,f1,f2,f3,f4,f5⟩:=hf it (by simp)
  have W:=Walks.range (prog:=X.prog) (w:=X.w) (I.ok.hd hc) it lo 1 n
  refine W.item i s _ _ hg st fun v h' tk hv st' kk=>?_
  obtain⟨t,rfl⟩:=hv
  have I1:Inv X pins σ H { s with heap:=h',toks:=tk }:=I.turned (fun b o hb e=>kk b o (by simpa using hb) e) f0 f1 f3 f4 f5
  refine⟨_,rfl,zmg (s:={ s with heap:=h',toks:=tk }) (n := "range_iterator") st' rfl rfl (by decide) ⟨.int (lo+i),H,I1,⟨t,?_⟩,⟨rfl,rfl⟩,st',fun b hb=>(hf b hb).1⟩⟩
  rw[mul_one]
 done:=by
  intro X hP hw hK hc i pins s σ H E I hf st hg
  subst hP hw hK
  obtain⟨f0,f1,f2,f3,f4,f5⟩:=hf it (by simp)
  exact wpAny_pyNext_range_end (I.ok.hd hc) st (by have:n<=i:=hg;omega) fun h' eb=>⟨rfl,I.turned (t':=s.toks) (fun b o hb e=>eb b o hb e) f0 f1 f3 f4 f5⟩
 self:=fun _ _ _ _ _ st h=>wpAny_pyIter_rangeiter st h
section
variable {X:Cx} {tg:Expr}
def zsQ(K:PySem.W.Frag)(tl:TE):TI:=fun σ H R=>tl σ H fun x H1=>∃a,x=.ref a/\(∃xs,SqL K H1 a xs)/\R (Itl K a) H1
def zuP(K:PySem.W.Frag)(tl:TE):TI:=fun σ H R=>tl σ H fun x H1=>∃a,x=.ref a/\(∃xs,SqT K H1 a xs)/\R (Itt K a) H1
theorem zoJ{l:Expr}{tl:TE}(hl:PE X l tl):PI X tg l (zsQ X.K tl):=by
 intro pins s σ H R I h
 refine thn (hl pins s σ H _ I h) fun v s1 ⟨x,H1,I1,r1,q1⟩=>?_
 obtain⟨a,e,⟨xs,hq⟩,q⟩:=q1
 subst e
 cases r1
 obtain⟨its,rv,p,hz⟩:=I1.list hq
 refine wpAny_pyIter_list p.isList ?_
 refine⟨s1.heap.objs.size,[s1.heap.objs.size],_,_,H1,rfl,I1.kept (t':=s1.toks) fun b o e=>Heap.get?_push_of_some _ e,zkb a _,⟨_,Heap.get?_push_size _ rfl,rfl,rfl⟩,fun b hb=>?_,q⟩
 have e:b=s1.heap.objs.size:=by simpa using hb
 subst e
 exact I1.fpOk (le_refl _) (I1.hok.fresh (le_refl _))
theorem zqO{l:Expr}{tl:TE}(hl:PE X l tl):PI X tg l (zuP X.K tl):=by
 intro pins s σ H R I h
 refine thn (hl pins s σ H _ I h) fun v s1 ⟨x,H1,I1,r1,q1⟩=>?_
 obtain⟨a,e,⟨xs,hq⟩,q⟩:=q1
 subst e
 cases r1
 obtain⟨its,rv,p,hz⟩:=I1.tuple hq
 refine wpAny_pyIter_tuple (show s1.heap.IsTuple a its.toArray from p) ?_
 refine⟨s1.heap.objs.size,[s1.heap.objs.size],_,_,H1,rfl,I1.kept (t':=s1.toks) fun b o e=>Heap.get?_push_of_some _ e,zjp a _,⟨_,Heap.get?_push_size _ rfl,rfl,rfl⟩,fun b hb=>?_,q⟩
 have e:b=s1.heap.objs.size:=by simpa using hb
 subst e
 exact I1.fpOk (le_refl _) (I1.hok.fresh (le_refl _))
theorem zmh{pins:List (Addr×Obj)}{σ:St}{H:Hp}{s:Shared}{R:It->Hp->Prop}{E:Value->Shared->Prop}{lo hi:Int}{t u v:Tok}{tk:Nat}(I:Inv X pins σ H s)(h1:-(2 ^ 62)<=lo)(h2:lo<2 ^ 62)(h3:-(2 ^ 62)<=hi)(h4:hi<2 ^ 62)(q:R (Itr lo (hi-lo).toNat) H):wpAny (model X.prog X.w) X.A (pyIter (.ref s.heap.objs.size)) (PIE X pins σ tg R) E { s with heap:=s.heap.push { cls:=.type "range",data:=.fields #[.int lo t,.int hi u,.int 1 v] },toks:=tk }:=by
 refine wpAny_pyIter_range (IsRange.new ..) (small_one h1 h2 h3 h4) ?_
 have I1:Inv X pins σ H { s with heap:=s.heap.push { cls:=.type "range",data:=.fields #[.int lo t,.int hi u,.int 1 v] },toks:=tk }:=I.kept fun b o e=>Heap.get?_push_of_some _ e
 refine⟨(s.heap.push { cls:=.type "range",data:=.fields #[.int lo t,.int hi u,.int 1 v] }).objs.size,[(s.heap.push { cls:=.type "range",data:=.fields #[.int lo t,.int hi u,.int 1 v] }).objs.size],_,_,H,rfl,
  I1.kept (t':=tk) fun b o e=>Heap.get?_push_of_some _ e,zjq _ lo (hi-lo).toNat,?_,fun b hb=>?_,q⟩
 ·have e1:lo+((0:Nat):Int)*1=lo:=by simp
  have e2:(((hi-lo).toNat:Nat):Int)-((0:Nat):Int)=Builtin.Range.rangeSize lo hi 1:=by rw[rangeSize_one];split<;>omega
  show IsRangeIter _ _ (lo+((0:Nat):Int)*1) ((((hi-lo).toNat:Nat):Int)-((0:Nat):Int)) 1
  rw[e1,e2]
  exact Heap.get?_push_size _ rfl
 ·have e:b=(s.heap.push { cls:=.type "range",data:=.fields #[.int lo t,.int hi u,.int 1 v] }).objs.size:=by simpa using hb
  subst e
  exact I1.fpOk (le_refl _) (I1.hok.fresh (le_refl _))
def zsR(ta:TA):TI:=fun σ H R=>ta σ H fun vs H1=>∃j:Int,vs=[.int j]/\-(2 ^ 62)<=j/\j<2 ^ 62/\R (Itr 0 j.toNat) H1
theorem zkc{a:Expr}{ta:TA}{p pos:Pos}(hg:Gl X "range")(hm:X.mg "range" = none)(ha:PA X [a] ta)(hs:starEach [a] X.env=[(false,eval a X.env)]:=by rfl):PI X tg (.Call (.Name "range" p) [a] [] pos) (zsR ta):=by
 intro pins s σ H R I h
 refine Call_ (zhg I hg hm boot_range (PyProof.Rows.callWith_type1 (thn (ha pos pins s σ H _ I h) fun us s1 ⟨vs,H1,I1,r1,q1⟩=>?_) hs rfl))
 obtain⟨j,e,q1,q2,q⟩:=q1
 subst e
 cases r1 with
 | cons r rr =>
  cases rr
  obtain⟨t,rfl⟩:=r
  exact call_range_1 (zmh I1 (by omega) (by omega) q1 q2 (by simpa using q))
def zuQ(wi:TI)(g:TG)(tb:TS):TS:=fun D σ H=>wi σ H fun J H1=>∃W:Nat->Nat->St->Hp->Prop,(∃m,W 0 m σ H1)/\∀i m σ H,W i m σ H ->
 (J.stop i H/\D.nx σ H)\/(J.go i H/\∃N:St->Hp->Prop,(∀σ' H',N σ' H'->∃m',m'<m/\W (i+1) m' σ' H')/\∀x H',J.yld i H x H'->g x σ H' fun σ2 H2=>tb { D with nx:=N,ct:=N,bk:=D.nx } σ2 H2)
def zfW(fp:List Addr)(h:Heap):List (Addr×Obj):=fp.filterMap fun b=>(h.get? b).map fun o=>(b,o)
theorem zc6{fp:List Addr}{h:Heap}{b:Addr}{o:Obj}(hb:b∈fp)(e:h.get? b=some o):(b,o)∈zfW fp h:=mem_filterMap.mpr ⟨b,hb,by rw[e];rfl⟩
theorem zkd{fp:List Addr}{h:Heap}{p:Addr×Obj}(hp:p∈zfW fp h):p.1∈fp/\h.get? p.1=some p.2:=by
 obtain⟨b,hb,e⟩:=mem_filterMap.mp hp
 cases q:h.get? b with
 | none=>rw[q] at e;cases e
 | some o =>
  rw[q] at e
  have e':(b,o)=p:=Option.some.inj e
  subst e'
  exact⟨hb,q⟩
theorem Inv.pinned{pins:List (Addr×Obj)}{σ:St}{H:Hp}{s:Shared}{fp:List Addr}(I:Inv X pins σ H s)(hf:∀b∈fp,zj1 X pins H b)(ho:∀b∈fp,∃o,s.heap.get? b=some o/\∀v,o.data≠.cell v):Inv X (pins++zfW fp s.heap) σ H s :=
 I.pins_of fun p hp=>(mem_append.mp hp).elim (fun z=>I.pin p (mem_append_right _ z)) fun z=>by
  obtain⟨hb,e⟩:=zkd z
  obtain⟨f0,f1,f2,_⟩:=hf p.1 hb
  obtain⟨o,e',d⟩:=ho p.1 hb
  rw[e] at e';cases e'
  exact⟨e,f0,f1,f2,d⟩
theorem Inv.unpinned{pins pl:List (Addr×Obj)}{σ:St}{H:Hp}{s:Shared}(I:Inv X (pins++pl) σ H s):Inv X pins σ H s:=I.pins_of fun p hp=>I.pin p (mem_append_right _ (mem_append_left _ hp))
theorem znQ{iter:Expr}{body:List Stmt}{wi:TI}{g:TG}{tb:TS}{pos:Pos}(hp:PassesOwn (model X.prog X.w) X.A X.env X.xe)(hc:X.calm=true)(hi:PI X tg iter wi)(hg:PG X tg g)(hb:PSs X body tb)(hs:∀x,foldedSetIterable iter X.env x=pure x:=by intro _;rfl):PS X (.For tg iter body [] pos) (zuQ wi g tb):=by
 intro pins s σ H D I h
 refine wpAny_For (thn (hi pins s σ H _ I h) fun v s1 h1=>thn h1 fun itv s2 h2=>?_) hs
 obtain⟨it,fp,tn,J,H2,e,I2,T,st2,f2,W,⟨m0,w0⟩,turn⟩:=h2
 subst e
 have stat:∀{H':Hp},(∀b∈fp,H' b=none)->∀b∈fp,zj1 X pins H' b:=fun hn b hb=>⟨hn b hb,(f2 b hb).2⟩
 refine codeAny_forLoop_any (fun n s'=>∃i σ' H',Inv X pins σ' H' s'/\tn i s'.heap/\(∀b∈fp,H' b=none)/\W i n σ' H') ?_ m0 ⟨0,σ,H2,I2,st2,fun b hb=>(f2 b hb).1,w0⟩
 rintro n s3 ⟨i,σ3,H3,I3,st3,fr3,w3⟩
 rcases turn i n σ3 H3 w3 with ⟨stop,qn⟩|⟨go,N,hN,step⟩
 ·refine wpAny_passesOwn hp (thn (T.done X rfl rfl rfl hc i pins s3 σ3 H3 X.xe I3 (stat fr3) st3 stop) fun r s4 ⟨hr,I4⟩=>?_)
  subst hr
  exact wpAny_execs_nil ⟨σ3,H3,I4,qn⟩
 ·refine wpAny_passesOwn hp (thn (T.item X rfl rfl rfl hc i pins s3 σ3 H3 X.xe I3 (stat fr3) st3 go) fun r s4 ⟨u,hr,h4⟩=>?_)
  subst hr
  refine wpAny_passesOwn hp (thn h4 fun _ s5 ⟨x,H5,I5,r5,y5,st5,fr5⟩=>?_)
  have I5':=I5.pinned (stat fr5) (T.obj _ _ st5)
  refine wpAny_passesOwn hp (thn (hg _ s5 σ3 H5 x u _ I5' r5 (step x H5 y5)) fun _ s6 ⟨σ6,H6,I6,q6⟩=>?_)
  refine wpAny_passesOwn hp (thn (hb _ s6 σ6 H6 _ I6 q6) fun f s7 q7=>?_)
  have again:∀{σ7:St} {H7:Hp},Inv X (pins++zfW fp s5.heap) σ7 H7 s7->N σ7 H7->∃m,m<n/\∃i σ' H',Inv X pins σ' H' s7/\tn i s7.heap/\(∀b∈fp,H' b=none)/\W i m σ' H':=fun {σ7 H7} I7 n7=>by
   obtain⟨m',hm,w7⟩:=hN σ7 H7 n7
   refine⟨m',hm,i+1,σ7,H7,I7.unpinned,T.keep _ _ _ st5 fun b hb o e=>(I7.pin (b,o) (mem_append_right _ (mem_append_right _ (zc6 hb e)))).1,fun b hb=>?_,w7⟩
   obtain⟨o,e,d⟩:=T.obj _ _ st5 b hb
   exact(I7.pin (b,o) (mem_append_right _ (mem_append_right _ (zc6 hb e)))).2.1
  cases f with
  | next=>obtain⟨σ7,H7,I7,n7⟩:=q7;exact again I7 n7
  | cont=>obtain⟨σ7,H7,I7,n7⟩:=q7;exact again I7 n7
  | brk=>obtain⟨σ7,H7,I7,q7⟩:=q7;exact⟨σ7,H7,I7.unpinned,q7⟩
  | ret v=>obtain⟨x7,σ7,H7,I7,r7,q7⟩:=q7;exact⟨x7,σ7,H7,I7.unpinned,r7,q7⟩
end
abbrev R2:=V->V->Hp->VK->Prop
def OpR(X:Cx)(f:Value->Value->Sem Value)(r:R2):Prop :=
 ∀(pins:List (Addr×Obj)) (s:Shared) (σ:St) (H:Hp) (x y:V) (v u:Value) (Q:VK),Inv X pins σ H s->RelV x v->RelV y u->r x y H Q ->
  wpAny (model X.prog X.w) X.A (f v u) (EP X pins σ Q) X.xe s
def UnR(X:Cx)(f:Value->Sem Value)(r:V->Hp->VK->Prop):Prop :=
 ∀(pins:List (Addr×Obj)) (s:Shared) (σ:St) (H:Hp) (x:V) (v:Value) (Q:VK),Inv X pins σ H s->RelV x v->r x H Q ->
  wpAny (model X.prog X.w) X.A (f v) (EP X pins σ Q) X.xe s
def CallR(X:Cx)(f:Value)(r:List V->Hp->VK->Prop):Prop :=
 ∀(pins:List (Addr×Obj)) (s:Shared) (σ:St) (H:Hp) (xs:List V) (us:List Value) (Q:VK),Inv X pins σ H s->Vals xs us->r xs H Q ->
  wpAny (model X.prog X.w) X.A (call f us) (EP X pins σ Q) X.xe s
def zuR(X:Cx)(r:V->Hp->(Bool->Hp->Prop)->Prop):Prop :=
 ∀(pins:List (Addr×Obj)) (s:Shared) (σ:St) (H:Hp) (x:V) (v:Value) (Q:Bool->Hp->Prop),Inv X pins σ H s->RelV x v->r x H Q ->
  wpAny (model X.prog X.w) X.A (truthy v) (TP X pins σ Q) X.xe s
def tOp(r:R2)(ta tb:TE):TE:=fun σ H Q=>ta σ H fun x H1=>tb σ H1 fun y H2=>r x y H2 Q
def tUn(r:V->Hp->VK->Prop)(ta:TE):TE:=fun σ H Q=>ta σ H fun x H1=>r x H1 Q
def rI(C:Int->Int->Prop)(g:Int->Int->V):R2:=fun x y H Q=>∃i j,x=.int i/\y=.int j/\C i j/\Q (g i j) H
def rI0(g:Int->Int->V):R2:=fun x y H Q=>∃i j,x=.int i/\y=.int j/\Q (g i j) H
def rU(g:Int->V):V->Hp->VK->Prop:=fun x H Q=>∃i,x=.int i/\Q (g i) H
section
variable {X:Cx} {a b c:Expr} {ta tb tc:TE} {pos:Pos}
theorem zsS(ha:PE X a ta)(hb:PE X b tb){pins:List (Addr×Obj)}{s:Shared}{σ:St}{H:Hp}{R:V->V->Hp->Prop}(I:Inv X pins σ H s)(h:ta σ H fun x H1=>tb σ H1 fun y H2=>R x y H2){Q:Value->Shared->Prop}{f:Value->Value->Sem Value}(hf:∀v u s2 x y H2,Inv X pins σ H2 s2->RelV x v->RelV y u->R x y H2->wpAny (model X.prog X.w) X.A (f v u) Q X.xe s2) :
  wpAny (model X.prog X.w) X.A (eval a X.env) (fun v s₁=>wpAny (model X.prog X.w) X.A (eval b X.env) (fun u s₂=>wpAny (model X.prog X.w) X.A (f v u) Q X.xe s₂) X.xe s₁) X.xe s:=by
 refine thn (ha pins s σ H _ I h) fun v s1 ⟨x,H1,I1,r1,q1⟩=>?_
 refine thn (hb pins s1 σ H1 _ I1 q1) fun u s2 ⟨y,H2,I2,r2,q2⟩=>?_
 exact hf v u s2 x y H2 I2 r1 r2 q2
theorem zqP{op:Operator}{r:R2}(ho:OpR X (binaryOp op) r)(ha:PE X a ta)(hb:PE X b tb):PE X (.BinOp a op b pos) (tOp r ta tb):=by
 intro pins s σ H Q I h
 exact wpAny_BinOp (zsS ha hb I h fun v u s2 x y H2 I2 rx ry q=>ho pins s2 σ H2 x y v u Q I2 rx ry q)
theorem zsT{op:UnaryOp}{r:V->Hp->VK->Prop}(ho:UnR X (unaryOp op) r)(ha:PE X a ta):PE X (.UnaryOp op a pos) (tUn r ta):=by
 intro pins s σ H Q I h
 exact UnaryOp_ (thn (ha pins s σ H _ I h) fun v s1 ⟨x,H1,I1,r1,q1⟩=>ho pins s1 σ H1 x v Q I1 r1 q1)
theorem opI{f:Value->Value->Sem Value}{C:Int->Int->Prop}{g:Int->Int->Int}(rule:∀(i j:Int) (t u:Tok) (s:Shared) (Q:Value->Shared->Prop) (E:Value->Shared->Prop),C i j->Q (.int (g i j) s.toks) { s with toks:=s.toks+1 }->wpAny (model X.prog X.w) X.A (f (.int i t) (.int j u)) Q E s) :
  OpR X f (rI C fun i j=>.int (g i j)):=by
 intro pins s σ H x y v u Q I rx ry h
 obtain⟨i,j,rfl,rfl,hc,q⟩:=h
 obtain⟨t,rfl⟩:=rx
 obtain⟨t',rfl⟩:=ry
 exact rule i j t t' s _ _ hc ⟨.int (g i j),H,I.tok _,⟨_,rfl⟩,q⟩
theorem zt1{f:Value->Value->Sem Value}{g:Int->Int->Int}(rule:∀(i j:Int) (t u:Tok) (s:Shared) (Q:Value->Shared->Prop) (E:Value->Shared->Prop),Q (.int (g i j) s.toks) { s with toks:=s.toks+1 }->wpAny (model X.prog X.w) X.A (f (.int i t) (.int j u)) Q E s) :
  OpR X f (rI0 fun i j=>.int (g i j)):=by
 intro pins s σ H x y v u Q I rx ry h
 obtain⟨i,j,rfl,rfl,q⟩:=h
 obtain⟨t,rfl⟩:=rx
 obtain⟨t',rfl⟩:=ry
 exact rule i j t t' s _ _ ⟨.int (g i j),H,I.tok _,⟨_,rfl⟩,q⟩
theorem zss{f:Value->Value->Sem Value}{g:Int->Int->Bool}(rule:∀(i j:Int) (t u:Tok) (s:Shared) (Q:Value->Shared->Prop) (E:Value->Shared->Prop),Q (.bool (g i j)) s->wpAny (model X.prog X.w) X.A (f (.int i t) (.int j u)) Q E s) :
  OpR X f (rI0 fun i j=>.bl (g i j)):=by
 intro pins s σ H x y v u Q I rx ry h
 obtain⟨i,j,rfl,rfl,q⟩:=h
 obtain⟨t,rfl⟩:=rx
 obtain⟨t',rfl⟩:=ry
 exact rule i j t t' s _ _ ⟨.bl (g i j),H,I,rfl,q⟩
def zsU(i j:Int):Prop:=0<j/\j<1073741824
def CMul(i j:Int):Prop:=(-(2 ^ 64)<i/\i<2 ^ 64)\/(-(2 ^ 64)<j/\j<2 ^ 64)
theorem CMul.ok{i j:Int}(h:CMul i j):IntMulOk i j:=by
 rcases h with ⟨h1,h2⟩|⟨h1,h2⟩
 ·exact .of_left (intBits_le_64 h1 h2)
 ·exact .of_right (intBits_le_64 h1 h2)
theorem zqQ:OpR X (binaryOp .Add) (rI0 fun i j=>.int (i+j)):=zt1 fun _ _ _ _ _ _ _ q=>add_int q
theorem zqR:OpR X (binaryOp .Sub) (rI0 fun i j=>.int (i-j)):=zt1 fun _ _ _ _ _ _ _ q=>sub_int q
theorem zqS:OpR X (binaryOp .Mult) (rI CMul fun i j=>.int (i*j)):=opI fun _ _ _ _ _ _ _ hc q=>mul_int q hc.ok
theorem zoK:OpR X (binaryOp .FloorDiv) (rI zsU fun i j=>.int (i / j)):=opI fun i j _ _ _ _ _ hc q=>by
 have h1:(0:Int)<j:=hc.1
 have h2:j<1073741824:=hc.2
 exact floordiv_int (by omega) (by rw[fdiv_eq_ediv_of_nonneg i (by omega)];exact q) (.inl (PyProof.noPylong_small (by omega)))
theorem zqT:OpR X (binaryOp .Mod) (rI (fun _ j=>0<j) fun i j=>.int (i % j)):=opI fun i j _ _ _ _ _ hc q=>by
 have h1:(0:Int)<j:=hc
 exact mod_int' (by omega) (by rw[fmod_eq_emod_of_nonneg i (by omega)];exact q)
theorem unI{f:Value->Sem Value}{g:Int->Int}(rule:∀(i:Int) (t:Tok) (s:Shared) (Q:Value->Shared->Prop) (E:Value->Shared->Prop),Q (.int (g i) s.toks) { s with toks:=s.toks+1 }->wpAny (model X.prog X.w) X.A (f (.int i t)) Q E s) :
  UnR X f (rU fun i=>.int (g i)):=by
 intro pins s σ H x v Q I rx h
 obtain⟨i,rfl,q⟩:=h
 obtain⟨t,rfl⟩:=rx
 exact rule i t s _ _ ⟨.int (g i),H,I.tok _,⟨_,rfl⟩,q⟩
theorem zqU:UnR X (unaryOp .USub) (rU fun i=>.int (-i)):=unI fun _ _ _ _ _ q=>neg_int q
end
def zt2:V->V->Bool
 | .non,.non=>true|.non,.int _=>true|.int _,.non=>true|.non,.bl _=>true|.bl _,.non=>true|.non,.str _=>true|.str _,.non=>true
 | .int _,.int _=>true|.bl _,.bl _=>true|.str _,.str _=>true|.byt _,.byt _=>true
 | .int _,.str _=>true|.str _,.int _=>true|.bl _,.str _=>true|.str _,.bl _=>true
 | _,_=>false
def rEq:R2:=fun x y H Q=>zt2 x y=true/\Q (.bl (decide (x=y))) H
def rNe:R2:=fun x y H Q=>zt2 x y=true/\Q (.bl (!decide (x=y))) H
theorem zke{i j:Int}:decide (V.int i=V.int j)=(i==j):=by
 rw[Bool.eq_iff_iff]
 simp
theorem znR{i j:Bool}:decide (V.bl i=V.bl j)=(i==j):=by
 rw[Bool.eq_iff_iff]
 simp
theorem zkf{i j:Str}:decide (V.str i=V.str j)=(i==j):=by
 rw[Bool.eq_iff_iff]
 simp
theorem zkg{i j:Array UInt8}:decide (V.byt i=V.byt j)=(i.toList==j.toList):=by
 rw[Bool.eq_iff_iff]
 cases i
 cases j
 simp
section
variable {X:Cx} {a b c:Expr} {ta tb tc:TE} {pos:Pos}
theorem zaR{pins:List (Addr×Obj)}{σ:St}{H:Hp}{s:Shared}{Q:VK}{k k':Bool}(I:Inv X pins σ H s)(q:Q (.bl k) H)(e:k=k'):EP X pins σ Q (.bool k') s:=by
 subst e
 exact⟨.bl k,H,I,rfl,q⟩
theorem zqV:OpR X (compareOp .Eq) rEq:=by
 intro pins s σ H x y v u Q I rx ry h
 obtain⟨hs,q⟩:=h
 cases x with
 | non =>
  cases rx
  cases y with
  | non=>cases ry;exact PySem.EqNone.eq_none_none (zaR I q (by simp))
  | bl j=>cases ry;exact PySem.EqNone.eq_none_bool (zaR I q (by simp))
  | int j=>obtain⟨t',rfl⟩:=ry;exact PySem.EqNone.eq_none_int (zaR I q (by simp))
  | str j=>obtain⟨t',rfl⟩:=ry;exact PySem.EqNone.eq_none_str (zaR I q (by simp))
  | _=>exact absurd (show false=true from hs) Bool.false_ne_true
 | bl i =>
  cases rx
  cases y with
  | non=>cases ry;exact PySem.EqNone.eq_bool_none (zaR I q (by simp))
  | bl j=>cases ry;exact eq_bool (zaR I q znR)
  | str j=>obtain⟨t',rfl⟩:=ry;exact PySem.EqMixed.eq_bool_str (zaR I q (by simp))
  | _=>exact absurd (show false=true from hs) Bool.false_ne_true
 | int i =>
  obtain⟨t,rfl⟩:=rx
  cases y with
  | non=>cases ry;exact PySem.EqNone.eq_int_none (zaR I q (by simp))
  | int j=>obtain⟨t',rfl⟩:=ry;exact eq_int (zaR I q zke)
  | str j=>obtain⟨t',rfl⟩:=ry;exact PySem.EqMixed.eq_int_str (zaR I q (by simp))
  | _=>exact absurd (show false=true from hs) Bool.false_ne_true
 | str i =>
  obtain⟨t,rfl⟩:=rx
  cases y with
  | non=>cases ry;exact PySem.EqNone.eq_str_none (zaR I q (by simp))
  | bl j=>cases ry;exact PySem.EqMixed.eq_str_bool (zaR I q (by simp))
  | int j=>obtain⟨t',rfl⟩:=ry;exact PySem.EqMixed.eq_str_int (zaR I q (by simp))
  | str j=>obtain⟨t',rfl⟩:=ry;exact eq_str (zaR I q zkf)
  | _=>exact absurd (show false=true from hs) Bool.false_ne_true
 | byt i =>
  obtain⟨t,rfl⟩:=rx
  cases y with
  | byt j=>obtain⟨t',rfl⟩:=ry;exact PySem.W.eq_bytes (zaR I q zkg)
  | _=>exact absurd (show false=true from hs) Bool.false_ne_true
 | _=>cases y<;>exact absurd (show false=true from hs) Bool.false_ne_true
theorem zsV:OpR X (compareOp .NotEq) rNe:=by
 intro pins s σ H x y v u Q I rx ry h
 obtain⟨hs,q⟩:=h
 cases x with
 | non =>
  cases rx
  cases y with
  | non=>cases ry;exact PySem.EqNone.ne_none_none (zaR I q (by simp))
  | bl j=>cases ry;exact PySem.EqNone.ne_none_bool (zaR I q (by simp))
  | int j=>obtain⟨t',rfl⟩:=ry;exact PySem.EqNone.ne_none_int (zaR I q (by simp))
  | str j=>obtain⟨t',rfl⟩:=ry;exact PySem.EqNone.ne_none_str (zaR I q (by simp))
  | _=>exact absurd (show false=true from hs) Bool.false_ne_true
 | bl i =>
  cases rx
  cases y with
  | non=>cases ry;exact PySem.EqNone.ne_bool_none (zaR I q (by simp))
  | bl j=>cases ry;exact ne_bool (zaR I q (congrArg not znR))
  | str j=>obtain⟨t',rfl⟩:=ry;exact PySem.EqMixed.ne_bool_str (zaR I q (by simp))
  | _=>exact absurd (show false=true from hs) Bool.false_ne_true
 | int i =>
  obtain⟨t,rfl⟩:=rx
  cases y with
  | non=>cases ry;exact PySem.EqNone.ne_int_none (zaR I q (by simp))
  | int j=>obtain⟨t',rfl⟩:=ry;exact ne_int (zaR I q (congrArg not zke))
  | str j=>obtain⟨t',rfl⟩:=ry;exact PySem.EqMixed.ne_int_str (zaR I q (by simp))
  | _=>exact absurd (show false=true from hs) Bool.false_ne_true
 | str i =>
  obtain⟨t,rfl⟩:=rx
  cases y with
  | non=>cases ry;exact PySem.EqNone.ne_str_none (zaR I q (by simp))
  | bl j=>cases ry;exact PySem.EqMixed.ne_str_bool (zaR I q (by simp))
  | int j=>obtain⟨t',rfl⟩:=ry;exact PySem.EqMixed.ne_str_int (zaR I q (by simp))
  | str j=>obtain⟨t',rfl⟩:=ry;exact ne_str (zaR I q (congrArg not zkf))
  | _=>exact absurd (show false=true from hs) Bool.false_ne_true
 | byt i =>
  obtain⟨t,rfl⟩:=rx
  cases y with
  | byt j=>obtain⟨t',rfl⟩:=ry;exact PySem.W.ne_bytes (zaR I q (congrArg not zkg))
  | _=>exact absurd (show false=true from hs) Bool.false_ne_true
 | _=>cases y<;>exact absurd (show false=true from hs) Bool.false_ne_true
theorem zsW:OpR X (compareOp .Lt) (rI0 fun i j=>.bl (decide (i<j))):=zss fun _ _ _ _ _ _ _ q=>lt_int q
theorem zqW:OpR X (compareOp .LtE) (rI0 fun i j=>.bl (decide (i<=j))):=zss fun _ _ _ _ _ _ _ q=>le_int q
theorem zqX:OpR X (compareOp .Gt) (rI0 fun i j=>.bl (decide (j<i))):=zss fun _ _ _ _ _ _ _ q=>gt_int q
theorem zqY:OpR X (compareOp .GtE) (rI0 fun i j=>.bl (decide (j<=i))):=zss fun _ _ _ _ _ _ _ q=>ge_int q
theorem zb4(b:Expr){op:CmpOp}(h:op≠.In:=by decide)(h2:op≠.NotIn:=by decide):behindInMarks op b=false:=by
 have e1:(op==CmpOp.In)=false:=by cases op<;>first|rfl|exact absurd rfl h
 have e2:(op==CmpOp.NotIn)=false:=by cases op<;>first|rfl|exact absurd rfl h2
 cases b<;>simp[behindInMarks,e1,e2]
theorem zkh{op:CmpOp}{r:R2}(ho:OpR X (compareOp op) r)(ha:PE X a ta)(hb:PE X b tb)(hm:behindInMarks op b=false):PE X (.Compare a [op] [b] pos) (tOp r ta tb):=by
 intro pins s σ H Q I h
 exact wpAny_Compare1 (zsS ha hb I h fun v u s2 x y H2 I2 rx ry q=>ho pins s2 σ H2 x y v u Q I2 rx ry q) hm
def zsX(t:TE):TT:=fun σ H Q=>t σ H fun x H'=>∃k,x=.bl k/\Q k H'
theorem zoL{op:CmpOp}{r:R2}(ho:OpR X (compareOp op) r)(ha:PE X a ta)(hb:PE X b tb)(hm:behindInMarks op b=false):PT X (.Compare a [op] [b] pos) (zsX (tOp r ta tb)):=by
 intro pins s σ H Q I h
 refine wpAny_isTrue_Compare1 (thn (ha pins s σ H _ I h) fun v s1 ⟨x,H1,I1,r1,q1⟩=>thn (hb pins s1 σ H1 _ I1 q1) fun u s2 ⟨y,H2,I2,r2,q2⟩ =>
  thn (ho pins s2 σ H2 x y v u _ I2 r1 r2 q2) fun c s3 ⟨z,H3,I3,r3,k,e,q3⟩=>?_) hm
 subst e
 cases r3
 exact wpAny_truthy_bool ⟨H3,I3,q3⟩
def znS(r r':R2)(ta tb tc:TE):TE:=fun σ H Q=>ta σ H fun x H1=>tb σ H1 fun y H2=>r x y H2 fun z H3=>∃k,z=.bl k /\
 (if k=true then tc σ H3 fun w' H4=>r' y w' H4 Q else Q (.bl false) H3)
theorem zmi{op op':CmpOp}{r r':R2}(ho:OpR X (compareOp op) r)(ho':OpR X (compareOp op') r')(ha:PE X a ta)(hb:PE X b tb)(hc:PE X c tc)(hm:lastMarks [op,op'] [b,c]=false:=by with_unfolding_all rfl):PE X (.Compare a [op,op'] [b,c] pos) (znS r r' ta tb tc):=by
 intro pins s σ H Q I h
 refine Compare_chain (thn (ha pins s σ H _ I h) fun v s1 ⟨x,H1,I1,r1,q1⟩=>chain_link (thn (hb pins s1 σ H1 _ I1 q1) fun u s2 ⟨y,H2,I2,r2,q2⟩ =>
  thn (ho pins s2 σ H2 x y v u _ I2 r1 r2 q2) fun d s3 ⟨z,H3,I3,r3,k,e,q3⟩=>?_)) hm
 subst e
 cases r3
 refine wpAny_truthy_bool ?_
 cases k with
 | false=>exact ite_ff ⟨.bl false,H3,I3,rfl,q3⟩
 | true=>exact ite_tt (chain_last (thn (hc pins s3 σ H3 _ I3 q3) fun w' s4 ⟨z',H4,I4,r4,q4⟩=>ho' pins s4 σ H4 y z' u w' Q I4 r2 r4 q4))
def zst(K:PySem.W.Frag)(x:V)(H:Hp)(k:Bool):Prop :=
 match x with
 | .non=>k=false
 | .bl b=>k=b
 | .int i=>k=(i != 0)
 | .str y=>y.length<=sizeLine/\k=((y.length:Int) != 0)
 | .byt y=>y.size<=sizeLine/\k=((y.size:Int) != 0)
 | .ref p=>(∃xs,SqL K H p xs/\k=!xs.isEmpty)\/(∃xs,SqT K H p xs/\k=!xs.isEmpty)\/∃kvs,H p=some (.dK kvs)/\k=!kvs.isEmpty
 | _=>False
theorem zjr{κ:Type}{kvs:List (κ×V)}{vs:List (κ×Value)}(r:KV kvs vs):(!vs.isEmpty)=!kvs.isEmpty:=by
 cases r<;>rfl
theorem zfX{xs:List V}{its:List Value}(r:Vals xs its):(!its.toArray.isEmpty)=!xs.isEmpty:=by
 cases r<;>simp
theorem zhh:(sizeLine:Nat)<2 ^ 63:=by rw[sizeLine_eq];decide
theorem zqZ:zuR X (fun x H Q=>∃k,zst X.K x H k/\Q k H):=by
 intro pins s σ H x v Q I rx h
 obtain⟨k,e,q⟩:=h
 have hl:=zhh
 have hs:sizeLine=16777216:=sizeLine_eq
 cases x with
 | non =>
  cases rx
  have e':k=false:=e
  subst e'
  exact truthy_none ⟨H,I,q⟩
 | bl b =>
  cases rx
  have e':k=b:=e
  subst e'
  exact wpAny_truthy_bool ⟨H,I,q⟩
 | int i =>
  obtain⟨t,rfl⟩:=rx
  have e':k=(i != 0):=e
  subst e'
  exact PySem.P.truthy_int ⟨H,I,q⟩
 | str y =>
  obtain⟨t,rfl⟩:=rx
  obtain⟨hy,e'⟩:y.length<=sizeLine/\k=((y.length:Int) != 0):=e
  subst e'
  exact PySem.P.truthy_str (by omega) ⟨H,I.tok _,q⟩
 | byt y =>
  obtain⟨t,rfl⟩:=rx
  obtain⟨hy,e'⟩:y.size<=sizeLine/\k=((y.size:Int) != 0):=e
  subst e'
  exact PySem.W.truthy_bytes (by omega) ⟨H,I.tok _,q⟩
 | ref p =>
  cases rx
  have e':(∃xs,SqL X.K H p xs/\k=!xs.isEmpty)\/(∃xs,SqT X.K H p xs/\k=!xs.isEmpty)\/∃kvs,H p=some (.dK kvs)/\k=!kvs.isEmpty:=e
  rcases e' with ⟨xs,hx,e'⟩|⟨xs,hx,e'⟩|⟨kvs,hx,e'⟩
  ·subst e'
   obtain⟨its,r,pl,hz⟩:=I.list hx
   have hlen:=r.length
   exact wpAny_truthy_list pl.isList (by simp only[size_toArray];omega) ⟨H,I.tok _,by rw[zfX r];exact q⟩
  ·subst e'
   obtain⟨its,r,pl,hz⟩:=I.tuple hx
   have hlen:=r.length
   exact truthy_tuple pl (by simp only[size_toArray];omega) ⟨H,I.tok _,by rw[zfX r];exact q⟩
  ·subst e'
   obtain⟨hz,hS,vs,r,m⟩:kvs.length<=sizeLine/\(p==sysModules)=false/\∃vs,KV kvs vs/\s.heap.DictOf (zaN X.prog X.w) p vs:=I.hok p _ hx
   have hlen:kvs.length=vs.length:=Paired.length r
   exact wpAny_truthy_dict hS m (by omega) ⟨H,I.tok _,by rw[zjr r];exact q⟩
 | _=>exact(show False from e).elim
theorem zmj(ha:PE X a ta)(he:∀whole,isTrue a X.env whole=(do let v <- whole;standAt a.pos;holding [v] (truthy v))) :
  PT X a (fun σ H Q=>ta σ H fun x H'=>∃k,zst X.K x H' k/\Q k H'):=by
 intro pins s σ H Q I h
 exact isTrue_plain (thn (ha pins s σ H _ I h) fun v s1 ⟨x,H1,I1,r1,q1⟩=>zqZ pins s1 σ H1 x v Q I1 r1 q1) (he _)
theorem zeG{x:V}{us:List Value}(r:Vals [x] us):∃u,us=[u]/\RelV x u:=by
 cases r with
 | cons r1 r2=>cases r2;exact⟨_,rfl,r1⟩
theorem zsY{x y:V}{us:List Value}(r:Vals [x,y] us):∃u w',us=[u,w']/\RelV x u/\RelV y w':=by
 cases r with
 | cons r1 r2 =>
  cases r2 with
  | cons r3 r4=>cases r4;exact⟨_,_,rfl,r1,r3⟩
def zt3(K:PySem.W.Frag)(x:V)(H:Hp)(n:Nat):Prop :=
 match x with
 | .str y=>y.length<=sizeLine/\n=y.length
 | .byt y=>y.size<=sizeLine/\n=y.size
 | .ref p=>(∃xs,SqL K H p xs/\n=xs.length)\/∃xs,SqT K H p xs/\n=xs.length
 | _=>False
theorem zmk:CallR X (.builtin "len") (fun xs H Q=>∃x n,xs=[x]/\zt3 X.K x H n/\Q (.int n) H):=by
 intro pins s σ H xs us Q I r h
 obtain⟨x,n,rfl,e,q⟩:=h
 obtain⟨u,rfl,rx⟩:=zeG r
 have hl:=zhh
 have hs:sizeLine=16777216:=sizeLine_eq
 cases x with
 | str y =>
  obtain⟨t,rfl⟩:=rx
  obtain⟨hy,e'⟩:y.length<=sizeLine/\n=y.length:=e
  subst e'
  exact len_str (by omega) ⟨.int _,H,I.tok _,⟨_,rfl⟩,q⟩
 | byt y =>
  obtain⟨t,rfl⟩:=rx
  obtain⟨hy,e'⟩:y.size<=sizeLine/\n=y.size:=e
  subst e'
  exact PySem.W.len_bytes (by omega) ⟨.int _,H,I.tok _,⟨_,rfl⟩,q⟩
 | ref p =>
  cases rx
  have e':(∃xs,SqL X.K H p xs/\n=xs.length)\/∃xs,SqT X.K H p xs/\n=xs.length:=e
  rcases e' with ⟨xs,hx,e'⟩|⟨xs,hx,e'⟩
  ·subst e'
   obtain⟨its,r',pl,hz⟩:=I.list hx
   have hlen:=r'.length
   exact Calls.call_len_list pl.isList (by simp only[size_toArray];omega) ⟨.int xs.length,H,I.tok _,⟨_,by simp only[size_toArray];rw[hlen]⟩,q⟩
  ·subst e'
   obtain⟨its,r',pl,hz⟩:=I.tuple hx
   have hlen:=r'.length
   exact len_tuple pl (by simp only[size_toArray];omega) ⟨.int xs.length,H,I.tok _,⟨_,by simp only[size_toArray];rw[hlen]⟩,q⟩
 | _=>exact(show False from e).elim
end
structure ObjM (h:Heap) (x dx C:Addr) (mA:Str->Option Value):Prop where
 obj:h.get? x=some (PySem.W.instObj C dx)
 ns:h.Ns1 dx mA
 ne:dx≠x
theorem zki{h:Heap}{dx:Addr}{mA:Str->Option Value}(n:h.Ns1 dx mA):∃od,h.get? dx=some od/\∀name,PySem.W.lookIn name od=some (mA name):=by
 obtain⟨o,es,ep,ho,hd,hk,_,hm⟩:=n
 refine⟨o,ho,fun name=>?_⟩
 have e:=hm name
 unfold nsFind findBy at e
 rw[<- find?_toList] at e
 unfold PySem.W.lookIn
 rw[hd]
 dsimp only
 split
 ·rename_i y q
  rw[q] at e
  exact congrArg some e
 ·rename_i q
  rw[q] at e
  have a:es.toList.any (·.refKey)=false:=by
   rw[any_eq_false]
   intro y hy
   obtain⟨z,t,hkey⟩:=hk y (mem_toList_iff.mp hy)
   simp[DictEntry.refKey,hkey]
  have a':¬es.toList.any (·.refKey)=true:=by rw[a];exact Bool.false_ne_true
  rw[if_neg a']
  exact congrArg some e
theorem ObjM.look{h:Heap}{x dx C:Addr}{mA:Str->Option Value}(I:ObjM h x dx C mA):∃od,PySem.W.InstAt h x (PySem.W.instObj C dx) C (some od)/\∀name,PySem.W.lookIn name od=some (mA name) :=
 let ⟨od,ho,hl⟩:=zki I.ns
 ⟨od,⟨I.obj,rfl,rfl,ho⟩,hl⟩
section
variable {prog:Program} {w:World} {A:Around} {E:Value->Shared->Prop} {s:Shared} {K:PySem.W.Frag} {x dx C f:Addr} {mA:Str->Option Value} {name:Str} {v:Value}
theorem zoM{expr:Bool}{Q:Value->Shared->Prop}(X:K.In s.heap)(I:ObjM s.heap x dx C mA)(hg:PySem.W.plainGet K C name=true)(hh:PySem.W.hasDictIn K C=true)(ha:PySem.W.findIn K (.ref C) name=some none)(hv:mA name=some v)(hv':PySem.W.handedIn v=true)(h:Q v { s with toks:=s.toks+1 }) :
  wpAny (model prog w) A (getAttr (.ref x) name expr) Q E s:=by
 obtain⟨od,J,hl⟩:=I.look
 exact PySem.W.get_value X J (PySem.W.plainGet_of hg).1 (PySem.W.findObj_own hh ha rfl (by rw[hl,hv])) hv' h
theorem zml{pl:Sem Bool}{Q:Value×List Value->Shared->Prop}(X:K.In s.heap)(I:ObjM s.heap x dx C mA)(hg:PySem.W.plainGet K C name=true)(hf:PySem.W.findIn K (.ref C) name=some (some (.ref f)))(ht:PySem.W.isFn K (.ref f)=true)(hv:mA name=none)(h:Q (.ref f,[.ref x]) s) :
  wpAny (model prog w) A (getMethod (.ref x) name pl) Q E s:=by
 obtain⟨od,J,hl⟩:=I.look
 exact PySem.W.method_fn X J (PySem.W.plainGet_of hg).1 (PySem.W.plainGet_of hg).2 hf (beq_iff_eq.mp ht) (by show(PySem.W.lookIn name od).map (·.isSome)=some false;rw[hl,hv];rfl) h
theorem zoN{ns:List Str}{Q:Unit->Shared->Prop}(X:K.In s.heap)(I:ObjM s.heap x dx C mA)(hs:PySem.W.findIn K (.ref C) "__setattr__" = some (some (.builtin "object.__setattr__")))(hp:PySem.W.plainOver K C=true)(ht:PySem.W.takerIn K C name=some none)(hh:PySem.W.hasDictIn K C=true)(hw:PySem.Within mA ns)(hsz:ns.length<=sizeLine)(h:∀h',ObjM h' x dx C (fun y=>if y=name then some v else mA y)->Heap.SameBut dx s.heap h'->Q () { s with heap:=h',toks:=s.toks+2 }) :
  wpAny (model prog w) A (setAttr (.ref x) name v) Q E s:=by
 obtain⟨od,J,hl⟩:=I.look
 refine PySem.W.set_plain X J hs (PySem.W.osa_open (s:={ s with toks:=s.toks+1 }) (r:=none) X J hp ht fun b=>?_)
 obtain⟨cd,hc,hd'⟩:=PySem.W.any_some hh
 have hx:s.heap.get? x=some ⟨.ref C,some dx,.plain,#[]⟩:=I.obj
 refine wpAny_bind (wpAny_pure (wpAny_bind (wpAny_bind (wpAny_loadPart hx (wpAny_bind (PySem.W.Looks.here (s:={ s with toks:=s.toks+1 }) (PySem.W.looks_clsIn X hc) ?_))))))
 rw[hd']
 refine wpAny_pure (a:=some dx) (wpAny_bind (wpAny_pure (wpAny_bind ?_)))
 refine wpAny_nsSet1 (s:={ s with toks:=s.toks+1 }) I.ns fun h' hn2 hs2=>?_
 obtain⟨oD,esD,epD,hoD,hdD,hcD⟩:=hn2.count (PySem.Within.cons name v hw)
 refine wpAny_bind (wpAny_lookBehind hoD (by rw[hdD];exact pastItsLine_dict (le_trans hcD (by rw[length_cons];omega))) ?_)
 exact wpAny_pure (h _ ⟨(hs2.2 _ (Ne.symm I.ne)).trans I.obj,hn2,I.ne⟩ hs2)
theorem zmm{R:Result->Shared->Prop}{vs:List Value}{kw:List (Str×Value)}(X:K.In s.heap)(hm:PySem.W.makesIn K C=true)(hi:PySem.W.findIn K (.ref C) "__init__" = some (some (.ref f)))(hf:PySem.W.typeIn K (.ref f)=some (.type "function"))(h:codeAny (model prog w) (A.under (.builtin "type.__call__" ⟨.ref C::vs,kw⟩)) (.call (.ref f) ⟨.ref (s.heap.objs.size+1)::vs,kw⟩) (PySem.W.InitBack (s.heap.objs.size+1) R)
   { s with heap:=(s.heap.push PySem.W.emptyDict).push (PySem.W.instObj C s.heap.objs.size) }) :
  codeAny (model prog w) A (.call (.ref C) ⟨vs,kw⟩) R s:=by
 obtain⟨hh,g,d,t,os⟩:=s
 exact PySem.W.make_core (PySem.W.makes_of X hm) (PySem.W.looks_findIn X hi) (fun self=>PySem.W.bind_fn X self hf) (.inl rfl) h
end
def zgl(f:Str)(v:V):List (Str×V)->List (Str×V)
 | []=>[(f,v)]
 | (g,x)::r=>if g=f then (g,v)::r else (g,x)::zgl f v r
theorem zeX(f g:Str)(v:V):∀fs:List (Str×V),(zgl f v fs).lookup g=if g=f then some v else fs.lookup g
 | []=>by
  show List.lookup g [(f,v)]=_
  by_cases h:g=f
  ·have hb:(g==f)=true:=beq_iff_eq.mpr h
   simp only[List.lookup,hb,if_pos h]
  ·have hb:(g==f)=false:=beq_eq_false_iff_ne.mpr h
   simp only[List.lookup,hb,if_neg h]
 | (k,x)::r=>by
  have ih:=zeX f g v r
  rw[show zgl f v ((k,x)::r)=(if k=f then (k,v)::r else (k,x)::zgl f v r) from rfl]
  by_cases hk:k=f
  ·rw[if_pos hk]
   by_cases h:g=k
   ·have hb:(g==k)=true:=beq_iff_eq.mpr h
    simp only[List.lookup,hb,if_pos (h.trans hk)]
   ·have hb:(g==k)=false:=beq_eq_false_iff_ne.mpr h
    simp only[List.lookup,hb,if_neg (fun e:g=f=>h (e.trans hk.symm))]
  ·rw[if_neg hk]
   by_cases h:g=k
   ·have hb:(g==k)=true:=beq_iff_eq.mpr h
    simp only[List.lookup,hb,if_neg (fun e:g=f=>hk (h.symm.trans e))]
   ·have hb:(g==k)=false:=beq_eq_false_iff_ne.mpr h
    simp only[List.lookup,hb]
    exact ih
theorem zeY(f:Str)(v:V):∀fs:List (Str×V),f∈(zgl f v fs).map (·.1)/\∀g,g∈fs.map (·.1)->g∈(zgl f v fs).map (·.1)
 | []=>⟨by simp[zgl],fun g h=>by simp at h⟩
 | (k,x)::r=>by
  obtain⟨i1,i2⟩:=zeY f v r
  rw[show zgl f v ((k,x)::r)=(if k=f then (k,v)::r else (k,x)::zgl f v r) from rfl]
  by_cases hk:k=f
  ·rw[if_pos hk]
   subst hk
   exact⟨by simp,fun g h=>by simpa using h⟩
  ·rw[if_neg hk]
   refine⟨?_,fun g h=>?_⟩
   ·rw[map_cons]
    exact mem_cons_of_mem _ i1
   ·rw[map_cons] at h ⊢
    rcases mem_cons.mp h with e|e
    ·exact mem_cons.mpr (.inl e)
    ·exact mem_cons_of_mem _ (i2 g e)
theorem zeZ(f:Str)(v:V):∀fs:List (Str×V),(zgl f v fs).length<=fs.length+1
 | []=>by simp[zgl]
 | (k,x)::r=>by
  have ih:=zeZ f v r
  rw[show zgl f v ((k,x)::r)=(if k=f then (k,v)::r else (k,x)::zgl f v r) from rfl]
  by_cases hk:k=f
  ·rw[if_pos hk,length_cons,length_cons];omega
  ·rw[if_neg hk,length_cons,length_cons];omega
theorem RelO.some_of{v:V}{o:Option Value}(r:RelO (some v) o):∃u,o=some u/\RelV v u:=by
 cases o with
 | none=>exact(show False from r).elim
 | some u=>exact⟨u,rfl,r⟩
theorem RelO.none_of{o:Option Value}(r:RelO none o):o=none:=by
 cases o with
 | none=>rfl
 | some u=>exact(show False from r).elim
theorem zkj{v:V}{u:Value}(r:RelV v u):PySem.W.handedIn u=true:=by
 cases v with
 | non=>cases (show u=Value.none from r);rfl
 | bl b=>cases (show u=Value.bool b from r);rfl
 | int i=>obtain⟨t,e⟩:=(show ∃t,u=Value.int i t from r);cases e;rfl
 | str x=>obtain⟨t,e⟩:=(show ∃t,u=Value.str x t from r);cases e;rfl
 | byt b=>obtain⟨t,e⟩:=(show ∃t,u=Value.bytes b t from r);cases e;rfl
 | flt b=>obtain⟨t,e⟩:=(show ∃t,u=Value.float b t from r);cases e;rfl
 | ref a=>cases (show u=Value.ref a from r);rfl
 | ty n=>cases (show u=Value.type n from r);rfl
section
variable {P:Program} {w:World} {H H':Hp} {h h':Heap} {a C dx:Addr} {fs fs':List (Str×V)}
theorem zgm(hok:HOk P w H h)(e:H a=some (.ins C dx fs)):∃mA,ObjM h a dx C mA/\(∀f,RelO (fs.lookup f) (mA f))/\PySem.Within mA (fs.map (·.1))/\fs.length<=1000/\H dx=some (.own a):=by
 obtain⟨d,z,ne,ob,mA,n,r,q⟩:=(show ObjOk P w H h a (.ins C dx fs) from hok a _ e)
 exact⟨mA,⟨ob,n,ne⟩,r,q,z,d⟩
end
structure Cls (K:PySem.W.Frag) (C:Addr):Prop where
 pg:PySem.W.plainGet K C Str.empty=true
 hd:PySem.W.hasDictIn K C=true
 po:PySem.W.plainOver K C=true
 sa:PySem.W.findIn K (.ref C) "__setattr__" = some (some (.builtin "object.__setattr__"))
theorem Cls.get{K:PySem.W.Frag}{C:Addr}(c:Cls K C)(f:Str):PySem.W.plainGet K C f=true:=c.pg
def NoAttr(K:PySem.W.Frag)(C:Addr)(f:Str):Prop:=PySem.W.findIn K (.ref C) f=some none
theorem NoAttr.taker{K:PySem.W.Frag}{C:Addr}{f:Str}(n:NoAttr K C f):PySem.W.takerIn K C f=some none:=by
 unfold PySem.W.takerIn
 rw[show PySem.W.findIn K (.ref C) f=some none from n]
 rfl
structure Meth (K:PySem.W.Frag) (C:Addr) (m:Str) (f:Addr):Prop where
 at_:PySem.W.findIn K (.ref C) m=some (some (.ref f))
 fn:PySem.W.isFn K (.ref f)=true
 kp:PySem.W.keepIn K (.ref f)=true
section
variable {X:Cx} {pins:List (Addr×Obj)} {σ:St} {H:Hp} {s:Shared} {a C dx:Addr} {fs:List (Str×V)} {f:Str} {v:V} {A:Around} {E:Value->Shared->Prop}
theorem zjs{b:Bool}{Q:Value->Shared->Prop}(I:Inv X pins σ H s)(e:H a=some (.ins C dx fs))(c:Cls X.K C)(n:NoAttr X.K C f)(l:fs.lookup f=some v)(h:∀u s',Inv X pins σ H s'->RelV v u->Q u s'):wpAny (model X.prog X.w) A (getAttr (.ref a) f b) Q E s:=by
 obtain⟨mA,O,r,_,_,_⟩:=zgm I.hok e
 obtain⟨u,hu,ru⟩:=RelO.some_of (v:=v) (o:=mA f) (by rw[<- l];exact r f)
 exact zoM I.kIn O (c.get f) c.hd n hu (zkj ru) (h u _ (I.tok _) ru)
theorem zed{m:Str}{g:Addr}{pl:Sem Bool}{Q:Value×List Value->Shared->Prop}(I:Inv X pins σ H s)(e:H a=some (.ins C dx fs))(c:Cls X.K C)(k:Meth X.K C m g)(l:fs.lookup m=none)(h:Q (.ref g,[.ref a]) s):wpAny (model X.prog X.w) A (getMethod (.ref a) m pl) Q E s:=by
 obtain⟨mA,O,r,_,_,_⟩:=zgm I.hok e
 have hn:mA m=none:=RelO.none_of (by rw[<- l];exact r m)
 exact zml I.kIn O (c.get m) k.at_ k.fn hn h
theorem zjt{y:V}{u:Value}{Q:Unit->Shared->Prop}(I:Inv X pins σ H s)(e:H a=some (.ins C dx fs))(c:Cls X.K C)(n:NoAttr X.K C f)(hl:fs.length<1000)(ry:RelV y u)(h:∀s',Inv X pins σ (upd H a (.ins C dx (zgl f y fs))) s'->Q () s'):wpAny (model X.prog X.w) A (setAttr (.ref a) f u) Q E s:=by
 obtain⟨mA,O,r,wi,_,ho⟩:=zgm I.hok e
 have hz:(fs.map (·.1)).length<=sizeLine:=by rw[length_map,sizeLine_eq];omega
 refine zoN I.kIn O c.sa c.po n.taker c.hd wi hz fun h' O' sb=>h _ ?_
 have hd:∃o,h'.get? dx=some o:=let ⟨o,_,_,e',_⟩:=O'.ns;⟨o,e'⟩
 refine I.write (x:=a) (e:=dx) (by rw[e];exact True.intro) (.inr ho) (fun b q hb z=>(sb.2 b hb).trans z) hd ?_
 refine⟨by rw[zaD O.ne];exact ho,?_,O.ne,O'.obj,_,O'.ns,fun g=>?_,fun g hg=>?_⟩
 ·have:=zeZ f y fs;omega
 ·show RelO ((zgl f y fs).lookup g) (if g=f then some u else mA g)
  rw[zeX]
  by_cases q:g=f
  ·rw[if_pos q,if_pos q];exact ry
  ·rw[if_neg q,if_neg q];exact r g
 ·by_cases q:g=f
  ·rw[q];exact(zeY f y fs).1
  ·refine(zeY f y fs).2 g (wi g fun z=>hg ?_)
   show(if g=f then some u else mA g)=none
   rw[if_neg q];exact z
theorem Inv.made(I:Inv X pins σ H s):Inv X pins σ (upd (upd H s.heap.objs.size (.own (s.heap.objs.size+1))) (s.heap.objs.size+1) (.ins C s.heap.objs.size []))
  { s with heap:=(s.heap.push PySem.W.emptyDict).push (PySem.W.instObj C s.heap.objs.size) }:=by
 have e1:(s.heap.push PySem.W.emptyDict).get? s.heap.objs.size=some PySem.W.emptyDict:=Heap.get?_push_size s.heap rfl
 have e2:((s.heap.push PySem.W.emptyDict).push (PySem.W.instObj C s.heap.objs.size)).get? (s.heap.objs.size+1)=some (PySem.W.instObj C s.heap.objs.size):=by
  have:=Heap.get?_push_size (s.heap.push PySem.W.emptyDict) (o:=PySem.W.instObj C s.heap.objs.size) rfl
  rwa [Heap.size_push] at this
 have e3:(s.heap.push PySem.W.emptyDict).Ns s.heap.objs.size (fun _=>none):=⟨PySem.W.emptyDict,#[],_,e1,rfl,(fun e he=>absurd he (by simp)),fun _=>rfl⟩
 have I1:=I.laid (a:=s.heap.objs.size) (o:=.own (s.heap.objs.size+1)) (h':=s.heap.push PySem.W.emptyDict) (t':=s.toks) (fun b u q=>Heap.get?_push_of_some _ q) (le_refl _) ⟨_,e1⟩
 refine I1.laid (a:=s.heap.objs.size+1) (o:=.ins C s.heap.objs.size []) (t':=s.toks) (fun b u q=>Heap.get?_push_of_some _ q) (le_of_eq (Heap.size_push _ _)) ?_
 have ne:s.heap.objs.size≠s.heap.objs.size+1:=ne_of_lt (lt_succ_self _)
 refine⟨by rw[zaD ne,zaw],zero_le _,ne,e2,fun _=>none,(Heap.Ns1.of_empty e3).at fun o q=>Heap.get?_push_of_some _ q,fun _=>True.intro,fun y hy=>absurd rfl hy⟩
theorem zoO{prog:Program}{w:World}{env:Env}{e:Expr}{f:Str}{pos:Pos}{s:Shared}{Q:Value->Shared->Prop}(hb:attributeBase e f env (eval e env)=eval e env)(h:wpAny (model prog w) A (eval e env) (fun o s₁=>wpAny (model prog w) A (getAttr o f true) Q E s₁) E s):wpAny (model prog w) A (eval (.Attribute e f pos) env) Q E s :=
 Attribute_any_ h (by rw[arm_eval_Attribute,hb])
end
def zuS(K:PySem.W.Frag)(ta:TE)(f:Str):TE:=fun σ H Q=>ta σ H fun x H1=>∃a C dx fs v,x=.ref a/\H1 a=some (.ins C dx fs)/\Cls K C/\NoAttr K C f/\fs.lookup f=some v/\Q v H1
def zuT(K:PySem.W.Frag)(ta tv:TE)(f:Str):TS:=fun D σ H=>tv σ H fun y H1=>ta σ H1 fun x H2=>∃a C dx fs,x=.ref a/\H2 a=some (.ins C dx fs)/\Cls K C/\NoAttr K C f/\fs.length<1000 /\
 D.nx σ (upd H2 a (.ins C dx (zgl f y fs)))
section
variable {X:Cx} {o e value:Expr} {f:Str} {pos pos' tpos:Pos} {ta tv:TE}
theorem zq0(he:PE X e ta)(hb:attributeBase e f X.env (eval e X.env)=eval e X.env):PE X (.Attribute e f pos) (zuS X.K ta f):=by
 intro pins s σ H Q I h
 refine zoO hb (thn (he pins s σ H _ I h) fun u s1 ⟨x,H1,I1,rx,a,C,dx,fs,v,ex,ea,c,n,l,q⟩=>?_)
 subst ex
 obtain rfl:u=Value.ref a:=rx
 exact zjs I1 ea c n l fun u' s2 I2 ru=>⟨v,H1,I2,ru,q⟩
theorem zq1(ha:PE X o ta)(hv:PE X value tv)(hs:swapsWith value (some (.Attribute o f pos')) pos.line X.env=pure false):PS X (.Assign [.Attribute o f pos'] value pos) (zuT X.K ta tv f):=by
 intro pins s σ H D I h
 refine plainObj_wpAny_Assign_Attribute (thn (hv pins s σ H _ I h) fun u s1 ⟨y,H1,I1,ry,q⟩=>thn (ha pins s1 σ H1 _ I1 q) fun ov s2 ⟨x,H2,I2,rx,a,C,dx,fs,ex,ea,c,n,l,q2⟩=>?_) hs
 subst ex
 obtain rfl:ov=Value.ref a:=rx
 exact zjt I2 ea c n l ry fun s3 I3=>⟨σ,_,I3,q2⟩
end
section
variable {X:Cx} {pins:List (Addr×Obj)} {σ:St} {H:Hp} {s:Shared} {A:Around} {E:Value->Shared->Prop} {Q:Value->Shared->Prop} {c:Value} {b:Bool}
inductive TyOf (K:PySem.W.Frag) (H:Hp):V->Value->Prop where
 | non:TyOf K H .non (.type "NoneType")
 | bl (x:Bool):TyOf K H (.bl x) (.type "bool")
 | int (i:Int):TyOf K H (.int i) (.type "int")
 | str (x:Str):TyOf K H (.str x) (.type "str")
 | flt (x:UInt64):TyOf K H (.flt x) (.type "float")
 | lst {a:Addr} {xs:List V} (e:H a=some (.lst xs)):TyOf K H (.ref a) (.type "list")
 | frz {a:Addr} {o:Obj} {xs:List V} (e:H a=some (.frz o (.lst xs))):TyOf K H (.ref a) (.type "list")
 | tup {a:Addr} {xs:List V} (e:H a=some (.tup xs)):TyOf K H (.ref a) (.type "tuple")
 | dK {a:Addr} {kvs:List (Key×V)} (e:H a=some (.dK kvs)):TyOf K H (.ref a) (.type "dict")
 | dT {a:Addr} {kvs:List (List Key×V)} (e:H a=some (.dT kvs)):TyOf K H (.ref a) (.type "dict")
 | ins {a C dx:Addr} {fs:List (Str×V)} (e:H a=some (.ins C dx fs)) (cl:Cls K C) (ha:PySem.W.findIn K (.ref C) "__class__" = some (some (.builtin "object.__class__")))
   (hn:PySem.W.specialIn K (.builtin "object.__class__") "__get__" = some (some (.builtin "getset_descriptor.__get__"))) (htk:PySem.W.takesIn K (.builtin "object.__class__")=some true)
   (hm:PySem.W.mroIn K C (.type "object")=some true):TyOf K H (.ref a) (.ref C)
theorem zkk{x:V}{u t:Value}(I:Inv X pins σ H s)(rx:RelV x u)(ty:TyOf X.K H x t)(e:PySem.W.kitOne X.K t c=some b)(h:∀tk,Q (.bool b) { s with toks:=tk }) :
  wpAny (model X.prog X.w) A (call (.builtin "isinstance") [u,c]) Q E s:=by
 cases ty with
 | non=>cases (show u=Value.none from rx);exact PySem.W.kia_one PySem.W.kitx_none I.kIn True.intro e (fun z=>nomatch z) h
 | bl y=>cases (show u=Value.bool y from rx);exact PySem.W.kia_one PySem.W.kitx_bool I.kIn True.intro e (fun z=>nomatch z) h
 | int i=>obtain⟨t,q⟩:=(show ∃t,u=Value.int i t from rx);cases q;exact PySem.W.kia_one PySem.W.kitx_int I.kIn True.intro e (fun z=>nomatch z) h
 | str y=>obtain⟨t,q⟩:=(show ∃t,u=Value.str y t from rx);cases q;exact PySem.W.kia_one PySem.W.kitx_str I.kIn True.intro e (fun z=>nomatch z) h
 | flt y=>obtain⟨t,q⟩:=(show ∃t,u=Value.float y t from rx);cases q;exact PySem.W.kia_one PySem.W.kitx_float I.kIn True.intro e (fun z=>nomatch z) h
 | @lst a xs ea =>
  cases (show u=Value.ref a from rx)
  obtain⟨_,_,n,_,h1⟩:=(show ObjOk X.prog X.w H s.heap a (.lst xs) from I.hok a _ ea)
  exact PySem.W.kia_one PySem.W.kitx_list I.kIn ⟨_,h1,rfl⟩ e (fun z=>nomatch z) h
 | @frz a ob xs ea =>
  cases (show u=Value.ref a from rx)
  obtain⟨_,_,_,n,_,h1⟩:=(show ObjOk X.prog X.w H s.heap a (.frz ob (.lst xs)) from I.hok a _ ea)
  exact PySem.W.kia_one PySem.W.kitx_list I.kIn ⟨_,h1,rfl⟩ e (fun z=>nomatch z) h
 | @tup a xs ea =>
  cases (show u=Value.ref a from rx)
  obtain⟨_,_,_,p⟩:=(show ObjOk X.prog X.w H s.heap a (.tup xs) from I.hok a _ ea)
  obtain⟨o,h1,h2,_⟩:=p
  exact PySem.W.kia_one PySem.W.kitx_tuple I.kIn ⟨o,h1,h2⟩ e (fun z=>nomatch z) h
 | @dK a kvs ea =>
  cases (show u=Value.ref a from rx)
  obtain⟨_,_,vs,_,p⟩:=(show ObjOk X.prog X.w H s.heap a (.dK kvs) from I.hok a _ ea)
  obtain⟨o,es,ep,h1,h2,_⟩:=p
  exact PySem.W.kia_one PySem.W.kitx_dict I.kIn ⟨o,h1,h2.1⟩ e (fun z=>nomatch z) h
 | @dT a kvs ea =>
  cases (show u=Value.ref a from rx)
  obtain⟨_,_,xs,_,o,es,ep,h1,h2,_⟩:=(show ObjOk X.prog X.w H s.heap a (.dT kvs) from I.hok a _ ea)
  exact PySem.W.kia_one PySem.W.kitx_dict I.kIn ⟨o,h1,h2.1⟩ e (fun z=>nomatch z) h
 | @ins a C dx fs ea cl ha hn htk hm =>
  cases (show u=Value.ref a from rx)
  obtain⟨mA,O,_⟩:=zgm I.hok ea
  obtain⟨od,J,_⟩:=O.look
  exact PySem.W.kia_one (PySem.W.kitx_own (cl.get _) cl.hd ha hn htk hm) I.kIn J e (fun z=>nomatch z) h
end
structure Room (k:Nat) (A:Around):Prop where
 hd:A.handled=none
 dp:A.depth+3*k+5<recursionLimit
 un:A.units+16*k+200<cLine
theorem Room.mono{j k:Nat}{A:Around}(r:Room k A)(h:j<=k):Room j A:=⟨r.hd,by have:=r.dp;omega,by have:=r.un;omega⟩
theorem Room.deeper{k:Nat}{A:Around}(r:Room (k+1) A)(env:Env):Room k (A.deeper env) :=
 ⟨r.hd,by have:=r.dp;show A.depth+1+3*k+5<_;omega,by have:=r.un;show A.units+3+16*k+200<_;omega⟩
theorem zju{A:Around}{C:Addr}{us:List Value}{kw:List (Str×Value)}:(A.under (.builtin "type.__call__" ⟨.ref C::us,kw⟩)).depth=A.depth+1:=by
 first|rfl|simp[Around.under,Code.weight,Code.isCreation,Code.isGuard,Code.isCaller,Code.frames,Code.isFrame,guardIds]
theorem zjv{A:Around}{C:Addr}{us:List Value}{kw:List (Str×Value)}:(A.under (.builtin "type.__call__" ⟨.ref C::us,kw⟩)).units=A.units+1:=by
 first|rfl|simp[Around.under,Code.cUnits,Code.frames,Code.isFrame]
theorem Room.make{k:Nat}{A:Around}(r:Room (k+1) A)(C:Addr)(us:List Value)(kw:List (Str×Value)):Room k (A.under (.builtin "type.__call__" ⟨.ref C::us,kw⟩)) :=
 ⟨r.hd,by have:=r.dp;rw[zju];omega,by have:=r.un;rw[zjv];omega⟩
theorem Room.depth{k:Nat}{A:Around}(r:Room k A):A.depth<recursionLimit:=by have:=r.dp;omega
theorem Room.units{k:Nat}{A:Around}(r:Room k A):A.units+64<cLine:=by have:=r.un;omega
def zt4:TA:=fun _ H Q=>Q [] H
def zsZ(ta:TE)(tr:TA):TA:=fun σ H Q=>ta σ H fun x H1=>tr σ H1 fun xs H2=>Q (x::xs) H2
section
variable {X:Cx} {e:Expr} {es:List Expr} {te:TE} {t:TA} {pos:Pos}
theorem znT:PA X [] zt4:=fun _ _ _ _ H Q I h=>Calls.spliced_nil ⟨[],H,I,.nil,h⟩
theorem zkl(ha:PE X e te)(hr:PA X es t)(hs:starEach (e::es) X.env=(false,eval e X.env)::starEach es X.env:=by rfl):PA X (e::es) (zsZ te t):=by
 intro pos pins s σ H Q I h
 rw[hs]
 show wpAny _ _ (spliced ((false,eval e X.env)::backTo pos (starEach es X.env))) _ _ s
 refine Calls.spliced_cons (thn (ha pins s σ H _ I h) fun u s1 ⟨x,H1,I1,r1,q1⟩=>?_)
 exact thn (hr pos pins s1 σ H1 _ I1 q1) fun us s2 ⟨xs,H2,I2,r2,q2⟩=>⟨x::xs,H2,I2,.cons r1 r2,q2⟩
def zuU(t:TA):TE:=fun σ H Q=>t σ H fun xs H1=>xs.length<=sizeLine/\∀p,H1 p=none->Q (.ref p) (upd H1 p (.tup xs))
def zuV(t:TA):TE:=fun σ H Q=>t σ H fun xs H1=>xs.length<=sizeLine/\∀p,H1 p=none->Q (.ref p) (upd H1 p (.lst xs))
theorem zq2{x1}(h:PA X es t):PE X (.Tuple es x1 pos) (zuU t):=by
 intro pins s σ H Q I hq
 refine wpAny_Tuple_spliced (thn (h pos pins s σ H _ I hq) fun us s1 ⟨xs,H1,I1,r,z,q⟩=>⟨by rw[<- r.length];exact z,?_⟩)
 have hf:H1 s1.heap.objs.size=none:=I1.hok.fresh (le_refl _)
 refine⟨.ref s1.heap.objs.size,upd H1 s1.heap.objs.size (.tup xs),I1.laid (t':=s1.toks) (fun b u e=>Heap.get?_push_of_some _ e) (le_refl _) ?_,rfl,q _ hf⟩
 exact⟨z,us,r,⟨_,Heap.get?_push_size _ rfl,rfl,⟨_,rfl⟩,rfl⟩⟩
theorem znU(h:PA X es t):PE X (.List es pos) (zuV t):=by
 intro pins s σ H Q I hq
 refine wpAny_List_spliced (thn (h pos pins s σ H _ I hq) fun us s1 ⟨xs,H1,I1,r,z,q⟩=>⟨by rw[<- r.length];exact z,?_⟩)
 have hf:H1 s1.heap.objs.size=none:=I1.hok.fresh (le_refl _)
 refine⟨.ref s1.heap.objs.size,upd H1 s1.heap.objs.size (.lst xs),I1.laid (t':=s1.toks) (fun b u e=>Heap.get?_push_of_some _ e) (le_refl _) ?_,rfl,q _ hf⟩
 exact⟨z,us,0,r,Heap.get?_push_size _ rfl⟩
end
abbrev Sp:=List V->Hp->VK->XK->Prop
abbrev CXT:=List Env->Hp->Shared->XK->Value->Shared->Prop
structure Env0 (P:Program) (w:World) (K:PySem.W.Frag) (mg:Str->Option Value) (base:Heap) (A:Around) (outer:List Env) (s:Shared) (H:Hp):Prop where
 frames:A.frames=some outer
 mod:Mod K mg base
 bs:∀b o,base.get? b=some o->s.heap.get? b=some o/\H b=none
 bsz:base.objs.size<=s.heap.objs.size
 funs:s.heap.FunFrames base outer
 frf:∀b∈frs outer,H b=none
 hok:HOk P w H s.heap
 bare:AllBare s.gens
def CE(outer:List Env)(P:Program)(w:World)(H:Hp)(s:Shared)(Q:VK)(u:Value)(s':Shared):Prop :=
 ∃v H',s'.os=s.os/\AllBare s'.gens/\Un (frs outer) [] H H' s.heap s'.heap/\HOk P w H' s'.heap/\RelV v u/\Q v H'
def CR(CX:CXT)(outer:List Env)(P:Program)(w:World)(H:Hp)(s:Shared)(Q:VK)(E:XK)(r:Result)(s':Shared):Prop :=
 match r with
 | .ok (.ret u)=>CE outer P w H s Q u s'
 | .ok _=>False
 | .error e=>CX outer H s E e s'
structure FnOk (P:Program) (w:World) (K:PySem.W.Frag) (mg:Str->Option Value) (base:Heap) (CX:CXT) (k:Nat) (f:Addr) (fd:FuncData) (ps:List Str) (sp:Sp):Prop where
 len:∀vs H Q E,sp vs H Q E->vs.length=ps.length
 run:∀(A:Around) (outer:List Env) (s:Shared) (H:Hp) (args:Args) (us:List Value) (vs:List V) (Q:VK) (E:XK),Room k A->Env0 P w K mg base A outer s H->BindsTo s fd args (ps.zip us)->Vals vs us->sp vs H Q E ->
  codeAny (model P w) A (.call (.ref f) args) (CR CX outer P w H s Q E) s
theorem FnOk.imp{P:Program}{w:World}{K:PySem.W.Frag}{mg:Str->Option Value}{base:Heap}{CX:CXT}{k:Nat}{f:Addr}{fd:FuncData}{ps:List Str}{sp sp':Sp}(F:FnOk P w K mg base CX k f fd ps sp)(h:∀vs H Q E,sp' vs H Q E->sp vs H Q E):FnOk P w K mg base CX k f fd ps sp' :=
 ⟨fun vs H Q E q=>F.len vs H Q E (h _ _ _ _ q),fun A outer s H args us vs Q E hr he hb hv hs=>F.run A outer s H args us vs Q E hr he hb hv (h _ _ _ _ hs)⟩
theorem Env0.make{P:Program}{w:World}{K:PySem.W.Frag}{mg:Str->Option Value}{base:Heap}{A:Around}{outer:List Env}{s:Shared}{H:Hp}(e:Env0 P w K mg base A outer s H)(C:Addr)(us:List Value)(kw:List (Str×Value)) :
  Env0 P w K mg base (A.under (.builtin "type.__call__" ⟨.ref C::us,kw⟩)) outer s H:=⟨by first|exact e.frames|(simpa[Around.under,Code.envs,Code.isFrame,pushEnvs] using e.frames),e.mod,e.bs,e.bsz,e.funs,e.frf,e.hok,e.bare⟩
section
variable {X:Cx} {pins:List (Addr×Obj)} {σ:St} {H:Hp} {s s':Shared}
theorem Inv.env0(I:Inv X pins σ H s):Env0 X.prog X.w X.K X.mg X.base X.A X.stack s H :=
 ⟨I.ok.frames,I.ok.mod,I.bs,le_trans I.ok.bsz I.sz,I.stack,I.stkFree,I.hok,I.bare⟩
theorem Inv.after{Q:VK}{u:Value}(I:Inv X pins σ H s)(h:CE X.stack X.prog X.w H s Q u s'):EP X pins σ Q u s':=by
 obtain⟨v,H',os,bare,un,hok,r,q⟩:=h
 obtain⟨hh,g,d,t,os'⟩:=s'
 obtain rfl:os'=s.os:=os
 exact⟨v,H',I.call (h':=hh) (g':=g) (d':=d) (t':=t) (ch:=[]) un hok bare (fun b z=>absurd z (by simp)),r,q⟩
end
def zs0(sp:Sp)(dvs:List V)(E:XK)(t:TA):TE:=fun σ H Q=>t σ H fun vs H1=>sp (vs++dvs) H1 Q E
def zq3(C:Addr)(m:Str)(sp:Sp)(dvs:List V)(E:XK)(ta:TE)(t:TA):TE:=fun σ H Q=>ta σ H fun x H1=>∃a dx fs,x=.ref a/\H1 a=some (.ins C dx fs)/\fs.lookup m=none /\
 t σ H1 fun vs H2=>sp (x::(vs++dvs)) H2 Q E
def zs1(C:Addr)(sp:Sp)(dvs:List V)(E:XK)(t:TA):TE:=fun σ H Q=>t σ H fun vs H1=>∀x dx,H1 x=none->H1 dx=none->dx≠x ->
 sp (.ref x::(vs++dvs)) (upd (upd H1 dx (.own x)) x (.ins C dx [])) (fun v H2=>v=.non/\Q (.ref x) H2) E
def Binds(K:PySem.W.Frag)(fd:FuncData)(ps:List Str)(ds:List Value):Prop :=
 ∀(s:Shared) (us:List Value),K.In s.heap->(us++ds).length=ps.length->BindsTo s fd ⟨us,[]⟩ (ps.zip (us++ds))
theorem Binds.all{K:PySem.W.Frag}{fd:FuncData}{ps:List Str}(h:∀us:List Value,us.length=ps.length->bindArgs fd ⟨us,[]⟩=pure (ps.zip us)):Binds K fd ps []:=fun s us _ hl=>by
 rw[append_nil] at hl ⊢
 exact .of_eq (h us hl)
def zbH(CX:CXT)(X:Cx)(E:XK):Prop:=∀(pins:List (Addr×Obj)) (σ:St) (H:Hp) (s:Shared) (e:Value) (s':Shared),Inv X pins σ H s->CX X.stack H s E e s'->X.xe e s'
section
variable {X:Cx} {CX:CXT} {k:Nat} {f C:Addr} {fd:FuncData} {ps:List Str} {sp:Sp} {dvs:List V} {ds:List Value} {E:XK} {x m:Str} {p pos apos:Pos} {e o:Expr} {es:List Expr} {ta:TE} {t:TA}
theorem zfY{pins:List (Addr×Obj)}{σ:St}{H:Hp}{s:Shared}{Q:VK}{us:List Value}{vs:List V}(F:FnOk X.prog X.w X.K X.mg X.base CX k f fd ps sp)(hr:Room k X.A)(hb:Binds X.K fd ps ds)(hd:Vals dvs ds)(hx:zbH CX X E)(I:Inv X pins σ H s)(r:Vals vs us)(h:sp (vs++dvs) H Q E):wpAny (model X.prog X.w) X.A (call (.ref f) us) (EP X pins σ Q) X.xe s:=by
 have r2:Vals (vs++dvs) (us++ds):=r.append hd
 have hl:(us++ds).length=ps.length:=by rw[<- r2.length];exact F.len _ _ _ _ h
 refine wpAny_call (codeAny_mono (F.run X.A X.stack s H ⟨us,[]⟩ (us++ds) (vs++dvs) Q E hr I.env0 (hb s us I.kIn hl) r2 h) fun r s' hq=>?_)
 cases r with
 | error e=>exact hx pins σ H s e s' I hq
 | ok fl =>
  cases fl with
  | ret u=>exact I.after hq
  | next=>exact False.elim hq
  | brk=>exact False.elim hq
  | cont=>exact False.elim hq
theorem zoP(F:FnOk X.prog X.w X.K X.mg X.base CX k f fd ps sp)(hr:Room k X.A)(hg:Gl X x)(hm:X.mg x=some (.ref f))(hk:PySem.W.keepIn X.K (.ref f)=true)(hb:Binds X.K fd ps ds)(hd:Vals dvs ds)(hx:zbH CX X E)(ha:PA X (e::es) t)(hdb:(x==("__debug__" : Str))=false:=by decide)(he:starEach (e::es) X.env=(false,eval e X.env)::starEach es X.env:=by rfl)(hpl:(backTo pos (starEach es X.env)).any (·.1)=false:=by rfl) :
  PE X (.Call (.Name x p) (e::es) [] pos) (zs0 sp dvs E t):=by
 intro pins s σ H Q I h
 refine wpAny_Call_Name_kw (zdq I hg hm ?_ hdb)
 refine PySem.W.callWith_K (h₀:=X.base) I.ok.mod.kin hk (thn (ha pos pins s σ H _ I h) fun us s1 ⟨vs,H1,I1,r,q⟩=>⟨I1.kIn,?_⟩) he hpl
 exact zfY F hr hb hd hx I1 r q
theorem zoQ{pl:Sem Bool}(he:PE X o ta)(c:Cls X.K C)(hm:Meth X.K C m f)(F:FnOk X.prog X.w X.K X.mg X.base CX k f fd ps sp)(hr:Room k X.A)(hb:Binds X.K fd ps ds)(hd:Vals dvs ds)(hx:zbH CX X E)(ha:PA X (e::es) t)(hst:starEach (e::es) X.env=(false,eval e X.env)::starEach es X.env:=by rfl)(hpl:(backTo pos (starEach es X.env)).any (·.1)=false:=by rfl)(ht:eval (.Call (.Attribute o m apos) (e::es) [] pos) X.env=(do
   let ov <- eval o X.env
   standAt apos.atName
   let (f,first) <- holding [ov] (getMethod ov m pl)
   callWith pos f first (backTo pos (starEach (e::es) X.env)) (backToKw pos (keywordEach [] X.env))):=by rfl) :
  PE X (.Call (.Attribute o m apos) (e::es) [] pos) (zq3 C m sp dvs E ta t):=by
 intro pins s σ H Q I h
 refine PySem.W.methodCall_KW (pl:=pl) (thn (he pins s σ H _ I h) fun u s1 ⟨x,H1,I1,rx,a,dx,fs,ex,ea,l,q⟩=>?_) ht
 subst ex
 obtain rfl:u=Value.ref a:=rx
 refine zed I1 ea c hm l ?_
 refine PySem.W.callWith_K (first:=[.ref a]) (h₀:=X.base) I.ok.mod.kin hm.kp (thn (ha pos pins s1 σ H1 _ I1 q) fun us s2 ⟨vs,H2,I2,r,q2⟩=>⟨I2.kIn,?_⟩) hst hpl
 exact zfY (us:=.ref a::us) (vs:=.ref a::vs) F hr hb hd hx I2 (.cons rfl r) q2
theorem zmn{pl:Sem Bool}(he:PE X o ta)(c:Cls X.K C)(hm:Meth X.K C m f)(F:FnOk X.prog X.w X.K X.mg X.base CX k f fd ps sp)(hr:Room k X.A)(hb:Binds X.K fd ps ds)(hd:Vals dvs ds)(hx:zbH CX X E)(ht:eval (.Call (.Attribute o m apos) [] [] pos) X.env=(do
   let ov <- eval o X.env
   standAt apos.atName
   let (f,first) <- holding [ov] (getMethod ov m pl)
   callWith pos f first (backTo pos (starEach [] X.env)) (backToKw pos (keywordEach [] X.env))):=by rfl) :
  PE X (.Call (.Attribute o m apos) [] [] pos) (zq3 C m sp dvs E ta zt4):=by
 intro pins s σ H Q I h
 refine PySem.W.methodCall_KW (pl:=pl) (thn (he pins s σ H _ I h) fun u s1 ⟨x,H1,I1,rx,a,dx,fs,ex,ea,l,q⟩=>?_) ht
 subst ex
 obtain rfl:u=Value.ref a:=rx
 refine zed I1 ea c hm l ?_
 exact PySem.W.callWith_K0 (first:=[.ref a]) I1.kIn hm.kp (zfY (us:=[.ref a]) (vs:=[.ref a]) F hr hb hd hx I1 (.cons rfl .nil) q)
structure Mk (K:PySem.W.Frag) (C f:Addr):Prop where
 makes:PySem.W.makesIn K C=true
 init:PySem.W.findIn K (.ref C) "__init__" = some (some (.ref f))
 fn:PySem.W.isFn K (.ref f)=true
 kp:PySem.W.keepIn K (.ref C)=true
theorem zmo{pins:List (Addr×Obj)}{σ:St}{H:Hp}{s:Shared}{Q:VK}{us:List Value}{vs:List V}(M:Mk X.K C f)(F:FnOk X.prog X.w X.K X.mg X.base CX k f fd ps sp)(hr:Room (k+1) X.A)(hb:Binds X.K fd ps ds)(hd:Vals dvs ds)(hx:zbH CX X E)(I:Inv X pins σ H s)(r:Vals vs us)(h:∀x dx,H x=none->H dx=none->dx≠x->sp (.ref x::(vs++dvs)) (upd (upd H dx (.own x)) x (.ins C dx [])) (fun v H2=>v=.non/\Q (.ref x) H2) E) :
  wpAny (model X.prog X.w) X.A (call (.ref C) us) (EP X pins σ Q) X.xe s:=by
 have hq:=h (s.heap.objs.size+1) s.heap.objs.size (I.hok.fresh (le_succ _)) (I.hok.fresh (le_refl _)) (ne_of_lt (lt_succ_self _))
 have I2:=Inv.made (C:=C) I
 have r2:Vals (V.ref (s.heap.objs.size+1)::(vs++dvs)) (Value.ref (s.heap.objs.size+1)::(us++ds)):=.cons rfl (r.append hd)
 have hl:(Value.ref (s.heap.objs.size+1)::us++ds).length=ps.length:=by
  have e:=r2.length
  rw[F.len _ _ _ _ hq] at e
  exact e.symm
 refine wpAny_call (zmm (f:=f) I.kIn M.makes M.init (beq_iff_eq.mp M.fn) (codeAny_mono (F.run _ X.stack _ _ ⟨Value.ref (s.heap.objs.size+1)::us,[]⟩ (Value.ref (s.heap.objs.size+1)::(us++ds)) _ _ E (hr.make C us [])
  (I2.env0.make C us []) (hb _ (Value.ref (s.heap.objs.size+1)::us) I2.kIn hl) r2 hq) fun r s' hq'=>?_))
 cases r with
 | error e=>exact hx pins σ _ _ e s' I2 hq'
 | ok fl =>
  cases fl with
  | ret u =>
   obtain⟨v,H',I3,rv,ev,q3⟩:=I2.after hq'
   subst ev
   exact⟨rv,⟨V.ref (s.heap.objs.size+1),H',I3,rfl,q3⟩⟩
  | next=>exact False.elim hq'
  | brk=>exact False.elim hq'
  | cont=>exact False.elim hq'
theorem zoR(M:Mk X.K C f)(F:FnOk X.prog X.w X.K X.mg X.base CX k f fd ps sp)(hr:Room (k+1) X.A)(hg:Gl X x)(hm:X.mg x=some (.ref C))(hb:Binds X.K fd ps ds)(hd:Vals dvs ds)(hx:zbH CX X E)(ha:PA X (e::es) t)(hdb:(x==("__debug__" : Str))=false:=by decide)(he:starEach (e::es) X.env=(false,eval e X.env)::starEach es X.env:=by rfl)(hpl:(backTo pos (starEach es X.env)).any (·.1)=false:=by rfl) :
  PE X (.Call (.Name x p) (e::es) [] pos) (zs1 C sp dvs E t):=by
 intro pins s σ H Q I h
 refine wpAny_Call_Name_kw (zdq I hg hm ?_ hdb)
 refine PySem.W.callWith_K (h₀:=X.base) I.ok.mod.kin M.kp (thn (ha pos pins s σ H _ I h) fun us s1 ⟨vs,H1,I1,r,q⟩=>⟨I1.kIn,?_⟩) he hpl
 exact zmo M F hr hb hd hx I1 r q
end
section
variable {X:Cx} {CX:CXT} {k:Nat} {f C:Addr} {fd:FuncData} {ps ks:List Str} {sp:Sp} {E:XK} {x m:Str} {p pos apos kpos:Pos} {e o:Expr} {es:List Expr} {kws:List Keyword} {te ta:TE} {t tk:TA} {nm:Option Str}
variable {g:List Value->List Value->List Value} {gV:List V->List V->List V}
end
structure FnScope (N P:List Str) (sc:Scope):Prop where
 kind:sc.kind=.function
 co:sc.isCoroutine=false
 gen:sc.isGenerator=false
 nd:N.Nodup
 pre:N.take P.length=P
 par:∀x∈P,sc.names.lookup x=some .local\/sc.names.lookup x=some .cell
 nofree:∀y∈sc.names,y.2≠.free
theorem zhi{kindOf:Str->Option NameKind}{x:Str}:∀{binds:List (Str×Value)} {m:Str->Option Value},(∀v,(x,v)∉binds)->bindL kindOf binds m x=m x
 | [],_,_=>rfl
 | (n,v)::r,m,h=>by
  unfold bindL
  rw[zhi fun w hw=>h w (mem_cons_of_mem _ hw)]
  split
  ·have:x≠n:=by rintro rfl;exact h v mem_cons_self
   simp[this]
  ·rfl
theorem zhj{kindOf:Str->Option NameKind}{x:Str}:∀{binds:List (Str×Value)} {m:Str->Option Value},(∀v,(x,v)∉binds)->bindC kindOf binds m x=m x
 | [],_,_=>rfl
 | (n,v)::r,m,h=>by
  unfold bindC
  rw[zhj fun w hw=>h w (mem_cons_of_mem _ hw)]
  split
  ·rfl
  ·have:x≠n:=by rintro rfl;exact h v mem_cons_self
   simp[this]
theorem zhk{kindOf:Str->Option NameKind}{x:Str}{v:Value}:∀{P:List Str} {vs:List Value} {i:Nat} {m:Str->Option Value},P.Nodup->P[i]?=some x->vs[i]?=some v->kindOf x=some .local ->
  bindL kindOf (P.zip vs) m x=some v
 | [],_,_,_,_,h,_,_=>by simp at h
 | _::_,[],_,_,_,_,h,_=>by simp at h
 | p::P,w::vs,0,m,nd,h1,h2,hk=>by
  simp at h1 h2;subst h1;subst h2
  show bindL kindOf ((p,w)::P.zip vs) m p=_
  unfold bindL
  rw[zhi fun v hv=>(nodup_cons.mp nd).1 (of_mem_zip hv).1,if_pos hk]
  simp
 | p::P,w::vs,i+1,m,nd,h1,h2,hk=>by
  show bindL kindOf ((p,w)::P.zip vs) m x=_
  unfold bindL
  exact zhk (i:=i) (nodup_cons.mp nd).2 (by simpa using h1) (by simpa using h2) hk
theorem zhl{kindOf:Str->Option NameKind}{x:Str}{v:Value}:∀{P:List Str} {vs:List Value} {i:Nat} {m:Str->Option Value},P.Nodup->P[i]?=some x->vs[i]?=some v->kindOf x≠some .local ->
  bindC kindOf (P.zip vs) m x=some v
 | [],_,_,_,_,h,_,_=>by simp at h
 | _::_,[],_,_,_,_,h,_=>by simp at h
 | p::P,w::vs,0,m,nd,h1,h2,hk=>by
  simp at h1 h2;subst h1;subst h2
  show bindC kindOf ((p,w)::P.zip vs) m p=_
  unfold bindC
  rw[zhj fun v hv=>(nodup_cons.mp nd).1 (of_mem_zip hv).1,if_neg hk]
  simp
 | p::P,w::vs,i+1,m,nd,h1,h2,hk=>by
  show bindC kindOf ((p,w)::P.zip vs) m x=_
  unfold bindC
  exact zhl (i:=i) (nodup_cons.mp nd).2 (by simpa using h1) (by simpa using h2) hk
def start(N:List Str)(vs:List V):St:=vs.map some++List.replicate (N.length-vs.length) none
def zj2(CX:CXT)(P:Program)(w:World)(K:PySem.W.Frag)(mg:Str->Option Value)(base:Heap)(N:List Str)(qual:Str)(scope:Scope)(f:Addr)(cd:Value)(A:Around)(outer:List Env)(s:Shared)(H:Hp)(E:XK):Cx where
 prog:=P
 w:=w
 K:=K
 mg:=mg
 base:=base
 A:=A.deeper (envOfC qual scope s.heap.objs.size f cd)
 N:=N
 s₀:=s
 H₀:=H
 env:=envOfC qual scope s.heap.objs.size f cd
 outer:=outer
 stack:=envOfC qual scope s.heap.objs.size f cd::outer
 ex:=[]
 calm:=true
 fn:=fun _=>true
 pn:=[]
 xe:=fun e s'=>wpAny (model P w) (A.deeper (envOfC qual scope s.heap.objs.size f cd)) (leaving (envOfC qual scope s.heap.objs.size f cd) e) (fun _ s''=>CX outer H s E e s'') (fun e' s''=>CX outer H s E e' s'') s'
theorem ziM{sc:Scope}{n:Nat}{x:Str}(h:sc.names.lookup x=some .cell):∃c,(cellsFrom n sc.names []).lookup x=some c:=by
 have q:=PySem.W.cellsFrom_some sc.names n [] (.inl h)
 exact isSome_iff_exists.mp q
theorem zkm{CX:CXT}{P:Program}{w:World}{K:PySem.W.Frag}{mg:Str->Option Value}{base:Heap}{N ps:List Str}{qual:Str}{scope:Scope}{f:Addr}{cd:Value}{A:Around}{outer:List Env}{s s1:Shared}{H:Hp}{E:XK}{us:List Value}{vs:List V}(S:FnScope N ps scope)(hd:A.handled=none)(e0:Env0 P w K mg base A outer s H)(hl:vs.length=ps.length)(r:Vals vs us)(x:InCallC s s.heap.objs.size (bindL (envOfC qual scope s.heap.objs.size f cd).kindOf (ps.zip us) fun _=>none) (cellsFrom (s.heap.objs.size+1) scope.names []) (bindC (envOfC qual scope s.heap.objs.size f cd).kindOf (ps.zip us) fun _=>none) s1) :
  Inv (zj2 CX P w K mg base N qual scope f cd A outer s H E) [] (start N vs) H s1:=by
 have hpl:ps.length<=N.length:=by have:=congrArg List.length S.pre;rw[length_take] at this;omega
 obtain⟨h1,tk,rfl,hk⟩:=x.done
 have noA:∀b:Addr,b∉(zj2 CX P w K mg base N qual scope f cd A outer s H E).ex:=fun b z=>absurd (show b∈([]:List Addr) from z) (by simp)
 refine⟨⟨e0.mod,S.kind,rfl,rfl,le_refl _,fun y z c h1 h2=>?_,fun y hy=>?_,fun y c _ h=>?_,fun _=>hd,Around.frames_deeper e0.frames,.inr ⟨rfl,rfl⟩,fun b z=>absurd z (noA b),e0.bs,e0.bsz,fun b _ _=>noA b,fun b z=>absurd z (noA b),e0.funs,e0.frf⟩,
  rfl,e0.bare,Un.kept hk,⟨_,x.toInCall.ns,fun i y v h1 h2 h3=>?_⟩,fun y c h=>⟨_,x.cell y c h⟩,e0.hok.fresh (le_refl _),fun y c h=>?_,fun p hp=>absurd (show p∈([]:List (Addr×Obj)) from hp) (by simp),e0.hok.kept hk,?_⟩
 ·exact name_of_addr x.apart (PySem.mem_of_lookup h1) (PySem.mem_of_lookup h2)
 ·have hy:scope.names.lookup y=some .cell\/scope.names.lookup y=some .free:=hy
  rcases hy with hy|hy
  ·exact ziM hy
  ·exact absurd rfl (S.nofree _ (PySem.mem_of_lookup hy))
 ·exact le_of_lt (x.above y c (PySem.mem_of_lookup h))
 ·have hi:i<vs.length:=by
   unfold start at h2
   by_cases hi:i<vs.length
   ·exact hi
   ·rw[getElem?_append_right (by simpa using hi)] at h2
    rw[getElem?_replicate] at h2
    split at h2<;>cases h2
  have ha:vs[i]?=some v:=by
   unfold start at h2
   rw[getElem?_append_left (by simpa using hi),getElem?_map] at h2
   cases e:vs[i]? with
   | none=>rw[e] at h2;cases h2
   | some a=>rw[e] at h2;cases h2;rfl
  obtain⟨u,hu,rv⟩:=r.get ha
  have hp:ps[i]?=some y:=by
   rw[<- S.pre,getElem?_take_of_lt (by omega)];exact h1
  have ndP:ps.Nodup:=by rw[<- S.pre];exact S.nd.sublist (take_sublist _ _)
  refine⟨u,rv,?_⟩
  rcases S.par y (mem_of_getElem? hp) with k|k
  ·exact .inl ⟨k,zhk ndP hp hu k⟩
  ·obtain⟨c,e⟩:=ziM (n:=s.heap.objs.size+1) k
   refine .inr ⟨.inl k,c,e,?_⟩
   have q:=x.cell y c e
   rw[zhl ndP hp hu (by show scope.names.lookup y≠_;rw[k];decide)] at q
   exact q
 ·exact e0.hok.fresh (le_of_lt (x.above y c (PySem.mem_of_lookup h)))
 ·unfold start
  show _=N.length
  rw[length_append,length_map,length_replicate]
  omega
theorem zs2{CX:CXT}{P:Program}{w:World}{K:PySem.W.Frag}{mg:Str->Option Value}{base:Heap}{k:Nat}{f:Addr}{name qual:Str}{params:Arguments}{body:List Stmt}{scope:Scope}{dV kV doc pm cdv ct oc:Value}{an od:Option Addr}{osl:Array (Option Value)}{N ps:List Str}{sp:Sp}(lk:K.lookup f=some ⟨oc,od,.func (PySem.W.fnOf name qual params body scope dV kV doc pm an cdv ct),osl⟩)(hcd:PySem.W.codeIn K cdv qual=true)(S:FnScope N ps scope)(len:∀vs H Q E,sp vs H Q E->vs.length=ps.length)(hbody:∀(A:Around) (outer:List Env) (s:Shared) (H:Hp) (vs:List V) (Q:VK) (E:XK),Room k (A.deeper (envOfC qual scope s.heap.objs.size f cdv))->sp vs H Q E ->
   ∃t,PSs (zj2 CX P w K mg base N qual scope f cdv A outer s H E) body t/\t { nx:=fun _ H'=>Q .non H',rt:=Q } (start N vs) H) :
  FnOk P w K mg base CX (k+1) f (PySem.W.fnOf name qual params body scope dV kV doc pm an cdv ct) ps sp:=by
 refine⟨len,fun A outer s H args us vs Q E hr e0 hb r hsp=>?_⟩
 have hl:=len _ _ _ _ hsp
 have KX:K.In s.heap:=e0.mod.kin.keeps fun b o e=>(e0.bs b o e).1
 have lim:s.heap.NoLimit:=e0.mod.nolimit.keeps fun b o e=>(e0.bs b o e).1
 have hkind:∀y∈ps.zip us,scope.names.lookup y.1=some .local\/(scope.names.lookup y.1=some .cell/\((cellsFrom (s.heap.objs.size+1) scope.names []).lookup y.1).isSome=true):=fun⟨n,v⟩ hy=>by
  rcases S.par n (of_mem_zip hy).1 with q|q
  ·exact .inl q
  ·exact .inr ⟨q,PySem.W.cellsFrom_some _ _ _ (.inl q)⟩
 refine codeAny_call_function hr.depth (KX _ _ lk) rfl S.co S.gen rfl (PySem.W.codeRec_of KX hcd) (hb _ _ _ _ ?_)
 refine wpAny_newFunctionEnv_cells S.kind hkind fun env he s1 x=>?_
 subst he
 refine⟨lim.keeps x.toInCall.keep,codeAny_func ?_⟩
 obtain⟨t,ht,hq⟩:=hbody A outer s H vs Q E (hr.deeper _) hsp
 have I:Inv (zj2 CX P w K mg base N qual scope f cdv A outer s H E) [] (start N vs) H s1:=zkm S hr.hd e0 hl r x
 refine wpAny_mono (ht [] s1 (start N vs) H _ I hq) (fun fl s' hs=>?_) fun e s' hs=>hs
 have fin:∀{σ':St} {H':Hp} {v:V} {u:Value},Inv (zj2 CX P w K mg base N qual scope f cdv A outer s H E) [] σ' H' s'->RelV v u->Q v H'->CE outer P w H s Q u s' :=
  fun {σ' H' v u} J rv q=>⟨v,H',J.os,J.bare,J.base,J.hok,rv,q⟩
 cases fl with
 | ret u =>
  obtain⟨v,σ',H',J,rv,q⟩:=hs
  exact fin J rv q
 | next =>
  obtain⟨σ',H',J,q⟩:=hs
  exact fin (v:=V.non) (u:=Value.none) J rfl q
 | brk =>
  obtain⟨_,_,_,q⟩:=hs
  exact False.elim q
 | cont =>
  obtain⟨_,_,_,q⟩:=hs
  exact False.elim q
section
variable {X:Cx} {x:Str} {p pos:Pos} {e:Expr} {es:List Expr} {t:TA} {id T:String} {r:List V->Hp->VK->Prop}
def tCB(r:List V->Hp->VK->Prop)(t:TA):TE:=fun σ H Q=>t σ H fun vs H1=>r vs H1 Q
theorem zmp(hc:CallR X (.builtin id) r)(hg:Gl X x)(hm:X.mg x=none)(hv:bootBuiltins x=some (.builtin id))(ha:PA X (e::es) t)(hn:x ≠ "__name__" := by decide)(hdb:(x==("__debug__" : Str))=false:=by decide)(he:starEach (e::es) X.env=(false,eval e X.env)::starEach es X.env:=by rfl)(hpl:(backTo pos (starEach es X.env)).any (·.1)=false:=by rfl):PE X (.Call (.Name x p) (e::es) [] pos) (tCB r t):=by
 intro pins s σ H Q I h
 refine wpAny_Call_Name_kw (zhg I hg hm hv ?_ hn hdb)
 exact PyProof.Rows.callWith_builtin1 (thn (ha pos pins s σ H _ I h) fun us s1 ⟨vs,H1,I1,r1,q1⟩=>hc pins s1 σ H1 vs us Q I1 r1 q1) he hpl
theorem zkn(hc:CallR X (.type T) r)(hg:Gl X x)(hm:X.mg x=none)(hv:bootBuiltins x=some (.type T))(ha:PA X (e::es) t)(hn:x ≠ "__name__" := by decide)(hdb:(x==("__debug__" : Str))=false:=by decide)(he:starEach (e::es) X.env=(false,eval e X.env)::starEach es X.env:=by rfl)(hpl:(backTo pos (starEach es X.env)).any (·.1)=false:=by rfl):PE X (.Call (.Name x p) (e::es) [] pos) (tCB r t):=by
 intro pins s σ H Q I h
 refine wpAny_Call_Name_kw (zhg I hg hm hv ?_ hn hdb)
 exact PyProof.Rows.callWith_type1 (thn (ha pos pins s σ H _ I h) fun us s1 ⟨vs,H1,I1,r1,q1⟩=>hc pins s1 σ H1 vs us Q I1 r1 q1) he hpl
end
end L2
namespace HT
open PySem PyProof.Rows
section
open PySem.SeqAt
open PySem.AutoSeq1 (wpAny_loadPart')
open PySem.MeetsSeq PySem.MeetsSeq2 PySem.MeetsSeq3
end
section
variable {prog:Program} {w:World} {A:Around} {E:Value->Shared->Prop} {s:Shared}
def sIx(n d:Nat):Option Int->Nat
 | none=>d
 | some v=>if v<0 then (v+(n:Int)).toNat else min v.toNat n
theorem sIx_nat(n d k:Nat):sIx n d (some (k:Int))=min k n:=by
 show(if (k:Int)<0 then ((k:Int)+(n:Int)).toNat else min (k:Int).toNat n)=min k n
 rw[if_neg (by omega),toNat_natCast]
end
end HT
namespace L2
open PySem PySem.Spec PyProof.Rows
abbrev TO:=St->Hp->(Option Int->Hp->Prop)->Prop
def PO(X:Cx)(e:Option Expr)(t:TO):Prop :=
 ∀(pins:List (Addr×Obj)) (s:Shared) (σ:St) (H:Hp) (Q:Option Int->Hp->Prop),Inv X pins σ H s->t σ H Q ->
  wpAny (model X.prog X.w) X.A (evalPart e X.env) (fun u s'=>∃o H',Inv X pins σ H' s'/\IsPart u o/\Q o H') X.xe s
def zoS:TO:=fun _ H Q=>Q none H
def zs3(t:TE):TO:=fun σ H Q=>t σ H fun x H1=>∃i,x=.int i/\Q (some i) H1
theorem zb5{ns:List Int}:∀{us:List Value},Vals (ns.map V.int) us->IntsAre us ns:=by
 induction ns with
 | nil=>intro us r;rw[map_nil] at r;cases r;exact .nil
 | cons n ns ih =>
  intro us r
  rw[map_cons] at r
  cases r with
  | cons r1 r2 =>
   obtain⟨t,e⟩:=r1
   subst e
   exact .cons n t (ih r2)
section
variable {X:Cx} {e:Expr} {te:TE} {lo hi:Option Expr} {tl th:TO} {pos p2:Pos}
theorem zoT:PO X none zoS:=by
 intro pins s σ H Q I h
 rw[evalPart_none]
 exact wpAny_pure ⟨none,H,I,.none,h⟩
theorem zoU(h:PE X e te):PO X (some e) (zs3 te):=by
 intro pins s σ H Q I hw
 rw[evalPart_some]
 refine thn (h pins s σ H _ I hw) fun u s1 ⟨x,H1,I1,r1,q1⟩=>?_
 obtain⟨i,rfl,q⟩:=q1
 obtain⟨t,rfl⟩:=r1
 exact⟨some i,H1,I1,.int i t,q⟩
def SlR(X:Cx)(r:V->Option Int->Option Int->Hp->VK->Prop):Prop :=
 ∀(pins:List (Addr×Obj)) (s:Shared) (σ:St) (H:Hp) (x:V) (v vl vu:Value) (lo hi:Option Int) (sl:Addr) (Q:VK),Inv X pins σ H s->RelV x v->s.heap.IsSliceOf sl vl vu .none->IsPart vl lo->IsPart vu hi->r x lo hi H Q ->
  ∃T id,typeLookup (.type T) "__getitem__" = pure (some (.builtin id))/\s.TypeIs v T/\wpAny (model X.prog X.w) X.A (getItem v (.ref sl)) (EP X pins σ Q) X.xe s
def tSl(r:V->Option Int->Option Int->Hp->VK->Prop)(te:TE)(tl th:TO):TE:=fun σ H Q=>te σ H fun x H1=>tl σ H1 fun l H2=>th σ H2 fun u H3=>r x l u H3 Q
theorem zmq{r:V->Option Int->Option Int->Hp->VK->Prop}(hr:SlR X r)(he:PE X e te)(hl:PO X lo tl)(hu:PO X hi th):PE X (.Subscript e (.Slice lo hi none p2) pos) (tSl r te tl th):=by
 intro pins s σ H Q I h
 refine Subscript_ (thn (he pins s σ H _ I h) fun v s1 ⟨x,H1,I1,r1,q1⟩=>?_)
 refine wpAny_Slice (thn (hl pins s1 σ H1 _ I1 q1) fun vl s2 ⟨l,H2,I2,pl,q2⟩=>thn (hu pins s2 σ H2 _ I2 q2) fun vu s3 ⟨u,H3,I3,pu,q3⟩=>?_)
 rw[evalPart_none]
 refine wpAny_pure ?_
 have I4:Inv X pins σ H3 { s3 with heap:=s3.heap.push { cls:=.type "slice",data:=.fields #[vl,vu,.none] } }:=I3.kept (t':=s3.toks) fun b ob q=>Heap.get?_push_of_some _ q
 obtain⟨T,id,hT,ht,hg⟩:=hr pins { s3 with heap:=s3.heap.push { cls:=.type "slice",data:=.fields #[vl,vu,.none] } } σ H3 x v vl vu l u s3.heap.objs.size Q I4 r1 (Heap.IsSliceOf.new ..) pl pu q3
 show wpAny (model X.prog X.w) X.A (subscriptTail e (.Slice lo hi none p2) v (.ref s3.heap.objs.size)) (EP X pins σ Q) X.xe { s3 with heap:=s3.heap.push { cls:=.type "slice",data:=.fields #[vl,vu,.none] } }
 exact tail_any (ops:=[.ref s3.heap.objs.size,v]) ht hT hg (by with_unfolding_all rfl)
def zqk(xs:List V)(lo hi:Option Int):List V:=(xs.drop (HT.sIx xs.length 0 lo)).take (HT.sIx xs.length xs.length hi-HT.sIx xs.length 0 lo)
theorem zh4(xs:List V)(lo hi:Option Int):(zqk xs lo hi).length<=xs.length:=by
 unfold zqk
 rw[length_take,length_drop]
 omega
end
def ixN(n:Nat)(i:Int):Option Nat:=if 0<=i then (if i<n then some i.toNat else none) else if -(n:Int)<=i then some (i+n).toNat else none
def atI{α:Type}(xs:List α)(i:Int):Option α:=(ixN xs.length i).bind fun j=>xs[j]?
theorem zko{n:Nat}{i:Int}{j:Nat}(h:ixN n i=some j):seqIndex? i n=some j/\j<n/\-(n:Int)<=i/\i<n:=by
 unfold ixN at h
 by_cases h0:0<=i
 ·rw[if_pos h0] at h
  by_cases h1:i<n
  ·rw[if_pos h1] at h
   have e:i.toNat=j:=Option.some.inj h
   exact⟨by rw[seqIndex_of h0 h1,e],by omega,by omega,h1⟩
  ·rw[if_neg h1] at h;cases h
 ·rw[if_neg h0] at h
  by_cases h1:-(n:Int)<=i
  ·rw[if_pos h1] at h
   have e:(i+n).toNat=j:=Option.some.inj h
   exact⟨by rw[seqIndex_neg (by omega) h1,e],by omega,h1,by omega⟩
  ·rw[if_neg h1] at h;cases h
theorem zkp{α:Type}{xs:List α}{i:Int}{v:α}(h:atI xs i=some v):∃j,seqIndex? i xs.length=some j/\xs[j]?=some v/\j<xs.length/\-(xs.length:Int)<=i/\i<xs.length:=by
 unfold atI at h
 cases e:ixN xs.length i with
 | none=>rw[e] at h;cases h
 | some j =>
  rw[e] at h
  obtain⟨h1,h2,h3,h4⟩:=zko e
  exact⟨j,h1,h,h2,h3,h4⟩
def zkq(b:Expr):Prop:=∀o i,subscripted b false o i=operate [o,i] (getItem o i)
def IxR(X:Cx)(r:R2):Prop :=
 ∀(value slice:Expr) (pins:List (Addr×Obj)) (s:Shared) (σ:St) (H:Hp) (x y:V) (v u:Value) (Q:VK),Inv X pins σ H s->RelV x v->RelV y u->r x y H Q ->
  subscripted slice false v u=operate [v,u] (getItem v u)->wpAny (model X.prog X.w) X.A (subscriptTail value slice v u) (EP X pins σ Q) X.xe s
def MtR(X:Cx)(id:String)(r:V->List V->Hp->VK->Prop):Prop :=
 ∀(pins:List (Addr×Obj)) (s:Shared) (σ:St) (H:Hp) (x:V) (xs:List V) (v:Value) (us:List Value) (Q:VK),Inv X pins σ H s->RelV x v->Vals xs us->r x xs H Q ->
  wpAny (model X.prog X.w) X.A (call (.builtin id) (v::us)) (EP X pins σ Q) X.xe s
section
variable {X:Cx} {a b:Expr} {ta tb:TE} {pos:Pos}
theorem IxR.or{r r':R2}(h:IxR X r)(h':IxR X r'):IxR X (fun x y H Q=>r x y H Q\/r' x y H Q):=by
 intro value slice pins s σ H x y v u Q I rx ry q hs
 rcases q with q|q
 ·exact h value slice pins s σ H x y v u Q I rx ry q hs
 ·exact h' value slice pins s σ H x y v u Q I rx ry q hs
theorem zs4{r:R2}(hr:IxR X r)(ha:PE X a ta)(hb:PE X b tb)(hs:zkq b):PE X (.Subscript a b pos) (tOp r ta tb):=by
 intro pins s σ H Q I h
 exact Subscript_ (zsS ha hb I h fun v u s2 x y H2 I2 rx ry q=>hr a b pins s2 σ H2 x y v u Q I2 rx ry q (hs _ _))
def zs5(K:PySem.W.Frag):R2:=fun x y H Q=>∃p xs i v,x=.ref p/\y=.int i/\SqL K H p xs/\atI xs i=some v/\Q v H
def zs6(K:PySem.W.Frag):R2:=fun x y H Q=>∃p xs i v,x=.ref p/\y=.int i/\SqT K H p xs/\atI xs i=some v/\Q v H
theorem zoV:IxR X (zs5 X.K):=by
 intro value slice pins s σ H x y v u Q I rx ry h hs
 obtain⟨p,xs,i,z,rfl,rfl,hq,he,q⟩:=h
 cases rx
 obtain⟨t,rfl⟩:=ry
 obtain⟨its,r,pl,hz⟩:=I.list hq
 obtain⟨j,h1,h2,h3,h4,h5⟩:=zkp he
 obtain⟨w,ew,rw'⟩:=r.get h2
 have hl:=r.length
 have hn:=zhh
 have fin:EP X pins σ Q w s:=⟨z,H,I,rw',q⟩
 by_cases h0:0<=i
 ·have hj:i.toNat=j:=by
   rw[seqIndex_of h0 h5] at h1
   exact Option.some.inj h1
  exact item_listR pl.isList h0 (by omega) (by rw[hj];simpa using ew) fin hs
 ·have hj:(i+(its.toArray.size:Int)).toNat=j:=by
   rw[seqIndex_neg (by omega) h4] at h1
   rw[size_toArray,<- hl]
   exact Option.some.inj h1
  exact subscriptTail_builtinR (x:=w) pl.isList.typeIs slot_list_getitem.lookup
   (wpAny_getItem_list_neg (Q:=fun r s'=>r=w/\EP X pins σ Q r s') pl.isList (by omega) (by rw[size_toArray]<;>omega) (by omega) (by rw[hj];simpa using ew) ⟨rfl,fin⟩) hs
theorem zq4:IxR X (zs6 X.K):=by
 intro value slice pins s σ H x y v u Q I rx ry h hs
 obtain⟨p,xs,i,z,rfl,rfl,hq,he,q⟩:=h
 cases rx
 obtain⟨t,rfl⟩:=ry
 obtain⟨its,r,pl,hz⟩:=I.tuple hq
 obtain⟨j,h1,h2,h3,h4,h5⟩:=zkp he
 obtain⟨w,ew,rw'⟩:=r.get h2
 have hl:=r.length
 have hn:=zhh
 have fin:EP X pins σ Q w s:=⟨z,H,I,rw',q⟩
 exact subscriptTail_builtinR (x:=w) pl.typeIs slot_tuple_getitem.lookup
  (getItem_tuple (j:=j) (Q:=fun r s'=>r=w/\EP X pins σ Q r s') pl (by omega) (by omega) (by rw[size_toArray,<- hl];exact h1) (by simpa using ew) ⟨rfl,fin⟩) hs
theorem zjw(its:List Value)(n j:Nat)(u:Value):Obj.mapSeq (·.setIfInBounds j u) { cls:=.type "list",data:=.seq its.toArray n }={ cls:=.type "list",data:=.seq (its.set j u).toArray n }:=by
 simp[Obj.mapSeq]
theorem Inv.lst{pins:List (Addr×Obj)}{σ:St}{H:Hp}{s:Shared}{p:Addr}{xs:List V}(I:Inv X pins σ H s)(h:H p=some (.lst xs)) :
  ∃(its:List Value) (n:Nat),Vals xs its/\s.heap.get? p=some { cls:=.type "list",data:=.seq its.toArray n }/\xs.length<=sizeLine:=by
 obtain⟨z,its,n,r,e⟩:=I.hok p _ h
 exact⟨its,n,r,e,z⟩
theorem Inv.lstUpd{pins:List (Addr×Obj)}{σ:St}{H:Hp}{s:Shared}{p:Addr}{xs ys:List V}{its its':List Value}{n n':Nat}{f:Obj->Obj}(I:Inv X pins σ H s)(h:H p=some (.lst xs))(ho:s.heap.get? p=some { cls:=.type "list",data:=.seq its.toArray n })(hf:f { cls:=.type "list",data:=.seq its.toArray n }={ cls:=.type "list",data:=.seq its'.toArray n' })(r:Vals ys its')(hz:ys.length<=sizeLine)(t:Nat) :
  Inv X pins σ (upd H p (.lst ys)) { s with heap:=s.heap.update p f,toks:=t }:=by
 have e:(s.heap.update p f).get? p=some { cls:=.type "list",data:=.seq its'.toArray n' }:=by
  rw[Heap.get?_update_self f ho (by rw[hf]<;>rfl),hf]
 refine I.write (x:=p) (e:=p) (by rw[h];trivial) (.inl rfl) (fun b u hb q=>(Heap.get?_update_other _ _ (Ne.symm hb)).trans q) ⟨_,e⟩ ?_
 exact⟨hz,its',n',r,e⟩
def zs7:V->V->V->Hp->(Hp->Prop)->Prop:=fun o i v H Q=>∃p xs k j,o=.ref p/\i=.int k/\H p=some (.lst xs)/\ixN xs.length k=some j/\Q (upd H p (.lst (xs.set j v)))
theorem zmr:zt0 X zs7:=by
 intro pins s σ H o i v ov iv u Q I ro ri rv h
 obtain⟨p,xs,k,j,rfl,rfl,hp,hj,q⟩:=h
 cases ro
 obtain⟨t,rfl⟩:=ri
 obtain⟨its,n,r,ho,hz⟩:=I.lst hp
 obtain⟨h1,h2,h3,h4⟩:=zko hj
 have hl:=r.length
 have hn:=zhh
 have I':Inv X pins σ (upd H p (.lst (xs.set j v))) { s with heap:=s.heap.update p (Obj.mapSeq (·.setIfInBounds j u)) } :=
  I.lstUpd hp ho (zjw its n j u) (r.set rv j) (by rw[length_set];exact hz) s.toks
 by_cases h0:0<=k
 ·have hk:k.toNat=j:=by
   rw[seqIndex_of h0 h4] at h1
   exact Option.some.inj h1
  exact PySem.W.ki_setAt ho h0 (by omega) (by rw[size_toArray,<- hl];exact h4) (by rw[hk];exact⟨_,I',q⟩)
 ·have hk:(k+(its.toArray.size:Int)).toNat=j:=by
   rw[seqIndex_neg (by omega) h3] at h1
   rw[size_toArray,<- hl]
   exact Option.some.inj h1
  exact PySem.W.ki_setBack ho (by omega) (by rw[size_toArray,<- hl];exact h3) (by omega) (by rw[hk];exact⟨_,I',q⟩)
theorem zhm(lo hi:Option Int)(n:Nat):(sliceBounds lo hi none n).1=((HT.sIx n 0 lo:Nat):Int)/\(sliceBounds lo hi none n).2.1=((HT.sIx n n hi:Nat):Int)/\(sliceBounds lo hi none n).2.2=1:=by
 refine⟨?_,?_,rfl⟩
 ·cases lo with
  | none=>simp[sliceBounds,HT.sIx]
  | some i =>
   simp only[sliceBounds,HT.sIx,getD_none,show(1:Int)>0 by decide,if_true]
   by_cases h:i<0
   ·simp only[h,if_true]<;>omega
   ·simp only[h,if_false]<;>omega
 ·cases hi with
  | none=>simp[sliceBounds,HT.sIx]
  | some i =>
   simp only[sliceBounds,HT.sIx,getD_none,show(1:Int)>0 by decide,if_true]
   by_cases h:i<0
   ·simp only[h,if_true]<;>omega
   ·simp only[h,if_false]<;>omega
theorem zgn(its:List Value)(lo hi:Option Int):slicePick its.toArray lo hi none=((its.drop (HT.sIx its.length 0 lo)).take (HT.sIx its.length its.length hi-HT.sIx its.length 0 lo)).toArray:=by
 obtain⟨h1,h2,h3⟩:=zhm lo hi its.toArray.size
 unfold slicePick
 rw[h1,h2,h3]
 simp only[sliceRange_one,pick_run,size_toArray]<;>rfl
def zt5(K:PySem.W.Frag):V->Option Int->Option Int->Hp->VK->Prop:=fun x lo hi H Q=>∃a xs,x=.ref a/\SqL K H a xs/\∀p,H p=none->Q (.ref p) (upd H p (.lst (zqk xs lo hi)))
theorem zoW:SlR X (zt5 X.K):=by
 intro pins s σ H x v vl vu lo hi sl Q I rx hs pl pu h
 obtain⟨a,xs,rfl,hx,q⟩:=h
 cases rx
 obtain⟨its,r,ht,hz⟩:=I.list hx
 have hlen:=r.length
 refine⟨"list",_,slot_list_getitem.lookup,ht.isList.typeIs,?_⟩
 refine wpAny_getItem_list_slice ht.isList hs pl pu .none (by simp) ?_ (by rw[size_toArray]<;>omega)
 rw[zgn,<- hlen]
 refine⟨.ref s.heap.objs.size,_,I.laid (t':=s.toks) (o:=.lst (zqk xs lo hi)) (fun b ob q=>Heap.get?_push_of_some _ q) (le_refl _) ?_,rfl,q _ (I.hok.fresh (le_refl _))⟩
 exact⟨le_trans (zh4 xs lo hi) hz,_,0,(r.drop (HT.sIx xs.length 0 lo)).take (HT.sIx xs.length xs.length hi-HT.sIx xs.length 0 lo),Heap.get?_push_size _ rfl⟩
theorem zhn:CallR X (.type "list") (fun xs H Q=>∃p ys,xs=[.ref p]/\(SqL X.K H p ys\/SqT X.K H p ys)/\∀l,H l=none->Q (.ref l) (upd H l (.lst ys))):=by
 intro pins s σ H xs us Q I r h
 obtain⟨p,ys,rfl,hq,q⟩:=h
 obtain⟨u,rfl,rx⟩:=zeG r
 cases rx
 have fin:∀(its:List Value),Vals ys its->ys.length<=sizeLine->∀(h':Heap) (c':Nat),(∀b o',s.heap.get? b=some o'->h'.get? b=some o') ->
   h'.get? s.heap.objs.size=some { cls:=.type "list",dict:=none,data:=.seq its.toArray c',slots:=#[] }->EP X pins σ Q (.ref s.heap.objs.size) { s with heap:=h' }:=fun its r' hz h' c' kp e =>
  ⟨.ref s.heap.objs.size,_,I.laid (t':=s.toks) kp (le_refl _) (show ObjOk X.prog X.w _ h' _ (.lst ys) from⟨hz,its,c',r',e⟩),rfl,q _ (I.hok.fresh (le_refl _))⟩
 rcases hq with hq|hq
 ·obtain⟨its,r',pl,hz⟩:=I.list hq
  have hlen:=r'.length
  obtain⟨o,ho,hc,n,hd⟩:=pl.isList
  exact call_list_seq p (.inl rfl) ho hc hd (fun h' c' kp e=>fin its r' hz h' c' kp e) (by simp only[size_toArray]<;>omega)
 ·obtain⟨its,r',pl,hz⟩:=I.tuple hq
  have hlen:=r'.length
  obtain⟨o,ho,hc,n,hd⟩:=pl
  exact call_list_seq p (.inr rfl) ho hc hd (fun h' c' kp e=>fin its r' hz h' c' kp e) (by simp only[size_toArray]<;>omega)
theorem zgo:CallR X (.type "tuple") (fun xs H Q=>∃p ys,xs=[.ref p]/\((SqL X.K H p ys/\∀l,H l=none->Q (.ref l) (upd H l (.tup ys)))\/(SqT X.K H p ys/\Q (.ref p) H))):=by
 intro pins s σ H xs us Q I r h
 obtain⟨p,ys,rfl,h⟩:=h
 obtain⟨u,rfl,rx⟩:=zeG r
 cases rx
 rcases h with ⟨hq,q⟩|⟨hq,q⟩
 ·obtain⟨its,r',pl,hz⟩:=I.list hq
  have hlen:=r'.length
  refine call_tuple_list pl.isList (fun h' kp=>?_) (by simp only[size_toArray]<;>omega)
  have I1:Inv X pins σ H { s with heap:=h' }:=I.kept (t':=s.toks) kp
  have I2:Inv X pins σ (upd H h'.objs.size (.tup ys)) { s with heap:=h'.push { cls:=.type "tuple",data:=.seq its.toArray } } :=
   I1.laid (t':=s.toks) (fun b o e=>Heap.get?_push_of_some _ e) (le_refl _) (show ObjOk X.prog X.w _ _ _ (.tup ys) from⟨hz,its,r',TupN.new _ _⟩)
  exact⟨.ref h'.objs.size,_,I2,rfl,q _ (I1.hok.fresh (le_refl _))⟩
 ·obtain⟨its,r',pl,hz⟩:=I.tuple hq
  exact call_tuple_same pl ⟨.ref p,H,I,rfl,q⟩
def tyV(K:PySem.W.Frag)(T:String)(x:V)(H:Hp):Prop:=match x with
 | .str _=>T = "str"
 | .int _=>T = "int"
 | .ref p=>(T = "list" /\ ∃xs,SqL K H p xs)\/(T = "tuple" /\ ∃o,K.lookup p=some o/\o.cls=.type "tuple" /\ o.dict=none) \/
   (T = "dict" /\ ((∃kvs,H p=some (.dK kvs))\/∃kvs,H p=some (.dT kvs)))\/(T = "set" /\ ∃S n,H p=some (.set S n))
 | _=>False
theorem znV{pins:List (Addr×Obj)}{σ:St}{H:Hp}{s:Shared}{T:String}{x:V}{v:Value}(I:Inv X pins σ H s)(r:RelV x v)(ty:tyV X.K T x H) :
  s.TypeIs v T/\∀a,v=.ref a->∃ob,s.heap.get? a=some ob/\ob.dict=none:=by
 cases x with
 | str z =>
  obtain⟨t,rfl⟩:=r
  cases (show T = "str" from ty)
  exact⟨typeIs_str s z t,fun _ e=>nomatch e⟩
 | int i =>
  obtain⟨t,rfl⟩:=r
  cases (show T = "int" from ty)
  exact⟨typeIs_int s i t,fun _ e=>nomatch e⟩
 | ref p =>
  cases r
  rcases ty with ⟨rfl,xs,hq⟩|⟨rfl,o,hk,hc,hd⟩|⟨rfl,hk⟩|⟨rfl,S,n,hk⟩
  ·obtain⟨its,_,pl,_⟩:=I.list hq
   refine⟨pl.isList.typeIs,fun a e=>?_⟩
   cases e
   obtain⟨o,n,e,c,hd,_⟩:=pl
   exact⟨o,e,hd⟩
  ·refine⟨⟨o,I.kIn p o hk,hc⟩,fun a e=>?_⟩
   cases e
   exact⟨o,I.kIn _ o hk,hd⟩
  ·have z:∃o,s.heap.get? p=some o/\o.ExactDict:=by
    rcases hk with ⟨kvs,hk⟩|⟨kvs,hk⟩
    ·obtain⟨_,_,_,_,o,_,_,e,ex,_⟩:=I.hok p _ hk
     exact⟨o,e,ex⟩
    ·obtain⟨_,_,_,_,o,_,_,e,ex,_⟩:=I.hok p _ hk
     exact⟨o,e,ex⟩
   obtain⟨o,e,ex⟩:=z
   refine⟨⟨o,e,ex.1⟩,fun a e2=>?_⟩
   cases e2
   exact⟨o,e,ex.2.1⟩
  ·obtain⟨o,_,_,_,e,ex,_⟩:=I.hok p _ hk
   refine⟨⟨o,e,ex.1⟩,fun a e2=>?_⟩
   cases e2
   exact⟨o,e,ex.2.1⟩
 | _=>exact False.elim ty
def zuW(K:PySem.W.Frag)(T:String)(r:V->List V->Hp->VK->Prop)(to:TE):TE:=fun σ H Q=>to σ H fun x H1=>tyV K T x H1/\r x [] H1 Q
def tBM(K:PySem.W.Frag)(T:String)(r:V->List V->Hp->VK->Prop)(to:TE)(t:TA):TE:=fun σ H Q=>to σ H fun x H1=>tyV K T x H1/\t σ H1 fun xs H2=>r x xs H2 Q
variable {o e:Expr} {es:List Expr} {to:TE} {t:TA} {name:Str} {apos cpos:Pos} {T id:String} {r:V->List V->Hp->VK->Prop}
theorem zq5(pa:PlainAttrs T)(slot:Slot T name id)(hty:typeOf (.builtin id)=pure (.type "method_descriptor"))(hm:MtR X id r)(ho:PE X o to)(hbase:attributeBase o name X.env (eval o X.env)=eval o X.env:=by rfl)(hline:(apos.endLine==cpos.line)=true:=by rfl):PE X (.Call (.Attribute o name apos) [] [] cpos) (zuW X.K T r to):=by
 intro pins s σ H Q I h
 refine wpAny_Call_method0_late hbase hline (thn (ho pins s σ H _ I h) fun v s1 ⟨x,H1,I1,r1,ty,q1⟩=>?_)
 obtain⟨h1,h2⟩:=znV I1 r1 ty
 exact⟨T,id,pa,slot,hty,h1,h2,Calls.callWith_builtin rfl (PySem.evalArgs_none (hm pins s1 σ H1 x [] v [] Q I1 r1 .nil q1))⟩
theorem zs8(pa:PlainAttrs T)(slot:Slot T name id)(hty:typeOf (.builtin id)=pure (.type "method_descriptor"))(hm:MtR X id r)(ho:PE X o to)(ha:PA X (e::es) t)(hbase:attributeBase o name X.env (eval o X.env)=eval o X.env:=by rfl)(hfew:((backTo cpos (starEach (e::es) X.env)).all (fun x=>!x.1)&&(backToKw cpos (keywordEach [] X.env)).all (fun x=>x.1.isSome)
   && decide ((e::es).length+([]:List Keyword).length+(if ([]:List Keyword).isEmpty then 0 else 1)<30))=true:=by rfl)(hline:(apos.endLine==cpos.line)=true:=by rfl)(hs:starEach (e::es) X.env=(false,eval e X.env)::starEach es X.env:=by rfl)(hplain:(backTo cpos (starEach es X.env)).any (·.1)=false:=by rfl) :
  PE X (.Call (.Attribute o name apos) (e::es) [] cpos) (tBM X.K T r to t):=by
 intro pins s σ H Q I h
 refine wpAny_Call_method_late hbase hfew hline rfl (thn (ho pins s σ H _ I h) fun v s1 ⟨x,H1,I1,r1,ty,q1⟩=>?_)
 obtain⟨h1,h2⟩:=znV I1 r1 ty
 refine⟨T,id,pa,slot,hty,h1,h2,?_⟩
 have hA:=ha cpos pins s1 σ H1 _ I1 q1
 rw[hs] at hA ⊢
 refine Calls.callWith_builtin (by show(false||(backTo cpos (starEach es X.env)).any (·.1))=false;rw[hplain]<;>rfl) (Calls.evalArgs_plain ?_)
 exact thn hA fun us s2 ⟨vs,H2,I2,r2,q2⟩=>hm pins s2 σ H2 x vs v us Q I2 r1 r2 q2
end
def MtM(X:Cx)(id:String)(r:V->List V->Hp->VK->Prop):Prop :=
 ∀(pins:List (Addr×Obj)) (s:Shared) (σ:St) (H:Hp) (x:V) (xs:List V) (v:Value) (us:List Value) (Q:VK),Inv X pins σ H s->RelV x v->Vals xs us->r x xs H Q ->
  wpAny (model X.prog X.w) X.A (call (.builtin id) (v::us)) (EP X pins σ Q) X.xe s
theorem Vals.one:∀{x:V} {us:List Value},Vals [x] us->∃u,us=[u]/\RelV x u
 | _,_,.cons r .nil=>⟨_,rfl,r⟩
theorem Vals.zero:∀{us:List Value},Vals [] us->us=[]
 | _,.nil=>rfl
theorem Vals.dropLast{xs:List V}{us:List Value}(h:Vals xs us):Vals xs.dropLast us.dropLast:=by
 induction h with
 | nil=>exact .nil
 | cons r t ih =>
  cases t with
  | nil=>exact .nil
  | cons q t'=>exact .cons r ih
theorem zjx{α:Type}(l:List α):l.eraseIdx (l.length-1)=l.dropLast:=by
 induction l with
 | nil=>rfl
 | cons a r ih =>
  cases r with
  | nil=>rfl
  | cons b r =>
   have e:(a::b::r).length-1=((b::r).length-1)+1:=by
    have h1:(a::b::r).length=r.length+2:=rfl
    have h2:(b::r).length=r.length+1:=rfl
    omega
   rw[e,eraseIdx_cons_succ,ih]
   all_goals rfl
section
variable {X:Cx} {pins:List (Addr×Obj)} {σ:St} {H:Hp} {s:Shared} {l b:Addr} {xs ys zs:List V}
theorem Inv.lset{its its':List Value}{n:Nat}{f:Array Value->Array Value}{t':Nat}(I:Inv X pins σ H s)(hH:H l=some (.lst xs))(e:s.heap.get? l=some { cls:=.type "list",data:=.seq its.toArray n })(hf:f its.toArray=its'.toArray)(hv:Vals ys its')(hz:ys.length<=sizeLine) :
  Inv X pins σ (upd H l (.lst ys)) { s with heap:=s.heap.update l (Obj.mapSeq f),toks:=t' }:=by
 have q:=PySem.IsL.update e f
 rw[hf] at q
 refine I.write (x:=l) (e:=l) (by rw[hH];exact trivial) (.inl rfl) (fun b' u hb hu=>(Heap.get?_update_other s.heap (Obj.mapSeq f) (Ne.symm hb)).trans hu) ⟨_,q⟩ ?_
 exact⟨hz,its',_,hv,q⟩
theorem Inv.lnew{its:List Value}{t':Nat}(I:Inv X pins σ H s)(hv:Vals ys its)(hz:ys.length<=sizeLine) :
  Inv X pins σ (upd H s.heap.objs.size (.lst ys)) { s with heap:=s.heap.push { cls:=.type "list",data:=.seq its.toArray },toks:=t' } :=
 I.laid (fun _ _ q=>Heap.get?_push_of_some _ q) (le_refl _) ⟨hz,its,0,hv,Heap.get?_push_size _ rfl⟩
theorem Inv.fresh(I:Inv X pins σ H s):H s.heap.objs.size=none:=I.hok.fresh (le_refl _)
theorem Inv.lstM(I:Inv X pins σ H s)(hH:H l=some (.lst xs)):xs.length<=sizeLine/\∃(its:List Value) (n:Nat),Vals xs its/\xs.length=its.length/\s.heap.get? l=some { cls:=.type "list",data:=.seq its.toArray n }:=by
 obtain⟨z,its,n,r,e⟩:=I.hok l _ hH
 exact⟨z,its,n,r,r.length,e⟩
theorem zms{n:Nat}(h:n<=sizeLine):Builtin.List.listTooLong n=false:=by
 unfold Builtin.List.listTooLong
 exact decide_eq_false (by omega)
end
section
variable {X:Cx}
def zkr:V->List V->Hp->VK->Prop:=fun x vs H Q=>∃l xs y,x=.ref l/\vs=[y]/\H l=some (.lst xs)/\xs.length<sizeLine/\Q .non (upd H l (.lst (xs++[y])))
theorem za2:MtM X "list.append" zkr:=by
 intro pins s σ H x vs v us Q I rx rv h
 obtain⟨l,xs,y,rfl,rfl,hH,hz,q⟩:=h
 cases rx
 obtain⟨u,rfl,ru⟩:=rv.one
 obtain⟨z,its,n,r,hl,e⟩:=I.lstM hH
 refine call_meets F.slot_list_append ⟨_,e,rfl⟩ F.entry_list_append (F.args_list_append_2 _ _) (PySem.list_append l its.toArray n u (by rw[size_toArray];omega)) ⟨e,?_⟩
 refine⟨.non,_,I.lset (its':=its++[u]) hH e (by simp) (r.append (.cons ru .nil)) ?_,rfl,q⟩
 rw[length_append,length_singleton]
 omega
def zt6:V->List V->Hp->VK->Prop:=fun x vs H Q=>∃l xs y,x=.ref l/\vs=[]/\H l=some (.lst xs)/\xs[xs.length-1]?=some y/\Q y (upd H l (.lst xs.dropLast))
theorem zq6:MtM X "list.pop" zt6:=by
 intro pins s σ H x vs v us Q I rx rv h
 obtain⟨l,xs,y,rfl,rfl,hH,hy,q⟩:=h
 cases rx
 have hus:=rv.zero
 subst hus
 obtain⟨z,its,n,r,hl,e⟩:=I.lstM hH
 obtain⟨u,hu,ru⟩:=r.get hy
 have hy':its.toArray[its.toArray.size-1]?=some u:=by
  show its.toArray[its.length-1]?=some u
  rw[<- getElem?_toList,<- hl]
  exact hu
 refine call_meets F.slot_list_pop ⟨_,e,rfl⟩ F.entry_list_pop (F.args_list_pop_1 _) (MeetsSeq.list_pop_last l its.toArray n u hy' (by rw[size_toArray];omega)) ⟨e,?_⟩
 refine⟨y,_,I.lset (its':=its.dropLast) hH e ?_ r.dropLast ?_,ru,q⟩
 ·show its.toArray.eraseIdxIfInBounds (its.toArray.size-1)=its.dropLast.toArray
  rw[size_toArray,eraseIdxIfInBounds_toArray,zjx]
 ·rw[length_dropLast]
  omega
end
section
variable {prog:Program} {w:World} {A:Around} {E:Value->Shared->Prop} {s:Shared}
end
section
variable {X:Cx}
end
end L2
namespace Att
open PySem PySem.W PySem.Calls PyProof.Rows
theorem ze0{P:Params}{h:Heap}:∀(ns:List Int) (vs:List Value),WellAll P h vs (ns.map WData.int)->IntsAre vs ns:=by
 intro ns
 induction ns with
 | nil =>
  intro vs w
  rw[map_nil] at w
  cases w
  exact .nil
 | cons n ns ih =>
  intro vs w
  rw[map_cons] at w
  cases w with
  | cons a b =>
   cases a
   exact .cons _ _ (ih _ b)
theorem zks{l:OpenLaw}{n:Nat}(hn:l.most=some n){P:Params}{h:Heap}{args:List WData}{vals:List Value}(hpre:l.row.toRowW.claim.pre args=true)(hwl:WellAll P h vals args) :
  ∃a vs ns,vals=[Value.ref a]/\args=[WData.list (ns.map WData.int)]/\h.get? a=some { cls:=.type "list",data:=.seq vs.toArray }/\IntsAre vs ns/\ns.length<=n:=by
 have hsh:WShape.hasAll [] args [.list .int]=true:=(pre_splitW hpre).1
 have hc:l.pre.holds [] { args:=args }=true:=(pre_splitW hpre).2
 obtain⟨d,r,rfl,h1,h2⟩:=hasAllW_cons hsh
 obtain rfl:=hasAllW_nil h2
 obtain⟨xs,rfl,h3⟩:=hasW_list h1
 obtain⟨ns,rfl⟩:=items_int h3
 have hlen:ns.length<=n:=by
  unfold OpenLaw.pre at hc
  have h4:(WTm.not (.lt (.lit (.int (n:Int))) (.len (.arg 0)))).holds [] { args:=[.list (ns.map .int)] }=true:=by
   have h4:=(holds_andW hc).1
   rw[hn] at h4
   exact h4
  have h5:=condW_of h4 (w_not (w_lt w_lit (w_len_list (w_arg rfl))))
  rw[length_map] at h5
  refine le_of_not_lt fun q=>?_
  have q':(n:Int)<((ns.length:Nat):Int):=by omega
  first
   | (rw[decide_eq_true q'] at h5;exact absurd h5 (by decide))
   | (simp at h5;omega)
 cases hwl with
 | cons w1 w2 =>
  cases w2
  cases w1 with
  | list ho hall=>exact⟨_,_,ns,rfl,rfl,ho,ze0 ns _ hall,hlen⟩
theorem zkt(l:OpenLaw)(args:List WData):l.row.toRowW.claim.post args (.bool true) args=true :=
 postW_of (r:=l.row.toRowW) (X:=(true==true))
  (show WShape.has [] (.bool true) .bool=true by first|rfl|decide|simp[WShape.has,WShape.arms,WShape.armsAll])
  (show(WTm.eq .res (.lit (.bool true))).value [] { args:=args,res:=some (.bool true),after:=args }=some (.bool (true==true)) from w_eq_bool (w_res rfl) w_lit) rfl
theorem attach_call{l:OpenLaw}{n:Nat}{q:Program}{loose:List Str}{XP:(Str->Option Value)->Heap->Prop}{YP:World->Heap->Prop}{d:DefRec}(hn:l.most=some n)(hdf:d.params.defaults=[])(call:∀(w:World) (s₀ s₁:Shared) (mg mb:Str->Option Value) (fa:Addr) (o:Obj) (pm cd doc:Value) (a:Addr) (vs:List Value) (ns:List Int),
   Ground q loose [] XP w s₀ mg mb s₁.heap->YP w s₁.heap ->
   s₁.heap.get? fa=some o->o.data=.func (docDef d.name d.params d.body d.scope pm cd doc)->s₁.heap.CodeRec cd d.name->mg d.name=some (.ref fa) ->
   s₁.heap.get? a=some { cls:=.type "list",data:=.seq vs.toArray }->IntsAre vs ns->ns.length<=n->s₁.gens=#[] ->
   codeAny (model l.prog w) callerA (.call (.ref fa) ⟨[.ref a],[]⟩) (fun r s'=>r=.ok (.ret (.bool true))/\OldK s₁.heap s'.heap/\s'.os=s₁.os/\AllBare s'.gens) s₁) :
  WalkO q loose XP YP l.row.toRowW d [] (fun f vs=>PySem.call f vs):=by
 intro w s₀ s₁ mg mb G Y fa o pm cd doc dV kV ho hd hcd hD hmg hg args vals as hpre hlay hrd hwl hlo
 obtain rfl:dV=.none:=Dflts.none hD hdf
 obtain rfl:kV=.none:=Dflts.noKw hD
 obtain⟨a,vs,ns,rfl,rfl,hobj,hints,hlen⟩:=zks hn hpre hwl
 refine enter_call (codeAny_mono (call w s₀ s₁ mg mb fa o pm cd doc a vs ns G Y ho (fd_plain hd) hcd hmg hobj hints hlen hg) fun r s' hq=>?_)
 obtain⟨rfl,h2,h3,h4⟩:=hq
 exact⟨.inl ⟨.bool true,.bool true,[],rfl,fun _=>rfl,.bool true,zkt l _,fun _=>⟨List.Pairwise.nil,fun _ hm=>(nomatch hm)⟩⟩,h2,h3,h4⟩
section
variable {prog:Program} {w:World} {A:Around} {E:Value->Shared->Prop} {s:Shared} {K:Frag}
def zt7(h:Heap)(L d:Addr):List (Addr×Obj):=(List.range h.objs.size).filterMap fun a=>if a=L\/a=d then none else (h.get? a).map fun o=>(a,o)
end
end Att
namespace L2
open PySem PySem.Spec PyProof.Rows
theorem zcG:∀{vs:List Value} {ns:List Int},IntsAre vs ns->Vals (ns.map V.int) vs
 | _,_,.nil=>.nil
 | _,_,.cons n t h=>.cons ⟨t,rfl⟩ (zcG h)
def zq7(H:Hp):Prop:=∀b,H b=none\/∃o xs,H b=some (.frz o (.lst xs))
theorem zmt{P:Program}{w:World}{K:PySem.W.Frag}{mg mb:Str->Option Value}{CX:CXT}{k:Nat}{fa a:Addr}{fd:FuncData}{x:Str}{sp:Sp}{s₁:Shared}{vs:List Value}{ns:List Int}(KX:K.In s₁.heap)(hns:s₁.heap.Ns mainGlobals mg)(hb:s₁.heap.Ns builtinsNs mb)(hbb:∀x:Str,x ≠ "__name__" -> mb x=bootBuiltins x)(hlim:s₁.heap.NoLimit)(hg:s₁.gens=#[])(ha:s₁.heap.get? a=some { cls:=.type "list",data:=.seq vs.toArray })(hi:IntsAre vs ns)(hl:ns.length<=sizeLine)(hr:Room k callerA)(F:∀base:Heap,K.In base->base.Ns mainGlobals mg->FnOk P w K mg base CX k fa fd [x] sp)(hbind:∀(s:Shared) (u:Value),BindsTo s fd ⟨[u],[]⟩ [(x,u)])(hsp:∀H:Hp,zq7 H->SqL K H a (ns.map V.int)->sp [.ref a] H (fun v _=>v=.bl true) fun _ _ _=>False)(hCX:∀H e s',CX [] H s₁ (fun _ _ _=>False) e s'->False) :
  codeAny (model P w) callerA (.call (.ref fa) ⟨[.ref a],[]⟩) (fun r s'=>r=.ok (.ret (.bool true))/\OldK s₁.heap s'.heap/\s'.os=s₁.os/\AllBare s'.gens) s₁:=by
 have rv:=zcG hi
 have lenV:=hi.length
 have core:∀H:Hp,zq7 H->SqL K H a (ns.map V.int)->HOk P w H s₁.heap->(∀b,H b≠none->b=a)->(H a≠none->K.lookup a=none) ->
   codeAny (model P w) callerA (.call (.ref fa) ⟨[.ref a],[]⟩) (fun r s'=>r=.ok (.ret (.bool true))/\OldK s₁.heap s'.heap/\s'.os=s₁.os/\AllBare s'.gens) s₁:=by
  intro H hO hS hok hA hK
  have base_of:∀{b:Addr} {o:Obj},s₁.heap.get? b=some o->H b=none->(zmb s₁.heap H).get? b=some o:=fun e n=>zmc e n
  have noA:∀{b:Addr} {o:Obj} {es:Array DictEntry} {ep:Nat},s₁.heap.get? b=some o->o.data=.dict es ep->H b=none:=fun {b o es ep} e d=>by
   cases q:H b with
   | none=>rfl
   | some u =>
    have e':b=a:=hA b (by rw[q];simp)
    subst e'
    rw[ha] at e;cases e
    have d':Data.seq vs.toArray _=Data.dict es ep:=d
    cases d'
  have nsK:∀{b:Addr} {m:Str->Option Value},s₁.heap.Ns b m->(zmb s₁.heap H).Ns b m:=fun {b m} ⟨o,es,ep,e,d,r⟩=>⟨o,es,ep,base_of e (noA e d),d,r⟩
  have hKb:K.In (zmb s₁.heap H):=fun b o e=>base_of (KX b o e) (by
   cases q:H b with
   | none=>rfl
   | some u =>
    have e':b=a:=hA b (by rw[q];simp)
    subst e'
    rw[hK (by rw[q];simp)] at e;cases e)
  have hM:Mod K mg (zmb s₁.heap H):=⟨hKb,nsK hns,⟨mb,nsK hb,hbb⟩,let ⟨mc,h1,h2⟩:=hlim;⟨mc,nsK h1,h2⟩⟩
  have e0:Env0 P w K mg (zmb s₁.heap H) callerA [] s₁ H:=⟨rfl,hM,fun b o e=>zoB e,le_of_eq (zj7 _ _),trivial,fun b hb=>absurd (show b∈([]:List Addr) from hb) (by simp),hok,.of_eq hg⟩
  refine codeAny_mono ((F _ hKb (nsK hns)).run callerA [] s₁ H ⟨[.ref a],[]⟩ [.ref a] [.ref a] _ _ hr e0 (hbind s₁ (.ref a)) (.cons rfl .nil) (hsp H hO hS)) fun r s' h=>?_
  cases r with
  | error e=>exact(hCX H e s' h).elim
  | ok fl =>
   cases fl with
   | next=>exact False.elim h
   | brk=>exact False.elim h
   | cont=>exact False.elim h
   | ret u =>
    obtain⟨v,H',os,bare,un,hok',r',q⟩:=h
    have q':v=.bl true:=q
    subst q'
    obtain rfl:u=Value.bool true:=r'
    refine⟨rfl,OldK.of_keep fun b o e=>?_,os,bare⟩
    cases q:H b with
    | none=>exact un.keep b o e q (by intro z;exact absurd (show b∈([]:List Addr) from z) (by simp)) (by simp)
    | some u =>
     rcases hO b with z|⟨ob,xs,z⟩
     ·rw[q] at z;cases z
     ·have z2:=un.frzs b ob _ z
      obtain⟨e1,_⟩:=hok b _ z
      obtain⟨e2,_⟩:=hok' b _ z2
      rw[e] at e1;cases e1
      exact e2
 cases hk:K.lookup a with
 | some o =>
  have e:=KX a o hk
  rw[ha] at e
  cases e
  refine core (fun _=>none) (fun _=>.inl rfl) (.inr ⟨_,vs.toArray,_,hk,rfl,rfl,rfl,by rw[size_toArray,lenV];exact hl,by simpa using rv⟩) (fun b u z=>by have z':(none:Option HO)=some u:=z;cases z') (fun b z=>absurd rfl z) fun z=>absurd rfl z
 | none =>
  refine core (fun b=>if b=a then some (.frz { cls:=.type "list",data:=.seq vs.toArray } (.lst (ns.map V.int))) else none) (fun b=>?_) (.inl (.inr ⟨{ cls:=.type "list",data:=.seq vs.toArray },if_pos rfl⟩)) (fun b u z=>?_) (fun b z=>?_) fun _=>hk
  ·by_cases hb:b=a
   ·exact .inr ⟨_,_,if_pos hb⟩
   ·exact .inl (if_neg hb)
  ·by_cases hb:b=a
   ·have z':=(if_pos hb).symm.trans z
    cases z'
    subst hb
    exact⟨ha,by rw[length_map];exact hl,vs,_,rv,ha⟩
   ·have z':=(if_neg hb).symm.trans z
    cases z'
  ·by_cases hb:b=a
   ·exact hb
   ·exact absurd (if_neg hb) z
theorem zoX{l:PySem.W.OpenLaw}{n k:Nat}{q:Program}{loose:List Str}{XP:(Str->Option Value)->Heap->Prop}{YP:World->Heap->Prop}{d:DefRec}{K:Params->PySem.W.Frag}{CX:World->CXT}{sp:World->Sp}{x:Str}(hn:l.most=some n)(hn2:n<=sizeLine)(hdf:d.params.defaults=[])(hr:Room k callerA)(hY:∀(w:World) (h:Heap),YP w h->(K w.params).In h)(F:∀(w:World) (mg:Str->Option Value) (fa:Addr) (h:Heap),(K w.params).In h->h.Ns mainGlobals mg->mg d.name=some (.ref fa) ->
   ∃fd:FuncData,(∀(s:Shared) (u:Value),BindsTo s fd ⟨[u],[]⟩ [(x,u)]) /\
    ∀base:Heap,(K w.params).In base->base.Ns mainGlobals mg->FnOk l.prog w (K w.params) mg base (CX w) k fa fd [x] (sp w))(hsp:∀(w:World) (H:Hp) (a:Addr) (ns:List Int),ns.length<=n->zq7 H->SqL (K w.params) H a (ns.map V.int)->sp w [.ref a] H (fun v _=>v=.bl true) fun _ _ _=>False)(hCX:∀(w:World) (H:Hp) (s:Shared) (e:Value) (s':Shared),CX w [] H s (fun _ _ _=>False) e s'->False) :
  PySem.W.WalkO q loose XP YP l.row.toRowW d [] (fun f vs=>PySem.call f vs):=by
 refine Att.attach_call hn hdf fun w s₀ s₁ mg mb fa o pm cd doc a vs ns G Y ho hd hcd hmg hobj hints hlen hg=>?_
 have KX:=hY w _ Y
 obtain⟨fd,hb,hF⟩:=F w mg fa _ KX G.T.g hmg
 exact zmt KX G.T.g G.T.b G.T.builtins G.T.nolimit hg hobj hints (le_trans hlen hn2) hr hF hb (fun H hO hS=>hsp w H a ns hlen hO hS) fun H e s'=>hCX w H s₁ e s'
theorem walk_ofK{l:PySem.W.OpenLaw}{n k:Nat}{q:Program}{loose:List Str}{XP:(Str->Option Value)->Heap->Prop}{YP:World->Heap->Prop}{d:DefRec}{K:Params->PySem.W.Frag}{CX:CXT}{sp:PySem.W.Frag->Sp}{x:Str}(hn:l.most=some n)(hn2:n<=sizeLine)(hdf:d.params.defaults=[])(hr:Room k callerA)(hY:∀(w:World) (h:Heap),YP w h->(K w.params).In h)(F:∀(w:World) (mg:Str->Option Value) (fa:Addr) (h:Heap),(K w.params).In h->h.Ns mainGlobals mg->mg d.name=some (.ref fa) ->
   ∃fd:FuncData,(∀(s:Shared) (u:Value),BindsTo s fd ⟨[u],[]⟩ [(x,u)]) /\
    ∀base:Heap,(K w.params).In base->base.Ns mainGlobals mg->FnOk l.prog w (K w.params) mg base CX k fa fd [x] (sp (K w.params)))(hsp:∀(K:PySem.W.Frag) (H:Hp) (a:Addr) (ns:List Int),ns.length<=n->zq7 H->SqL K H a (ns.map V.int)->sp K [.ref a] H (fun v _=>v=.bl true) fun _ _ _=>False)(hCX:∀(H:Hp) (s:Shared) (e:Value) (s':Shared),CX [] H s (fun _ _ _=>False) e s'->False) :
  PySem.W.WalkO q loose XP YP l.row.toRowW d [] (fun f vs=>PySem.call f vs) :=
 zoX (K:=K) (CX:=fun _=>CX) (sp:=fun w=>sp (K w.params)) hn hn2 hdf hr hY F (fun w H a ns h1 h2 h3=>hsp (K w.params) H a ns h1 h2 h3) fun _ H s e s'=>hCX H s e s'
def zee(s:Stmt):Arguments:=match s with
 | .FunctionDef _ a _ _ _ _ _ _ _ _=>a
 | _=>{ posonlyargs:=[],args:=[],vararg:=none,kwonlyargs:=[],kw_defaults:=[],kwarg:=none,defaults:=[] }
def zdr(s:Stmt):List Stmt:=match s with
 | .FunctionDef _ _ b _ _ _ _ _ _ _=>b
 | _=>[]
def zal(s:Stmt):Scope:=match s with
 | .FunctionDef _ _ _ _ _ _ sc _ _ _=>sc
 | _=>{ kind:=.function,names:=[],isGenerator:=false,isCoroutine:=false }
abbrev CX0:CXT:=fun _ _ _ _ _ _=>False
abbrev E0:XK:=fun _ _ _=>False
structure Fun (K:PySem.W.Frag) (x qual:Str) (st:Stmt) (f:Addr) (fd:FuncData):Prop where
 ex:∃(oc:Value) (od:Option Addr) (kV doc pm:Value) (an:Option Addr) (cdv ct:Value) (osl:Array (Option Value)),
  fd=PySem.W.fnOf x qual (zee st) (zdr st) (zal st) .none kV doc pm an cdv ct/\K.lookup f=some ⟨oc,od,.func fd,osl⟩/\PySem.W.codeIn K cdv qual=true
 kp:PySem.W.keepIn K (.ref f)=true
section
variable {P:Program} {w:World} {K:PySem.W.Frag} {mg:Str->Option Value} {base:Heap}
theorem Fun.binds{x qual:Str}{st:Stmt}{f:Addr}{fd:FuncData}{ps:List Str}(F:Fun K x qual st f fd)(h:∀(kV doc pm:Value) (an:Option Addr) (cdv ct:Value) (us:List Value),us.length=ps.length->bindArgs (PySem.W.fnOf x qual (zee st) (zdr st) (zal st) .none kV doc pm an cdv ct) ⟨us,[]⟩=pure (ps.zip us)):Binds K fd ps []:=by
 obtain⟨oc,od,kV,doc,pm,an,cdv,ct,osl,rfl,lk,hcd⟩:=F.ex
 exact .all (h kV doc pm an cdv ct)
theorem znW{x qual:Str}{st:Stmt}{f:Addr}{oc:Value}{od an:Option Addr}{osl:Array (Option Value)}{kV doc pm cdv ct:Value}(l:K.lookup f=some ⟨oc,od,.func (PySem.W.fnOf x qual (zee st) (zdr st) (zal st) .none kV doc pm an cdv ct),osl⟩)(c:PySem.W.codeIn K cdv qual=true)(k:PySem.W.keepIn K (.ref f)=true):Fun K x qual st f (PySem.W.fnOf x qual (zee st) (zdr st) (zal st) .none kV doc pm an cdv ct):=⟨⟨oc,od,kV,doc,pm,an,cdv,ct,osl,rfl,l,c⟩,k⟩
end
section
variable {X:Cx}
end
def zvh(H H':Hp):Prop:=∀b o,H b=some o->H' b=some o
def zjy(js:List Nat)(σ:St):St:=js.map fun j=>σ.getD j none
structure BlkS (N:List Str) (psc:Scope) (js:List Nat) (N':List Str) (scope:Scope):Prop where
 cell:∀y∈scope.names,y.2≠.cell
 kind:scope.kind=.function
 names:∀y∈scope.names,y.2=.local->scope.names.lookup y.1=some .local
 frees:∀y∈scope.names,y.2=.free->psc.names.lookup y.1=some .cell\/psc.names.lookup y.1=some .free
 nd:N'.Nodup
 len:N'.length=js.length+1
 cap:∀p∈js.zip (N'.drop 1),N[p.1]?=some p.2/\scope.names.lookup p.2=some .free
def zdi(env:Env)(cs:List (Str×Addr))(y:Str×NameKind):List (Str×Addr):=if y.2==.free then (y.1,(env.cells.lookup y.1).getD 0)::cs else cs
def clOf(scope:Scope)(env:Env):List (Str×Addr):=scope.names.foldl (zdi env) []
theorem ze1{α β:Type}(f:α->β->Sem (ForInStep β))(g:β->α->β):∀(l:List α) (b:β),(∀x∈l,∀c,f x c=pure (.yield (g c x)))->forIn l b f=pure (l.foldl g b)
 | [],_,_=>rfl
 | x::l,b,h=>by
  rw[forIn_cons,h x mem_cons_self,pure_bind]
  exact ze1 f g l (g b x) fun y hy=>h y (mem_cons_of_mem _ hy)
theorem zjz{scope:Scope}{env:Env}(h:∀y∈scope.names,y.2=.free->∃c,env.cells.lookup y.1=some c):closureFor scope env=pure (clOf scope env):=by
 simp only[closureFor,clOf]
 rw[ze1 _ (zdi env) scope.names [] (fun y hy c=>by
  obtain⟨n,k⟩:=y
  by_cases hk:k=.free
  ·subst hk
   obtain⟨a,ha⟩:=h _ hy rfl
   have ha':env.cells.lookup n=some a:=ha
   simp[cellOf,ha',zdi]
  ·have hb:(k==NameKind.free)=false:=by simpa using hk
   simp[hb,zdi])]
 rfl
theorem zfZ{env:Env}{P:Str×Addr->Prop}:∀(l:List (Str×NameKind)) (acc:List (Str×Addr)),(∀p∈acc,P p)->(∀y∈l,y.2=.free->P (y.1,(env.cells.lookup y.1).getD 0))->∀p∈l.foldl (zdi env) acc,P p
 | [],_,ha,_=>ha
 | y::l,acc,ha,hl=>by
  refine zfZ l _ (fun p hp=>?_) fun z hz=>hl z (mem_cons_of_mem _ hz)
  unfold zdi at hp
  by_cases hk:y.2=.free
  ·rw[if_pos (by simp[hk])] at hp
   rcases mem_cons.mp hp with e|hp
   ·rw[e];exact hl y mem_cons_self hk
   ·exact ha p hp
  ·rw[if_neg (by simp[hk])] at hp
   exact ha p hp
theorem zf0{env:Env}:∀(l:List (Str×NameKind)) (acc:List (Str×Addr)),∀p∈acc,p∈l.foldl (zdi env) acc
 | [],_,_,hp=>hp
 | y::l,acc,p,hp=>by
  refine zf0 l _ p ?_
  unfold zdi
  split
  ·exact mem_cons_of_mem _ hp
  ·exact hp
theorem zf1{env:Env}{y:Str}:∀(l:List (Str×NameKind)) (acc:List (Str×Addr)),(y,NameKind.free)∈l->∃c,(y,c)∈l.foldl (zdi env) acc
 | z::l,acc,h=>by
  rcases mem_cons.mp h with e|h
  ·subst e
   exact⟨(env.cells.lookup y).getD 0,zf0 l _ _ (by simp[zdi])⟩
  ·exact zf1 l _ h
theorem zdC{β:Type}{y:Str}{c:β}:∀{l:List (Str×β)},(y,c)∈l->∃c',l.lookup y=some c'
 | (n,d)::l,h=>by
  rw[lookup_cons]
  cases e:y==n with
  | true=>exact⟨d,rfl⟩
  | false =>
   rcases mem_cons.mp h with q|q
   ·have q1:y=n:=congrArg Prod.fst q
    rw[q1] at e
    simp at e
   ·exact zdC q
theorem zho{scope:Scope}{env:Env}(h:∀y∈scope.names,y.2=.free->∃c,env.cells.lookup y.1=some c){y:Str}{c:Addr}(e:(clOf scope env).lookup y=some c):env.cells.lookup y=some c:=by
 refine zfZ (P:=fun p=>env.cells.lookup p.1=some p.2) scope.names [] (fun _ hp=>nomatch hp) (fun z hz hf=>?_) (y,c) (PySem.mem_of_lookup e)
 obtain⟨a,ha⟩:=h z hz hf
 simp[ha]
theorem ziN{scope:Scope}{env:Env}{y:Str}(h:(y,NameKind.free)∈scope.names):∃c,(clOf scope env).lookup y=some c:=by
 obtain⟨c,hc⟩:=zf1 (env:=env) scope.names [] h
 exact zdC hc
theorem relabel_of{env:Env}{y:Str}{k':NameKind}:∀{names:List (Str×NameKind)},(names.map fun(n,k)=>if (k==NameKind.free&&env.scope.kind==.function&&env.kindOf n==some .cell) then (n,NameKind.cell) else (n,k)).lookup y=some k' ->
  ∃k,(y,k)∈names/\(k'=k\/(k=.free/\k'=.cell))
 | [],h=>by simp at h
 | (n,k)::r,h=>by
  have ih:=@relabel_of env y k' r
  have h:List.lookup y ((if (k==NameKind.free&&env.scope.kind==.function&&env.kindOf n==some .cell)=true then (n,NameKind.cell) else (n,k))::_)=some k':=h
  cases e:y==n with
  | true =>
   have e':y=n:=by simpa using e
   by_cases hc:(k==NameKind.free&&env.scope.kind==.function&&env.kindOf n==some .cell)=true
   ·rw[if_pos hc] at h
    simp only[lookup_cons,e] at h
    cases h
    have hk:k=.free:=by
     simp only[and_eq_true] at hc
     simpa using hc.1.1
    subst hk
    exact⟨.free,by rw[e'];exact mem_cons_self,.inr ⟨rfl,rfl⟩⟩
   ·rw[if_neg hc] at h
    simp only[lookup_cons,e] at h
    have hk:=Option.some.inj h
    exact⟨k,by rw[e'];exact mem_cons_self,.inl hk.symm⟩
  | false =>
   have h':List.lookup y (r.map fun(n,k)=>if (k==NameKind.free&&env.scope.kind==.function&&env.kindOf n==some .cell) then (n,NameKind.cell) else (n,k))=some k':=by
    by_cases hc:(k==NameKind.free&&env.scope.kind==.function&&env.kindOf n==some .cell)=true
    ·rw[if_pos hc] at h
     simp only[lookup_cons,e] at h
     exact h
    ·rw[if_neg hc] at h
     simp only[lookup_cons,e] at h
     exact h
   obtain⟨k0,h1,h2⟩:=ih h'
   exact⟨k0,mem_cons_of_mem _ h1,h2⟩
theorem relabel_free{env:Env}{y:Str}:∀{names:List (Str×NameKind)},names.lookup y=some .free ->
  (names.map fun(n,k)=>if (k==NameKind.free&&env.scope.kind==.function&&env.kindOf n==some .cell) then (n,NameKind.cell) else (n,k)).lookup y=some .cell \/
  (names.map fun(n,k)=>if (k==NameKind.free&&env.scope.kind==.function&&env.kindOf n==some .cell) then (n,NameKind.cell) else (n,k)).lookup y=some .free
 | [],h=>by simp at h
 | (n,k)::r,h=>by
  have ih:=@relabel_free env y r
  show List.lookup y ((if (k==NameKind.free&&env.scope.kind==.function&&env.kindOf n==some .cell)=true then (n,NameKind.cell) else (n,k))::_)=_\/List.lookup y ((if (k==NameKind.free&&env.scope.kind==.function&&env.kindOf n==some .cell)=true then (n,NameKind.cell) else (n,k))::_)=_
  cases e:y==n with
  | true =>
   simp only[lookup_cons,e] at h
   cases h
   by_cases hc:(NameKind.free==NameKind.free&&env.scope.kind==.function&&env.kindOf n==some .cell)=true
   ·rw[if_pos hc];exact .inl (by simp[lookup_cons,e])
   ·rw[if_neg hc];exact .inr (by simp[lookup_cons,e])
  | false =>
   simp only[lookup_cons,e] at h
   by_cases hc:(k==NameKind.free&&env.scope.kind==.function&&env.kindOf n==some .cell)=true
   ·rw[if_pos hc];simp only[lookup_cons,e];exact ih h
   ·rw[if_neg hc];simp only[lookup_cons,e];exact ih h
def blk(X:Cx)(N':List Str)(scope:Scope)(C:Addr)(fp:List Addr)(s₀:Shared)(H₀:Hp):Cx :=
 { X with N:=N',s₀:=s₀,H₀:=H₀,env:=compEnvC scope (clOf scope X.env) C X.env,outer:=X.stack,stack:=X.stack,ex:=fp,fn:=fun _=>false,pn:=[],xe:=fun _ _=>False }
theorem HOk.track{P:Program}{w:World}{H:Hp}{h:Heap}{a:Addr}{o:HO}(x:HOk P w H h)(hn:H a=none)(new:ObjOk P w (upd H a o) h a o):HOk P w (upd H a o) h:=fun b u e=>by
 by_cases hb:b=a
 ·subst hb;rw[zaw] at e;cases e;exact new
 ·rw[zaD hb] at e
  exact(x b u e).stay (fun c v _ q=>q) (fun c q=>by rw[zaD (zaC q hn)];exact q) fun c xs q=>by rw[zaD (zaC q hn)];exact q
section
variable {X:Cx} {pins:List (Addr×Obj)} {σ:St} {H:Hp} {s:Shared}
theorem Inv.stkNe(I:Inv X pins σ H s){b:Addr}(h1:b≠X.env.locals)(h2:b∉X.fs):b∉frs X.stack:=fun hb=>(mem_cons.mp (I.stkSub b hb)).elim h1 h2
theorem Inv.frees(I:Inv X pins σ H s){js:List Nat}{N':List Str}{scope:Scope}(B:BlkS X.N X.env.scope js N' scope):∀y∈scope.names,y.2=.free->∃c,X.env.cells.lookup y.1=some c :=
 fun y hy hf=>I.ok.has y.1 (B.frees y hy hf)
theorem zku{js:List Nat}{x:Str}{caps:List Str}{scope:Scope}{C:Addr}{fp:List Addr}{h₁:Heap}{tk:Nat}{m:Str->Option Value}(B:BlkS X.N X.env.scope js (x::caps) scope)(I:Inv X pins σ H s)(f2:∀b∈fp,zj1 X pins H b)(ho:∀b∈fp,∃o,s.heap.get? b=some o)(hC:s.heap.objs.size<=C)(old:∀b o,s.heap.get? b=some o->h₁.get? b=some o)(ns:h₁.Ns C m) :
  Inv (blk X (x::caps) scope C fp s H) [] (none::zjy js σ) H { s with heap:=h₁,toks:=tk }:=by
 have fr:=I.frees B
 have clo:∀y c,(clOf scope X.env).lookup y=some c->X.env.cells.lookup y=some c:=fun y c e=>zho fr e
 have lt:∀b∈fp,b<s.heap.objs.size:=fun b hb=>let ⟨o,e⟩:=ho b hb;Heap.lt_size e
 refine⟨⟨I.ok.mod,B.kind,I.ok.glob,I.ok.blt,hC,fun a b c h1 h2=>I.ok.inj a b c (clo _ _ h1) (clo _ _ h2),fun y hy=>?_,fun y c h _=>absurd (show false=true from h) Bool.false_ne_true,I.ok.hd,I.ok.frames,.inl rfl,
   fun b hb=>⟨ne_of_lt (lt_of_lt_of_le (lt b hb) hC),fun y c h=>(f2 b hb).2.2.2.2.1 y c (clo y c h)⟩,I.bs,le_trans I.ok.bsz I.sz,fun b o e hb=>?_,fun b hb=>I.stkNe (f2 b hb).2.1 (f2 b hb).2.2.1,I.stack,I.stkFree⟩,
  rfl,I.bare,Un.kept old,⟨m,ns,fun i y v e1 e2 e3=>?_⟩,fun y c h=>?_,I.hok.fresh hC,fun y c h=>I.freeC y c (clo y c h),fun p hp=>absurd (show p∈([]:List (Addr×Obj)) from hp) (by simp),I.hok.kept old,?_⟩
 ·have hy':(relabel scope X.env).names.lookup y=some .cell\/(relabel scope X.env).names.lookup y=some .free:=hy
  have hm:(y,NameKind.free)∈scope.names:=by
   rcases hy' with z|z
   ·obtain⟨k,h1,h2⟩:=relabel_of z
    rcases h2 with h2|⟨h2,_⟩
    ·exact absurd h2.symm (B.cell _ h1)
    ·rw[h2] at h1;exact h1
   ·obtain⟨k,h1,h2⟩:=relabel_of z
    rcases h2 with h2|⟨_,h2⟩
    ·rw[<- h2] at h1;exact h1
    ·cases h2
  exact ziN hm
 ·rcases(f2 b hb).2.2.2.1 with z|z
  ·exact I.ok.noex b o e z
  ·exact absurd (lt_of_lt_of_le (Heap.lt_size e) (le_trans I.ok.bsz z)) (lt_irrefl _)
 ·cases i with
  | zero =>
   have q:some (none:Option V)=some (some v):=e2
   cases q
  | succ k =>
   have e1':caps[k]?=some y:=e1
   have e2':(js.map fun j=>σ.getD j none)[k]?=some (some v):=e2
   rw[getElem?_map] at e2'
   cases hj:js[k]? with
   | none=>rw[hj] at e2';cases e2'
   | some j =>
    rw[hj] at e2'
    have hv:σ.getD j none=some v:=Option.some.inj e2'
    have hσ:σ[j]?=some (some v):=by
     rw[getD_eq_getElem?_getD] at hv
     cases q:σ[j]? with
     | none=>rw[q] at hv;cases hv
     | some z=>rw[q] at hv;exact congrArg some hv
    have hz:(j,y)∈js.zip caps:=mem_of_getElem? (getElem?_zip_eq_some.mpr ⟨hj,e1'⟩)
    obtain⟨hN,hf⟩:=B.cap (j,y) hz
    have hk:=B.frees (y,.free) (PySem.mem_of_lookup hf) rfl
    obtain⟨m',_,hl⟩:=I.loc
    obtain⟨u,r,l⟩:=hl j y v hN hσ (.inr hk)
    rcases l with ⟨k1,_⟩|⟨k1,c,hcl,o,hco,hcd⟩
    ·have k1':X.env.scope.names.lookup y=some .local:=k1
     have hk':X.env.scope.names.lookup y=some .cell\/X.env.scope.names.lookup y=some .free:=hk
     rw[k1'] at hk'
     rcases hk' with z|z<;>cases z
    ·obtain⟨c',hc'⟩:=ziN (env:=X.env) (PySem.mem_of_lookup hf)
     have:=clo _ _ hc'
     rw[hcl] at this
     cases this
     exact⟨u,r,.inr ⟨relabel_free hf,c,hc',o,old c o hco,hcd⟩⟩
 ·obtain⟨v,o,h1,h2⟩:=I.cell y c (clo y c h)
  exact⟨v,o,old c o h1,h2⟩
 ·show(none::zjy js σ).length=(x::caps).length
  rw[B.len]
  simp[zjy]
end
def PIfs(Y:Cx)(ifs:List Expr)(tt:TT):Prop :=
 ∀(pins:List (Addr×Obj)) (s:Shared) (σ:St) (H:Hp) (Q:Bool->Hp->Prop),Inv Y pins σ H s->tt σ H Q ->
  wpAny (model Y.prog Y.w) Y.A (forIn ifs true fun c r=>if r=true then do let ok <- isTrue c Y.env (eval c Y.env);pure (ForInStep.yield ok) else pure (ForInStep.yield r)) (TP Y pins σ Q) Y.xe s
def zs9:TT:=fun _ H Q=>Q true H
theorem zmu{Y:Cx}:PIfs Y [] zs9:=fun _ _ _ H _ I h=>wpAny_tests_nil ⟨H,I,h⟩
theorem zmv{Y:Cx}{c:Expr}{tc:TT}(h:PT Y c tc):PIfs Y [c] tc:=fun pins s σ H Q I hw=>wpAny_tests_one (h pins s σ H Q I hw)
def zuX(J:It)(cs:St)(tt:TT)(te:TE)(Q:VK)(H1:Hp):Prop:=∃W:Nat->Nat->List V->Hp->Prop,(∃m,W 0 m [] H1)/\∀i m ys H2,W i m ys H2 ->
 (J.stop i H2/\∀p,H2 p=none->Q (.ref p) (upd H2 p (.lst ys))) \/
 (J.go i H2/\ys.length<sizeLine/\∃N:List V->Hp->Prop,(∀ys' H',N ys' H'->∃m',m'<m/\W (i+1) m' ys' H') /\
  ∀x H',J.yld i H2 x H'->tt (some x::cs) H' fun b H4=>if b=true then te (some x::cs) H4 fun y H5=>N (ys++[y]) H5 else N ys H4)
def tLC(js:List Nat)(wi:TI)(tt:TT)(te:TE):TE:=fun σ H Q=>wi σ H fun J H1=>zuX J (zjy js σ) tt te Q H1
theorem zmw{α:Type}{M:Model}{A:Around}{Φ:Unit->Shared->Prop}{E E':Value->Shared->Prop}{s:Shared}{t:Sem α}{Ψ:α->Shared->Prop}(h:wpAny M A (pure ()) Φ E s)(k:Φ () s->wpAny M A t Ψ E' s):wpAny M A t Ψ E' s :=
 fun Γ p hΓ=>k (h Γ p hΓ) Γ p hΓ
section
variable {X:Cx} {elt iter:Expr} {x:Str} {px pos p:Pos} {ifs:List Expr} {scope:Scope} {js:List Nat} {caps:List Str} {wi:TI} {tt:TT} {te:TE}
theorem zkv{use:Option (Value->Sem Unit)}{Qf:Value->Shared->Prop}{pins:List (Addr×Obj)}{s:Shared}{σ:St}{H:Hp}{Q:VK}(B:BlkS X.N X.env.scope js (x::caps) scope)(hc:X.calm=true)(hx:scope.names.lookup x=some .local)(hi:PI X (.Name x px) iter wi)(ht:∀C fp s₀ H₀,PIfs (blk X (x::caps) scope C fp s₀ H₀) ifs tt)(he:∀C fp s₀ H₀,PE (blk X (x::caps) scope C fp s₀ H₀) elt te)(hs:∀v,foldedSetIterable iter X.env v=pure v)(I:Inv X pins σ H s)(hw:tLC js wi tt te σ H Q)(fin:∀(C D:Addr) (oC:Obj) (ys:List V) (H':Hp) (s1:Shared),Inv X (pins++[(C,oC)]) σ (upd H' D (.lst ys)) s1->Q (.ref D) (upd H' D (.lst ys)) ->
   (∀σ' H'' s',Inv X (pins++[(C,oC)]) σ' H'' s'->(∃m,s'.heap.Ns C m)/\∀h',Heap.SameBut C s'.heap h'->Inv X pins σ' H'' { s' with heap:=h' }) ->
   compPost (model X.prog X.w) X.A X.xe use Qf (.ref D) C (.ok .next) s1) :
  wpAny (model X.prog X.w) X.A (comprehension (.ListComp elt [⟨.Name x px,iter,ifs,0⟩] scope pos) scope X.env p (newList []) false (eval iter X.env) use) Qf X.xe s:=by
 have fr:=I.frees B
 refine wpAny_comprehension_free (use:=use) rfl hs (zjz fr) B.kind B.names (thn (hi pins s σ H _ I hw) fun v s1 h1=>thn h1 fun itv s2 h2=>?_)
 obtain⟨it,fp,tn,J,H2,e,I2,T,st2,f2,W,⟨m0,w0⟩,turn⟩:=h2
 subst e
 refine wpAny_newObj_type (wpAny_newFunctionEnv B.cell (by intro y hy;simp at hy) (fun h₁ hns₁ hsb₁=>?_) B.kind)
 dsimp only at hns₁ hsb₁ ⊢
 generalize hG:s2.heap.push { cls:=.type "list",dict:=none,data:=.seq ([]:List Value).toArray }=G at hns₁ hsb₁ ⊢
 have hC:G.objs.size=s2.heap.objs.size+1:=by rw[<- hG,Heap.size_push]
 have hDC:s2.heap.objs.size≠G.objs.size:=by rw[hC];exact ne_of_lt (lt_succ_self _)
 have hCle:s2.heap.objs.size<=G.objs.size:=by rw[hC];exact le_succ _
 have old:∀b o,s2.heap.get? b=some o->h₁.get? b=some o:=fun b o e =>
  hsb₁.extBut b o (ne_of_lt (lt_of_lt_of_le (Heap.lt_size e) hCle)) (Heap.get?_push_of_some _ (hG▸Heap.get?_push_of_some _ e))
 have hacc:h₁.get? s2.heap.objs.size=some (LCg.lst []):=hsb₁.extBut _ _ hDC (Heap.get?_push_of_some _ (hG▸Heap.get?_push_size _ rfl))
 have fpo:∀b∈fp,∃o,s2.heap.get? b=some o:=fun b hb=>let ⟨o,e,_⟩:=T.obj 0 _ st2 b hb;⟨o,e⟩
 have fpl:∀b∈fp,b<s2.heap.objs.size:=fun b hb=>let ⟨o,e⟩:=fpo b hb;Heap.lt_size e
 have clo:∀y c,(clOf scope X.env).lookup y=some c->X.env.cells.lookup y=some c:=fun y c e=>zho fr e
 have cls2:∀y c,X.env.cells.lookup y=some c->c<s2.heap.objs.size:=fun y c e=>let ⟨v,o,h1,_⟩:=I2.cell y c e;Heap.lt_size h1
 have st1:tn 0 h₁:=T.keep 0 _ _ st2 fun b _ o e=>old b o e
 have D_fs:s2.heap.objs.size∉frs X.stack:=I2.stkNe (ne_of_gt I2.lt) (I2.nofs (le_refl _))
 have C_fs:G.objs.size∉X.fs:=I2.nofs hCle
 have C_L:G.objs.size≠X.env.locals:=ne_of_gt (lt_of_lt_of_le I2.lt hCle)
 have fpY:∀{pl:List (Addr×Obj)} {H':Hp},(∀b∈fp,H' b=none)->(∀p∈pl,s2.heap.objs.size<=p.1)->∀b∈fp,zj1 (blk X (x::caps) scope G.objs.size fp s2 H2) pl H' b:=fun {pl H'} hn hp b hb =>
  ⟨hn b hb,ne_of_lt (lt_of_lt_of_le (fpl b hb) hCle),I2.stkNe (f2 b hb).2.1 (f2 b hb).2.2.1,.inl hb,fun y c h=>(f2 b hb).2.2.2.2.1 y c (clo y c h),fun p hp' z =>
   absurd (lt_of_lt_of_le (fpl b hb) (by rw[<- z];exact hp p (by simpa[blk] using hp'))) (lt_irrefl _)⟩
 have rel:∀{oC:Obj} {mC:Str->Option Value},LCg.NsObj oC mC->∀σ' H'' s',Inv X (pins++[(G.objs.size,oC)]) σ' H'' s'->(∃m,s'.heap.Ns G.objs.size m)/\∀h',Heap.SameBut G.objs.size s'.heap h'->Inv X pins σ' H'' { s' with heap:=h' }:=by
  intro oC mC hns σ' H'' s' I'
  obtain⟨e1,e2,e3,e4,e5⟩:=I'.pin (G.objs.size,oC) (mem_append_right _ (mem_append_right _ (by simp)))
  refine⟨⟨mC,hns.ns e1⟩,fun h' hs'=>?_⟩
  exact(I'.unpinned).turned (t':=s'.toks) (it:=G.objs.size) (fun b o hb e=>(hs'.2 b hb).trans e) e2 e3 (.inr (le_trans I2.sz hCle)) (fun y c h z=>absurd (lt_of_lt_of_le (cls2 y c h) (by rw[z];exact hCle)) (lt_irrefl _))
   (fun q hq z=>absurd (lt_of_lt_of_le (Heap.lt_size (I2.pin q hq).1) (by rw[z];exact hCle)) (lt_irrefl _))
 have I1:Inv (blk X (x::caps) scope G.objs.size fp s2 H2) [] (none::zjy js σ) H2 { s2 with heap:=h₁,toks:=s2.toks+([]:List (Str×Value)).length }:=zku B I2 f2 fpo hCle old hns₁
 have hxl:(blk X (x::caps) scope G.objs.size fp s2 H2).env.scope.names.lookup x=some .local:=lookup_relabel_local hx
 have pinD:∀{us:List Value} {σ3:St} {H3:Hp} {s3:Shared},Inv (blk X (x::caps) scope G.objs.size fp s2 H2) [] σ3 H3 s3->s3.heap.get? s2.heap.objs.size=some (LCg.lst us)->H3 s2.heap.objs.size=none ->
   Inv (blk X (x::caps) scope G.objs.size fp s2 H2) [(s2.heap.objs.size,LCg.lst us)] σ3 H3 s3:=fun {us σ3 H3 s3} I3 hD nD=>I3.pins_of fun p hp=>by
  have e:p=(s2.heap.objs.size,LCg.lst us):=by simpa using hp
  subst e
  exact⟨hD,nD,hDC,D_fs,fun v z=>by
   have z':Data.seq _ _=Data.cell v:=z
   cases z'⟩
 have back:∀{us us':List Value} {ts:Option V} {H8:Hp} {s5 s8:Shared} {h9:Heap} {i:Nat},Inv (blk X (x::caps) scope G.objs.size fp s2 H2) ([(s2.heap.objs.size,LCg.lst us)]++zfW fp s5.heap) (ts::zjy js σ) H8 s8->tn (i+1) s5.heap ->
   (∀b,b≠s2.heap.objs.size->h9.get? b=s8.heap.get? b)->h9.get? s2.heap.objs.size=some (LCg.lst us') ->
   Inv (blk X (x::caps) scope G.objs.size fp s2 H2) [] (none::zjy js σ) H8 { s8 with heap:=h9 }/\tn (i+1) h9/\(∀b∈fp,H8 b=none)/\H8 s2.heap.objs.size=none:=by
  intro us us' ts H8 s5 s8 h9 i I8 st5 hk hD9
  have pn:∀q∈[(s2.heap.objs.size,LCg.lst us)]++zfW fp s5.heap,s8.heap.get? q.1=some q.2/\H8 q.1=none:=fun q hq=>let z:=I8.pin q (mem_append_right _ hq);⟨z.1,z.2.1⟩
  have nD:H8 s2.heap.objs.size=none:=(pn (s2.heap.objs.size,LCg.lst us) (by simp)).2
  have Iw:Inv (blk X (x::caps) scope G.objs.size fp s2 H2) [] (none::zjy js σ) H8 s8:=(I8.pins_of (pins':=[]) fun q hq=>nomatch hq).weak rfl fun j v e=>by
   cases j with
   | zero =>
    have q:some (none:Option V)=some (some v):=e
    cases q
   | succ j=>exact e
  refine⟨Iw.turned (t':=s8.toks) (it:=s2.heap.objs.size) (fun b o hb e=>(hk b hb).trans e) nD hDC (.inr (le_refl _)) (fun y c h z=>absurd (cls2 y c (clo y c h)) (by rw[z];exact lt_irrefl _)) (fun q hq=>absurd (show q∈([]:List (Addr×Obj)) from hq) (by simp)),
   T.keep _ _ _ st5 fun b hb o e=>?_,fun b hb=>?_,nD⟩
  ·rw[hk b (ne_of_lt (fpl b hb))]
   exact(pn (b,o) (mem_append_right _ (zc6 hb e))).1
  ·obtain⟨o,e,_⟩:=T.obj _ _ st5 b hb
   exact(pn (b,o) (mem_append_right _ (zc6 hb e))).2
 have loop:codeAny (model X.prog X.w) X.A (.compLoop (.ListComp elt [⟨.Name x px,iter,ifs,0⟩] scope pos) 0 (.ref it) (.ref s2.heap.objs.size) (compEnvC scope (clOf scope X.env) G.objs.size X.env))
   (compPost (model X.prog X.w) X.A X.xe use Qf (.ref s2.heap.objs.size) G.objs.size) { s2 with heap:=h₁,toks:=s2.toks+([]:List (Str×Value)).length }:=by
  refine codeAny_compLoop_tests (fun n s'=>∃(i:Nat) (ys:List V) (us:List Value) (H':Hp),Inv (blk X (x::caps) scope G.objs.size fp s2 H2) [] (none::zjy js σ) H' s'/\tn i s'.heap/\(∀b∈fp,H' b=none) /\
   s'.heap.get? s2.heap.objs.size=some (LCg.lst us)/\Vals ys us/\H' s2.heap.objs.size=none/\ys.length<=sizeLine/\W i n ys H') ?_ m0 ⟨0,[],[],H2,I1,st1,fun b hb=>(f2 b hb).1,hacc,.nil,I2.hok.fresh (le_refl _),zero_le _,w0⟩
  rintro n s3 ⟨i,ys,us,H3,I3,st3,fr3,hD,rv,nD,hz,w3⟩
  have I3':=pinD I3 hD nD
  have hpl:∀p∈[(s2.heap.objs.size,LCg.lst us)],s2.heap.objs.size<=p.1:=fun p hp=>by
   have e:p=(s2.heap.objs.size,LCg.lst us):=by simpa using hp
   subst e
   exact le_refl _
  rcases turn i n ys H3 w3 with ⟨stop,q⟩|⟨go,hlt,N,hN,step⟩
  ·refine wpAny_mono (T.done (blk X (x::caps) scope G.objs.size fp s2 H2) rfl rfl rfl hc i _ s3 _ H3 (fun _ _=>False) I3' (fpY fr3 hpl) st3 stop) (fun r s4 hr=>?_) fun _ _ z=>z.elim
   obtain⟨hr,I4⟩:=hr
   subst hr
   have hD4:s4.heap.get? s2.heap.objs.size=some (LCg.lst us):=(I4.pin (s2.heap.objs.size,LCg.lst us) (mem_append_right _ (by simp))).1
   have un:Un (frs X.stack) fp H2 (upd H3 s2.heap.objs.size (.lst ys)) s2.heap s4.heap :=
    ⟨fun b o e n hb hx=>I4.base.keep b o e n hb hx,fun b o e n hb hx=>I4.base.slot b o e n hb hx,fun b o e n hx=>by rw[zaD (ne_of_lt (Heap.lt_size e))];exact I4.base.free b o e n hx,fun b o e hx=>I4.base.there b o e hx,
     fun b zs e=>by have q:=I4.base.tups b zs e;rw[zaD (zaC q nD)];exact q,fun b o u e=>by have q:=I4.base.frzs b o u e;rw[zaD (zaC q nD)];exact q,
     fun b ps e=>by obtain⟨more,q⟩:=I4.base.tbls b ps e;exact⟨more,by rw[zaD (zaC q nD)];exact q⟩⟩
   have hok4:HOk X.prog X.w (upd H3 s2.heap.objs.size (.lst ys)) s4.heap:=HOk.track I4.hok nD ⟨hz,us,us.length,rv,hD4⟩
   have IX:Inv X pins σ (upd H3 s2.heap.objs.size (.lst ys)) s4:=I2.call' (ch:=fp) I4.os un hok4 I4.bare fun b hb=>⟨(f2 b hb).2.2.2.1,(f2 b hb).2.1,(f2 b hb).2.2.2.2.1,(f2 b hb).2.2.2.2.2⟩
   obtain⟨mC,hnC,_⟩:=I4.loc
   obtain⟨oC,eC,nsC⟩:=LCg.ns_obj hnC
   have nC:(upd H3 s2.heap.objs.size (.lst ys)) G.objs.size=none:=by rw[zaD (Ne.symm hDC)];exact I4.free
   have dC:∀v,oC.data≠.cell v:=fun v z=>by
    obtain⟨es,ep,d,_⟩:=nsC
    rw[d] at z;cases z
   have IX':Inv X (pins++[(G.objs.size,oC)]) σ (upd H3 s2.heap.objs.size (.lst ys)) s4:=IX.pins_of fun q hq=>by
    rcases mem_append.mp hq with z|z
    ·exact IX.pin q (mem_append_right _ z)
    ·have e:q=(G.objs.size,oC):=by simpa using z
     subst e
     exact⟨eC,nC,C_L,C_fs,dC⟩
   exact fin G.objs.size s2.heap.objs.size oC ys H3 s4 IX' (q _ nD) (rel nsC)
  ·refine wpAny_mono (T.item (blk X (x::caps) scope G.objs.size fp s2 H2) rfl rfl rfl hc i _ s3 _ H3 (fun _ _=>False) I3' (fpY fr3 hpl) st3 go) (fun r s4 hr=>?_) fun _ _ z=>z.elim
   obtain⟨u,hr,h4⟩:=hr
   subst hr
   show wpAny _ _ (assign _ _ u) _ _ s4
   refine zmw h4 fun h5=>?_
   obtain⟨xv,H5,I5,r5,y5,st5,fr5⟩:=h5
   have I5':=I5.pinned (fpY fr5 hpl) (T.obj _ _ st5)
   refine wpAny_mono (zh3 (X:=blk X (x::caps) scope G.objs.size fp s2 H2) (i:=0) (x:=x) B.nd rfl (Or.inl hxl) (.inr hxl) _ s4 _ H5 xv u (fun σ' H'=>σ'=some xv::zjy js σ/\H'=H5) I5' r5 ⟨rfl,rfl⟩) (fun _ s6 h6=>?_) fun _ _ z=>False.elim z
   obtain⟨σ6,H6,I6,e6,e6'⟩:=h6
   subst e6 e6'
   refine wpAny_mono (ht _ _ _ _ _ s6 _ _ _ I6 (step xv _ y5)) (fun b s7 h7=>?_) fun _ _ z=>False.elim z
   obtain⟨H7,I7,q7⟩:=h7
   cases b with
   | false =>
    rw[if_neg Bool.false_ne_true] at q7
    show if false=true then _ else _
    rw[if_neg Bool.false_ne_true]
    have hD7:s7.heap.get? s2.heap.objs.size=some (LCg.lst us):=(I7.pin (s2.heap.objs.size,LCg.lst us) (mem_append_right _ (mem_append_left _ (by simp)))).1
    obtain⟨J1,J2,J3,J4⟩:=back I7 st5 (fun _ _=>rfl) hD7
    obtain⟨m',hm,w'⟩:=hN _ _ q7
    exact⟨m',hm,i+1,ys,us,H7,J1,J2,J3,hD7,rv,J4,hz,w'⟩
   | true =>
    rw[if_pos rfl] at q7
    show if true=true then _ else _
    rw[if_pos rfl]
    refine wpAny_mono (he _ _ _ _ _ s7 _ _ _ I7 q7) (fun yu s8 h8=>?_) fun _ _ z=>False.elim z
    obtain⟨yv,H8,I8,r8,q8⟩:=h8
    have hD8:s8.heap.get? s2.heap.objs.size=some (LCg.lst us):=(I8.pin (s2.heap.objs.size,LCg.lst us) (mem_append_right _ (mem_append_left _ (by simp)))).1
    have hlu:us.length=ys.length:=rv.length.symm
    refine append_at hD8 (fun h9 hs9 hD9=>?_) (by rw[size_toArray,hlu];exact hz)
    have hD9':h9.get? s2.heap.objs.size=some (LCg.lst (us++[yu])):=hD9.trans (congrArg some (LCg.lst_snoc us yu))
    obtain⟨J1,J2,J3,J4⟩:=back I8 st5 hs9.2 hD9'
    obtain⟨m',hm,w'⟩:=hN _ _ q8
    exact⟨m',hm,i+1,ys++[yv],us++[yu],H8,J1,J2,J3,hD9',rv.append (.cons r8 .nil),J4,by rw[length_append,length_singleton];exact hlt,w'⟩
 exact codeAny_compStart_list loop (T.self X.A 0 _ _ _ st1 loop)
theorem zta(B:BlkS X.N X.env.scope js (x::caps) scope)(hc:X.calm=true)(hx:scope.names.lookup x=some .local)(hi:PI X (.Name x px) iter wi)(ht:∀C fp s₀ H₀,PIfs (blk X (x::caps) scope C fp s₀ H₀) ifs tt)(he:∀C fp s₀ H₀,PE (blk X (x::caps) scope C fp s₀ H₀) elt te)(hs:∀v,foldedSetIterable iter X.env v=pure v:=by intro _;rfl):PE X (.ListComp elt [⟨.Name x px,iter,ifs,0⟩] scope pos) (tLC js wi tt te):=by
 intro pins s σ H Q I hw
 rw[eval_ListComp]
 refine zkv (use:=none) (Q:=Q) B hc hx hi ht he hs I hw fun C D oC ys H' s1 IX q rel=>?_
 obtain⟨⟨m,hn⟩,rl⟩:=rel _ _ _ IX
 exact⟨m,hn,fun h' hs'=>⟨.ref D,_,rl h' hs',rfl,q⟩⟩
theorem ztb{y:Str}{py spos:Pos}{k:Nat}(B:BlkS X.N X.env.scope js (x::caps) scope)(hc:X.calm=true)(hx:scope.names.lookup x=some .local)(hi:PI X (.Name x px) iter wi)(ht:∀C fp s₀ H₀,PIfs (blk X (x::caps) scope C fp s₀ H₀) ifs tt)(he:∀C fp s₀ H₀,PE (blk X (x::caps) scope C fp s₀ H₀) elt te)(hN:X.N.Nodup)(hk:X.N[k]?=some y)(hy:X.env.scope.names.lookup y=some .local)(hsw:swapsWith (.ListComp elt [⟨.Name x px,iter,ifs,0⟩] scope pos) (some (.Name y py)) spos.line X.env=pure true)(hs:∀v,foldedSetIterable iter X.env v=pure v:=by intro _;rfl):PS X (.Assign [.Name y py] (.ListComp elt [⟨.Name x px,iter,ifs,0⟩] scope pos) spos) (zsP (tLC js wi tt te) (gName k)):=by
 intro pins s σ H D I hw
 rw[exec_Assign_Name_used _ _ _ _ hsw]
 refine wpAny_bind (wpAny_standAt (wpAny_bind ?_))
 show wpAny _ _ (do let _ <- comprehension (.ListComp elt [⟨.Name x px,iter,ifs,0⟩] scope pos) scope X.env _ (newList []) false (eval iter X.env) (some (assign (.Name y py) X.env))) _ _ s
 refine wpAny_bind (thn (zkv (use:=some (assign (.Name y py) X.env)) (Qf:=fun _ s'=>SP X pins D .next s') (Q:=fun v H1=>D.nx (σ.set k (some v)) H1) B hc hx hi ht he hs I hw fun C a oC ys H' s1 IX q rel=>?_) fun _ s' hq=>wpAny_pure (wpAny_pure hq))
 show wpAny _ _ (assign (.Name y py) X.env (.ref a)) _ _ s1
 refine thn (zh3 (i:=k) hN hk (Or.inl hy) (.inr hy) _ s1 σ _ (.ref a) (.ref a) (fun σ' H'=>D.nx σ' H') IX rfl q) fun _ s' h=>?_
 obtain⟨σ',H'',I',q'⟩:=h
 obtain⟨⟨m,hn⟩,rl⟩:=rel _ _ _ I'
 exact⟨m,hn,fun h' hs'=>⟨σ',H'',rl h' hs',q'⟩⟩
end
section
variable {X:Cx} {p pos:Pos}
def ztc(K:PySem.W.Frag):List V->Hp->VK->Prop:=fun xs H Q=>∃x T t b,xs=[x,.ty T]/\TyOf K H x t/\PySem.W.kitOne K t (.type T)=some b/\Q (.bl b) H
theorem zmx:CallR X (.builtin "isinstance") (ztc X.K):=by
 intro pins s σ H xs us Q I r h
 obtain⟨x,T,t,b,rfl,ty,e,q⟩:=h
 obtain⟨u,w',rfl,rx,ry⟩:=zsY r
 cases ry
 exact zkk I rx ty e fun tk=>⟨.bl b,H,I.tok tk,rfl,q⟩
theorem zmy(hc:X.calm=true):CallR X (.builtin "all") (fun xs H Q=>∃(a:Addr) (bs:List Bool),xs=[.ref a]/\SqL X.K H a (bs.map V.bl)/\Q (.bl (bs.all id)) H):=by
 intro pins s σ H xs us Q I r h
 obtain⟨a,bs,rfl,hq,q⟩:=h
 obtain⟨u,rfl,rx⟩:=zeG r
 cases rx
 obtain⟨its,rv,pl,hz⟩:=I.list hq
 have hlt:a<s.heap.objs.size:=by obtain⟨o,n,e,_⟩:=pl;exact Heap.lt_size e
 have hlen:bs.length=its.length:=by have:=rv.length;simpa using this
 have hh:X.A.in1.handled=none:=I.ok.hd hc
 refine call_all_walk (wpAny_pyIter_list pl.isList ?_)
 have tr:TruthOf X.prog X.w X.A.in1 (fun i v=>its.toArray[i]?=some v) (fun i=>bs.getD i true):=by
  intro i v s' Q' E' hv hQ
  have hv':its[i]?=some v:=by simpa using hv
  have hi:i<its.length:=(List.getElem?_eq_some_iff.mp hv').1
  have hb:bs[i]?=some bs[i]:=by simp[hlen,hi]
  obtain⟨u,hu,ru⟩:=rv.get (i:=i) (x:=V.bl (bs[i]'(by omega))) (by rw[getElem?_map,hb];rfl)
  rw[hv'] at hu
  cases hu
  cases (show v=Value.bool (bs[i]'(by omega)) from ru)
  have e:bs.getD i true=bs[i]'(by omega):=by rw[getD_eq_getElem?_getD,hb];rfl
  have hQ':Q' (bs.getD i true) s':=hQ
  rw[e] at hQ'
  exact wpAny_truthy_bool hQ'
 refine⟨s.heap.objs.size,_,_,its.toArray.size,_,_,fun i=>bs.getD i true,rfl,Walks.list hh s.heap.objs.size a (ne_of_lt hlt) its.toArray,⟨⟨_,Heap.get?_push_size _ rfl,rfl,rfl⟩,pl.isList.push _⟩,tr,fun h' tk hk=>?_⟩
 have I1:Inv X pins σ H { s with heap:=h',toks:=tk }:=I.kept fun b o e=>hk b o (by simpa using ne_of_lt (Heap.lt_size e)) (Heap.get?_push_of_some _ e)
 refine⟨.bl _,H,I1,rfl,?_⟩
 have e:(List.range its.toArray.size).all (fun i=>bs.getD i true)=bs.all id:=by
  rw[size_toArray,<- hlen]
  rw[Bool.eq_iff_iff,all_eq_true,all_eq_true]
  constructor
  ·intro z b hb
   obtain⟨i,hi,rfl⟩:=mem_iff_getElem.mp hb
   have:=z i (mem_range.mpr hi)
   rw[getD_eq_getElem?_getD] at this
   simpa[hi] using this
  ·intro z i hi
   have hi':=mem_range.mp hi
   have:=z (bs[i]) (getElem_mem hi')
   rw[getD_eq_getElem?_getD]
   simpa[hi'] using this
 rw[e]
 exact q
theorem zh5:CallR X (.builtin "sorted") (fun xs H Q=>∃(a:Addr) (ns:List Int),xs=[.ref a]/\SqL X.K H a (ns.map V.int)/\ns.length<64/\∀ms:List Int,ms.Perm ns->ms.Pairwise (·<=·)->∀l,H l=none->Q (.ref l) (upd H l (.lst (ms.map V.int)))):=by
 intro pins s σ H xs us Q I r h
 obtain⟨a,ns,rfl,hq,h64,q⟩:=h
 obtain⟨u,rfl,rx⟩:=zeG r
 cases rx
 obtain⟨its,rv,pl,hz⟩:=I.list hq
 have hlen:ns.length=its.length:=by have:=rv.length;simpa using this
 refine sorted_ints pl.isList (zb5 rv) (by omega) fun out ms hI hp hs=>?_
 obtain⟨e,he⟩:=sortedAll_at s.heap its out
 have rv':Vals (ms.map V.int) out.toList:=zcG hI
 have hl':ms.length=ns.length:=hp.length_eq
 refine⟨.ref (s.heap.objs.size+1),_,I.laid (t':=s.toks) (a:=s.heap.objs.size+1) (o:=.lst (ms.map V.int)) (fun b o e=>sortedAll_old e) (le_succ _) ?_,rfl,q ms hp hs _ (I.hok.fresh (le_succ _))⟩
 refine⟨by rw[length_map,hl',hlen];have:=rv.length;omega,out.toList,e,rv',?_⟩
 rw[toArray_toList]
 exact he
end
abbrev Rep(α:Type):=PySem.W.Frag->Hp->V->α->Prop
def zvi:Rep Int:=fun _ _ v i=>v=.int i
def zvj{α:Type}(R:Rep α):Rep (List α):=fun K H v l=>∃p vs,v=.ref p/\SqL K H p vs/\Paired (R K H) vs l
def rPr{α β:Type}(R:Rep α)(S:Rep β):Rep (α×β):=fun K H v l=>∃p x y,v=.ref p/\SqT K H p [x,y]/\R K H x l.1/\S K H y l.2
theorem Paired.at2{α β:Type}{F:α->β->Prop}:∀{l₁:List α} {l₂:List β},Paired F l₁ l₂->∀(i:Nat) (a:α),l₁[i]?=some a->∃b,l₂[i]?=some b/\F a b
 | _,_,.nil,_,_,h=>by simp at h
 | _,_,.cons r t,0,a,h=>by simp at h;subst h;exact⟨_,rfl,r⟩
 | _,_,.cons r t,i+1,a,h=>by
  obtain⟨b,h1,h2⟩:=Paired.at2 t i a (by simpa using h)
  exact⟨b,by simpa using h1,h2⟩
section
variable {α β:Type} [DecidableEq α] [DecidableEq β] {n:Nat} {R:Rep α} {S:Rep β} {X:Cx} {pins:List (Addr×Obj)} {σ:St} {H:Hp} {s:Shared} {A:Around}
end
section
variable {α β:Type} [DecidableEq α] [DecidableEq β] {n:Nat} {R:Rep α} {S:Rep β}
end
section
variable {α:Type} [DecidableEq α] {n:Nat} {R:Rep α} {X:Cx}
end
section
variable {α β:Type} [DecidableEq α] [DecidableEq β] {n:Nat} {R:Rep α} {S:Rep β}
end
section
variable {X:Cx} {st:Stmt} {rest:List Stmt} {t u:TS} {e:Expr} {te:TE} {tt:TT}
end
def zq8(N:List Str)(psc:Scope)(js:List Nat)(N':List Str)(scope:Scope):Bool :=
 scope.names.all (fun y=>decide (y.2≠.cell))&&decide (scope.kind=.function)&&scope.names.all (fun y=>decide (y.2=.local->scope.names.lookup y.1=some .local)) &&
 scope.names.all (fun y=>decide (y.2=.free->psc.names.lookup y.1=some .cell\/psc.names.lookup y.1=some .free))&&decide N'.Nodup&&decide (N'.length=js.length+1) &&
 (js.zip (N'.drop 1)).all (fun p=>decide (N[p.1]?=some p.2/\scope.names.lookup p.2=some .free))
theorem zbm{N:List Str}{psc:Scope}{js:List Nat}{N':List Str}{scope:Scope}(h:zq8 N psc js N' scope=true):BlkS N psc js N' scope:=by
 unfold zq8 at h
 simp only[and_eq_true,all_eq_true,decide_eq_true_eq] at h
 obtain⟨⟨⟨⟨⟨⟨h1,h2⟩,h3⟩,h4⟩,h5⟩,h6⟩,h7⟩:=h
 exact⟨h1,h2,h3,h4,h5,h6,h7⟩
theorem Room.cmp{k:Nat}{A:Around}(r:Room k A)(n:Nat)(h:n<=64:=by decide):A.units+n<cLine:=by have:=r.units;omega
theorem Paired.app{α β:Type}{F:α->β->Prop}:∀{l₁ m₁:List α} {l₂ m₂:List β},Paired F l₁ l₂->Paired F m₁ m₂->Paired F (l₁++m₁) (l₂++m₂)
 | _,_,_,_,.nil,s=>s
 | _,_,_,_,.cons r t,s=>.cons r (Paired.app t s)
def pr(H:Hp)(v:V)(l:Int×Int):Prop:=∃q,v=.ref q/\H q=some (.tup [.int l.1,.int l.2])
def Lns(H:Hp)(p:Addr)(L:List (Int×Int)):Prop:=∃vs,H p=some (.lst vs)/\Paired (pr H) vs L
def ztd(H:Hp)(v:V)(r:List Int):Prop:=∃q,v=.ref q/\H q=some (.tup (r.map V.int))
def zt8(H:Hp)(v:V)(rows:List (List Int)):Prop:=∃q vs,v=.ref q/\H q=some (.tup vs)/\Paired (ztd H) vs rows
section
variable {X:Cx} (K:PySem.W.Frag)
theorem ixL(hK:X.K=K:=by rfl):IxR X (zs5 K):=hK▸zoV
theorem ixT(hK:X.K=K:=by rfl):IxR X (zs6 K):=hK▸zq4
theorem zsu(hK:X.K=K:=by rfl):CallR X (.builtin "isinstance") (ztc K):=hK▸zmx
def zt9(K:PySem.W.Frag):List V->Hp->VK->Prop:=fun xs H Q=>∃(a:Addr) (bs:List Bool),xs=[.ref a]/\SqL K H a (bs.map V.bl)/\Q (.bl (bs.all id)) H
theorem zua(hc:X.calm=true:=by rfl)(hK:X.K=K:=by rfl):CallR X (.builtin "all") (zt9 K):=hK▸zmy hc
def zoY(K:PySem.W.Frag):List V->Hp->VK->Prop:=fun xs H Q=>∃(a:Addr) (ns:List Int),xs=[.ref a]/\SqL K H a (ns.map V.int)/\ns.length<64/\∀ms:List Int,ms.Perm ns->ms.Pairwise (·<=·)->∀l,H l=none->Q (.ref l) (upd H l (.lst (ms.map V.int)))
def zoZ(K:PySem.W.Frag):List V->Hp->VK->Prop:=fun xs H Q=>∃p ys,xs=[.ref p]/\(SqL K H p ys\/SqT K H p ys)/\∀l,H l=none->Q (.ref l) (upd H l (.lst ys))
def znX(K:PySem.W.Frag):List V->Hp->VK->Prop:=fun xs H Q=>∃p ys,xs=[.ref p]/\((SqL K H p ys/\∀l,H l=none->Q (.ref l) (upd H l (.tup ys)))\/(SqT K H p ys/\Q (.ref p) H))
theorem ze2(hK:X.K=K:=by rfl):CallR X (.type "tuple") (znX K):=hK▸zgo
theorem slL(hK:X.K=K:=by rfl):SlR X (zt5 K):=hK▸zoW
variable {tg l a:Expr} {tl ta:TE}
def zuY(K:PySem.W.Frag)(ta:TE):TT:=fun σ H Q=>ta σ H fun x H'=>∃k,zst K x H' k/\Q k H'
theorem zte(ha:PE X a ta)(he:∀whole,isTrue a X.env whole=(do let v <- whole;standAt a.pos;holding [v] (truthy v)))(hK:X.K=K:=by rfl):PT X a (zuY K ta):=hK▸zmj ha he
variable {α:Type} [DecidableEq α] {n:Nat} {R:Rep α}
end
section
variable {κ:Type} [DecidableEq κ]
def zjA(kvs:List (κ×V))(k:κ):Option V:=(kvs.find? fun kv=>decide (kv.1=k)).map (·.2)
def zhc(kvs:List (κ×V))(k:κ)(v:V):List (κ×V) :=
 if (kvs.any fun kv=>decide (kv.1=k))=true then kvs.map (fun kv=>if kv.1=k then (kv.1,v) else kv) else kvs++[(k,v)]
def zuZ(kvs:List (κ×V))(k:κ):List (κ×V):=kvs.filter fun kv=>decide (kv.1≠k)
theorem zeN{p:κ×V}{r:List (κ×V)}{k:κ}(e:p.1=k):zjA (p::r) k=some p.2:=by simp[zjA,find?_cons,e]
theorem zeO{p:κ×V}{r:List (κ×V)}{k:κ}(e:¬p.1=k):zjA (p::r) k=zjA r k:=by simp[zjA,find?_cons,e]
theorem ziO(k:κ):∀kvs:List (κ×V),(kvs.any fun kv=>decide (kv.1=k))=(zjA kvs k).isSome
 | []=>rfl
 | p::r=>by
  rw[any_cons]
  by_cases e:p.1=k
  ·simp only[zeN e,decide_eq_true e,Bool.true_or,isSome_some]
  ·rw[zeO e,decide_eq_false e,Bool.false_or];exact ziO k r
theorem zds(kvs:List (κ×V))(k:κ)(v:V):(zhc kvs k v).length<=kvs.length+1:=by
 unfold zhc
 split
 ·rw[length_map];omega
 ·rw[length_append,length_cons,length_nil];omega
theorem RelO.isSome_eq{o:Option V}{u:Option Value}(r:RelO o u):o.isSome=u.isSome:=by
 cases o with
 | none=>cases u with
  | none=>rfl
  | some _=>exact(show False from r).elim
 | some _=>cases u with
  | none=>exact(show False from r).elim
  | some _=>rfl
theorem KV.val{kvs:List (κ×V)}{vs:List (κ×Value)}(r:KV kvs vs)(k:κ):RelO (zjA kvs k) (valueAt vs k):=by
 unfold KV at r
 induction r with
 | nil=>exact True.intro
 | @cons p q ps qs h t ih =>
  obtain⟨h1,h2⟩:=h
  by_cases e:p.1=k
  ·have e':q.1=k:=h1.symm.trans e
   have b:valueAt (q::qs) k=some q.2:=by simp[valueAt,find?_cons,e']
   rw[zeN e,b];exact h2
  ·have e':¬q.1=k:=fun z=>e (h1.trans z)
   have b:valueAt (q::qs) k=valueAt qs k:=by simp[valueAt,find?_cons,e']
   rw[zeO e,b];exact ih
theorem KV.any{kvs:List (κ×V)}{vs:List (κ×Value)}(r:KV kvs vs)(k:κ):(kvs.any fun kv=>decide (kv.1=k))=vs.any fun kv=>decide (kv.1=k):=by
 unfold KV at r
 induction r with
 | nil=>rfl
 | cons h t ih=>rw[any_cons,any_cons,ih,h.1]
theorem KV.repl{kvs:List (κ×V)}{vs:List (κ×Value)}(r:KV kvs vs)(k:κ){y:V}{u:Value}(ry:RelV y u) :
  KV (kvs.map fun kv=>if kv.1=k then (kv.1,y) else kv) (vs.map fun kv=>if kv.1=k then (kv.1,u) else kv):=by
 unfold KV at r ⊢
 induction r with
 | nil=>exact .nil
 | @cons p q ps qs h t ih =>
  rw[map_cons,map_cons]
  refine .cons ?_ ih
  obtain⟨h1,h2⟩:=h
  by_cases e:p.1=k
  ·rw[if_pos e,if_pos (h1.symm.trans e)];exact⟨h1,ry⟩
  ·rw[if_neg e,if_neg (fun z=>e (h1.trans z))];exact⟨h1,h2⟩
theorem KV.put{kvs:List (κ×V)}{vs:List (κ×Value)}(r:KV kvs vs)(k:κ){y:V}{u:Value}(ry:RelV y u):KV (zhc kvs k y) (stored vs k u):=by
 unfold zhc stored
 rw[r.any k]
 by_cases e:(vs.any fun kv=>decide (kv.1=k))=true
 ·rw[if_pos e,if_pos e];exact r.repl k ry
 ·rw[if_neg e,if_neg e];exact Paired.snoc r ⟨rfl,ry⟩
theorem KV.keys{kvs:List (κ×V)}{vs:List (κ×Value)}(r:KV kvs vs):kvs.map (·.1)=vs.map (·.1):=by
 unfold KV at r
 induction r with
 | nil=>rfl
 | cons h t ih=>rw[map_cons,map_cons,ih,h.1]
theorem KV.length{kvs:List (κ×V)}{vs:List (κ×Value)}(r:KV kvs vs):kvs.length=vs.length:=Paired.length r
end
theorem kV_is{P:Program}{w:World}{k:Key}{u:Value}(r:RelV (kV k) u):(zaN P w).is k u=true:=by
 cases k with
 | inl i=>obtain⟨t,e⟩:=(show ∃t,u=Value.int i t from r);subst e;exact zh1 P w i t
 | inr x=>obtain⟨t,e⟩:=(show ∃t,u=Value.str x t from r);subst e;exact zh2 P w x t
theorem zhp{P:Program}{w:World}:∀{ks:List Key} {us:List Value},Vals (ks.map kV) us->ItemsAre (zaN P w) ks us
 | [],_,r=>by rw[map_nil] at r;cases r;exact .nil
 | k::ks,_,r=>by
  rw[map_cons] at r
  cases r with
  | cons h t=>exact .cons (kV_is h) (zhp t)
abbrev KT(H:Hp):List (List Key×V)->List (List Key×Addr×Value)->Prop:=Paired fun p q=>p.1=q.1/\H q.2.1=some (.tup (p.1.map kV))/\RelV p.2 q.2.2
theorem KT.val{H:Hp}{kvs:List (List Key×V)}{xs:List (List Key×Addr×Value)}(r:KT H kvs xs)(k:List Key):RelO (zjA kvs k) ((atKey xs k).map (·.2)):=by
 induction r with
 | nil=>exact True.intro
 | @cons p q ps qs h t ih =>
  obtain⟨h1,_,h2⟩:=h
  by_cases e:p.1=k
  ·have e':q.1=k:=h1.symm.trans e
   have b:atKey (q::qs) k=some q.2:=by simp[atKey,find?_cons,e']
   rw[zeN e,b];exact h2
  ·have e':¬q.1=k:=fun z=>e (h1.trans z)
   have b:atKey (q::qs) k=atKey qs k:=by simp[atKey,find?_cons,e']
   rw[zeO e,b];exact ih
theorem KT.repl{H:Hp}{kvs:List (List Key×V)}{xs:List (List Key×Addr×Value)}(r:KT H kvs xs)(k:List Key){y:V}{u:Value}(ry:RelV y u) :
  KT H (kvs.map fun kv=>if kv.1=k then (kv.1,y) else kv) (xs.map (putAt k u)):=by
 induction r with
 | nil=>exact .nil
 | @cons p q ps qs h t ih =>
  rw[map_cons,map_cons]
  refine .cons ?_ ih
  obtain⟨h1,h2,h3⟩:=h
  unfold putAt
  by_cases e:p.1=k
  ·rw[if_pos e,if_pos (h1.symm.trans e)];exact⟨h1,h2,ry⟩
  ·rw[if_neg e,if_neg (fun z=>e (h1.trans z))];exact⟨h1,h2,h3⟩
theorem KT.put{H:Hp}{kvs:List (List Key×V)}{xs:List (List Key×Addr×Value)}(r:KT H kvs xs)(k:List Key){b:Addr}{y:V}{u:Value}(hb:H b=some (.tup (k.map kV)))(ry:RelV y u) :
  KT H (zhc kvs k y) (storedH xs k b u):=by
 have e:(kvs.any fun kv=>decide (kv.1=k))=(atKey xs k).isSome:=by
  rw[ziO,(r.val k).isSome_eq,isSome_map]
 unfold zhc storedH
 rw[e]
 by_cases q:(atKey xs k).isSome=true
 ·rw[if_pos q,if_pos q];exact r.repl k ry
 ·rw[if_neg q,if_neg q];exact Paired.snoc r ⟨rfl,hb,ry⟩
theorem KT.keeps{H H':Hp}{kvs:List (List Key×V)}{xs:List (List Key×Addr×Value)}(r:KT H kvs xs)(ht:∀b ys,H b=some (.tup ys)->H' b=some (.tup ys)):KT H' kvs xs :=
 Paired.mapP r fun _ _ z=>⟨z.1,ht _ _ z.2.1,z.2.2⟩
section
variable {P:Program} {w:World} {H:Hp} {h:Heap} {a:Addr}
theorem zq9{u:HO}(ok:HOk P w H h)(e:Rd H a u):ObjOk P w H h a u:=e.ok ok
theorem zkw{kvs:List (Key×V)}(ok:HOk P w H h)(e:Rd H a (.dK kvs)):kvs.length<=sizeLine/\(a==sysModules)=false/\∃vs,KV kvs vs/\h.DictOf (zaN P w) a vs :=
 show ObjOk P w H h a (.dK kvs) from zq9 ok e
theorem zra{kvs:List (Key×V)}(ok:HOk P w H h)(e:H a=some (.dK kvs)):kvs.length<=sizeLine/\(a==sysModules)=false/\∃vs,KV kvs vs/\h.DictOf (zaN P w) a vs:=zkw ok (.inl e)
theorem zkx{ks:List Key}(ok:HOk P w H h)(e:H a=some (.tup (ks.map kV))):(tupleKind (zaN P w)).is h ks a:=by
 obtain⟨_,its,r,o,h1,h2,⟨n,h3⟩,_⟩:=(show ObjOk P w H h a (.tup (ks.map kV)) from ok a _ e)
 exact⟨o,its.toArray,n,h1,h2,h3,by simpa using zhp r⟩
theorem zrb{kvs:List (List Key×V)}(ok:HOk P w H h)(e:Rd H a (.dT kvs)):kvs.length<=sizeLine/\(a==sysModules)=false /\
  ∃xs,KT H kvs xs/\h.DictOfH (tupleKind (zaN P w)) a xs:=by
 obtain⟨z,y,xs,r,o,es,ep,h1,h2,h3,h4,h5⟩:=(show ObjOk P w H h a (.dT kvs) from zq9 ok e)
 refine⟨z,y,xs,r,o,es,ep,h1,h2,h3,h4,fun x hx=>?_,h5⟩
 have all:∀{l:List (List Key×V)} {m:List (List Key×Addr×Value)},KT H l m->∀x∈m,(tupleKind (zaN P w)).is h x.1 x.2.1:=by
  intro l m q
  induction q with
  | nil=>intro x hx;exact nomatch hx
  | @cons p q ps qs hq t ih =>
   intro x hx
   rcases mem_cons.mp hx with e|hx
   ·subst e
    exact zkx ok (by rw[<- hq.1];exact hq.2.1)
   ·exact ih x hx
 exact all r x hx
theorem ztf{kvs:List (List Key×V)}(ok:HOk P w H h)(e:H a=some (.dT kvs)):kvs.length<=sizeLine/\(a==sysModules)=false /\
  ∃xs,KT H kvs xs/\h.DictOfH (tupleKind (zaN P w)) a xs:=zrb ok (.inl e)
end
def DGet(H:Hp)(a:Addr)(y:V)(r:Option V):Prop :=
 (∃kvs k,Rd H a (.dK kvs)/\y=kV k/\r=zjA kvs k)\/∃kvs k b,Rd H a (.dT kvs)/\y=.ref b/\H b=some (.tup (k.map kV))/\r=zjA kvs k
def DPut(H:Hp)(a:Addr)(y v:V)(H':Hp):Prop :=
 (∃kvs k,H a=some (.dK kvs)/\y=kV k/\kvs.length<sizeLine/\H'=upd H a (.dK (zhc kvs k v))) \/
 ∃kvs k b,H a=some (.dT kvs)/\y=.ref b/\H b=some (.tup (k.map kV))/\kvs.length<sizeLine/\H'=upd H a (.dT (zhc kvs k v))
theorem DGet.k{H:Hp}{a:Addr}{kvs:List (Key×V)}{k:Key}(e:H a=some (.dK kvs)):DGet H a (kV k) (zjA kvs k):=.inl ⟨kvs,k,.inl e,rfl,rfl⟩
theorem DPut.k{H:Hp}{a:Addr}{kvs:List (Key×V)}{k:Key}{v:V}(e:H a=some (.dK kvs))(hl:kvs.length<sizeLine):DPut H a (kV k) v (upd H a (.dK (zhc kvs k v))):=.inl ⟨kvs,k,e,rfl,hl,rfl⟩
section
variable {X:Cx} {pins:List (Addr×Obj)} {σ:St} {H:Hp} {s:Shared} {a:Addr} {y v:V} {u r:Value} {o:Option V} {A:Around} {E:Value->Shared->Prop}
theorem Inv.big(I:Inv X pins σ H s):sysModules<s.heap.objs.size:=by
 have h:mainGlobals<s.heap.objs.size:=(I.mod.glob.keeps I.bk).lt
 exact lt_trans (by decide) h
theorem zo0{Q:Value->Shared->Prop}(hu:A.units+1<cLine)(I:Inv X pins σ H s)(g:DGet H a y o)(ry:RelV y u)(h:∀s',Inv X pins σ H s'->Q (.bool (!o.isSome)) s') :
  wpAny (model X.prog X.w) A (compareOp .NotIn u (.ref a)) Q E s:=by
 rcases g with ⟨kvs,k,e,ey,l⟩|⟨kvs,k,b,e,ey,eb,l⟩
 ·subst ey
  obtain⟨z,hd,vs,rel,dd⟩:=zkw I.hok e
  refine wpAny_notIn_of (kV_is ry) hd dd.mapOf ?_
  rw[<- (rel.val k).isSome_eq,<- l]
  exact h _ (I.tok _)
 ·subst ey
  cases (show u=Value.ref b from ry)
  obtain⟨z,hd,xs,rel,dd⟩:=zrb I.hok e
  refine wpAny_notIn_heap (tupleKind_room_in1 hu) (zkx I.hok eb) hd dd ?_
  have q:=(rel.val k).isSome_eq
  rw[isSome_map] at q
  rw[<- q,<- l]
  exact h _ (I.tok _)
theorem zh6{h':Heap}{t':Nat}{ob:HO}(I:Inv X pins σ H s)(mu:Mut (H a))(hs:Heap.SameBut a s.heap h')(he:∃q,h'.get? a=some q)(new:ObjOk X.prog X.w (upd H a ob) h' a ob) :
  Inv X pins σ (upd H a ob) { s with heap:=h',toks:=t' } :=
 I.write (x:=a) (e:=a) mu (.inl rfl) (fun b q hb z=>(hs.2 b hb).trans z) he new
theorem znY{P:Program}{w:World}{H':Hp}{h':Heap}{kvs:List (Key×V)}{vs:List (Key×Value)}(z:kvs.length<=sizeLine)(hd:(a==sysModules)=false)(rel:KV kvs vs)(dd:h'.DictOf (zaN P w) a vs) :
  ObjOk P w H' h' a (.dK kvs):=⟨z,hd,vs,rel,dd⟩
theorem zky{H':Hp}{Q:Unit->Shared->Prop}(hu:A.units+1<cLine)(I:Inv X pins σ H s)(g:DPut H a y v H')(ry:RelV y u)(rv:RelV v r)(h:∀s',Inv X pins σ H' s'->Q () s') :
  wpAny (model X.prog X.w) A (setItem (.ref a) u r) Q E s:=by
 rcases g with ⟨kvs,k,e,ey,l,eH⟩|⟨kvs,k,b,e,ey,eb,l,eH⟩
 ·subst ey eH
  obtain⟨z,hd,vs,rel,dd⟩:=zra I.hok e
  have hz:vs.length<=sizeLine:=by rw[<- rel.length];exact z
  have hl:(zhc kvs k v).length<=sizeLine:=by have:=zds kvs k v;omega
  refine wpAny_setItem_pairs (hsz:=hz) (kV_is ry) dd fun h' dd' hs=>h _ ?_
  have he:∃q,h'.get? a=some q:=let ⟨q,_,_,hq,_⟩:=dd';⟨q,hq⟩
  exact zh6 I (by rw[e];exact True.intro) hs he (znY hl hd (rel.put k rv) dd')
 ·subst ey eH
  cases (show u=Value.ref b from ry)
  obtain⟨z,hd,xs,rel,dd⟩:=ztf I.hok e
  have hz:xs.length<=sizeLine:=by rw[<- Paired.length rel];exact z
  have hl:(zhc kvs k v).length<=sizeLine:=by have:=zds kvs k v;omega
  refine wpAny_setItem_heap (hsz:=hz) (tupleKind_room_in1 hu) (zkx I.hok eb) dd fun h' dd' hs=>h _ ?_
  obtain⟨q,es,ep,hq,h2,h3,h4,_,h5⟩:=dd'
  refine zh6 I (by rw[e];exact True.intro) hs ⟨q,hq⟩ ⟨hl,hd,_,(rel.put k eb rv).keeps fun c ys ec=>?_,q,es,ep,hq,h2,h3,h4,h5⟩
  rw[zaD (zsD ec e (fun z=>nomatch z))]
  exact ec
end
section
variable {X:Cx} {pins:List (Addr×Obj)} {σ:St} {H:Hp} {s:Shared} {a:Addr} {kvs:List (Key×V)} {k:Key} {u:Value} {A:Around} {E:Value->Shared->Prop}
theorem ztg{Q:Value->Shared->Prop}(I:Inv X pins σ H s)(e:Rd H a (.dK kvs))(h:∀t s',Inv X pins σ H s'->Q (.int kvs.length t) s'):wpAny (model X.prog X.w) A (call (.builtin "len") [.ref a]) Q E s:=by
 obtain⟨z,hd,vs,rel,dd⟩:=zkw I.hok e
 refine call_len_dict hd dd (by rw[<- rel.length];rw[sizeLine_eq] at z;omega) ?_
 rw[<- rel.length]
 exact h _ _ (I.tok _)
end
def zo1(ty td:TE):TE:=fun σ H Q=>ty σ H fun y H1=>td σ H1 fun x H2=>∃a o,x=.ref a/\DGet H2 a y o/\Q (.bl (!o.isSome)) H2
def zth(td ty tv:TE):TS:=fun D σ H=>tv σ H fun v H1=>td σ H1 fun x H2=>ty σ H2 fun y H3=>∃a H4,x=.ref a/\DPut H3 a y v H4/\D.nx σ H4
section
variable {X:Cx} {o i e value:Expr} {pos pos' tpos:Pos} {td ty tv:TE}
theorem zkz(hu:X.A.units+1<cLine)(hi:PE X i ty)(ho:PE X o td):PC X .NotIn i o (zo1 ty td):=by
 intro pins s σ H Q I h
 refine thn (hi pins s σ H _ I h) fun iv s1 ⟨y,H1,I1,ry,q1⟩=>thn (ho pins s1 σ H1 _ I1 q1) fun u s2 ⟨x,H2,I2,rx,a,ov,ex,g,q2⟩=>?_
 subst ex
 obtain rfl:u=Value.ref a:=rx
 exact zo0 hu I2 g ry fun s3 I3=>⟨.bl (!ov.isSome),H2,I3,rfl,q2⟩
theorem zo2(hu:X.A.units+1<cLine)(ho:PE X o td)(hi:PE X i ty)(hv:PE X value tv)(hs:swapsWith value (some (.Subscript o i pos')) pos.line X.env=pure false) :
  PS X (.Assign [.Subscript o i pos'] value pos) (zth td ty tv):=by
 intro pins s σ H D I h
 refine wpAny_Assign_Subscript (thn (hv pins s σ H _ I h) fun r s1 ⟨v,H1,I1,rv,q1⟩=>thn (ho pins s1 σ H1 _ I1 q1) fun u s2 ⟨x,H2,I2,rx,q2⟩=>thn (hi pins s2 σ H2 _ I2 q2) fun iv s3 ⟨y,H3,I3,ry,a,H4,ex,g,q3⟩=>?_) hs
 subst ex
 obtain rfl:u=Value.ref a:=rx
 exact zky hu I3 g ry rv fun s4 I4=>⟨σ,H4,I4,q3⟩
end
theorem ziP{P:Program}{w:World}{H:Hp}(h:Heap)(hb:sysModules<h.objs.size):ObjOk P w H (h.push { cls:=.type "dict",data:=.dict #[] }) h.objs.size (.dK []) :=
 ⟨zero_le _,beq_eq_false_iff_ne.mpr (Ne.symm (ne_of_lt hb)),[],.nil,Heap.DictOf.new h⟩
def zrc:TE:=fun _ H Q=>∀p,H p=none->Q (.ref p) (upd H p (.dK []))
section
variable {X:Cx} {pos:Pos}
theorem zmz:PE X (.Dict [] [] pos) zrc:=fun pins s σ H Q I h =>
 wpAny_Dict_empty ⟨.ref s.heap.objs.size,_,I.laid (a:=s.heap.objs.size) (o:=.dK []) (t':=s.toks) (fun _ _ q=>Heap.get?_push_of_some _ q) (le_refl _) (ziP s.heap I.big),rfl,h _ (I.hok.fresh (le_refl _))⟩
end
def zkA:List (TE×TE)->St->Hp->(List (V×V)->Hp->Prop)->Prop
 | [],_,H,Q=>Q [] H
 | (tk,tv)::r,σ,H,Q=>tk σ H fun x H1=>tv σ H1 fun y H2=>zkA r σ H2 fun ps H3=>Q ((x,y)::ps) H3
abbrev VV:List (V×V)->List (Value×Value)->Prop:=Paired fun p q=>RelV p.1 q.1/\RelV p.2 q.2
def PPs(X:Cx)(pos:Pos)(keys:List (Option Expr))(values:List Expr)(trs:List (TE×TE)):Prop :=
 ∀(pins:List (Addr×Obj)) (s:Shared) (σ:St) (H:Hp) (Q:List (V×V)->Hp->Prop),Inv X pins σ H s->zkA trs σ H Q ->
  wpAny (model X.prog X.w) X.A (evalPairs (pairTrees keys values X.env pos)) (fun vs s'=>∃ps H',Inv X pins σ H' s'/\VV ps vs/\Q ps H') X.xe s
theorem zo3{X:Cx}{pos:Pos}:PPs X pos [] [] []:=fun pins s σ H Q I h=>pairTrees_nil_walk ⟨[],H,I,.nil,h⟩
theorem zmA{X:Cx}{pos:Pos}{k v:Expr}{ks:List (Option Expr)}{vs:List Expr}{tk tv:TE}{trs:List (TE×TE)}(hk:PE X k tk)(hv:PE X v tv)(hr:PPs X pos ks vs trs) :
  PPs X pos (some k::ks) (v::vs) ((tk,tv)::trs):=fun pins s σ H Q I h =>
 pairTrees_cons_walk (thn (hk pins s σ H _ I h) fun u s1 ⟨x,H1,I1,rx,q1⟩=>thn (hv pins s1 σ H1 _ I1 q1) fun w2 s2 ⟨y,H2,I2,ry,q2⟩ =>
  thn (hr pins s2 σ H2 _ I2 q2) fun ws s3 ⟨ps,H3,I3,rel,q3⟩=>⟨(x,y)::ps,H3,I3,.cons ⟨rx,ry⟩ rel,q3⟩)
def ze3(kvs more:List (Key×V)):List (Key×V):=more.foldl (fun acc kv=>zhc acc kv.1 kv.2) kvs
theorem KV.merge:∀{more:List (Key×V)} {rs:List (Key×Value)} {kvs:List (Key×V)} {vs:List (Key×Value)},KV more rs->KV kvs vs->KV (ze3 kvs more) (merged vs rs):=by
 intro more rs kvs vs r
 unfold KV at r
 induction r generalizing kvs vs with
 | nil=>intro q;exact q
 | @cons p q ps qs h t ih =>
  intro r0
  have e:KV (zhc kvs p.1 p.2) (stored vs q.1 q.2):=by
   have:=r0.put p.1 h.2
   rw[<- h.1];exact this
  exact ih e
theorem zdD:∀(more kvs:List (Key×V)),(ze3 kvs more).length<=kvs.length+more.length
 | [],kvs=>by show kvs.length<=kvs.length+0;omega
 | p::r,kvs=>by
  have h1:=zdD r (zhc kvs p.1 p.2)
  have h2:=zds kvs p.1 p.2
  show(ze3 (zhc kvs p.1 p.2) r).length<=_
  rw[length_cons];omega
theorem zf2{P:Program}{w:World}:∀{kvs:List (Key×V)} {ws:List (Value×Value)},VV (kvs.map fun kv=>(kV kv.1,kv.2)) ws->∃rs,Carries (zaN P w) ws rs/\KV kvs rs
 | [],_,r=>by rw[map_nil] at r;cases r;exact⟨[],True.intro,.nil⟩
 | p::kvs,_,r=>by
  rw[map_cons] at r
  cases r with
  | @cons a b as bs h t =>
   obtain⟨rs,c,q⟩:=zf2 (P:=P) (w:=w) t
   obtain⟨b1,b2⟩:=b
   exact⟨(p.1,b2)::rs,⟨kV_is h.1,rfl,c⟩,.cons ⟨rfl,h.2⟩ q⟩
def zti(trs:List (TE×TE)):TE:=fun σ H Q=>∀p,H p=none->zkA trs σ (upd H p (.dK [])) fun ps H2=>H2 p=some (.dK [])/\∃kvs:List (Key×V),ps=kvs.map (fun kv=>(kV kv.1,kv.2))/\kvs.length<=15/\Q (.ref p) (upd H2 p (.dK (ze3 [] kvs)))
theorem zo4{X:Cx}{pos:Pos}{keys:List (Option Expr)}{values:List Expr}{trs:List (TE×TE)}(h:PPs X pos keys values trs)(hall:keys.all (·.isSome)=true)(hl:keys.length=values.length)(h0:keys≠[])(h15:keys.length<=15):PE X (.Dict keys values pos) (zti trs):=by
 intro pins s σ H Q I q
 have hn:=I.hok.fresh (le_refl s.heap.objs.size)
 have I1:=I.laid (a:=s.heap.objs.size) (o:=.dK []) (h':=s.heap.push { cls:=.type "dict",data:=.dict #[] }) (t':=s.toks) (fun _ _ q=>Heap.get?_push_of_some _ q) (le_refl _) (ziP s.heap I.big)
 refine wpAny_Dict_walk (knd:=zaN X.prog X.w) hall hl h0 h15 (thn (h pins _ σ _ _ I1 (q _ hn)) fun ws s2 ⟨ps,H2,I2,rel,e,kvs,ep,lk,q2⟩=>?_)
 subst ep
 obtain⟨rs,c,rk⟩:=zf2 (P:=X.prog) (w:=X.w) rel
 obtain⟨z,hd,vs0,r0,dd⟩:=zra I2.hok e
 cases r0
 refine⟨rs,c,dd,fun h' dd' hs=>⟨.ref s.heap.objs.size,_,?_,rfl,q2⟩⟩
 have hz:(ze3 [] kvs).length<=sizeLine:=by
  have h1:=zdD kvs []
  rw[length_nil] at h1
  rw[sizeLine_eq];omega
 have he:∃q,h'.get? s.heap.objs.size=some q:=let ⟨q,_,_,hq,_⟩:=dd';⟨q,hq⟩
 exact zh6 I2 (by rw[e];exact True.intro) hs he (znY hz hd (rk.merge .nil) dd')
section
variable {X:Cx} {pins:List (Addr×Obj)} {σ:St} {H:Hp} {s:Shared} {a:Addr} {y d:V} {u r:Value} {o:Option V} {A:Around} {E:Value->Shared->Prop}
end
section
variable {X:Cx} {o e f:Expr} {apos cpos:Pos} {td ty tx:TE}
end
section
variable {X:Cx} {pins:List (Addr×Obj)} {σ:St} {H:Hp} {s:Shared} {a:Addr} {kvs:List (Key×V)} {A:Around} {E:Value->Shared->Prop}
end
section
variable {X:Cx} {pins:List (Addr×Obj)} {σ:St} {H:Hp} {s:Shared} {a:Addr} {y:V} {u:Value} {A:Around} {E:Value->Shared->Prop}
end
section
variable {X:Cx}
theorem zkB:CallR X (.builtin "len") (fun xs H Q=>∃a kvs,xs=[V.ref a]/\H a=some (.dK kvs)/\Q (.int kvs.length) H):=by
 intro pins s σ H xs us Q I r h
 obtain⟨a,kvs,rfl,ha,q⟩:=h
 obtain⟨u,rfl,ru⟩:=zeG r
 cases ru
 exact ztg I (.inl ha) fun t s' I'=>⟨.int kvs.length,H,I',⟨t,rfl⟩,q⟩
section
variable {κ:Type} [DecidableEq κ]
end
end
section
variable {X:Cx}
theorem zf3{P:Program}{w:World}{kvs:List (Key×V)}{vs:List (Key×Value)}{ns:List Int}(rel:KV kvs vs)(hk:kvs.map (·.1)=ns.map Sum.inl){acc:Array Value}(h:ItemsOf (fun i v=>∃k x,vs[i]?=some (k,x)/\(zaN P w).is k v=true) acc vs.length):IntsAre acc.toList ns:=by
 have hl:acc.toList.length=ns.length:=by
  rw[length_toList,h.1,<- length_map (f:=fun x:Key×Value=>x.1),<- KV.keys rel,hk,length_map]
 have at':∀(i:Nat) (v:Value),acc.toList[i]?=some v->∃t,v=Value.int (ns.getD i 0) t:=by
  intro i v hv
  obtain⟨k,x,h1,h2⟩:=h.2 i v (by rw[<- getElem?_toList];exact hv)
  have e:(ns.map Sum.inl:List Key)[i]?=some k:=by
   rw[<- hk,KV.keys rel,getElem?_map,h1];rfl
  rw[getElem?_map] at e
  cases q:ns[i]? with
  | none=>rw[q] at e;cases e
  | some n =>
   rw[q] at e
   simp only[map_some,Option.some.injEq] at e
   subst e
   rcases zaO (k:=Sum.inl n) (v:=v) h2 with ⟨j,t,e1,e2⟩|⟨j,t,e1,e2⟩
   ·cases e1
    exact⟨t,by rw[e2,getD_eq_getElem?_getD,q];rfl⟩
   ·cases e1
 clear h
 revert hl at'
 generalize acc.toList=us
 clear hk
 induction ns generalizing us with
 | nil=>intro hl _;cases us with|nil=>exact .nil|cons a r=>simp at hl
 | cons n ns ih =>
  intro hl h
  cases us with
  | nil=>simp at hl
  | cons a r =>
   obtain⟨t,rfl⟩:=h 0 a rfl
   exact .cons n t (ih r (by simpa using hl) fun i v hv=>h (i+1) v hv)
theorem zhq(hc:X.calm=true):CallR X (.builtin "sorted") (fun xs H Q=>∃(a:Addr) (kvs:List (Key×V)) (ns:List Int),xs=[.ref a]/\Rd H a (.dK kvs)/\kvs.map (·.1)=ns.map Sum.inl/\ns.length<64 /\
  ∀ms:List Int,ms.Perm ns->ms.Pairwise (·<=·)->∀l,H l=none->Q (.ref l) (upd H l (.lst (ms.map V.int)))):=by
 intro pins s σ H xs us Q I r h
 obtain⟨a,kvs,ns,rfl,hd,hk,h64,q⟩:=h
 obtain⟨u,rfl,rx⟩:=zeG r
 cases rx
 obtain⟨hz,hS,vs,rel,dd⟩:=zkw I.hok hd
 obtain⟨ep,hat⟩:=dd.dictAt
 have hh:X.A.in1.handled=none:=I.ok.hd hc
 have hlen:vs.length=ns.length:=by rw[<- KV.length rel,<- length_map (f:=fun x:Key×V=>x.1),hk,length_map]
 refine Calls.call_function_entry kind_sorted plain_sorted entry_sorted (args_sorted1 _) ?_
 unfold Builtin.«sorted»
 refine wpAny_bind (m:=checkCount "sorted" 1 1 _) (wpAny_pure ?_)
 refine wpAny_bind (PySem.W.kdu_collect (A:=X.A.in1) (PySem.W.kdl_dict (knd:=zaN X.prog X.w) (kvs:=vs) (ep:=ep) hS) hh hat (by rw[<- KV.length rel];exact hz) fun h' tk acc hkp hacc=>?_)
 have hI:=zf3 rel hk hacc
 have hal:acc.toList.length=ns.length:=by rw[length_toList,hacc.1,hlen]
 refine wpAny_bind (wpAny_newList ?_ (by rw[hal,<- hlen,<- KV.length rel];exact hz))
 have hoL:(h'.push (seqObj "list" acc.toList.toArray 0)).get? h'.objs.size=some (seqObj "list" acc.toList.toArray 0):=Heap.get?_push_size _ rfl
 refine wpAny_bind (wpAny_holding (wpAny_call_entry slot_list_sort ⟨_,hoL,rfl⟩ entry_list_sort (list_sort_tree hoL hI (by omega) fun out ns' a1 a2 a3=>⟨_,rfl,?_⟩) (args_list_sort _)))
 refine wpAny_pure ⟨_,rfl,?_⟩
 obtain⟨e,he⟩:=sortedHeap_at (out:=out) hoL
 have I1:Inv X pins σ H { s with heap:=h',toks:=tk }:=I.kept hkp
 have rv':Vals (ns'.map V.int) out.toList:=zcG a1
 refine⟨.ref h'.objs.size,_,I1.laid (t':=tk) (a:=h'.objs.size) (o:=.lst (ns'.map V.int)) (fun b o hb=>?_) (le_refl _) ?_,rfl,q ns' a2 a3 _ I1.fresh⟩
 ·have hb:h'.get? b=some o:=hb
  have hlt:=Heap.lt_size hb
  show(sortedHeap (h'.push (seqObj "list" acc.toList.toArray 0)) h'.objs.size acc.toList out).get? b=some o
  rw[sortedHeap_old (ne_of_lt hlt) (by rw[size_push'];exact lt_succ_of_lt hlt)]
  exact Heap.get?_push_of_some _ hb
 ·refine⟨by rw[length_map,a2.length_eq,<- hlen,<- KV.length rel];exact hz,out.toList,e,rv',?_⟩
  rw[toArray_toList]
  exact he
theorem zjB(hc:X.calm=true):CallR X (.type "list") (fun xs H Q=>∃(a:Addr) (kvs:List (Key×V)) (ns:List Int),xs=[.ref a]/\Rd H a (.dK kvs)/\kvs.map (·.1)=ns.map Sum.inl/\∀l,H l=none->Q (.ref l) (upd H l (.lst (ns.map V.int)))):=by
 intro pins s σ H xs us Q I r h
 obtain⟨a,kvs,ns,rfl,hd,hk,q⟩:=h
 obtain⟨u,rfl,rx⟩:=zeG r
 cases rx
 obtain⟨hz,hS,vs,rel,dd⟩:=zkw I.hok hd
 obtain⟨ep,hat⟩:=dd.dictAt
 have hlen:vs.length=ns.length:=by rw[<- KV.length rel,<- length_map (f:=fun x:Key×V=>x.1),hk,length_map]
 refine PySem.W.kdl_call (PySem.W.kdl_dict (knd:=zaN X.prog X.w) (kvs:=vs) (ep:=ep) hS) (I.ok.hd hc) hat (by rw[<- KV.length rel];exact hz) fun h' tk acc c hkp hD hacc=>?_
 have hI:=zf3 rel hk hacc
 refine⟨.ref s.heap.objs.size,_,I.laid (t':=tk) (a:=s.heap.objs.size) (o:=.lst (ns.map V.int)) hkp (le_refl _) ?_,rfl,q _ I.fresh⟩
 refine⟨by rw[length_map,<- hlen,<- KV.length rel];exact hz,acc.toList,c,zcG hI,?_⟩
 rw[toArray_toList]
 exact hD
end
section
variable {X:Cx} {tg:Expr}
def Itd(a:Addr)(o:Obj)(ps:List (Key×V)):It where
 go:=fun i H=>H a=some (.frz o (.dK ps))/\i<ps.length
 yld:=fun i H x H'=>H'=H/\∃p,ps[i]?=some p/\x=kV p.1
 stop:=fun i H=>H a=some (.frz o (.dK ps))/\ps.length=i
theorem zo5{P:Program}{w:World}{k:Key}{u:Value}(h:(zaN P w).is k u=true):RelV (kV k) u:=by
 rcases zaO (k:=k) (v:=u) h with ⟨i,t,rfl,rfl⟩|⟨x,t,rfl,rfl⟩
 ·exact⟨t,rfl⟩
 ·exact⟨t,rfl⟩
theorem znZ{P:Program}{w:World}{H:Hp}{h:Heap}{a:Addr}{o:Obj}{ps:List (Key×V)}(ok:HOk P w H h)(e:H a=some (.frz o (.dK ps))){es:Array DictEntry}{ep:Nat}(hd:o.data=.dict es ep) :
  ∃vs,KV ps vs/\h.DictAt (zaN P w) a vs ep:=by
 obtain⟨h1,_,_,vs,r,o',es',ep',ho,hx,hd',hr⟩:=(show ObjOk P w H h a (.frz o (.dK ps)) from ok a _ e)
 rw[h1] at ho
 cases ho
 rw[hd] at hd'
 cases hd'
 exact⟨vs,r,o,es,h1,hx,hd,hr⟩
theorem zkC{P:Program}{w:World}{K:PySem.W.Frag}(a it:Addr){o:Obj}{ps:List (Key×V)}{es:Array DictEntry}{ep:Nat}(hd:o.data=.dict es ep):Turn P w K tg (Itd a o ps) [it] it (fun i h=>h.IsKeyIter it a i ps.length ep) where
 mem:=by simp
 obj:=fun i h st b hb=>by
  have e:b=it:=by simpa using hb
  subst e
  obtain⟨o,e,c,d⟩:=st
  exact⟨o,e,fun v z=>by rw[d] at z;cases z⟩
 keep:=fun i h h' st k=>st.at fun o e=>k it (by simp) o e
 item:=by
  intro X hP hw hK hc i pins s σ H E I hf st hg
  subst hP hw hK
  obtain⟨he,hi⟩:=hg
  obtain⟨vs,r,hat⟩:=znZ I.hok he hd
  have hl:=KV.length r
  obtain⟨f0,f1,f2,f3,f4,f5⟩:=hf it (by simp)
  have hx:vs[i]?=some (vs[i]'(by omega)):=getElem?_eq_getElem _
  have hp:ps[i]?=some (ps[i]'(by omega)):=getElem?_eq_getElem _
  have hk:(vs[i]'(by omega)).1=(ps[i]'(by omega)).1:=by
   have e1:=congrArg (fun l:List Key=>l[i]?) (KV.keys r)
   simp only[getElem?_map,hx,hp,map_some,Option.some.injEq] at e1
   exact e1.symm
  refine wpAny_pyNext_dict_item (knd:=zaN X.prog X.w) (hl▸st) hat (k:=(vs[i]'(by omega)).1) (v:=(vs[i]'(by omega)).2) (by rw[hx]) fun key h' hkey st' sb=>?_
  have I1:Inv X pins σ H { s with heap:=h' }:=I.turned (t':=s.toks) (fun b o hb e=>(sb.2 b hb).trans e) f0 f1 f3 f4 f5
  obtain⟨oi,e,c,d⟩:=id st'
  exact⟨key,rfl,zmg (s:={ s with heap:=h' }) e c d (by decide) ⟨kV (ps[i]'(by omega)).1,H,I1,hk▸zo5 hkey,⟨rfl,_,hp,rfl⟩,hl▸st',fun b hb=>(hf b hb).1⟩⟩
 done:=by
  intro X hP hw hK hc i pins s σ H E I hf st hg
  subst hP hw hK
  obtain⟨he,hi⟩:=hg
  obtain⟨vs,r,hat⟩:=znZ I.hok he hd
  have hl:=KV.length r
  obtain⟨f0,f1,f2,f3,f4,f5⟩:=hf it (by simp)
  exact wpAny_pyNext_dict_end (knd:=zaN X.prog X.w) (I.ok.hd hc) (hl▸st) hat (getElem?_eq_none (by omega)) fun h' eb=>⟨rfl,I.turned (t':=s.toks) (fun b o hb e=>eb b o hb e) f0 f1 f3 f4 f5⟩
 self:=fun _ _ _ _ _ st h=>wpAny_pyIter_keyiter st h
def ztj(tl:TE):TI:=fun σ H R=>tl σ H fun v H1=>∃a,v=.ref a/\((∃ps,H1 a=some (.dK ps)/\∀o,R (Itd a o ps) (upd H1 a (.frz o (.dK ps))))\/∃o ps,H1 a=some (.frz o (.dK ps))/\R (Itd a o ps) H1)
theorem zo6{l:Expr}{tl:TE}(hl:PE X l tl):PI X tg l (ztj tl):=by
 intro pins s σ H R I h
 refine thn (hl pins s σ H _ I h) fun v s1 ⟨x,H1,I1,r1,q1⟩=>?_
 obtain⟨a,e,q⟩:=q1
 subst e
 cases r1
 obtain⟨o,ps,H2,I2,he,q⟩:∃o ps H2,Inv X pins σ H2 s1/\H2 a=some (.frz o (.dK ps))/\R (Itd a o ps) H2:=by
  rcases q with ⟨ps,he,q⟩|⟨o,ps,he,q⟩
  ·have ok:=(show ObjOk X.prog X.w H1 s1.heap a (.dK ps) from I1.hok a _ he)
   obtain⟨_,_,vs,r,o,es,ep,ho,hr⟩:=id ok
   refine⟨o,ps,_,I1.write (t':=s1.toks) (h':=s1.heap) (x:=a) (e:=a) (o:=.frz o (.dK ps)) (by rw[he];trivial) (.inl rfl) (fun b u _ z=>z) ⟨o,ho⟩ ?_,zaw,q o⟩
   exact⟨ho,ok⟩
  ·exact⟨o,ps,H1,I1,he,q⟩
 obtain⟨h1,_,hS,vs,r,o',es,ep,ho,hx,hd,hr⟩:=(show ObjOk X.prog X.w H2 s1.heap a (.frz o (.dK ps)) from I2.hok a _ he)
 rw[h1] at ho
 cases ho
 have hat:s1.heap.DictAt (zaN X.prog X.w) a vs ep:=⟨o,es,h1,hx,hd,hr⟩
 refine wpAny_pyIter_dict hS hat ?_
 refine⟨s1.heap.objs.size,[s1.heap.objs.size],_,_,H2,rfl,I2.kept (t':=s1.toks) fun b o e=>Heap.get?_push_of_some _ e,zkC a _ hd,⟨_,Heap.get?_push_size _ rfl,rfl,by rw[KV.length r];rfl⟩,fun b hb=>?_,q⟩
 have e:b=s1.heap.objs.size:=by simpa using hb
 subst e
 exact I2.fpOk (le_refl _) (I2.hok.fresh (le_refl _))
end
section
variable {prog:Program} {w:World} {A:Around} {E:Value->Shared->Prop} {s:Shared}
end
end L2
namespace VS
open PySem PySem.Spec PyProof.Rows L2
abbrev St:=L2.St
theorem zay{α:Type}{l:List α}{k:Nat}{a:α}(h:l[k]?=some a):k<l.length:=(List.getElem?_eq_some_iff.mp h).1
theorem zhr{α:Type}{l:List α}(h:l.Nodup){i j:Nat}(hi:i<l.length)(hj:j<l.length)(e:l[i]=l[j]):i=j:=by
 have p:=pairwise_iff_getElem.mp h
 rcases lt_trichotomy i j with q|q|q
 ·exact absurd e (p i j hi hj q)
 ·exact q
 ·exact absurd e.symm (p j i hj hi q)
inductive W where
 | non|bl (b:Bool)|int (i:Int)|str (x:Str)|ty (n:String)|lst (xs:List W)|tup (xs:List W)|cel (k:Nat)
inductive C where
 | lst (xs:List W)|dct (kvs:List (Key×W))|ins (c:Str) (fs:List (Str×W))|exn (c:Str)|dead|fzd (kvs:List (Key×W))|dtp (kvs:List (List Key×W))
def C.nf:C->Bool
 | .fzd _=>false
 | _=>true
def nfz:HO->Bool
 | .frz _ _=>false
 | _=>true
abbrev Ce:=List C
abbrev Sl:=List (Option W)
structure Exn where
 nm:Str
 fld:Option (Str×W)
inductive R (α:Type) where
 | ok (a:α) (ce:Ce)|ex (x:Exn) (ce:Ce)
abbrev M(α:Type):=Ce->Option (R α)
structure Ga where
 K:PySem.W.Frag
 cl:Str->Addr
 xr:Exn->Value->Option Addr->Hp->Prop
mutual
def Rep(F:Hp)(as:List Addr):W->V->Prop
 | .non,v=>v=.non
 | .bl b,v=>v=.bl b
 | .int i,v=>v=.int i
 | .str x,v=>v=.str x
 | .ty n,v=>v=.ty n
 | .lst xs,v=>∃a vs,v=.ref a/\Rd F a (.lst vs)/\Reps F as xs vs
 | .tup xs,v=>∃a vs,v=.ref a/\F a=some (.tup vs)/\Reps F as xs vs
 | .cel k,v=>∃a,v=.ref a/\as[k]?=some a
def Reps(F:Hp)(as:List Addr):List W->List V->Prop
 | [],vs=>vs=[]
 | x::xs,vs=>∃v r,vs=v::r/\Rep F as x v/\Reps F as xs r
end
structure Le (F:Hp) (as:List Addr) (F':Hp) (as':List Addr):Prop where
 f:∀a o,F a=some o->F' a=some o
 c:∀(k:Nat) (a:Addr),as[k]?=some a->as'[k]?=some a
theorem Le.refl{F:Hp}{as:List Addr}:Le F as F as:=⟨fun _ _ h=>h,fun _ _ h=>h⟩
theorem Le.trans{F F1 F2:Hp}{as as1 as2:List Addr}(h:Le F as F1 as1)(h':Le F1 as1 F2 as2):Le F as F2 as2:=⟨fun a o e=>h'.f a o (h.f a o e),fun k a e=>h'.c k a (h.c k a e)⟩
theorem Le.rd{F F':Hp}{as as':List Addr}(h:Le F as F' as'){a:Addr}{o:HO}(r:Rd F a o):Rd F' a o:=by
 rcases r with r|⟨u,r⟩
 ·exact .inl (h.f _ _ r)
 ·exact .inr ⟨u,h.f _ _ r⟩
mutual
theorem Rep.le{F F':Hp}{as as':List Addr}(h:Le F as F' as'):∀{w:W} {v:V},Rep F as w v->Rep F' as' w v
 | .non,_,r=>by simpa only[Rep] using r
 | .bl _,_,r=>by simpa only[Rep] using r
 | .int _,_,r=>by simpa only[Rep] using r
 | .str _,_,r=>by simpa only[Rep] using r
 | .ty _,_,r=>by simpa only[Rep] using r
 | .lst xs,_,r=>by
  simp only[Rep] at r ⊢
  obtain⟨a,vs,e,q,s⟩:=r
  exact⟨a,vs,e,h.rd q,Reps.le h s⟩
 | .tup xs,_,r=>by
  simp only[Rep] at r ⊢
  obtain⟨a,vs,e,q,s⟩:=r
  exact⟨a,vs,e,h.f _ _ q,Reps.le h s⟩
 | .cel k,_,r=>by
  simp only[Rep] at r ⊢
  obtain⟨a,e,q⟩:=r
  exact⟨a,e,h.c _ _ q⟩
theorem Reps.le{F F':Hp}{as as':List Addr}(h:Le F as F' as'):∀{ws:List W} {vs:List V},Reps F as ws vs->Reps F' as' ws vs
 | [],_,r=>by simpa only[Reps] using r
 | _::_,_,r=>by
  simp only[Reps] at r ⊢
  obtain⟨v,r',e,q,s⟩:=r
  exact⟨v,r',e,Rep.le h q,Reps.le h s⟩
end
section
variable {F:Hp} {as:List Addr}
theorem Reps.nil:Reps F as [] []:=by simp only[Reps]
theorem Reps.cons{w:W}{v:V}{ws:List W}{vs:List V}(h:Rep F as w v)(t:Reps F as ws vs):Reps F as (w::ws) (v::vs):=by simp only[Reps];exact⟨v,vs,rfl,h,t⟩
theorem Reps.length:∀{ws:List W} {vs:List V},Reps F as ws vs->vs.length=ws.length
 | [],_,r=>by simp only[Reps] at r;subst r;rfl
 | _::_,_,r=>by
  simp only[Reps] at r
  obtain⟨v,r',rfl,_,s⟩:=r
  simp only[length_cons,Reps.length s]
theorem Reps.get:∀{ws:List W} {vs:List V} {i:Nat} {w:W},Reps F as ws vs->ws[i]?=some w->∃v,vs[i]?=some v/\Rep F as w v
 | [],_,_,_,_,e=>by simp at e
 | _::_,_,0,_,r,e=>by
  simp only[Reps] at r
  obtain⟨v,r',rfl,q,s⟩:=r
  simp at e;subst e
  exact⟨v,rfl,q⟩
 | _::_,_,i+1,w,r,e=>by
  simp only[Reps] at r
  obtain⟨v,r',rfl,q,s⟩:=r
  obtain⟨u,h1,h2⟩:=Reps.get (i:=i) (w:=w) s (by simpa using e)
  exact⟨u,by simpa using h1,h2⟩
theorem Reps.get'{ws:List W}{vs:List V}{i:Nat}{v:V}(r:Reps F as ws vs)(e:vs[i]?=some v):∃w,ws[i]?=some w/\Rep F as w v:=by
 have hl:=r.length
 have hi:i<vs.length:=zay e
 have e1:ws[i]?=some ws[i]:=getElem?_eq_getElem (by omega)
 obtain⟨u,h1,h2⟩:=r.get e1
 rw[e] at h1;cases h1
 exact⟨_,e1,h2⟩
theorem Reps.append:∀{ws zs:List W} {vs us:List V},Reps F as ws vs->Reps F as zs us->Reps F as (ws++zs) (vs++us)
 | [],_,_,_,r,s=>by simp only[Reps] at r;subst r;exact s
 | _::_,_,_,_,r,s=>by
  simp only[Reps] at r
  obtain⟨v,r',rfl,q,t⟩:=r
  exact .cons q (Reps.append t s)
theorem Reps.set:∀{ws:List W} {vs:List V} {w:W} {v:V} (i:Nat),Reps F as ws vs->Rep F as w v->Reps F as (ws.set i w) (vs.set i v)
 | [],_,_,_,_,r,_=>by simp only[Reps] at r;subst r;exact .nil
 | _::_,_,_,_,0,r,h=>by
  simp only[Reps] at r
  obtain⟨v,r',rfl,q,t⟩:=r
  exact .cons h t
 | _::_,_,_,_,i+1,r,h=>by
  simp only[Reps] at r
  obtain⟨v,r',rfl,q,t⟩:=r
  exact .cons q (Reps.set i t h)
theorem Reps.take:∀{ws:List W} {vs:List V} (n:Nat),Reps F as ws vs->Reps F as (ws.take n) (vs.take n)
 | _,_,0,_=>by rw[take_zero,take_zero];exact .nil
 | [],_,_+1,r=>by simp only[Reps] at r;subst r;exact .nil
 | _::_,_,n+1,r=>by
  simp only[Reps] at r
  obtain⟨v,r',rfl,q,t⟩:=r
  exact .cons q (Reps.take n t)
theorem Reps.drop:∀{ws:List W} {vs:List V} (n:Nat),Reps F as ws vs->Reps F as (ws.drop n) (vs.drop n)
 | _,_,0,r=>r
 | [],_,_+1,r=>by simp only[Reps] at r;subst r;exact .nil
 | _::_,_,n+1,r=>by
  simp only[Reps] at r
  obtain⟨v,r',rfl,q,t⟩:=r
  exact Reps.drop n t
theorem Reps.dropLast{ws:List W}{vs:List V}(r:Reps F as ws vs):Reps F as ws.dropLast vs.dropLast:=by
 rw[dropLast_eq_take,dropLast_eq_take,r.length];exact r.take _
theorem Reps.ints:∀(ns:List Int),Reps F as (ns.map W.int) (ns.map V.int)
 | []=>.nil
 | n::r=>.cons (by simp only[Rep]) (Reps.ints r)
theorem Reps.of_ints:∀{ns:List Int} {vs:List V},Reps F as (ns.map W.int) vs->vs=ns.map V.int
 | [],_,r=>by simpa only[map_nil,Reps] using r
 | n::ns,_,r=>by
  simp only[map_cons,Reps,Rep] at r
  obtain⟨v,r',rfl,rfl,t⟩:=r
  rw[Reps.of_ints t,map_cons]
theorem Reps.of_bools:∀{bs:List Bool} {vs:List V},Reps F as (bs.map W.bl) vs->vs=bs.map V.bl
 | [],_,r=>by simpa only[map_nil,Reps] using r
 | n::ns,_,r=>by
  simp only[map_cons,Reps,Rep] at r
  obtain⟨v,r',rfl,rfl,t⟩:=r
  rw[Reps.of_bools t,map_cons]
end
theorem el6{α β γ δ:Type}{p q:α->β->γ->δ->Prop}{g:Prop}(h:∃a b c d,p a b c d/\q a b c d)(k:∀a b c d,p a b c d->q a b c d->g):g:=by
 obtain⟨a,b,c,d,h1,h2⟩:=h
 exact k a b c d h1 h2
theorem el8{α β γ δ:Type}{p q r s:α->β->γ->δ->Prop}{g:Prop}(h:∃a b c d,p a b c d/\q a b c d/\r a b c d/\s a b c d)(k:∀a b c d,p a b c d->q a b c d->r a b c d->s a b c d->g):g:=by
 obtain⟨a,b,c,d,h1,h2,h3,h4⟩:=h
 exact k a b c d h1 h2 h3 h4
def RepKV{κ:Type}(F:Hp)(as:List Addr)(kvs:List (κ×W))(ps:List (κ×V)):Prop:=Paired (fun(p:κ×W) (q:κ×V)=>p.1=q.1/\Rep F as p.2 q.2) kvs ps
theorem RepKV.le{κ:Type}{F F':Hp}{as as':List Addr}(h:Le F as F' as'){kvs:List (κ×W)}{ps:List (κ×V)}(r:RepKV F as kvs ps):RepKV F' as' kvs ps:=Paired.mapP r fun _ _ z=>⟨z.1,z.2.le h⟩
def XPhi(a:Addr)(cls:Value)(h:Heap):Prop:=∃o vs,h.get? a=some o/\o.cls=cls/\o.data=.fields vs/\∃a0,vs[0]?=some a0
def CRep(G:Ga)(F:Hp)(as:List Addr)(H:Hp)(a:Addr):C->Prop
 | .lst xs=>∃vs,H a=some (.lst vs)/\Reps F as xs vs
 | .dct kvs=>∃ps,H a=some (.dK ps)/\RepKV F as kvs ps
 | .ins c fs=>∃dx ps,H a=some (.ins (G.cl c) dx ps)/\RepKV F as fs ps
 | .exn c=>H a=some (.ext (XPhi a (.ref (G.cl c))))
 | .dead=>∃o,H a=some o
 | .fzd kvs=>∃o ps,F a=some (.frz o (.dK ps))/\H a=some (.frz o (.dK ps))/\RepKV F as kvs ps
 | .dtp kvs=>∃ps,H a=some (.dT ps)/\RepKV F as kvs ps
structure Store (G:Ga) (F:Hp) (as:List Addr) (H:Hp) (ce:Ce):Prop where
 sub:∀a o,F a=some o->H a=some o
 nd:as.Nodup
 len:as.length=ce.length
 cell:∀(k:Nat) (a:Addr) (c:C),as[k]?=some a->ce[k]?=some c->(c.nf=true->F a=none)/\CRep G F as H a c
structure SR (G:Ga) (F:Hp) (as:List Addr) (H:Hp) (σ:VS.St) (sl:Sl) (ce:Ce):Prop where
 st:Store G F as H ce
 len:σ.length=sl.length
 slot:∀(i:Nat) (w:W),sl[i]?=some (some w)->∃v,σ[i]?=some (some v)/\Rep F as w v
section
variable {G:Ga} {F F':Hp} {as as':List Addr} {H H':Hp} {σ:VS.St} {sl:Sl} {ce ce':Ce} {a p:Addr} {k:Nat} {o:HO}
theorem CRep.tracked{c:C}(h:CRep G F as H a c):∃o,H a=some o:=by
 cases c with
 | lst xs=>obtain⟨vs,e,_⟩:=h;exact⟨_,e⟩
 | dct xs=>obtain⟨vs,e,_⟩:=h;exact⟨_,e⟩
 | ins c xs=>obtain⟨dx,vs,e,_⟩:=h;exact⟨_,e⟩
 | exn c=>exact⟨_,h⟩
 | dead=>exact h
 | fzd xs=>obtain⟨o,ps,_,e,_⟩:=h;exact⟨_,e⟩
 | dtp xs=>obtain⟨vs,e,_⟩:=h;exact⟨_,e⟩
theorem CRep.le{c:C}(l:Le F as F' as')(hH:H' a=H a)(h:CRep G F as H a c):CRep G F' as' H' a c:=by
 cases c with
 | lst xs=>obtain⟨vs,e,r⟩:=h;exact⟨vs,hH.trans e,r.le l⟩
 | dct xs=>obtain⟨vs,e,r⟩:=h;exact⟨vs,hH.trans e,r.le l⟩
 | ins c xs=>obtain⟨dx,vs,e,r⟩:=h;exact⟨dx,vs,hH.trans e,r.le l⟩
 | exn c=>exact hH.trans h
 | dead=>obtain⟨o,e⟩:=h;exact⟨o,hH.trans e⟩
 | fzd xs=>obtain⟨o,ps,e1,e2,r⟩:=h;exact⟨o,ps,l.f _ _ e1,hH.trans e2,r.le l⟩
 | dtp xs=>obtain⟨vs,e,r⟩:=h;exact⟨vs,hH.trans e,r.le l⟩
theorem Store.at(S:Store G F as H ce){c:C}(h:ce[k]?=some c):∃a,as[k]?=some a/\(c.nf=true->F a=none)/\CRep G F as H a c:=by
 have hk:k<ce.length:=zay h
 have e:as[k]?=some (as[k]'(by rw[S.len];exact hk)):=getElem?_eq_getElem _
 exact⟨_,e,S.cell _ _ _ e h⟩
theorem Store.tracked(S:Store G F as H ce)(h:as[k]?=some a):∃o,H a=some o:=by
 have hk:k<as.length:=zay h
 have e:ce[k]?=some (ce[k]'(by rw[<- S.len];exact hk)):=getElem?_eq_getElem _
 exact(S.cell _ _ _ h e).2.tracked
theorem SR.slots(S:SR G F as H σ sl ce)(S':Store G F' as' H' ce')(l:Le F as F' as'):SR G F' as' H' σ sl ce' :=
 ⟨S',S.len,fun i w e=>let ⟨v,h1,h2⟩:=S.slot i w e;⟨v,h1,h2.le l⟩⟩
theorem SR.var(S:SR G F as H σ sl ce){i:Nat}{w:W}(h:sl[i]?=some (some w)):∃v,σ[i]?=some (some v)/\Rep F as w v:=S.slot i w h
theorem SR.put(S:SR G F as H σ sl ce){w:W}{v:V}(r:Rep F as w v)(i:Nat):SR G F as H (σ.set i (some v)) (sl.set i (some w)) ce:=by
 refine⟨S.st,by rw[length_set,length_set];exact S.len,fun j u e=>?_⟩
 by_cases hj:i=j
 ·subst hj
  have hi:i<sl.length:=by have:=zay e;rwa [length_set] at this
  rw[getElem?_set_self hi] at e
  cases e
  exact⟨v,by rw[getElem?_set_self (by rw[S.len];exact hi)],r⟩
 ·rw[getElem?_set_ne hj] at e
  obtain⟨v',h1,h2⟩:=S.slot j u e
  exact⟨v',by rw[getElem?_set_ne hj];exact h1,h2⟩
theorem upd_sub(hF:F p=none):∀a u,F a=some u->upd F p o a=some u:=fun a u e=>by
 rw[zaD (zaC e hF)];exact e
theorem Store.freeze(S:Store G F as H ce)(hp:H p=none):Store G (upd F p o) as (upd H p o) ce/\Le F as (upd F p o) as:=by
 have hF:F p=none:=by
  cases e:F p with
  | none=>rfl
  | some u=>rw[S.sub _ _ e] at hp;cases hp
 have l:Le F as (upd F p o) as:=⟨upd_sub hF,fun _ _ h=>h⟩
 refine⟨⟨fun a u e=>?_,S.nd,S.len,fun k a c h1 h2=>?_⟩,l⟩
 ·by_cases ha:a=p
  ·subst ha;rw[zaw] at e ⊢;exact e
  ·rw[zaD ha] at e ⊢;exact S.sub _ _ e
 ·obtain⟨q1,q2⟩:=S.cell k a c h1 h2
  obtain⟨u,hu⟩:=q2.tracked
  have ha:a≠p:=zaC hu hp
  exact⟨fun hn=>by rw[zaD ha];exact q1 hn,q2.le l (zaD ha)⟩
theorem Store.alloc(S:Store G F as H ce)(hp:H p=none){c:C}(hc:∀as',Le F as F as'->CRep G F as' (upd H p o) p c):Store G F (as++[p]) (upd H p o) (ce++[c])/\Le F as F (as++[p]):=by
 have hF:F p=none:=by
  cases e:F p with
  | none=>rfl
  | some u=>rw[S.sub _ _ e] at hp;cases hp
 have l:Le F as F (as++[p]):=⟨fun _ _ h=>h,fun k a h=>by
  have hk:k<as.length:=zay h
  rw[getElem?_append_left hk];exact h⟩
 refine⟨⟨fun a u e=>?_,?_,by rw[length_append,length_append,S.len];rfl,fun k a c' h1 h2=>?_⟩,l⟩
 ·rw[zaD (zaC (S.sub _ _ e) hp)];exact S.sub _ _ e
 ·rw[nodup_append]
  refine⟨S.nd,by simp,fun a ha b hb=>?_⟩
  obtain⟨k,hk⟩:=getElem?_of_mem ha
  obtain⟨u,hu⟩:=S.tracked hk
  rw[mem_singleton] at hb
  subst hb
  exact zaC hu hp
 ·by_cases hk:k<ce.length
  ·rw[getElem?_append_left (by rw[S.len];exact hk)] at h1
   rw[getElem?_append_left hk] at h2
   obtain⟨q1,q2⟩:=S.cell k a c' h1 h2
   obtain⟨u,hu⟩:=q2.tracked
   exact⟨q1,q2.le l (zaD (zaC hu hp))⟩
  ·rw[getElem?_append_right (by rw[S.len];omega)] at h1
   rw[getElem?_append_right (by omega)] at h2
   have e:k-as.length=0:=by
    cases q:k-as.length with
    | zero=>rfl
    | succ n=>rw[q] at h1;simp at h1
   rw[e] at h1
   rw[<- S.len,e] at h2
   simp at h1 h2
   subst h1;subst h2
   exact⟨fun _=>hF,hc _ l⟩
theorem Store.write(S:Store G F as H ce)(h1:as[k]?=some a){c:C}(hc:CRep G F as (upd H a o) a c)(hm:∃o',H a=some o'/\nfz o'=true:=by exact⟨_,by assumption,rfl⟩):Store G F as (upd H a o) (ce.set k c):=by
 have hk:k<ce.length:=by rw[<- S.len];exact zay h1
 have e:ce[k]?=some ce[k]:=getElem?_eq_getElem hk
 obtain⟨q1,q2⟩:=S.cell k a _ h1 e
 have q1:F a=none:=by
  cases ek:ce[k] with
  | fzd xs =>
   rw[ek] at q2
   obtain⟨o1,ps,_,e2,_⟩:=q2
   obtain⟨o',e3,hn⟩:=hm
   rw[e2] at e3
   cases e3
   cases hn
  | _=>exact q1 (by rw[ek];rfl)
 refine⟨fun b u e'=>?_,S.nd,by rw[length_set];exact S.len,fun j b c' h1' h2'=>?_⟩
 ·rw[zaD (fun z=>by subst z;rw[q1] at e';cases e')];exact S.sub _ _ e'
 ·by_cases hj:k=j
  ·subst hj
   rw[getElem?_set_self hk] at h2'
   rw[h1] at h1'
   cases h1';cases h2'
   exact⟨fun _=>q1,hc⟩
  ·rw[getElem?_set_ne hj] at h2'
   obtain⟨p1,p2⟩:=S.cell j b c' h1' h2'
   have hb:b≠a:=fun z=>by
    subst z
    have hj':j<as.length:=zay h1'
    have hk':k<as.length:=by rw[S.len];exact hk
    have e1:as[k]=as[j]:=by
     rw[getElem?_eq_getElem hk'] at h1
     rw[getElem?_eq_getElem hj'] at h1'
     exact(Option.some.inj h1).trans (Option.some.inj h1').symm
    exact hj (zhr S.nd hk' hj' e1)
   exact⟨p1,p2.le .refl (zaD hb)⟩
end
def bnd{α β:Type}(m:M α)(f:α->M β):M β:=fun ce=>match m ce with
 | some (.ok a ce')=>f a ce'
 | some (.ex x ce')=>some (.ex x ce')
 | none=>none
def ret{α:Type}(a:α):M α:=fun ce=>some (.ok a ce)
def look{α:Type}(f:Ce->Option α):M α:=fun ce=>(f ce).map fun a=>R.ok a ce
def zgp{α:Type}:M α:=fun _=>none
def Post{α β:Type}(G:Ga)(E:XK)(RP:Hp->List Addr->α->β->Prop)(F:Hp)(as:List Addr)(σ:VS.St)(sl:Sl)(Q:β->Hp->Prop):Option (R α)->Prop
 | some (.ok a ce')=>∀b H' F' as',Le F as F' as'->SR G F' as' H' σ sl ce'->RP F' as' a b->Q b H'
 | some (.ex x ce')=>∀H' F' as' cv od,Le F as F' as'->Store G F' as' H' ce'->G.xr x cv od H'->E cv od H'
 | none=>False
def toT{α β:Type}(G:Ga)(E:XK)(RP:Hp->List Addr->α->β->Prop)(d:Sl->M α):VS.St->Hp->(β->Hp->Prop)->Prop :=
 fun σ H Q=>∃F as sl ce,SR G F as H σ sl ce/\Post G E RP F as σ sl Q (d sl ce)
def rB:Hp->List Addr->Bool->Bool->Prop:=fun _ _ a b=>a=b
abbrev zax(G:Ga)(E:XK)(d:Sl->M W):TE:=toT G E Rep d
abbrev zcc(G:Ga)(E:XK)(d:Sl->M Bool):TT:=toT G E rB d
abbrev zhd(G:Ga)(E:XK)(d:Sl->M (List W)):TA:=toT G E Reps d
section
variable {α β γ δ:Type} {G:Ga} {E:XK} {RP:Hp->List Addr->α->β->Prop} {RQ:Hp->List Addr->γ->δ->Prop} {F F':Hp} {as as':List Addr} {H:Hp} {σ:VS.St} {sl:Sl} {ce:Ce}
theorem Post.le{Q:β->Hp->Prop}{r:Option (R α)}(l:Le F as F' as')(P:Post G E RP F as σ sl Q r):Post G E RP F' as' σ sl Q r:=by
 cases r with
 | none=>exact P
 | some r=>cases r with
  | ok a ce'=>exact fun b H' F2 as2 l2=>P b H' F2 as2 (l.trans l2)
  | ex x ce'=>exact fun H' F2 as2 cv od l2=>P H' F2 as2 cv od (l.trans l2)
theorem toT.mono{d:Sl->M α}{Q Q':β->Hp->Prop}(h:toT G E RP d σ H Q)(q:∀b H1,Q b H1->Q' b H1):toT G E RP d σ H Q':=by
 obtain⟨F,as,sl,ce,S,P⟩:=h
 refine⟨F,as,sl,ce,S,?_⟩
 revert P
 cases d sl ce with
 | none=>exact fun P=>P
 | some r=>cases r with
  | ok a ce'=>exact fun P b H' F' as' l S' r=>q _ _ (P b H' F' as' l S' r)
  | ex x ce'=>exact fun P=>P
theorem step{d:Sl->M α}{f:α->M γ}{Q:δ->Hp->Prop}(S:SR G F as H σ sl ce)(P:Post G E RQ F as σ sl Q (bnd (d sl) f ce)) :
  toT G E RP d σ H fun b H2=>∃a F' as' ce',Le F as F' as'/\SR G F' as' H2 σ sl ce'/\RP F' as' a b/\Post G E RQ F' as' σ sl Q (f a ce'):=by
 refine⟨F,as,sl,ce,S,?_⟩
 revert P
 unfold bnd
 cases d sl ce with
 | none=>exact fun P=>P
 | some r=>cases r with
  | ok a ce'=>exact fun P b H' F' as' l S' r=>⟨a,F',as',ce',l,S',r,P.le l⟩
  | ex x ce'=>exact fun P=>P
theorem zbx{f:Ce->Option α}{Q:β->Hp->Prop}(P:Post G E RP F as σ sl Q (look f ce)):∃a,f ce=some a/\Post G E RP F as σ sl Q (some (.ok a ce)):=by
 revert P
 unfold look
 cases f ce with
 | none=>exact fun P=>P.elim
 | some a=>exact fun P=>⟨a,rfl,P⟩
theorem Post.done{a:α}{b:β}{Q:β->Hp->Prop}(S:SR G F as H σ sl ce)(P:Post G E RP F as σ sl Q (some (.ok a ce)))(r:RP F as a b):Q b H:=P b H F as .refl S r
end
theorem PE.imp{X:Cx}{e:Expr}{t t':TE}(h:PE X e t)(q:∀σ H Q,t' σ H Q->t σ H Q):PE X e t':=fun pins s σ H Q I z=>h pins s σ H Q I (q _ _ _ z)
theorem PT.imp{X:Cx}{e:Expr}{t t':TT}(h:PT X e t)(q:∀σ H Q,t' σ H Q->t σ H Q):PT X e t':=fun pins s σ H Q I z=>h pins s σ H Q I (q _ _ _ z)
theorem PW.imp{X:Cx}{e:Expr}{t t':TT}(h:PW X e t)(q:∀σ H Q,t' σ H Q->t σ H Q):PW X e t':=fun wh pins s σ H Q I z=>h wh pins s σ H Q I (q _ _ _ z)
theorem PA.imp{X:Cx}{e:List Expr}{t t':TA}(h:PA X e t)(q:∀σ H Q,t' σ H Q->t σ H Q):PA X e t':=fun pos pins s σ H Q I z=>h pos pins s σ H Q I (q _ _ _ z)
theorem PS.imp{X:Cx}{e:Stmt}{t t':TS}(h:PS X e t)(q:∀D σ H,t' D σ H->t D σ H):PS X e t':=fun pins s σ H Q I z=>h pins s σ H Q I (q _ _ _ z)
theorem PSs.imp{X:Cx}{e:List Stmt}{t t':TS}(h:PSs X e t)(q:∀D σ H,t' D σ H->t D σ H):PSs X e t':=fun pins s σ H Q I z=>h pins s σ H Q I (q _ _ _ z)
def zae(i:Nat):Sl->M W:=fun sl ce=>match sl[i]? with
 | some (some w)=>some (.ok w ce)
 | _=>none
def dC(w:W):Sl->M W:=fun _=>ret w
def dOp(f:W->W->Option W)(a b:Sl->M W):Sl->M W:=fun sl=>bnd (a sl) fun x=>bnd (b sl) fun y=>look fun _=>f x y
def dUn(f:W->Option W)(a:Sl->M W):Sl->M W:=fun sl=>bnd (a sl) fun x=>look fun _=>f x
def scV:W->Option V
 | .non=>some .non
 | .bl b=>some (.bl b)
 | .int i=>some (.int i)
 | .str x=>some (.str x)
 | .ty n=>some (.ty n)
 | _=>none
theorem Rep.sc{F:Hp}{as:List Addr}{w:W}{v u:V}(r:Rep F as w v)(e:scV w=some u):v=u:=by
 cases w<;>simp only[scV,Option.some.injEq,reduceCtorEq] at e<;>simp only[Rep] at r<;>(subst e;exact r)
theorem Rep.of_sc{F:Hp}{as:List Addr}{w:W}{u:V}(e:scV w=some u):Rep F as w u:=by
 cases w<;>simp only[scV,Option.some.injEq,reduceCtorEq] at e<;>simp only[Rep]<;>exact e.symm
def Sc2(r:R2)(f:W->W->Option W):Prop:=∀x y w,f x y=some w->∃vx vy vw,scV x=some vx/\scV y=some vy/\scV w=some vw/\∀H Q,Q vw H->r vx vy H Q
def i2(g:Int->Int->W):W->W->Option W
 | .int i,.int j=>some (g i j)
 | _,_=>none
open Classical in
def i2c(c:Int->Int->Prop)(g:Int->Int->W):W->W->Option W
 | .int i,.int j=>if c i j then some (g i j) else none
 | _,_=>none
section
variable {X:Cx} {G:Ga} {E:XK} {a b c:Expr} {da db dc:Sl->M W} {pos:Pos}
theorem zaa(i:Nat){x:Str}{pos:Pos}(hN:X.N[i]?=some x:=by rfl)(hv:Vis X.env.scope x:=by first|exact Or.inl rfl|exact Or.inr (Or.inl rfl)|exact Or.inr (Or.inr rfl))(hd:(x==("__debug__" : Str))=false:=by decide)(hcd:(x==("__classdict__" : Str))=false:=by decide):PE X (.Name x pos) (zax G E (zae i)):=by
 refine PE.imp (zfV hN hv hd hcd) fun σ H Q h=>?_
 obtain⟨F,as,sl,ce,S,P⟩:=h
 revert P
 unfold zae
 split
 ·rename_i w e
  intro P
  obtain⟨v,h1,h2⟩:=S.var e
  exact⟨v,h1,P.done S h2⟩
 ·exact fun P=>P.elim
theorem zql{e:Expr}{w:W}{v:V}(h:PE X e (tC v))(hs:scV w=some v):PE X e (zax G E (dC w)):=by
 refine PE.imp h fun σ H Q h=>?_
 obtain⟨F,as,sl,ce,S,P⟩:=h
 exact P.done S (Rep.of_sc hs)
theorem zai{i j pos}:PE X (.Constant (.int i) j pos) (zax G E (dC (.int i))):=zql zqw rfl
theorem zcH{i j pos}:PE X (.Constant (.bool i) j pos) (zax G E (dC (.bl i))):=zql zsE rfl
theorem zf4{j pos}:PE X (.Constant .none j pos) (zax G E (dC .non)):=zql zqx rfl
theorem ze4{x j pos}:PE X (.Constant (.str x) j pos) (zax G E (dC (.str x))):=zql zqy rfl
theorem ziQ{r:R2}{f:W->W->M W}{σ:VS.St}{H:Hp}{Q:VK}(h:zax G E (fun sl=>bnd (da sl) fun x=>bnd (db sl) fun y=>f x y) σ H Q)(k:∀F as sl ce H2 x y wx wy,SR G F as H2 σ sl ce->Rep F as wx x->Rep F as wy y->Post G E Rep F as σ sl Q (f wx wy ce)->r x y H2 Q):tOp r (zax G E da) (zax G E db) σ H Q:=by
 obtain⟨F,as,sl,ce,S,P⟩:=h
 refine(step S P).mono fun x H1 zz_=>el8 zz_ fun wx F1 as1 ce1 l1 S1 rx P1=>(step S1 P1).mono fun y H2 zz_=>el8 zz_ fun wy F2 as2 ce2 l2 S2 ry P2=>?_
 exact k F2 as2 sl ce2 H2 x y wx wy S2 (rx.le l2) ry P2
theorem zkD{op:Operator}{r:R2}{f:W->W->Option W}(ho:OpR X (binaryOp op) r)(hf:Sc2 r f)(ha:PE X a (zax G E da))(hb:PE X b (zax G E db)):PE X (.BinOp a op b pos) (zax G E (dOp f da db)):=by
 refine PE.imp (zqP ho ha hb) fun σ H Q h=>ziQ h fun F as sl ce H2 x y wx wy S rx ry P=>?_
 revert P
 unfold look
 cases e:f wx wy with
 | none=>exact fun P=>P.elim
 | some w =>
  intro P
  obtain⟨vx,vy,vw,e1,e2,e3,k⟩:=hf _ _ _ e
  rw[rx.sc e1,ry.sc e2]
  exact k _ _ (P.done S (Rep.of_sc e3))
theorem zkE{op:CmpOp}{r:R2}{f:W->W->Option W}(ho:OpR X (compareOp op) r)(hf:Sc2 r f)(ha:PE X a (zax G E da))(hb:PE X b (zax G E db))(hm:behindInMarks op b=false):PE X (.Compare a [op] [b] pos) (zax G E (dOp f da db)):=by
 refine PE.imp (zkh ho ha hb hm) fun σ H Q h=>ziQ h fun F as sl ce H2 x y wx wy S rx ry P=>?_
 revert P
 unfold look
 cases e:f wx wy with
 | none=>exact fun P=>P.elim
 | some w =>
  intro P
  obtain⟨vx,vy,vw,e1,e2,e3,k⟩:=hf _ _ _ e
  rw[rx.sc e1,ry.sc e2]
  exact k _ _ (P.done S (Rep.of_sc e3))
theorem zgq{g:Int->Int->W}{h:Int->Int->V}(q:∀i j,scV (g i j)=some (h i j)):Sc2 (rI0 h) (i2 g):=by
 intro x y w e
 cases x<;>cases y<;>simp only[i2,Option.some.injEq,reduceCtorEq] at e
 subst e
 exact⟨_,_,_,rfl,rfl,q _ _,fun H Q hq=>⟨_,_,rfl,rfl,hq⟩⟩
theorem zkF{c:Int->Int->Prop}{g:Int->Int->W}{h:Int->Int->V}(q:∀i j,scV (g i j)=some (h i j)):Sc2 (rI c h) (i2c c g):=by
 intro x y w e
 cases x<;>cases y<;>simp only[i2c,reduceCtorEq] at e
 split at e
 ·rename_i hc
  cases e
  exact⟨_,_,_,rfl,rfl,q _ _,fun H Q hq=>⟨_,_,rfl,rfl,hc,hq⟩⟩
 ·cases e
def zb3:W->W->Option W:=i2 fun i j=>.int (i+j)
def zhe:W->W->Option W:=i2 fun i j=>.int (i-j)
def zgr:W->W->Option W:=i2c CMul fun i j=>.int (i*j)
def zbP:W->W->Option W:=i2c (fun _ j=>0<j) fun i j=>.int (i % j)
def zo7:W->W->Option W:=i2c zsU fun i j=>.int (i / j)
def fLt:W->W->Option W:=i2 fun i j=>.bl (decide (i<j))
def fLe:W->W->Option W:=i2 fun i j=>.bl (decide (i<=j))
def fGt:W->W->Option W:=i2 fun i j=>.bl (decide (j<i))
def fGe:W->W->Option W:=i2 fun i j=>.bl (decide (j<=i))
theorem zaY(ha:PE X a (zax G E da))(hb:PE X b (zax G E db)):PE X (.BinOp a .Add b pos) (zax G E (dOp zb3 da db)):=zkD zqQ (zgq fun _ _=>rfl) ha hb
theorem zdj(ha:PE X a (zax G E da))(hb:PE X b (zax G E db)):PE X (.BinOp a .Sub b pos) (zax G E (dOp zhe da db)):=zkD zqR (zgq fun _ _=>rfl) ha hb
theorem ze5(ha:PE X a (zax G E da))(hb:PE X b (zax G E db)):PE X (.BinOp a .Mult b pos) (zax G E (dOp zgr da db)):=zkD zqS (zkF fun _ _=>rfl) ha hb
theorem zaX(ha:PE X a (zax G E da))(hb:PE X b (zax G E db)):PE X (.BinOp a .Mod b pos) (zax G E (dOp zbP da db)):=zkD zqT (zkF fun _ _=>rfl) ha hb
theorem zn0(ha:PE X a (zax G E da))(hb:PE X b (zax G E db)):PE X (.BinOp a .FloorDiv b pos) (zax G E (dOp zo7 da db)):=zkD zoK (zkF fun _ _=>rfl) ha hb
theorem ztk(ha:PE X a (zax G E da))(hb:PE X b (zax G E db)):PE X (.Compare a [.Gt] [b] pos) (zax G E (dOp fGt da db)):=zkE zqX (zgq fun _ _=>rfl) ha hb (zb4 _)
theorem zrd(ha:PE X a (zax G E da))(hb:PE X b (zax G E db)):PE X (.Compare a [.GtE] [b] pos) (zax G E (dOp fGe da db)):=zkE zqY (zgq fun _ _=>rfl) ha hb (zb4 _)
def zo8:W->Option W
 | .int i=>some (.int (-i))
 | _=>none
theorem zn1(ha:PE X a (zax G E da)):PE X (.UnaryOp .USub a pos) (zax G E (dUn zo8 da)):=by
 refine PE.imp (zsT zqU ha) fun σ H Q zz_=>el6 zz_ fun F as sl ce S P=>(step S P).mono fun x H1 zz_=>el8 zz_ fun wx F1 as1 ce1 l1 S1 rx P1=>?_
 revert P1
 unfold look zo8
 cases wx<;>first|exact fun P=>P.elim|skip
 simp only[Rep] at rx
 subst rx
 exact fun P=>⟨_,rfl,P.done S1 (by simp only[Rep])⟩
def isNon:W->Bool
 | .non=>true
 | _=>false
def zre:W->Option W:=fun w=>some (.bl (isNon w))
def zde:W->Option W:=fun w=>some (.bl (!isNon w))
theorem Rep.isN{F:Hp}{as:List Addr}{w:W}{v:V}(r:Rep F as w v):decide (v=.non)=isNon w:=by
 cases w<;>simp only[Rep] at r<;>first|(subst r;rfl)|(obtain⟨_,_,rfl,_⟩:=r;rfl)|(obtain⟨_,rfl,_⟩:=r;rfl)
def zh7(ce:Ce):W->Option Bool
 | .non=>some false
 | .bl b=>some b
 | .int i=>some (i != 0)
 | .str x=>if x.length<=sizeLine then some ((x.length:Int) != 0) else none
 | .lst xs=>some (!xs.isEmpty)
 | .tup xs=>some (!xs.isEmpty)
 | .cel k=>match ce[k]? with
  | some (.lst xs)=>some (!xs.isEmpty)
  | some (.dct xs)=>some (!xs.isEmpty)
  | _=>none
 | _=>none
theorem Reps.empty{F:Hp}{as:List Addr}{ws:List W}{vs:List V}(r:Reps F as ws vs):vs.isEmpty=ws.isEmpty:=by
 have:=r.length
 cases ws<;>cases vs<;>simp_all
theorem Rd.sub{G:Ga}{F:Hp}{as:List Addr}{H:Hp}{ce:Ce}(S:Store G F as H ce){a:Addr}{o:HO}(r:Rd F a o):Rd H a o:=by
 rcases r with r|⟨u,r⟩
 ·exact .inl (S.sub _ _ r)
 ·exact .inr ⟨u,S.sub _ _ r⟩
theorem zo9{F:Hp}{as:List Addr}{H:Hp}{ce:Ce}{w:W}{v:V}{k:Bool}(S:Store G F as H ce)(r:Rep F as w v)(e:zh7 ce w=some k)(K:PySem.W.Frag):zst K v H k:=by
 cases w with
 | non=>simp only[Rep] at r;simp only[zh7,Option.some.injEq] at e;subst r;exact e.symm
 | bl b=>simp only[Rep] at r;simp only[zh7,Option.some.injEq] at e;subst r;exact e.symm
 | int i=>simp only[Rep] at r;simp only[zh7,Option.some.injEq] at e;subst r;exact e.symm
 | str x =>
  simp only[Rep] at r
  subst r
  simp only[zh7] at e
  split at e
  ·rename_i h
   exact⟨h,(Option.some.inj e).symm⟩
  ·cases e
 | ty n=>simp only[zh7,reduceCtorEq] at e
 | lst xs =>
  simp only[Rep] at r
  obtain⟨a,vs,rfl,h,rs⟩:=r
  simp only[zh7,Option.some.injEq] at e
  exact .inl ⟨vs,.inl (Rd.sub S h),by rw[<- e,rs.empty]⟩
 | tup xs =>
  simp only[Rep] at r
  obtain⟨a,vs,rfl,h,rs⟩:=r
  simp only[zh7,Option.some.injEq] at e
  exact .inr (.inl ⟨vs,.inl (.inl (S.sub _ _ h)),by rw[<- e,rs.empty]⟩)
 | cel n =>
  simp only[Rep] at r
  obtain⟨a,rfl,h⟩:=r
  simp only[zh7] at e
  split at e
  ·rename_i xs hc
   obtain⟨_,vs,h2,rs⟩:=S.cell _ _ _ h hc
   exact .inl ⟨vs,.inl (.inl h2),by rw[<- Option.some.inj e,rs.empty]⟩
  ·rename_i xs hc
   obtain⟨_,vs,h2,rs⟩:=S.cell _ _ _ h hc
   refine .inr (.inr ⟨vs,h2,?_⟩)
   rw[<- Option.some.inj e]
   cases rs<;>rfl
  ·cases e
def zl2(d:Sl->M W):Sl->M Bool:=fun sl=>bnd (d sl) fun w=>look fun ce=>zh7 ce w
theorem zkG{da:Sl->M W}(ha:PE X a (zax G E da))(he:∀whole,isTrue a X.env whole=(do let v <- whole;standAt a.pos;holding [v] (truthy v)):=by intro _;rfl):PT X a (zcc G E (zl2 da)):=by
 refine PT.imp (zte (K:=X.K) ha he) fun σ H Q zz_=>el6 zz_ fun F as sl ce S P=>(step S P).mono fun x H1 zz_=>el8 zz_ fun wx F1 as1 ce1 l1 S1 rx P1=>?_
 obtain⟨k,e,P⟩:=zbx P1
 exact⟨k,zo9 S1.st rx e _,Post.done (RP:=rB) S1 P rfl⟩
def dB(d:Sl->M W):Sl->M Bool:=fun sl=>bnd (d sl) fun w=>look fun _=>match w with|.bl b=>some b|_=>none
theorem zpa{t:TE}{σ:VS.St}{H:Hp}{Q:Bool->Hp->Prop}{d:Sl->M W}(h:zcc G E (dB d) σ H Q):tB (zax G E d) σ H Q:=by
 obtain⟨F,as,sl,ce,S,P⟩:=h
 refine(step S P).mono fun x H1 zz_=>el8 zz_ fun wx F1 as1 ce1 l1 S1 rx P1=>?_
 revert P1
 unfold look
 cases wx<;>first|exact fun P=>P.elim|skip
 simp only[Rep] at rx
 subst rx
 exact fun P=>⟨_,rfl,P.done S1 rfl⟩
theorem ze6{e:Expr}{d:Sl->M W}(h:PE X e (zax G E d))(he:∀whole,isTrue e X.env whole=(do let v <- whole;standAt e.pos;holding [v] (truthy v)):=by intro _;rfl):PT X e (zcc G E (dB d)) :=
 PT.imp (zqB h he) fun σ H Q q=>zpa (t:=zax G E d) q
theorem zgs{op:CmpOp}{d:Sl->M W}{r:R2}(ho:OpR X (compareOp op) r)(ha:PE X a (zax G E da))(hb:PE X b (zax G E db))(hm:behindInMarks op b=false)(q:∀σ H Q,zax G E d σ H Q->tOp r (zax G E da) (zax G E db) σ H Q):PT X (.Compare a [op] [b] pos) (zcc G E (dB d)):=by
 refine PT.imp (zoL ho ha hb hm) fun σ H Q h=>?_
 exact q σ H _ (zpa (t:=zax G E d) h)
theorem zpb{op:CmpOp}{d:Sl->M W}(h:∃t,PC X op a b t/\∀σ H Q,zax G E d σ H Q->t σ H Q)(h1:behindInMarks op b=false):PT X (.Compare a [op] [b] pos) (zcc G E (dB d)):=by
 obtain⟨t,h,q⟩:=h
 exact PT.imp (zqA h h1) fun σ H Q z=>q _ _ _ (zpa (t:=zax G E d) z)
end
mutual
def peq:W->W->Bool
 | .non,y=>match y with|.non=>true|_=>false
 | .bl a,y=>match y with|.bl b=>a==b|.int b=>(if a then 1 else 0)==b|_=>false
 | .int a,y=>match y with|.int b=>a==b|.bl b=>a==(if b then 1 else 0)|_=>false
 | .str a,y=>match y with|.str b=>a==b|_=>false
 | .lst xs,y=>match y with|.lst ys=>peqs xs ys|_=>false
 | .tup xs,y=>match y with|.tup ys=>peqs xs ys|_=>false
 | .ty _,_=>false
 | .cel _,_=>false
def peqs:List W->List W->Bool
 | [],ys=>match ys with|[]=>true|_=>false
 | x::xs,ys=>match ys with|y::ys=>peq x y&&peqs xs ys|[]=>false
end
def cln:Nat->W->Bool
 | _,.non=>true
 | _,.bl _=>true
 | _,.int _=>true
 | _,.str _=>true
 | _,.ty _=>false
 | _,.cel _=>false
 | 0,.lst _=>false
 | 0,.tup _=>false
 | n+1,.lst xs=>xs.all (cln n)
 | n+1,.tup xs=>xs.all (cln n)
theorem zjC{F:Hp}{a:Addr}{vs us:List V}(h:Rd F a (.lst vs))(h':Rd F a (.lst us)):vs=us:=by
 rcases h with h|⟨o,h⟩<;>rcases h' with h'|⟨o',h'⟩<;>(first|(rw[h] at h';cases h';rfl)|(rw[h] at h';cases h'))
theorem zjD{F:Hp}{a:Addr}{vs us:List V}(h:Rd F a (.tup vs))(h':Rd F a (.tup us)):vs=us:=by
 rcases h with h|⟨o,h⟩<;>rcases h' with h'|⟨o',h'⟩<;>(first|(rw[h] at h';cases h';rfl)|(rw[h] at h';cases h'))
theorem ziR{F:Hp}{a:Addr}{vs us:List V}(h:Rd F a (.lst vs))(h':Rd F a (.tup us)):False:=by
 rcases h with h|⟨o,h⟩<;>rcases h' with h'|⟨o',h'⟩<;>(rw[h] at h';cases h')
theorem zkH{F:Hp}{as:List Addr}:∀(n:Nat) {w w':W} {v:V},cln n w=true->cln n w'=true->Rep F as w v->Rep F as w' v->w=w':=by
 intro n
 induction n with
 | zero =>
  intro w w' v c c' r r'
  cases w<;>cases w'<;>simp only[cln,reduceCtorEq] at c c'<;>simp only[Rep] at r r'<;>(subst r;cases r')<;>rfl
 | succ n ih =>
  have its:∀{ws ws':List W} {vs:List V},ws.all (cln n)=true->ws'.all (cln n)=true->Reps F as ws vs->Reps F as ws' vs->ws=ws':=by
   intro ws
   induction ws with
   | nil =>
    intro ws' vs _ _ r r'
    simp only[Reps] at r
    subst r
    cases ws' with
    | nil=>rfl
    | cons y ys=>simp only[Reps] at r';obtain⟨v,r,e,_⟩:=r';cases e
   | cons x xs ihx =>
    intro ws' vs c c' r r'
    simp only[Reps] at r
    obtain⟨v,vs',rfl,h1,h2⟩:=r
    cases ws' with
    | nil=>simp only[Reps] at r';cases r'
    | cons y ys =>
     simp only[Reps] at r'
     obtain⟨v',r',e,h3,h4⟩:=r'
     cases e
     simp only[all_cons,and_eq_true] at c c'
     rw[ih c.1 c'.1 h1 h3,ihx c.2 c'.2 h2 h4]
  intro w w' v c c' r r'
  cases w<;>cases w'<;>simp only[cln,reduceCtorEq] at c c'<;>simp only[Rep] at r r'<;>first
   | (subst r;cases r';rfl)
   | (subst r;cases r';done)
   | (subst r;obtain⟨_,_,e,_⟩:=r';cases e)
   | (subst r';obtain⟨_,_,e,_⟩:=r;cases e)
   | (obtain⟨a,vs,rfl,q,s⟩:=r
      obtain⟨b,us,e,q',s'⟩:=r'
      cases e
      first
       | exact(ziR q (.inl q')).elim
       | exact(ziR q' (.inl q)).elim
       | (cases zjC q q';rw[its c c' s s'])
       | (cases zjD (.inl q) (.inl q');rw[its c c' s s']))
theorem zmB:∀(n:Nat) {w:W},cln n w=true->peq w w=true:=by
 intro n
 induction n with
 | zero=>intro w c;cases w<;>simp_all[cln,peq]
 | succ n ih =>
  have its:∀{ws:List W},ws.all (cln n)=true->peqs ws ws=true:=by
   intro ws
   induction ws with
   | nil=>intro _;simp[peqs]
   | cons x xs ihx =>
    intro c
    simp only[all_cons,and_eq_true] at c
    simp only[peqs,ih c.1,ihx c.2,Bool.and_self]
  intro w c
  cases w<;>simp only[cln,reduceCtorEq] at c<;>first|(simp only[peq];exact its c)|simp[peq]
theorem zgt:∀(xs ys:List W),xs.length=ys.length->peqs xs ys=(List.range xs.length).all fun j=>match xs[j]?,ys[j]? with|some a,some b=>peq a b|_,_=>false
 | [],[],_=>by simp[peqs]
 | x::xs,y::ys,h=>by
  have e:xs.length=ys.length:=by simpa using h
  simp only[peqs]
  rw[zgt xs ys e,length_cons,range_succ_eq_map,all_cons,all_map]
  rfl
 | [],_::_,h=>by simp at h
 | _::_,[],h=>by simp at h
theorem ziS:∀{xs ys:List W},peqs xs ys=true->xs.length=ys.length
 | [],[],_=>rfl
 | x::xs,y::ys,h=>by
  simp only[peqs,and_eq_true] at h
  simp only[length_cons,ziS h.2]
 | [],_::_,h=>by simp[peqs] at h
 | _::_,[],h=>by simp[peqs] at h
theorem zkI{xs ys:List W}(h:xs.length≠ys.length):peqs xs ys=false:=by
 cases e:peqs xs ys with
 | false=>rfl
 | true=>exact absurd (ziS e) h
section
variable {X:Cx} {pins:List (Addr×Obj)} {σ:VS.St} {H F:Hp} {as:List Addr} {s:Shared}
theorem zkJ{A:Around}{ws zs:List W}{vs us:List V}{ps qs:List Value}(it:∀{w z:W} {v u:V} {p q:Value},w∈ws->z∈zs->Rep F as w v->Rep F as z u->L2.RelV v p->L2.RelV u q->SeqAt.EqAt A s p q (peq w z))(h1:Reps F as ws vs)(h2:Reps F as zs us)(r1:Vals vs ps)(r2:Vals us qs) :
  ∀j (k1:j<ps.toArray.size) (k2:j<qs.toArray.size),SeqAt.EqAt A s ps.toArray[j] qs.toArray[j] (match ws[j]?,zs[j]? with|some a,some b=>peq a b|_,_=>false):=by
 intro j k1 k2
 have k1':j<ps.length:=by simpa using k1
 have k2':j<qs.length:=by simpa using k2
 have l1:=r1.length
 have l2:=r2.length
 have e1:vs[j]?=some (vs[j]'(by omega)):=by simp
 have e2:us[j]?=some (us[j]'(by omega)):=by simp
 obtain⟨u,hu1,ru⟩:=r1.get e1
 obtain⟨z,hz1,rz⟩:=r2.get e2
 obtain⟨a,ha,ra⟩:=h1.get' e1
 obtain⟨b,hb,rb⟩:=h2.get' e2
 have eu:ps.toArray[j]=u:=by
  have:ps[j]?=some ps[j]:=by simp
  rw[hu1] at this
  simpa using (Option.some.inj this).symm
 have ez:qs.toArray[j]=z:=by
  have:qs[j]?=some qs[j]:=by simp
  rw[hz1] at this
  simpa using (Option.some.inj this).symm
 rw[eu,ez,ha,hb]
 exact it (mem_of_getElem? ha) (mem_of_getElem? hb) ra rb ru rz
theorem zmC{A:Around}{ws zs:List W}{vs us:List V}{a b:Addr}(I:Inv X pins σ H s)(hu:A.units<cLine)(ha:SqL X.K H a vs)(hb:SqL X.K H b us)(h1:Reps F as ws vs)(h2:Reps F as zs us)(it:∀{w z:W} {v u:V} {p q:Value},w∈ws->z∈zs->Rep F as w v->Rep F as z u->L2.RelV v p->L2.RelV u q->SeqAt.EqAt A.in1 s p q (peq w z)) :
  SeqAt.RcAt A s (.ref a) (.ref b) (peqs ws zs)/\SeqAt.RcNeAt A s (.ref a) (.ref b) (!peqs ws zs):=by
 obtain⟨ps,r1,p1,z1⟩:=I.list ha
 obtain⟨qs,r2,p2,z2⟩:=I.list hb
 have l1:=r1.length
 have l2:=r2.length
 have l3:=h1.length
 have l4:=h2.length
 by_cases hl:ws.length=zs.length
 ·have hsz:ps.toArray.size=qs.toArray.size:=by rw[size_toArray,size_toArray];omega
  have ia:=zkJ (A:=A.in1) it h1 h2 r1 r2
  have a1:=SeqAt.RcAt.lists p1.isList p2.isList hsz hu ia
  have a2:=SeqAt.RcNeAt.lists p1.isList p2.isList hsz hu ia
  rw[size_toArray,show ps.length=ws.length by omega,<- zgt ws zs hl] at a1 a2
  exact⟨a1,a2⟩
 ·have hne:(ps.toArray.size != qs.toArray.size)=true:=by
   rw[size_toArray,size_toArray]
   simp
   omega
  rw[zkI hl]
  exact⟨SeqAt.RcAt.lists_lengths p1.isList p2.isList hne hu,SeqAt.RcNeAt.lists_lengths p1.isList p2.isList hne hu⟩
theorem zpc{A:Around}{ws zs:List W}{vs us:List V}{a b:Addr}(I:Inv X pins σ H s)(hu:A.units<cLine)(ha:SqT X.K H a vs)(hb:SqT X.K H b us)(h1:Reps F as ws vs)(h2:Reps F as zs us)(it:∀{w z:W} {v u:V} {p q:Value},w∈ws->z∈zs->Rep F as w v->Rep F as z u->L2.RelV v p->L2.RelV u q->SeqAt.EqAt A.in1 s p q (peq w z)) :
  SeqAt.RcAt A s (.ref a) (.ref b) (peqs ws zs)/\SeqAt.RcNeAt A s (.ref a) (.ref b) (!peqs ws zs):=by
 obtain⟨ps,r1,p1,z1⟩:=I.tuple ha
 obtain⟨qs,r2,p2,z2⟩:=I.tuple hb
 have l1:=r1.length
 have l2:=r2.length
 have l3:=h1.length
 have l4:=h2.length
 have ia:=zkJ (A:=A.in1) it h1 h2 r1 r2
 have e:((List.range (min ps.toArray.size qs.toArray.size)).all (fun j=>match ws[j]?,zs[j]? with|some a,some b=>peq a b|_,_=>false)&&ps.toArray.size==qs.toArray.size)=peqs ws zs:=by
  rw[size_toArray,size_toArray]
  by_cases hl:ws.length=zs.length
  ·have h1:ps.length=ws.length:=by omega
   have h2:qs.length=ws.length:=by omega
   rw[h1,h2,min_self,zgt ws zs hl]
   simp
  ·have e1:(ps.length==qs.length)=false:=by simp;omega
   rw[e1,Bool.and_false,zkI hl]
 have a1:=SeqAt.RcAt.tuples p1 p2 hu ia
 have a2:=SeqAt.RcNeAt.tuples p1 p2 hu ia
 rw[e] at a1 a2
 exact⟨a1,a2⟩
inductive Sh (F:Hp) (as:List Addr):W->V->Value->Prop where
 | non:Sh F as .non .non .none
 | bl (b:Bool):Sh F as (.bl b) (.bl b) (.bool b)
 | int (i:Int) (t:Tok):Sh F as (.int i) (.int i) (.int i t)
 | str (x:Str) (t:Tok):Sh F as (.str x) (.str x) (.str x t)
 | lst {xs:List W} {a:Addr} {vs:List V} (h:Rd F a (.lst vs)) (r:Reps F as xs vs):Sh F as (.lst xs) (.ref a) (.ref a)
 | tup {xs:List W} {a:Addr} {vs:List V} (h:Rd F a (.tup vs)) (r:Reps F as xs vs):Sh F as (.tup xs) (.ref a) (.ref a)
theorem zmD{n:Nat}{w:W}{v:V}{p:Value}(c:cln n w=true)(r:Rep F as w v)(rv:L2.RelV v p):Sh F as w v p:=by
 cases w with
 | non=>simp only[Rep] at r;subst r;cases rv;exact .non
 | bl b=>simp only[Rep] at r;subst r;cases rv;exact .bl b
 | int i=>simp only[Rep] at r;subst r;obtain⟨t,rfl⟩:=rv;exact .int i t
 | str i=>simp only[Rep] at r;subst r;obtain⟨t,rfl⟩:=rv;exact .str i t
 | ty i=>cases n<;>simp only[cln,reduceCtorEq] at c
 | cel i=>cases n<;>simp only[cln,reduceCtorEq] at c
 | lst xs=>simp only[Rep] at r;obtain⟨a,vs,rfl,h,q⟩:=r;cases rv;exact .lst h q
 | tup xs=>simp only[Rep] at r;obtain⟨a,vs,rfl,h,q⟩:=r;cases rv;exact .tup (.inl h) q
set_option maxHeartbeats 0 in
theorem ztl(hs:∀a o,F a=some o->H a=some o)(I:Inv X pins σ H s):∀(n:Nat) {A:Around} {w z:W} {v u:V} {p q:Value},A.units+n<cLine->cln n w=true->cln n z=true->Rep F as w v->Rep F as z u->L2.RelV v p->L2.RelV u q ->
  SeqAt.RcAt A s p q (peq w z)/\SeqAt.RcNeAt A s p q (!peq w z)/\SeqAt.EqAt A s p q (peq w z):=by
 have sub:∀{a:Addr} {o:HO},Rd F a o->Rd H a o:=fun {a o} r=>by
  rcases r with r|⟨u,r⟩
  ·exact .inl (hs _ _ r)
  ·exact .inr ⟨u,hs _ _ r⟩
 have isL:∀{a:Addr} {vs:List V},Rd F a (.lst vs)->∃its,s.heap.IsList a its:=fun {a vs} h=>by
  obtain⟨its,_,p,_⟩:=I.list (.inl (sub h))
  exact⟨_,p.isList⟩
 have isT:∀{a:Addr} {vs:List V},Rd F a (.tup vs)->∃its,s.heap.IsTuple a its:=fun {a vs} h=>by
  obtain⟨its,_,p,_⟩:=I.tuple (.inl (sub h))
  exact⟨_,p⟩
 intro n
 induction n with
 | zero =>
  intro A w z v u p q hu c c' r r' rv ru
  have sh:=zmD c r rv
  have sh':=zmD c' r' ru
  cases sh with
  | non =>
   cases sh' with
   | non =>
    simp only[peq]
    exact⟨SeqAt.RcAt.none_none ,SeqAt.RcNeAt.none_none ,SeqAt.EqAt.same _⟩
   | bl b2 =>
    simp only[peq]
    exact⟨SeqAt.RcAt.none_bool _,SeqAt.RcNeAt.none_bool _,SeqAt.EqAt.none_bool _⟩
   | int i2 t2 =>
    simp only[peq]
    exact⟨SeqAt.RcAt.none_int _ _,SeqAt.RcNeAt.none_int _ _,SeqAt.EqAt.none_int _ _⟩
   | str x2 t2 =>
    simp only[peq]
    exact⟨SeqAt.RcAt.none_str _ _,SeqAt.RcNeAt.none_str _ _,SeqAt.EqAt.none_str _ _⟩
   | lst q2 s2 =>
    simp only[cln,reduceCtorEq] at c'
   | tup q2 s2 =>
    simp only[cln,reduceCtorEq] at c'
  | bl b =>
   cases sh' with
   | non =>
    simp only[peq]
    exact⟨SeqAt.RcAt.bool_none _,SeqAt.RcNeAt.bool_none _,SeqAt.EqAt.bool_none _⟩
   | bl b2 =>
    simp only[peq]
    exact⟨SeqAt.RcAt.bool_bool _ _,SeqAt.RcNeAt.bool_bool _ _,SeqAt.EqAt.bool_bool _ _⟩
   | int i2 t2 =>
    simp only[peq]
    exact⟨SeqAt.RcAt.bool_int _ _ _,SeqAt.RcNeAt.bool_int _ _ _,SeqAt.EqAt.bool_int _ _ _⟩
   | str x2 t2 =>
    simp only[peq]
    exact⟨SeqAt.RcAt.bool_str _ _ _,SeqAt.RcNeAt.bool_str _ _ _,SeqAt.EqAt.bool_str _ _ _⟩
   | lst q2 s2 =>
    simp only[cln,reduceCtorEq] at c'
   | tup q2 s2 =>
    simp only[cln,reduceCtorEq] at c'
  | int i t =>
   cases sh' with
   | non =>
    simp only[peq]
    exact⟨SeqAt.RcAt.int_none _ _,SeqAt.RcNeAt.int_none _ _,SeqAt.EqAt.int_none _ _⟩
   | bl b2 =>
    simp only[peq]
    exact⟨SeqAt.RcAt.int_bool _ _ _,SeqAt.RcNeAt.int_bool _ _ _,SeqAt.EqAt.int_bool _ _ _⟩
   | int i2 t2 =>
    simp only[peq]
    exact⟨SeqAt.RcAt.int_int _ _ _ _,SeqAt.RcNeAt.int_int _ _ _ _,SeqAt.EqAt.int_int _ _ _ _⟩
   | str x2 t2 =>
    simp only[peq]
    exact⟨SeqAt.RcAt.int_str _ _ _ _,SeqAt.RcNeAt.int_str _ _ _ _,SeqAt.EqAt.int_str _ _ _ _⟩
   | lst q2 s2 =>
    simp only[cln,reduceCtorEq] at c'
   | tup q2 s2 =>
    simp only[cln,reduceCtorEq] at c'
  | str x t =>
   cases sh' with
   | non =>
    simp only[peq]
    exact⟨SeqAt.RcAt.str_none _ _,SeqAt.RcNeAt.str_none _ _,SeqAt.EqAt.str_none _ _⟩
   | bl b2 =>
    simp only[peq]
    exact⟨SeqAt.RcAt.str_bool _ _ _,SeqAt.RcNeAt.str_bool _ _ _,SeqAt.EqAt.str_bool _ _ _⟩
   | int i2 t2 =>
    simp only[peq]
    exact⟨SeqAt.RcAt.str_int _ _ _ _,SeqAt.RcNeAt.str_int _ _ _ _,SeqAt.EqAt.str_int _ _ _ _⟩
   | str x2 t2 =>
    simp only[peq]
    exact⟨SeqAt.RcAt.str_str _ _ _ _,SeqAt.RcNeAt.str_str _ _ _ _,SeqAt.EqAt.str_str _ _ _ _⟩
   | lst q2 s2 =>
    simp only[cln,reduceCtorEq] at c'
   | tup q2 s2 =>
    simp only[cln,reduceCtorEq] at c'
  | lst q1 s1 =>
   simp only[cln,reduceCtorEq] at c
  | tup q1 s1 =>
   simp only[cln,reduceCtorEq] at c
 | succ n ih =>
  intro A w z v u p q hu c c' r r' rv ru
  have hu0:A.units<cLine:=by omega
  have hu1:A.in1.units+n<cLine:=by show A.units+1+n<cLine;omega
  have ref:∀{a b:Addr},v=.ref a->u=.ref b->(SeqAt.RcAt A s (.ref a) (.ref b) (peq w z)/\SeqAt.RcNeAt A s (.ref a) (.ref b) (!peq w z))->SeqAt.RcAt A s (.ref a) (.ref b) (peq w z)/\SeqAt.RcNeAt A s (.ref a) (.ref b) (!peq w z)/\SeqAt.EqAt A s (.ref a) (.ref b) (peq w z):=by
   intro a b e1 e2 ⟨h1,h2⟩
   subst e1 e2
   refine⟨h1,h2,?_⟩
   by_cases e:a=b
   ·subst e
    rw[zkH (n+1) c c' r r',zmB (n+1) c']
    exact SeqAt.EqAt.same _
   ·exact SeqAt.EqAt.of_refs e h1
  have sh:=zmD c r rv
  have sh':=zmD c' r' ru
  cases sh with
  | non =>
   cases sh' with
   | non =>
    simp only[peq]
    exact⟨SeqAt.RcAt.none_none ,SeqAt.RcNeAt.none_none ,SeqAt.EqAt.same _⟩
   | bl b2 =>
    simp only[peq]
    exact⟨SeqAt.RcAt.none_bool _,SeqAt.RcNeAt.none_bool _,SeqAt.EqAt.none_bool _⟩
   | int i2 t2 =>
    simp only[peq]
    exact⟨SeqAt.RcAt.none_int _ _,SeqAt.RcNeAt.none_int _ _,SeqAt.EqAt.none_int _ _⟩
   | str x2 t2 =>
    simp only[peq]
    exact⟨SeqAt.RcAt.none_str _ _,SeqAt.RcNeAt.none_str _ _,SeqAt.EqAt.none_str _ _⟩
   | lst q2 s2 =>
    obtain⟨_,p1⟩:=isL q2
    simp only[peq]
    exact⟨SeqAt.RcAt.none_list p1 hu0,SeqAt.RcNeAt.none_list p1 hu0,SeqAt.EqAt.none_list p1 hu0⟩
   | tup q2 s2 =>
    obtain⟨_,p1⟩:=isT q2
    simp only[peq]
    exact⟨SeqAt.RcAt.none_tuple p1 hu0,SeqAt.RcNeAt.none_tuple p1 hu0,SeqAt.EqAt.none_tuple p1 hu0⟩
  | bl b =>
   cases sh' with
   | non =>
    simp only[peq]
    exact⟨SeqAt.RcAt.bool_none _,SeqAt.RcNeAt.bool_none _,SeqAt.EqAt.bool_none _⟩
   | bl b2 =>
    simp only[peq]
    exact⟨SeqAt.RcAt.bool_bool _ _,SeqAt.RcNeAt.bool_bool _ _,SeqAt.EqAt.bool_bool _ _⟩
   | int i2 t2 =>
    simp only[peq]
    exact⟨SeqAt.RcAt.bool_int _ _ _,SeqAt.RcNeAt.bool_int _ _ _,SeqAt.EqAt.bool_int _ _ _⟩
   | str x2 t2 =>
    simp only[peq]
    exact⟨SeqAt.RcAt.bool_str _ _ _,SeqAt.RcNeAt.bool_str _ _ _,SeqAt.EqAt.bool_str _ _ _⟩
   | lst q2 s2 =>
    obtain⟨_,p1⟩:=isL q2
    simp only[peq]
    exact⟨SeqAt.RcAt.bool_list _ p1 hu0,SeqAt.RcNeAt.bool_list _ p1 hu0,SeqAt.EqAt.bool_list _ p1 hu0⟩
   | tup q2 s2 =>
    obtain⟨_,p1⟩:=isT q2
    simp only[peq]
    exact⟨SeqAt.RcAt.bool_tuple _ p1 hu0,SeqAt.RcNeAt.bool_tuple _ p1 hu0,SeqAt.EqAt.bool_tuple _ p1 hu0⟩
  | int i t =>
   cases sh' with
   | non =>
    simp only[peq]
    exact⟨SeqAt.RcAt.int_none _ _,SeqAt.RcNeAt.int_none _ _,SeqAt.EqAt.int_none _ _⟩
   | bl b2 =>
    simp only[peq]
    exact⟨SeqAt.RcAt.int_bool _ _ _,SeqAt.RcNeAt.int_bool _ _ _,SeqAt.EqAt.int_bool _ _ _⟩
   | int i2 t2 =>
    simp only[peq]
    exact⟨SeqAt.RcAt.int_int _ _ _ _,SeqAt.RcNeAt.int_int _ _ _ _,SeqAt.EqAt.int_int _ _ _ _⟩
   | str x2 t2 =>
    simp only[peq]
    exact⟨SeqAt.RcAt.int_str _ _ _ _,SeqAt.RcNeAt.int_str _ _ _ _,SeqAt.EqAt.int_str _ _ _ _⟩
   | lst q2 s2 =>
    obtain⟨_,p1⟩:=isL q2
    simp only[peq]
    exact⟨SeqAt.RcAt.int_list _ _ p1 hu0,SeqAt.RcNeAt.int_list _ _ p1 hu0,SeqAt.EqAt.int_list _ _ p1 hu0⟩
   | tup q2 s2 =>
    obtain⟨_,p1⟩:=isT q2
    simp only[peq]
    exact⟨SeqAt.RcAt.int_tuple _ _ p1 hu0,SeqAt.RcNeAt.int_tuple _ _ p1 hu0,SeqAt.EqAt.int_tuple _ _ p1 hu0⟩
  | str x t =>
   cases sh' with
   | non =>
    simp only[peq]
    exact⟨SeqAt.RcAt.str_none _ _,SeqAt.RcNeAt.str_none _ _,SeqAt.EqAt.str_none _ _⟩
   | bl b2 =>
    simp only[peq]
    exact⟨SeqAt.RcAt.str_bool _ _ _,SeqAt.RcNeAt.str_bool _ _ _,SeqAt.EqAt.str_bool _ _ _⟩
   | int i2 t2 =>
    simp only[peq]
    exact⟨SeqAt.RcAt.str_int _ _ _ _,SeqAt.RcNeAt.str_int _ _ _ _,SeqAt.EqAt.str_int _ _ _ _⟩
   | str x2 t2 =>
    simp only[peq]
    exact⟨SeqAt.RcAt.str_str _ _ _ _,SeqAt.RcNeAt.str_str _ _ _ _,SeqAt.EqAt.str_str _ _ _ _⟩
   | lst q2 s2 =>
    obtain⟨_,p1⟩:=isL q2
    simp only[peq]
    exact⟨SeqAt.RcAt.str_list _ _ p1 hu0,SeqAt.RcNeAt.str_list _ _ p1 hu0,SeqAt.EqAt.str_list _ _ p1 hu0⟩
   | tup q2 s2 =>
    obtain⟨_,p1⟩:=isT q2
    simp only[peq]
    exact⟨SeqAt.RcAt.str_tuple _ _ p1 hu0,SeqAt.RcNeAt.str_tuple _ _ p1 hu0,SeqAt.EqAt.str_tuple _ _ p1 hu0⟩
  | lst q1 s1 =>
   cases sh' with
   | non =>
    obtain⟨_,p1⟩:=isL q1
    simp only[peq]
    exact⟨SeqAt.RcAt.list_none p1 hu0,SeqAt.RcNeAt.list_none p1 hu0,SeqAt.EqAt.list_none p1 hu0⟩
   | bl b2 =>
    obtain⟨_,p1⟩:=isL q1
    simp only[peq]
    exact⟨SeqAt.RcAt.list_bool _ p1 hu0,SeqAt.RcNeAt.list_bool _ p1 hu0,SeqAt.EqAt.list_bool _ p1 hu0⟩
   | int i2 t2 =>
    obtain⟨_,p1⟩:=isL q1
    simp only[peq]
    exact⟨SeqAt.RcAt.list_int _ _ p1 hu0,SeqAt.RcNeAt.list_int _ _ p1 hu0,SeqAt.EqAt.list_int _ _ p1 hu0⟩
   | str x2 t2 =>
    obtain⟨_,p1⟩:=isL q1
    simp only[peq]
    exact⟨SeqAt.RcAt.list_str _ _ p1 hu0,SeqAt.RcNeAt.list_str _ _ p1 hu0,SeqAt.EqAt.list_str _ _ p1 hu0⟩
   | lst q2 s2 =>
    refine ref rfl rfl ?_
    simp only[peq]
    simp only[cln] at c c'
    exact zmC I hu0 (.inl (sub q1)) (.inl (sub q2)) s1 s2 fun {w z v u p q} m m' r r' rv ru=>(ih hu1 (all_eq_true.mp c _ m) (all_eq_true.mp c' _ m') r r' rv ru).2.2
   | tup q2 s2 =>
    refine ref rfl rfl ?_
    simp only[peq]
    obtain⟨_,p1⟩:=isL q1
    obtain⟨_,p2⟩:=isT q2
    exact⟨SeqAt.RcAt.list_tuple p1 p2 hu0,SeqAt.RcNeAt.list_tuple p1 p2 hu0⟩
  | tup q1 s1 =>
   cases sh' with
   | non =>
    obtain⟨_,p1⟩:=isT q1
    simp only[peq]
    exact⟨SeqAt.RcAt.tuple_none p1 hu0,SeqAt.RcNeAt.tuple_none p1 hu0,SeqAt.EqAt.tuple_none p1 hu0⟩
   | bl b2 =>
    obtain⟨_,p1⟩:=isT q1
    simp only[peq]
    exact⟨SeqAt.RcAt.tuple_bool _ p1 hu0,SeqAt.RcNeAt.tuple_bool _ p1 hu0,SeqAt.EqAt.tuple_bool _ p1 hu0⟩
   | int i2 t2 =>
    obtain⟨_,p1⟩:=isT q1
    simp only[peq]
    exact⟨SeqAt.RcAt.tuple_int _ _ p1 hu0,SeqAt.RcNeAt.tuple_int _ _ p1 hu0,SeqAt.EqAt.tuple_int _ _ p1 hu0⟩
   | str x2 t2 =>
    obtain⟨_,p1⟩:=isT q1
    simp only[peq]
    exact⟨SeqAt.RcAt.tuple_str _ _ p1 hu0,SeqAt.RcNeAt.tuple_str _ _ p1 hu0,SeqAt.EqAt.tuple_str _ _ p1 hu0⟩
   | lst q2 s2 =>
    refine ref rfl rfl ?_
    simp only[peq]
    obtain⟨_,p1⟩:=isT q1
    obtain⟨_,p2⟩:=isL q2
    exact⟨SeqAt.RcAt.tuple_list p1 p2 hu0,SeqAt.RcNeAt.tuple_list p1 p2 hu0⟩
   | tup q2 s2 =>
    refine ref rfl rfl ?_
    simp only[peq]
    simp only[cln] at c c'
    exact zpc I hu0 (.inl (sub q1)) (.inl (sub q2)) s1 s2 fun {w z v u p q} m m' r r' rv ru=>(ih hu1 (all_eq_true.mp c _ m) (all_eq_true.mp c' _ m') r r' rv ru).2.2
end
def drf(ce:Ce):W->W
 | .cel k=>match ce[k]? with
  | some (.lst xs)=>.lst xs
  | _=>.cel k
 | w=>w
def zcw(ce:Ce):W->Option (List W)
 | .lst xs=>some xs
 | .cel k=>match ce[k]? with
  | some (.lst xs)=>some xs
  | _=>none
 | _=>none
def ze7(ce:Ce):W->Option (List W)
 | .tup xs=>some xs
 | w=>zcw ce w
def zqm(ce:Ce):W->Option (List (Key×W))
 | .cel k=>match ce[k]? with
  | some (.dct xs)=>some xs
  | _=>none
 | _=>none
def zl3(ce:Ce):W->Option (List (Key×W))
 | .cel k=>match ce[k]? with
  | some (.dct xs)=>some xs
  | some (.fzd xs)=>some xs
  | _=>none
 | _=>none
def zj3:W->Option Key
 | .int i=>some (.inl i)
 | .str x=>some (.inr x)
 | _=>none
section
variable {G:Ga} {F:Hp} {as:List Addr} {H:Hp} {ce:Ce} {w:W} {v:V}
theorem Store.toH(S:Store G F as H ce):Le F as H as:=⟨S.sub,fun _ _ h=>h⟩
theorem zh8(S:Store G F as H ce)(r:Rep F as w v):Rep H as (drf ce w) v:=by
 cases w with
 | cel k =>
  simp only[drf]
  split
  ·rename_i xs hc
   simp only[Rep] at r ⊢
   obtain⟨a,rfl,h⟩:=r
   obtain⟨_,vs,h2,rs⟩:=S.cell _ _ _ h hc
   exact⟨a,vs,rfl,.inl h2,rs.le S.toH⟩
  ·exact r.le S.toH
 | _=>exact r.le S.toH
theorem zbI{xs:List W}(S:Store G F as H ce)(r:Rep F as w v)(e:zcw ce w=some xs):∃a vs,v=.ref a/\Rd H a (.lst vs)/\Reps F as xs vs:=by
 cases w<;>simp only[zcw,reduceCtorEq,Option.some.injEq] at e
 ·subst e
  simp only[Rep] at r
  obtain⟨a,vs,rfl,h,q⟩:=r
  exact⟨a,vs,rfl,Rd.sub S h,q⟩
 ·split at e
  ·rename_i xs' hc
   cases e
   simp only[Rep] at r
   obtain⟨a,rfl,h⟩:=r
   obtain⟨_,vs,h2,rs⟩:=S.cell _ _ _ h hc
   exact⟨a,vs,rfl,.inl h2,rs⟩
  ·cases e
theorem zgu{xs:List W}(S:Store G F as H ce)(r:Rep F as w v)(e:ze7 ce w=some xs):∃a vs,v=.ref a/\(Rd H a (.lst vs)\/Rd H a (.tup vs))/\Reps F as xs vs:=by
 cases w with
 | tup ys =>
  simp only[ze7,Option.some.injEq] at e
  subst e
  simp only[Rep] at r
  obtain⟨a,vs,rfl,h,q⟩:=r
  exact⟨a,vs,rfl,.inr (.inl (S.sub _ _ h)),q⟩
 | _ =>
  obtain⟨a,vs,h1,h2,h3⟩:=zbI S r e
  exact⟨a,vs,h1,.inl h2,h3⟩
theorem zkK{xs:List (Key×W)}(S:Store G F as H ce)(r:Rep F as w v)(e:zqm ce w=some xs):∃k a ps,w=.cel k/\v=.ref a/\as[k]?=some a/\H a=some (.dK ps)/\RepKV F as xs ps:=by
 cases w<;>simp only[zqm,reduceCtorEq] at e
 split at e
 ·rename_i k xs' hc
  cases e
  simp only[Rep] at r
  obtain⟨a,rfl,h⟩:=r
  obtain⟨_,ps,h2,rs⟩:=S.cell _ _ _ h hc
  exact⟨_,a,ps,rfl,rfl,h,h2,rs⟩
 ·cases e
theorem ziT{xs:List (Key×W)}(S:Store G F as H ce)(r:Rep F as w v)(e:zl3 ce w=some xs):∃k a ps,w=.cel k/\v=.ref a/\as[k]?=some a/\Rd H a (.dK ps)/\RepKV F as xs ps:=by
 cases w<;>simp only[zl3,reduceCtorEq] at e
 split at e
 ·rename_i k xs' hc
  cases e
  simp only[Rep] at r
  obtain⟨a,rfl,h⟩:=r
  obtain⟨_,ps,h2,rs⟩:=S.cell _ _ _ h hc
  exact⟨_,a,ps,rfl,rfl,h,.inl h2,rs⟩
 ·rename_i k xs' hc
  cases e
  simp only[Rep] at r
  obtain⟨a,rfl,h⟩:=r
  obtain⟨_,o,ps,_,h2,rs⟩:=S.cell _ _ _ h hc
  exact⟨_,a,ps,rfl,rfl,h,.inr ⟨o,h2⟩,rs⟩
 ·cases e
theorem zh9{k:Key}(r:Rep F as w v)(e:zj3 w=some k):v=kV k:=by
 cases w<;>simp only[zj3,reduceCtorEq,Option.some.injEq] at e<;>subst e<;>simp only[Rep] at r<;>exact r
end
def ztm(ng:Bool):R2:=fun x y H Q=>∃as w z,Rep H as w x/\Rep H as z y/\cln 8 w=true/\cln 8 z=true/\Q (.bl (if ng then !peq w z else peq w z)) H
def ztn(K:PySem.W.Frag)(ng:Bool):R2:=fun x y H Q=>∃as w ys a vs,Rep H as w x/\y=.ref a/\(SqL K H a vs\/SqT K H a vs)/\Reps H as ys vs/\cln 8 w=true/\ys.all (cln 8)=true/\Q (.bl (if ng then !ys.any (peq · w) else ys.any (peq · w))) H
section
variable {X:Cx}
theorem zn2(hu:X.A.units+8<cLine):OpR X (compareOp .Eq) (ztm false):=by
 intro pins s σ H x y v u Q I rx ry ⟨as,w,z,r1,r2,c1,c2,q⟩
 exact(ztl (fun _ _ h=>h) I 8 hu c1 c2 r1 r2 rx ry).1 X.prog X.w X.xe _ ⟨.bl _,H,I,rfl,q⟩
theorem zrf(hu:X.A.units+8<cLine):OpR X (compareOp .NotEq) (ztm true):=by
 intro pins s σ H x y v u Q I rx ry ⟨as,w,z,r1,r2,c1,c2,q⟩
 exact(ztl (fun _ _ h=>h) I 8 hu c1 c2 r1 r2 rx ry).2.1 X.prog X.w X.xe _ ⟨.bl _,H,I,rfl,q⟩
open Classical in
theorem zcd{pins:List (Addr×Obj)}{σ:VS.St}{H:Hp}{s:Shared}{as:List Addr}{A:Around}{w:W}{x:V}{u:Value}{ys:List W}{vs:List V}{ps:List Value}(I:Inv X pins σ H s)(hu:A.units+8<cLine)(rw':Rep H as w x)(c:cln 8 w=true)(cs:ys.all (cln 8)=true)(ru:L2.RelV x u)(rs:Reps H as ys vs)(rp:Vals vs ps):∃e:Value->Bool,(∀y,y∈ps.toArray->SeqAt.EqAt A s y u (e y))/\ps.toArray.any e=ys.any (peq · w):=by
 have hl:=rs.length
 have hl2:=rp.length
 have key:∀{j:Nat} {p:Value},ps[j]?=some p->∃y v,ys[j]?=some y/\Rep H as y v/\L2.RelV v p/\cln 8 y=true:=fun {j p} hp=>by
  have hj:=zay hp
  have e1:vs[j]?=some (vs[j]'(by omega)):=by simp
  obtain⟨q,hq,rq⟩:=rp.get e1
  rw[hp] at hq
  cases hq
  obtain⟨y,hy,ry⟩:=rs.get' e1
  exact⟨y,_,hy,ry,rq,all_eq_true.mp cs _ (mem_of_getElem? hy)⟩
 have uniq:∀{j j':Nat} {p:Value} {y y':W},ps[j]?=some p->ps[j']?=some p->ys[j]?=some y->ys[j']?=some y'->y=y':=fun {j j' p y y'} h1 h2 h3 h4=>by
  obtain⟨z,v,hz,rz,rv,cz⟩:=key h1
  obtain⟨z',v',hz',rz',rv',cz'⟩:=key h2
  rw[h3] at hz;cases hz
  rw[h4] at hz';cases hz'
  cases rv.inj rv'
  exact zkH 8 cz cz' rz rz'
 refine⟨fun p=>decide (∃(j:Nat) (y:W),ps[j]?=some p/\ys[j]?=some y/\peq y w=true),fun p hp=>?_,?_⟩
 ·have hp':p∈ps:=by simpa using hp
  obtain⟨j,hj⟩:=getElem?_of_mem hp'
  obtain⟨y,v,hy,ry,rv,cy⟩:=key hj
  have q:=(ztl (fun _ _ h=>h) I 8 hu cy c ry rw' rv ru).2.2
  have e:decide (∃(j:Nat) (y:W),ps[j]?=some p/\ys[j]?=some y/\peq y w=true)=peq y w:=by
   rw[Bool.eq_iff_iff,decide_eq_true_iff]
   constructor
   ·rintro⟨j',y',h1,h2,h3⟩
    rw[uniq hj h1 hy h2];exact h3
   ·intro h
    exact⟨j,y,hj,hy,h⟩
  show SeqAt.EqAt A s p u (decide (∃(j:Nat) (y:W),ps[j]?=some p/\ys[j]?=some y/\peq y w=true))
  rw[e];exact q
 ·rw[Bool.eq_iff_iff,any_eq_true',any_eq_true]
  constructor
  ·rintro⟨p,_,hp⟩
   obtain⟨j,y,h1,h2,h3⟩:=of_decide_eq_true hp
   exact⟨y,mem_of_getElem? h2,h3⟩
  ·rintro⟨y,hy,h⟩
   obtain⟨j,hj⟩:=getElem?_of_mem hy
   have hlt:=zay hj
   have e1:ps[j]?=some (ps[j]'(by omega)):=by simp
   refine⟨ps[j]'(by omega),by simp,decide_eq_true ⟨j,y,e1,hj,h⟩⟩
theorem zrg{K:PySem.W.Frag}(hu:X.A.units+9<cLine)(hK:X.K=K:=by rfl):OpR X (compareOp .In) (ztn K false):=by
 subst hK
 intro pins s σ H x y v u Q I rx ry ⟨as,w,ys,a,vs,r1,ey,sq,rs,c1,c2,q⟩
 subst ey
 cases ry
 rcases sq with sq|sq
 ·obtain⟨ps,rp,pl,_⟩:=I.list sq
  obtain⟨e,he,ea⟩:=zcd (A:=X.A.in1) I (by show X.A.units+1+8<cLine;omega) r1 c1 c2 rx rs rp
  exact SeqAt.in_listAt e pl.isList he ⟨.bl _,H,I,rfl,by rw[ea];exact q⟩
 ·obtain⟨ps,rp,pl,_⟩:=I.tuple sq
  obtain⟨e,he,ea⟩:=zcd (A:=X.A.in1) I (by show X.A.units+1+8<cLine;omega) r1 c1 c2 rx rs rp
  exact SeqAt.in_tupleAt e pl he ⟨.bl _,H,I,rfl,by rw[ea];exact q⟩
theorem zkL{K:PySem.W.Frag}(hu:X.A.units+9<cLine)(hK:X.K=K:=by rfl):OpR X (compareOp .NotIn) (ztn K true):=by
 subst hK
 intro pins s σ H x y v u Q I rx ry ⟨as,w,ys,a,vs,r1,ey,sq,rs,c1,c2,q⟩
 subst ey
 cases ry
 rcases sq with sq|sq
 ·obtain⟨ps,rp,pl,_⟩:=I.list sq
  obtain⟨e,he,ea⟩:=zcd (A:=X.A.in1) I (by show X.A.units+1+8<cLine;omega) r1 c1 c2 rx rs rp
  exact SeqAt.notIn_listAt e pl.isList he ⟨.bl _,H,I,rfl,by rw[ea];exact q⟩
 ·obtain⟨ps,rp,pl,_⟩:=I.tuple sq
  obtain⟨e,he,ea⟩:=zcd (A:=X.A.in1) I (by show X.A.units+1+8<cLine;omega) r1 c1 c2 rx rs rp
  exact SeqAt.notIn_tupleAt e pl he ⟨.bl _,H,I,rfl,by rw[ea];exact q⟩
end
def eqW(ng:Bool)(ce:Ce)(x y:W):Option W:=if (cln 8 (drf ce x)&&cln 8 (drf ce y))=true then some (.bl (if ng then !peq (drf ce x) (drf ce y) else peq (drf ce x) (drf ce y))) else none
def inW(ng:Bool)(ce:Ce)(x y:W):Option W:=match ze7 ce y with
 | some ys=>if (cln 8 (drf ce x)&&ys.all (cln 8))=true then some (.bl (if ng then !ys.any (peq · (drf ce x)) else ys.any (peq · (drf ce x)))) else none
 | none=>none
def zaL(f:Ce->W->W->Option W)(a b:Sl->M W):Sl->M W:=fun sl=>bnd (a sl) fun x=>bnd (b sl) fun y=>look fun ce=>f ce x y
section
variable {X:Cx} {G:Ga} {E:XK} {a b c:Expr} {da db dc:Sl->M W} {pos:Pos}
def OpC(r:R2)(f:Ce->W->W->Option W):Prop:=∀(G:Ga) F as H ce x y wx wy w,Store G F as H ce->Rep F as wx x->Rep F as wy y->f ce wx wy=some w->∀Q:VK,(∀v,Rep F as w v->Q v H)->r x y H Q
theorem zbJ{r:R2}{f:Ce->W->W->Option W}(hf:OpC r f)(σ:L2.St)(H:Hp)(Q:VK)(h:zax G E (zaL f da db) σ H Q):tOp r (zax G E da) (zax G E db) σ H Q:=by
 refine ziQ h fun F as sl ce H2 x y wx wy S rx ry P=>?_
 obtain⟨w,e,P⟩:=zbx P
 exact hf G F as H2 ce x y wx wy w S.st rx ry e Q fun v r=>P.done S r
theorem zkM(ng:Bool):OpC (ztm ng) (eqW ng):=by
 intro G F as H ce x y wx wy w S rx ry e Q q
 unfold eqW at e
 split at e
 ·rename_i hc
  rw[and_eq_true] at hc
  cases e
  exact⟨as,_,_,zh8 S rx,zh8 S ry,hc.1,hc.2,q _ (by simp only[Rep])⟩
 ·cases e
theorem zn3(K:PySem.W.Frag)(ng:Bool):OpC (ztn K ng) (inW ng):=by
 intro G F as H ce x y wx wy w S rx ry e Q q
 unfold inW at e
 split at e
 ·rename_i ys hy
  split at e
  ·rename_i hc
   rw[and_eq_true] at hc
   cases e
   obtain⟨a,vs,rfl,h,rs⟩:=zgu S ry hy
   exact⟨as,_,ys,a,vs,zh8 S rx,rfl,h.imp .inl .inl,rs.le S.toH,hc.1,hc.2,q _ (by simp only[Rep])⟩
  ·cases e
 ·cases e
theorem zrh(hu:X.A.units+8<cLine)(ha:PE X a (zax G E da))(hb:PE X b (zax G E db)):PE X (.Compare a [.Eq] [b] pos) (zax G E (zaL (eqW false) da db)):=PE.imp (zkh (zn2 hu) ha hb (zb4 _)) (zbJ (zkM false))
theorem zfO(hu:X.A.units+8<cLine)(ha:PE X a (zax G E da))(hb:PE X b (zax G E db)):PT X (.Compare a [.Eq] [b] pos) (zcc G E (dB (zaL (eqW false) da db))):=zgs (zn2 hu) ha hb (zb4 _) (zbJ (zkM false))
theorem zmE(hu:X.A.units+8<cLine)(ha:PE X a (zax G E da))(hb:PE X b (zax G E db)):PT X (.Compare a [.NotEq] [b] pos) (zcc G E (dB (zaL (eqW true) da db))):=zgs (zrf hu) ha hb (zb4 _) (zbJ (zkM true))
theorem zto(hu:X.A.units+9<cLine)(ha:PE X a (zax G E da))(hb:PE X b (zax G E db))(hm:behindInMarks .In b=false):PT X (.Compare a [.In] [b] pos) (zcc G E (dB (zaL (inW false) da db))):=zgs (zrg hu rfl) ha hb hm (zbJ (zn3 _ false))
theorem zmF(hu:X.A.units+9<cLine)(ha:PE X a (zax G E da))(hb:PE X b (zax G E db))(hm:behindInMarks .NotIn b=false):PT X (.Compare a [.NotIn] [b] pos) (zcc G E (dB (zaL (inW true) da db))):=zgs (zkL hu rfl) ha hb hm (zbJ (zn3 _ true))
theorem ze8{r:R2}{f:W->W->Option W}(hf:Sc2 r f):OpC r (fun _=>f):=by
 intro G F as H ce x y wx wy w S rx ry e Q q
 obtain⟨vx,vy,vw,e1,e2,e3,k⟩:=hf _ _ _ e
 rw[rx.sc e1,ry.sc e2]
 exact k _ _ (q _ (Rep.of_sc e3))
theorem zri(ha:PE X a (zax G E da))(hb:PE X b (zax G E db)):PT X (.Compare a [.Lt] [b] pos) (zcc G E (dB (dOp fLt da db))):=zgs zsW ha hb (zb4 _) (zbJ (ze8 (zgq fun _ _=>rfl)))
theorem zkN(ha:PE X a (zax G E da))(hb:PE X b (zax G E db)):PT X (.Compare a [.Gt] [b] pos) (zcc G E (dB (dOp fGt da db))):=zgs zqX ha hb (zb4 _) (zbJ (ze8 (zgq fun _ _=>rfl)))
theorem ztp(ha:PE X a (zax G E da))(hb:PE X b (zax G E db)):PT X (.Compare a [.GtE] [b] pos) (zcc G E (dB (dOp fGe da db))):=zgs zqY ha hb (zb4 _) (zbJ (ze8 (zgq fun _ _=>rfl)))
theorem zn4{j pos'}(ha:PE X a (zax G E da)):PT X (.Compare a [.Is] [.Constant .none j pos'] pos) (zcc G E (dB (dUn zre da))) :=
 zpb ⟨_,zqz ha,fun σ H Q zz_=>el6 zz_ fun F as sl ce S P=>(step S P).mono fun x H1 zz_=>el8 zz_ fun wx F1 as1 ce1 l1 S1 rx P1=>Post.done S1 (a:=W.bl _) P1 (by simp only[Rep];rw[rx.isN])⟩ (zb4 _)
theorem zgv{j pos'}(ha:PE X a (zax G E da)):PT X (.Compare a [.IsNot] [.Constant .none j pos'] pos) (zcc G E (dB (dUn zde da))) :=
 zpb ⟨_,zoF ha,fun σ H Q zz_=>el6 zz_ fun F as sl ce S P=>(step S P).mono fun x H1 zz_=>el8 zz_ fun wx F1 as1 ce1 l1 S1 rx P1=>Post.done S1 (a:=W.bl _) P1 (by simp only[Rep];rw[rx.isN])⟩ (zb4 _)
def zpd(a b:Sl->M W):Sl->M W:=fun sl=>bnd (a sl) fun x=>match x with
 | .bl true=>b sl
 | .bl false=>ret (.bl false)
 | _=>zgp
def dOr(a b:Sl->M W):Sl->M W:=fun sl=>bnd (a sl) fun x=>match x with
 | .bl true=>ret (.bl true)
 | .bl false=>b sl
 | _=>zgp
def zub(a:Sl->M W):Sl->M W:=fun sl=>bnd (a sl) fun x=>match x with
 | .bl b=>ret (.bl (!b))
 | _=>zgp
def zeH(a b:Sl->M Bool):Sl->M Bool:=fun sl=>bnd (a sl) fun x=>match x with
 | true=>b sl
 | false=>ret false
def zl4(a b:Sl->M Bool):Sl->M Bool:=fun sl=>bnd (a sl) fun x=>match x with
 | true=>ret true
 | false=>b sl
def zdf(a:Sl->M Bool):Sl->M Bool:=fun sl=>bnd (a sl) fun x=>ret (!x)
def zrj(c:Sl->M Bool)(a b:Sl->M W):Sl->M W:=fun sl=>bnd (c sl) fun x=>match x with
 | true=>a sl
 | false=>b sl
variable {rest:List Expr} {ta tb:Sl->M Bool}
theorem ziU{op}(h:PE X a (zax G E da)):PE X (.BoolOp op [a] pos) (zax G E da):=zqF h
theorem zkO(ha:PE X a (zax G E da))(hb:PE X (.BoolOp .And (b::rest) pos) (zax G E db)):PE X (.BoolOp .And (a::b::rest) pos) (zax G E (zpd da db)):=by
 refine PE.imp (zqG ha hb) fun σ H Q zz_=>el6 zz_ fun F as sl ce S P=>(step S P).mono fun x H1 zz_=>el8 zz_ fun wx F1 as1 ce1 l1 S1 rx P1=>?_
 cases wx<;>first|exact(show False from P1).elim|skip
 rename_i k
 simp only[Rep] at rx
 subst rx
 cases k
 ·exact⟨false,rfl,by rw[if_neg Bool.false_ne_true];exact Post.done S1 (a:=W.bl false) P1 (by simp only[Rep])⟩
 ·exact⟨true,rfl,by rw[if_pos rfl];exact⟨F1,as1,sl,ce1,S1,P1⟩⟩
theorem ztq(ha:PE X a (zax G E da))(hb:PE X (.BoolOp .Or (b::rest) pos) (zax G E db)):PE X (.BoolOp .Or (a::b::rest) pos) (zax G E (dOr da db)):=by
 refine PE.imp (zsJ ha hb) fun σ H Q zz_=>el6 zz_ fun F as sl ce S P=>(step S P).mono fun x H1 zz_=>el8 zz_ fun wx F1 as1 ce1 l1 S1 rx P1=>?_
 cases wx<;>first|exact(show False from P1).elim|skip
 rename_i k
 simp only[Rep] at rx
 subst rx
 cases k
 ·exact⟨false,rfl,by rw[if_neg Bool.false_ne_true];exact⟨F1,as1,sl,ce1,S1,P1⟩⟩
 ·exact⟨true,rfl,by rw[if_pos rfl];exact Post.done S1 (a:=W.bl true) P1 (by simp only[Rep])⟩
theorem zrk(ha:PE X a (zax G E da)):PE X (.UnaryOp .Not a pos) (zax G E (zub da)):=by
 refine PE.imp (zqH ha) fun σ H Q zz_=>el6 zz_ fun F as sl ce S P=>(step S P).mono fun x H1 zz_=>el8 zz_ fun wx F1 as1 ce1 l1 S1 rx P1=>?_
 cases wx<;>first|exact(show False from P1).elim|skip
 rename_i k
 simp only[Rep] at rx
 subst rx
 exact⟨k,rfl,Post.done S1 (a:=W.bl (!k)) P1 (by simp only[Rep])⟩
theorem zef(ha:PT X a (zcc G E ta)):PW X (.BoolOp .And [a] pos) (zcc G E ta):=zoG ha
theorem zkP(ha:PT X a (zcc G E ta)):PW X (.BoolOp .Or [a] pos) (zcc G E ta):=zqC ha
theorem ze9(ha:PT X a (zcc G E ta))(hb:PW X (.BoolOp .And (b::rest) pos) (zcc G E tb)):PW X (.BoolOp .And (a::b::rest) pos) (zcc G E (zeH ta tb)):=by
 refine PW.imp (zqD ha hb) fun σ H Q zz_=>el6 zz_ fun F as sl ce S P=>(step (RP:=rB) S P).mono fun x H1 zz_=>el8 zz_ fun wx F1 as1 ce1 l1 S1 rx P1=>?_
 have rx:wx=x:=rx
 subst rx
 cases wx
 ·rw[if_neg Bool.false_ne_true];exact Post.done (RP:=rB) S1 (a:=false) P1 rfl
 ·rw[if_pos rfl];exact⟨F1,as1,sl,ce1,S1,P1⟩
theorem zpe(ha:PT X a (zcc G E ta))(hb:PW X (.BoolOp .Or (b::rest) pos) (zcc G E tb)):PW X (.BoolOp .Or (a::b::rest) pos) (zcc G E (zl4 ta tb)):=by
 refine PW.imp (zsG ha hb) fun σ H Q zz_=>el6 zz_ fun F as sl ce S P=>(step (RP:=rB) S P).mono fun x H1 zz_=>el8 zz_ fun wx F1 as1 ce1 l1 S1 rx P1=>?_
 have rx:wx=x:=rx
 subst rx
 cases wx
 ·rw[if_neg Bool.false_ne_true];exact⟨F1,as1,sl,ce1,S1,P1⟩
 ·rw[if_pos rfl];exact Post.done (RP:=rB) S1 (a:=true) P1 rfl
theorem zfa(ha:PT X a (zcc G E ta)):PT X (.UnaryOp .Not a pos) (zcc G E (zdf ta)):=by
 refine PT.imp (zqE ha) fun σ H Q zz_=>el6 zz_ fun F as sl ce S P=>(step (RP:=rB) S P).mono fun x H1 zz_=>el8 zz_ fun wx F1 as1 ce1 l1 S1 rx P1=>?_
 have rx:wx=x:=rx
 subst rx
 exact Post.done (RP:=rB) S1 (a:=!wx) P1 rfl
theorem zrl{c:Expr}(hc:PT X c (zcc G E ta))(ha:PE X a (zax G E da))(hb:PE X b (zax G E db)):PE X (.IfExp c a b pos) (zax G E (zrj ta da db)):=by
 refine PE.imp (zmd hc ha hb) fun σ H Q zz_=>el6 zz_ fun F as sl ce S P=>(step (RP:=rB) S P).mono fun x H1 zz_=>el8 zz_ fun wx F1 as1 ce1 l1 S1 rx P1=>?_
 have rx:wx=x:=rx
 subst rx
 cases wx
 ·rw[if_neg Bool.false_ne_true];exact⟨F1,as1,sl,ce1,S1,P1⟩
 ·rw[if_pos rfl];exact⟨F1,as1,sl,ce1,S1,P1⟩
def zhs(f g:Ce->W->W->Option W)(a b c:Sl->M W):Sl->M W:=fun sl=>bnd (a sl) fun x=>bnd (b sl) fun y=>bnd (look fun ce=>f ce x y) fun t=>match t with
 | .bl true=>bnd (c sl) fun z=>look fun ce=>g ce y z
 | .bl false=>ret (.bl false)
 | _=>zgp
theorem zkQ{r r':R2}{f g:Ce->W->W->Option W}(hf:OpC r f)(hg:OpC r' g)(σ:L2.St)(H:Hp)(Q:VK)(h:zax G E (zhs f g da db dc) σ H Q):znS r r' (zax G E da) (zax G E db) (zax G E dc) σ H Q:=by
 obtain⟨F,as,sl,ce,S,P⟩:=h
 refine(step S P).mono fun x H1 zz_=>el8 zz_ fun wx F1 as1 ce1 l1 S1 rx P1=>(step S1 P1).mono fun y H2 zz_=>el8 zz_ fun wy F2 as2 ce2 l2 S2 ry P2=>?_
 have e:∃w,f ce2 wx wy=some w/\Post G E Rep F2 as2 σ sl Q ((match w with|.bl true=>bnd (dc sl) fun z=>look fun ce=>g ce wy z|.bl false=>ret (.bl false)|_=>zgp:M W) ce2):=by
  revert P2
  simp only[bnd,look]
  cases f ce2 wx wy with
  | none=>exact fun P=>P.elim
  | some w=>exact fun P=>⟨w,rfl,P⟩
 obtain⟨w,e,P3⟩:=e
 refine hf G F2 as2 H2 ce2 x y wx wy w S2.st (rx.le l2) ry e _ fun v rv=>?_
 cases w<;>first|exact(show False from P3).elim|skip
 rename_i k
 simp only[Rep] at rv
 subst rv
 refine⟨k,rfl,?_⟩
 cases k
 ·rw[if_neg Bool.false_ne_true];exact Post.done S2 (a:=W.bl false) P3 (by simp only[Rep])
 ·rw[if_pos rfl]
  refine(step S2 P3).mono fun z H3 zz_=>el8 zz_ fun wz F3 as3 ce3 l3 S3 rz P4=>?_
  obtain⟨w',e',P4⟩:=zbx P4
  exact hg G F3 as3 H3 ce3 y z wy wz w' S3.st (ry.le l3) rz e' Q fun v r=>P4.done S3 r
theorem zmG{op op':CmpOp}{r r':R2}{f g:Ce->W->W->Option W}(ho:OpR X (compareOp op) r)(ho':OpR X (compareOp op') r')(hf:OpC r f)(hg:OpC r' g)(ha:PE X a (zax G E da))(hb:PE X b (zax G E db))(hc:PE X c (zax G E dc))(hm:lastMarks [op,op'] [b,c]=false:=by with_unfolding_all rfl):PE X (.Compare a [op,op'] [b,c] pos) (zax G E (zhs f g da db dc)):=PE.imp (zmi ho ho' ha hb hc hm) (zkQ hf hg)
end
section
def zan:Sl->M (List W):=fun _=>ret []
def zac(a:Sl->M W)(r:Sl->M (List W)):Sl->M (List W):=fun sl=>bnd (a sl) fun x=>bnd (r sl) fun xs=>ret (x::xs)
open Classical in
def mkF(w:W)(n:Nat):M W:=fun ce=>if n<=sizeLine then some (.ok w ce) else none
open Classical in
def mkC(c:C)(n:Nat):M W:=fun ce=>if n<=sizeLine then some (.ok (.cel ce.length) (ce++[c])) else none
def zfb(r:Sl->M (List W)):Sl->M W:=fun sl=>bnd (r sl) fun xs=>mkF (.tup xs) xs.length
def zhZ(r:Sl->M (List W)):Sl->M W:=fun sl=>bnd (r sl) fun xs=>mkF (.lst xs) xs.length
def zbW(r:Sl->M (List W)):Sl->M W:=fun sl=>bnd (r sl) fun xs=>mkC (.lst xs) xs.length
section
variable {X:Cx} {G:Ga} {E:XK} {e:Expr} {es:List Expr} {da:Sl->M W} {dr:Sl->M (List W)} {pos:Pos} {F:Hp} {as:List Addr} {H:Hp} {σ:VS.St} {sl:Sl} {ce:Ce} {Q:VK}
theorem zaf:PA X [] (zhd G E zan):=PA.imp znT fun σ H Q zz_=>el6 zz_ fun F as sl ce S P=>Post.done (RP:=Reps) S (a:=[]) P Reps.nil
theorem zab(ha:PE X e (zax G E da))(hr:PA X es (zhd G E dr))(hs:starEach (e::es) X.env=(false,eval e X.env)::starEach es X.env:=by rfl):PA X (e::es) (zhd G E (zac da dr)):=by
 refine PA.imp (zkl ha hr hs) fun σ H Q zz_=>el6 zz_ fun F as sl ce S P=>(step S P).mono fun x H1 zz_=>el8 zz_ fun wx F1 as1 ce1 l1 S1 rx P1=>(step (RP:=Reps) S1 P1).mono fun y H2 zz_=>el8 zz_ fun wy F2 as2 ce2 l2 S2 ry P2=>?_
 exact Post.done (RP:=Reps) S2 (a:=wx::wy) P2 (.cons (rx.le l2) ry)
theorem zkR{xs:List W}{vs:List V}{n:Nat}(S:SR G F as H σ sl ce)(rs:Reps F as xs vs)(P:Post G E Rep F as σ sl Q (mkF (.lst xs) n ce)):n<=sizeLine/\∀p,H p=none->Q (.ref p) (upd H p (.lst vs)):=by
 revert P
 unfold mkF
 split
 ·rename_i h
  intro P
  refine⟨h,fun p hp=>?_⟩
  obtain⟨S',l⟩:=S.st.freeze (o:=.lst vs) hp
  exact P _ _ _ _ l (S.slots S' l) (by simp only[Rep];exact⟨p,vs,rfl,.inl zaw,rs.le l⟩)
 ·exact fun P=>P.elim
theorem zkS{xs:List W}{vs:List V}{n:Nat}(S:SR G F as H σ sl ce)(rs:Reps F as xs vs)(P:Post G E Rep F as σ sl Q (mkF (.tup xs) n ce)):n<=sizeLine/\∀p,H p=none->Q (.ref p) (upd H p (.tup vs)):=by
 revert P
 unfold mkF
 split
 ·rename_i h
  intro P
  refine⟨h,fun p hp=>?_⟩
  obtain⟨S',l⟩:=S.st.freeze (o:=.tup vs) hp
  exact P _ _ _ _ l (S.slots S' l) (by simp only[Rep];exact⟨p,vs,rfl,zaw,rs.le l⟩)
 ·exact fun P=>P.elim
theorem zkT{c:C}{o:HO}{n:Nat}(S:SR G F as H σ sl ce)(hc:∀p as',Le F as F as'->CRep G F as' (upd H p o) p c)(P:Post G E Rep F as σ sl Q (mkC c n ce)):n<=sizeLine/\∀p,H p=none->Q (.ref p) (upd H p o):=by
 revert P
 unfold mkC
 split
 ·rename_i h
  intro P
  refine⟨h,fun p hp=>?_⟩
  obtain⟨S',l⟩:=S.st.alloc (c:=c) hp (hc p)
  exact P _ _ _ _ l (S.slots S' l) (by simp only[Rep];exact⟨p,rfl,by rw[<- S.st.len];simp⟩)
 ·exact fun P=>P.elim
theorem zkU{xs:List W}{vs:List V}{n:Nat}(S:SR G F as H σ sl ce)(rs:Reps F as xs vs)(P:Post G E Rep F as σ sl Q (mkC (.lst xs) n ce)):n<=sizeLine/\∀p,H p=none->Q (.ref p) (upd H p (.lst vs)) :=
 zkT (c:=.lst xs) S (fun p as' l=>⟨vs,zaw,rs.le l⟩) P
theorem zb6{x1}(h:PA X es (zhd G E dr)):PE X (.Tuple es x1 pos) (zax G E (zfb dr)):=by
 refine PE.imp (zq2 h) fun σ H Q zz_=>el6 zz_ fun F as sl ce S P=>(step (RP:=Reps) S P).mono fun x H1 zz_=>el8 zz_ fun wx F1 as1 ce1 l1 S1 rx P1=>?_
 have:=zkS S1 rx P1
 rwa [<- Reps.length rx] at this
theorem zev(h:PA X es (zhd G E dr)):PE X (.List es pos) (zax G E (zhZ dr)):=by
 refine PE.imp (znU h) fun σ H Q zz_=>el6 zz_ fun F as sl ce S P=>(step (RP:=Reps) S P).mono fun x H1 zz_=>el8 zz_ fun wx F1 as1 ce1 l1 S1 rx P1=>?_
 have:=zkR S1 rx P1
 rwa [<- Reps.length rx] at this
theorem zbK(h:PA X es (zhd G E dr)):PE X (.List es pos) (zax G E (zbW dr)):=by
 refine PE.imp (znU h) fun σ H Q zz_=>el6 zz_ fun F as sl ce S P=>(step (RP:=Reps) S P).mono fun x H1 zz_=>el8 zz_ fun wx F1 as1 ce1 l1 S1 rx P1=>?_
 have:=zkU S1 rx P1
 rwa [<- Reps.length rx] at this
def zfP:Sl->M W:=fun _=>mkC (.dct []) 0
theorem zeg:PE X (.Dict [] [] pos) (zax G E zfP):=by
 refine PE.imp zmz fun σ H Q zz_=>el6 zz_ fun F as sl ce S P=>?_
 exact(zkT (c:=.dct []) (o:=.dK []) S (fun p as' l=>⟨[],zaw,.nil⟩) P).2
end
def zjE(kvs:List (Key×W))(k:Key):Option W:=(kvs.find? fun kv=>decide (kv.1=k)).map (·.2)
def zjF(kvs:List (Key×W))(k:Key)(v:W):List (Key×W) :=
 if (kvs.any fun kv=>decide (kv.1=k))=true then kvs.map (fun kv=>if kv.1=k then (kv.1,v) else kv) else kvs++[(k,v)]
section
variable {F:Hp} {as:List Addr} {kvs:List (Key×W)} {ps:List (Key×V)}
theorem RepKV.val(r:RepKV F as kvs ps)(k:Key):(zjE kvs k=none/\zjA ps k=none)\/∃w v,zjE kvs k=some w/\zjA ps k=some v/\Rep F as w v:=by
 induction r with
 | nil=>exact .inl ⟨rfl,rfl⟩
 | @cons p q l1 l2 h t ih =>
  obtain⟨e,rv⟩:=h
  by_cases hk:p.1=k
  ·refine .inr ⟨p.2,q.2,?_,zeN (by rw[<- e];exact hk),rv⟩
   simp[zjE,find?_cons,hk]
  ·have e1:zjE (p::l1) k=zjE l1 k:=by simp only[zjE,find?_cons,hk,decide_false]
   rw[e1,zeO (by rw[<- e];exact hk)]
   exact ih
theorem RepKV.any(r:RepKV F as kvs ps)(k:Key):(kvs.any fun kv=>decide (kv.1=k))=(ps.any fun kv=>decide (kv.1=k)):=by
 induction r with
 | nil=>rfl
 | cons h t ih=>rw[any_cons,any_cons,ih,h.1]
theorem RepKV.mapPut{w:W}{v:V}(k:Key)(rv:Rep F as w v)(r:RepKV F as kvs ps):RepKV F as (kvs.map fun kv=>if kv.1=k then (kv.1,w) else kv) (ps.map fun kv=>if kv.1=k then (kv.1,v) else kv):=by
 induction r with
 | nil=>exact .nil
 | @cons p q l1 l2 h t ih =>
  rw[map_cons,map_cons]
  refine .cons ?_ ih
  by_cases hk:p.1=k
  ·rw[if_pos hk,if_pos (by rw[<- h.1];exact hk)]
   exact⟨h.1,rv⟩
  ·rw[if_neg hk,if_neg (by rw[<- h.1];exact hk)]
   exact h
theorem RepKV.put{w:W}{v:V}(r:RepKV F as kvs ps)(k:Key)(rv:Rep F as w v):RepKV F as (zjF kvs k w) (zhc ps k v):=by
 unfold zjF zhc
 rw[r.any k]
 split
 ·exact r.mapPut k rv
 ·exact Paired.app r (.cons ⟨rfl,rv⟩ .nil)
theorem RepKV.length(r:RepKV F as kvs ps):kvs.length=ps.length:=Paired.length r
end
def zn5(ng:Bool)(ce:Ce)(x y:W):Option W:=match zj3 x,zqm ce y with
 | some k,some kvs=>some (.bl (if ng then !(zjE kvs k).isSome else (zjE kvs k).isSome))
 | _,_=>none
section
variable {X:Cx} {G:Ga} {E:XK} {a b c:Expr} {da db dc:Sl->M W} {pos:Pos}
theorem zpf(ng:Bool)(σ:L2.St)(H:Hp)(Q:VK)(h:zax G E (zaL (zn5 ng) da db) σ H Q) :
  zax G E da σ H fun y H1=>zax G E db σ H1 fun x H2=>∃a o,x=.ref a/\DGet H2 a y o/\Q (.bl (if ng then !o.isSome else o.isSome)) H2:=by
 obtain⟨F,as,sl,ce,S,P⟩:=h
 refine(step S P).mono fun x H1 zz_=>el8 zz_ fun wx F1 as1 ce1 l1 S1 rx P1=>(step S1 P1).mono fun y H2 zz_=>el8 zz_ fun wy F2 as2 ce2 l2 S2 ry P2=>?_
 obtain⟨w,e,P3⟩:=zbx P2
 unfold zn5 at e
 split at e
 ·rename_i k kvs hk hd
  cases e
  obtain⟨n,a,ps,rfl,rfl,ha,hH,rk⟩:=zkK S2.st ry hd
  rw[zh9 rx hk]
  refine⟨a,_,rfl,DGet.k hH,?_⟩
  rcases rk.val k with ⟨e1,e2⟩|⟨w,v,e1,e2,_⟩
  ·rw[e1] at P3;rw[e2];exact P3.done S2 (by simp only[Rep];cases ng<;>rfl)
  ·rw[e1] at P3;rw[e2];exact P3.done S2 (by simp only[Rep];cases ng<;>rfl)
 ·cases e
theorem zht(hu:X.A.units+1<cLine)(ha:PE X a (zax G E da))(hb:PE X b (zax G E db))(h1:behindInMarks .NotIn b=false):PT X (.Compare a [.NotIn] [b] pos) (zcc G E (dB (zaL (zn5 true) da db))):=zpb ⟨_,zkz hu ha hb,zpf true⟩ h1
def ixW(ce:Ce)(x y:W):Option W:=match ze7 ce x,y with
 | some xs,.int i=>atI xs i
 | _,_=>none
theorem Reps.atI{F:Hp}{as:List Addr}{ws:List W}{vs:List V}{i:Int}{w:W}(r:Reps F as ws vs)(h:L2.atI ws i=some w):∃v,L2.atI vs i=some v/\Rep F as w v:=by
 unfold L2.atI at h ⊢
 rw[r.length]
 cases e:ixN ws.length i with
 | none=>rw[e] at h;cases h
 | some j=>rw[e] at h;exact r.get h
theorem zrm(K:PySem.W.Frag):OpC (fun x y H Q=>zs5 K x y H Q\/zs6 K x y H Q) ixW:=by
 intro G F as H ce x y wx wy w S rx ry e Q q
 unfold ixW at e
 split at e
 ·rename_i xs i hs
  obtain⟨a,vs,rfl,h,rs⟩:=zgu S rx hs
  obtain⟨v,hv,rv⟩:=rs.atI e
  simp only[Rep] at ry
  subst ry
  rcases h with h|h
  ·exact .inl ⟨a,vs,i,v,rfl,rfl,.inl h,hv,q _ rv⟩
  ·exact .inr ⟨a,vs,i,v,rfl,rfl,.inl h,hv,q _ rv⟩
 ·cases e
theorem zaE(ha:PE X a (zax G E da))(hb:PE X b (zax G E db))(hs:zkq b):PE X (.Subscript a b pos) (zax G E (zaL ixW da db)):=PE.imp (zs4 (IxR.or (ixL X.K rfl) (ixT X.K rfl)) ha hb hs) (zbJ (zrm _))
def zbA:Sl->M (Option Int):=fun _=>ret none
def zby(d:Sl->M W):Sl->M (Option Int):=fun sl=>bnd (d sl) fun w=>match w with
 | .int i=>ret (some i)
 | _=>zgp
def rO:Hp->List Addr->Option Int->Option Int->Prop:=fun _ _ a b=>a=b
abbrev zsv(G:Ga)(E:XK)(d:Sl->M (Option Int)):TO:=toT G E rO d
theorem PO.imp{e:Option Expr}{t t':TO}(h:PO X e t)(q:∀σ H Q,t' σ H Q->t σ H Q):PO X e t':=fun pins s σ H Q I z=>h pins s σ H Q I (q _ _ _ z)
theorem zgw:PO X none (zsv G E zbA):=PO.imp zoT fun σ H Q zz_=>el6 zz_ fun F as sl ce S P=>Post.done (RP:=rO) S (a:=none) P rfl
theorem zcI(h:PE X a (zax G E da)):PO X (some a) (zsv G E (zby da)):=by
 refine PO.imp (zoU h) fun σ H Q zz_=>el6 zz_ fun F as sl ce S P=>(step S P).mono fun x H1 zz_=>el8 zz_ fun wx F1 as1 ce1 l1 S1 rx P1=>?_
 cases wx<;>first|exact(show False from P1).elim|skip
 simp only[Rep] at rx
 exact⟨_,rx,Post.done (RP:=rO) S1 (a:=some _) P1 rfl⟩
def zmH(xs:List W)(lo hi:Option Int):List W:=(xs.drop (HT.sIx xs.length 0 lo)).take (HT.sIx xs.length xs.length hi-HT.sIx xs.length 0 lo)
theorem Reps.cut{F:Hp}{as:List Addr}{ws:List W}{vs:List V}(r:Reps F as ws vs)(lo hi:Option Int):Reps F as (zmH ws lo hi) (zqk vs lo hi):=by
 unfold zmH zqk
 rw[r.length]
 exact(r.drop _).take _
def slW(mk:List W->M W)(x:W)(lo hi:Option Int):M W:=fun ce=>match zcw ce x with
 | some xs=>mk (zmH xs lo hi) ce
 | none=>none
def zbf(xs:List W):M W:=mkF (.lst xs) xs.length
def zgx(xs:List W):M W:=mkC (.lst xs) xs.length
def ztr(xs:List W):M W:=mkF (.tup xs) xs.length
def dSl(mk:List W->M W)(d:Sl->M W)(l h:Sl->M (Option Int)):Sl->M W:=fun sl=>bnd (d sl) fun x=>bnd (l sl) fun lo=>bnd (h sl) fun hi=>slW mk x lo hi
def MkL(G:Ga)(E:XK)(mk:List W->M W):Prop:=∀{F:Hp} {as:List Addr} {H:Hp} {σ:VS.St} {sl:Sl} {ce:Ce} {Q:VK} {xs:List W} {vs:List V},SR G F as H σ sl ce->Reps F as xs vs->Post G E Rep F as σ sl Q (mk xs ce)->xs.length<=sizeLine/\∀p,H p=none->Q (.ref p) (upd H p (.lst vs))
theorem zec:MkL G E zbf:=fun S rs P=>zkR S rs P
theorem zl5:MkL G E zgx:=fun S rs P=>zkU S rs P
theorem zjG{lo hi:Option Expr}{dl dh:Sl->M (Option Int)}{mk:List W->M W}{p2:Pos}(hm:MkL G E mk)(he:PE X a (zax G E da))(hl:PO X lo (zsv G E dl))(hu:PO X hi (zsv G E dh)):PE X (.Subscript a (.Slice lo hi none p2) pos) (zax G E (dSl mk da dl dh)):=by
 refine PE.imp (zmq (L2.slL X.K) he hl hu) fun σ H Q zz_=>el6 zz_ fun F as sl ce S P=>(step S P).mono fun x H1 zz_=>el8 zz_ fun wx F1 as1 ce1 l1 S1 rx P1=>(step (RP:=rO) S1 P1).mono fun y H2 zz_=>el8 zz_ fun wy F2 as2 ce2 l2 S2 ry P2=>(step (RP:=rO) S2 P2).mono fun z H3 zz_=>el8 zz_ fun wz F3 as3 ce3 l3 S3 rz P3=>?_
 have ry:wy=y:=ry
 have rz:wz=z:=rz
 subst ry rz
 unfold slW at P3
 cases e:zcw ce3 wx with
 | none=>rw[e] at P3;exact(show False from P3).elim
 | some xs =>
  rw[e] at P3
  obtain⟨p,vs,rfl,h,rs⟩:=zbI S3.st ((rx.le l2).le l3) e
  exact⟨p,vs,rfl,.inl h,(hm S3 (rs.cut wy wz) P3).2⟩
open Classical in
def zts(mk:List W->M W)(x y:W):M W:=fun ce=>match zcw ce x,zcw ce y with
 | some xs,some ys=>if xs.length+ys.length<=sizeLine then mk (xs++ys) ce else none
 | _,_=>none
def zmI(mk:List W->M W)(a b:Sl->M W):Sl->M W:=fun sl=>bnd (a sl) fun x=>bnd (b sl) fun y=>zts mk x y
def ztt:R2:=fun x y H Q=>∃l b xs zs,x=.ref l/\y=.ref b/\Rd H l (.lst xs)/\Rd H b (.lst zs)/\xs.length+zs.length<=sizeLine/\∀p,H p=none->Q (.ref p) (upd H p (.lst (xs++zs)))
theorem Inv.lstR{pins:List (Addr×Obj)}{σ:VS.St}{H:Hp}{s:Shared}{l:Addr}{xs:List V}(I:Inv X pins σ H s)(hH:Rd H l (.lst xs)):xs.length<=sizeLine/\∃(its:List Value) (n:Nat),Vals xs its/\xs.length=its.length/\s.heap.get? l=some { cls:=.type "list",data:=.seq its.toArray n }:=by
 obtain⟨z,its,n,r,e⟩:=hH.ok I.hok
 exact⟨z,its,n,r,r.length,e⟩
theorem zpg:OpR X (binaryOp .Add) ztt:=by
 intro pins s σ H x y v u Q I rx ry h
 obtain⟨l,b,xs,zs,rfl,rfl,hH,hB,hz,q⟩:=h
 cases rx
 cases ry
 obtain⟨z,its,n,r,hl,e⟩:=Inv.lstR I hH
 obtain⟨z2,its2,n2,r2,hl2,e2⟩:=Inv.lstR I hB
 refine PySem.P.add_list e e2 ?_ (by rw[size_toArray,size_toArray];omega)
 have ea:its.toArray++its2.toArray=(its++its2).toArray:=by simp
 rw[ea]
 exact⟨.ref _,_,I.lnew (t':=s.toks) (r.append r2) (by rw[length_append];omega),rfl,q _ I.fresh⟩
theorem zkV{mk:List W->M W}(hm:MkL G E mk)(ha:PE X a (zax G E da))(hb:PE X b (zax G E db)):PE X (.BinOp a .Add b pos) (zax G E (zmI mk da db)):=by
 refine PE.imp (zqP zpg ha hb) fun σ H Q h=>ziQ h fun F as sl ce H2 x y wx wy S rx ry P=>?_
 unfold zts at P
 split at P
 ·rename_i xs ys h1 h2
  split at P
  ·rename_i hl
   obtain⟨p,vs,rfl,q1,r1⟩:=zbI S.st rx h1
   obtain⟨p',us,rfl,q2,r2⟩:=zbI S.st ry h2
   exact⟨p,p',vs,us,rfl,rfl,q1,q2,by rw[r1.length,r2.length];exact hl,(hm S (r1.append r2) P).2⟩
  ·exact(show False from P).elim
 ·exact(show False from P).elim
end
end
section
inductive Fl where
 | nx|bk|ct|rt (w:W)
inductive O where
 | go (f:Fl) (sl:Sl) (ce:Ce)|ex (x:Exn) (ce:Ce)
abbrev DS:=Sl->Ce->Option O
def ztu(D:Ends)(F:Hp)(as:List Addr)(σ:VS.St)(H:Hp):Fl->Prop
 | .nx=>D.nx σ H
 | .bk=>D.bk σ H
 | .ct=>D.ct σ H
 | .rt w=>∀v,Rep F as w v->D.rt v H
def PostS(G:Ga)(E:XK)(D:Ends)(F:Hp)(as:List Addr):Option O->Prop
 | some (.go f sl' ce')=>∀σ' H' F' as',Le F as F' as'->SR G F' as' H' σ' sl' ce'->ztu D F' as' σ' H' f
 | some (.ex x ce')=>∀H' F' as' cv od,Le F as F' as'->Store G F' as' H' ce'->G.xr x cv od H'->E cv od H'
 | none=>False
def toTS(G:Ga)(E:XK)(d:DS):TS:=fun D σ H=>∃F as sl ce,SR G F as H σ sl ce/\PostS G E D F as (d sl ce)
def lft{α:Type}(m:Option (R α))(k:α->Ce->Option O):Option O:=match m with
 | some (.ok a ce')=>k a ce'
 | some (.ex x ce')=>some (.ex x ce')
 | none=>none
section
variable {α β:Type} {G:Ga} {E:XK} {RP:Hp->List Addr->α->β->Prop} {F F':Hp} {as as':List Addr} {H:Hp} {σ:VS.St} {sl:Sl} {ce:Ce} {D D':Ends}
theorem PostS.le{r:Option O}(l:Le F as F' as')(P:PostS G E D F as r):PostS G E D F' as' r:=by
 cases r with
 | none=>exact P
 | some r=>cases r with
  | go f sl' ce'=>exact fun σ' H' F2 as2 l2=>P σ' H' F2 as2 (l.trans l2)
  | ex x ce'=>exact fun H' F2 as2 cv od l2=>P H' F2 as2 cv od (l.trans l2)
theorem zdE{d:Sl->M α}{k:α->Ce->Option O}(S:SR G F as H σ sl ce)(P:PostS G E D F as (lft (d sl ce) k)) :
  toT G E RP d σ H fun b H2=>∃a F' as' ce',Le F as F' as'/\SR G F' as' H2 σ sl ce'/\RP F' as' a b/\PostS G E D F' as' (k a ce'):=by
 refine⟨F,as,sl,ce,S,?_⟩
 revert P
 unfold lft
 cases d sl ce with
 | none=>exact fun P=>P
 | some r=>cases r with
  | ok a ce'=>exact fun P b H' F' as' l S' r=>⟨a,F',as',ce',l,S',r,P.le l⟩
  | ex x ce'=>exact fun P=>P
theorem PostS.nxt(S:SR G F as H σ sl ce)(P:PostS G E D F as (some (.go .nx sl ce))):D.nx σ H:=P σ H F as .refl S
end
def zaP:DS:=fun sl ce=>some (.go .nx sl ce)
def zaq(a b:DS):DS:=fun sl ce=>match a sl ce with
 | some (.go .nx sl' ce')=>b sl' ce'
 | r=>r
def dEx(d:Sl->M W):DS:=fun sl ce=>lft (d sl ce) fun _ ce'=>some (.go .nx sl ce')
def za7(d:Sl->M W):DS:=fun sl ce=>lft (d sl ce) fun w ce'=>some (.go (.rt w) sl ce')
def dIf(c:Sl->M Bool)(a b:DS):DS:=fun sl ce=>lft (c sl ce) fun t ce'=>match t with
 | true=>a sl ce'
 | false=>b sl ce'
abbrev DG:=W->Sl->Ce->Option (Sl×Ce)
def gN(i:Nat):DG:=fun w sl ce=>some (sl.set i (some w),ce)
def zjH(d:Sl->M W)(g:DG):DS:=fun sl ce=>lft (d sl ce) fun w ce'=>match g w sl ce' with
 | some (sl',ce'')=>some (.go .nx sl' ce'')
 | none=>none
def zaU(i:Nat)(d:Sl->M W):DS:=fun sl ce=>lft (d sl ce) fun w ce'=>some (.go .nx (sl.set i (some w)) ce')
def PGv(G:Ga)(X:Cx)(tg:Expr)(g:DG):Prop:=∃t:TG,PG X tg t/\∀F as H σ sl ce w v sl' ce' (Q:VS.St->Hp->Prop),SR G F as H σ sl ce->Rep F as w v->g w sl ce=some (sl',ce') ->
 (∀σ' H' F' as',Le F as F' as'->SR G F' as' H' σ' sl' ce'->Q σ' H')->t v σ H Q
def zsw(G:Ga)(X:Cx)(tgs:List Expr)(g:List W->Sl->Ce->Option (Sl×Ce)):Prop:=∃t:TGs,PGs X tgs t/\∀F as H σ sl ce ws vs sl' ce' (Q:VS.St->Hp->Prop),SR G F as H σ sl ce->Reps F as ws vs->g ws sl ce=some (sl',ce') ->
 (∀σ' H' F' as',Le F as F' as'->SR G F' as' H' σ' sl' ce'->Q σ' H')->t vs σ H Q
def zkW:List W->Sl->Ce->Option (Sl×Ce):=fun ws sl ce=>match ws with
 | []=>some (sl,ce)
 | _=>none
def zdk(g:DG)(r:List W->Sl->Ce->Option (Sl×Ce)):List W->Sl->Ce->Option (Sl×Ce):=fun ws sl ce=>match ws with
 | w::ws=>match g w sl ce with
  | some (sl',ce')=>r ws sl' ce'
  | none=>none
 | []=>none
def gT(n:Nat)(r:List W->Sl->Ce->Option (Sl×Ce)):DG:=fun w sl ce=>match w with
 | .tup ws=>if ws.length=n then r ws sl ce else none
 | _=>none
section
variable {X:Cx} {G:Ga} {E:XK} {st:Stmt} {rest:List Stmt} {a b:DS} {e tg:Expr} {d da db dc:Sl->M W} {c:Sl->M Bool} {g:DG} {pos:Pos}
theorem zaF:PSs X [] (toTS G E zaP):=PSs.imp zoH fun D σ H zz_=>el6 zz_ fun F as sl ce S P=>P.nxt S
theorem zah(h:PS X st (toTS G E a)):PSs X [st] (toTS G E a):=zj9 h
theorem zad(h1:PS X st (toTS G E a))(h2:PSs X rest (toTS G E b)):PSs X (st::rest) (toTS G E (zaq a b)):=by
 refine PSs.imp (ziL h1 h2) fun D σ H zz_=>el6 zz_ fun F as sl ce S P=>⟨F,as,sl,ce,S,?_⟩
 revert P
 unfold zaq
 cases a sl ce with
 | none=>exact fun P=>P.elim
 | some r=>cases r with
  | ex x ce'=>exact fun P=>P
  | go f sl' ce'=>cases f with
   | nx=>exact fun P σ' H' F' as' l S'=>⟨F',as',sl',ce',S',P.le l⟩
   | bk=>exact fun P=>P
   | ct=>exact fun P=>P
   | rt w=>exact fun P=>P
theorem zbg(he:PE X e (zax G E d))(hs:swapsWith e none pos.line X.env=pure false:=by rfl):PS X (.Expr e pos) (toTS G E (dEx d)) :=
 PS.imp (zka he hs) fun D σ H zz_=>el6 zz_ fun F as sl ce S P=>(zdE S P).mono fun x H1 zz_=>el8 zz_ fun wx F1 as1 ce1 l1 S1 rx P1=>P1.nxt S1
theorem zaA(he:PE X e (zax G E d)):PS X (.Return (some e) pos) (toTS G E (za7 d)) :=
 PS.imp (zqI he) fun D σ H zz_=>el6 zz_ fun F as sl ce S P=>(zdE S P).mono fun x H1 zz_=>el8 zz_ fun wx F1 as1 ce1 l1 S1 rx P1=>P1 σ H1 F1 as1 .refl S1 x rx
theorem za0{t:Expr}{sa sb:List Stmt}(hc:PT X t (zcc G E c))(ha:PSs X sa (toTS G E a))(hb:PSs X sb (toTS G E b)):PS X (.If t sa sb pos) (toTS G E (dIf c a b)):=by
 refine PS.imp (zsM hc ha hb) fun D σ H zz_=>el6 zz_ fun F as sl ce S P=>(zdE (RP:=rB) S P).mono fun x H1 zz_=>el8 zz_ fun wx F1 as1 ce1 l1 S1 rx P1=>?_
 have rx:wx=x:=rx
 subst rx
 cases wx
 ·rw[if_neg Bool.false_ne_true];exact⟨F1,as1,sl,ce1,S1,P1⟩
 ·rw[if_pos rfl];exact⟨F1,as1,sl,ce1,S1,P1⟩
theorem zat{i:Nat}{x:Str}{pos':Pos}(hN:X.N.Nodup)(hi:X.N[i]?=some x)(hx:Loc X.env.scope x)(he:PE X e (zax G E d))(hs:swapsWith e (some (.Name x pos')) pos.line X.env=pure false:=by rfl)(hf:X.fn x=true\/X.env.scope.names.lookup x=some .local:=by first|exact .inl rfl|exact .inr rfl|assumption):PS X (.Assign [.Name x pos'] e pos) (toTS G E (zaU i d)) :=
 PS.imp (zqM hN hi hx he hs hf) fun D σ H zz_=>el6 zz_ fun F as sl ce S P=>(zdE S P).mono fun x H1 zz_=>el8 zz_ fun wx F1 as1 ce1 l1 S1 rx P1=>P1 _ H1 F1 as1 .refl (S1.put rx i)
theorem zaI{i:Nat}{x:Str}(hN:X.N.Nodup)(hi:X.N[i]?=some x)(hx:Loc X.env.scope x)(hf:X.fn x=true\/X.env.scope.names.lookup x=some .local:=by first|exact .inl rfl|exact .inr rfl|assumption):PGv G X (.Name x pos) (gN i) :=
 ⟨gName i,zh3 hN hi hx hf,fun F as H σ sl ce w v sl' ce' Q S r e k=>by
  cases e
  exact k _ _ _ _ .refl (S.put r i)⟩
theorem zia:zsw G X [] zkW:=⟨_,zoI,fun F as H σ sl ce ws vs sl' ce' Q S r e k=>by
 cases ws with
 | nil=>cases e;simp only[Reps] at r;exact⟨r,k _ _ _ _ .refl S⟩
 | cons w ws=>cases e⟩
theorem zc7{es:List Expr}{r:List W->Sl->Ce->Option (Sl×Ce)}(h1:PGv G X e g)(h2:zsw G X es r)(hs:(assignEach (e::es) X.env).map (·.2)=assign e X.env::(assignEach es X.env).map (·.2):=by rfl):zsw G X (e::es) (zdk g r):=by
 obtain⟨t,h1,q1⟩:=h1
 obtain⟨u,h2,q2⟩:=h2
 refine⟨_,zme h1 h2 hs,fun F as H σ sl ce ws vs sl' ce' Q S rs e k=>?_⟩
 cases ws with
 | nil=>cases e
 | cons w ws =>
  simp only[Reps] at rs
  obtain⟨v,vs',rfl,rv,rs⟩:=rs
  simp only[zdk] at e
  split at e
  ·rename_i sl1 ce1 eg
   refine⟨v,vs',rfl,q1 F as H σ sl ce w v sl1 ce1 _ S rv eg fun σ' H' F' as' l S'=>?_⟩
   exact q2 F' as' H' σ' sl1 ce1 ws vs' sl' ce' Q S' (rs.le l) e fun σ2 H2 F2 as2 l2 S2=>k _ _ _ _ (l.trans l2) S2
  ·cases e
theorem zkX{es:List Expr}{k n:Nat}{r:List W->Sl->Ce->Option (Sl×Ce)}(hc:X.calm=true)(h:zsw G X es r)(hn:(assignEach es X.env).length=n:=by rfl)(hst:(assignEach es X.env).findIdx? (·.1)=none:=by rfl):PGv G X (.Tuple es k pos) (gT n r):=by
 obtain⟨t,h,q⟩:=h
 refine⟨_,zqJ hc h hn hst,fun F as H σ sl ce w v sl' ce' Q S rw' e k=>?_⟩
 cases w<;>simp only[gT,reduceCtorEq] at e
 split at e
 ·rename_i ws hl
  simp only[Rep] at rw'
  obtain⟨a,vs,rfl,ha,rs⟩:=rw'
  exact⟨a,vs,rfl,.inl (.inl (S.st.sub _ _ ha)),by rw[rs.length];exact hl,q F as H σ sl ce _ vs sl' ce' Q S rs e k⟩
 ·cases e
theorem zf5(he:PE X e (zax G E d))(hg:PGv G X tg g)(hs:swapsWithSole [tg] e pos.line X.env=pure false:=by rfl)(hw:swappedStores [tg] e X.env=pure none:=by rfl)(h1:(assignEach [tg] X.env).map (·.2)=[assign tg X.env]:=by rfl):PS X (.Assign [tg] e pos) (toTS G E (zjH d g)):=by
 obtain⟨t,hg,q⟩:=hg
 refine PS.imp (zqL he hg hs hw h1) fun D σ H zz_=>el6 zz_ fun F as sl ce S P=>(zdE S P).mono fun x H1 zz_=>el8 zz_ fun wx F1 as1 ce1 l1 S1 rx P1=>?_
 split at P1
 ·rename_i sl' ce'' eg
  exact q F1 as1 H1 σ sl ce1 wx x sl' ce'' _ S1 rx eg fun σ' H' F' as' l S'=>P1 σ' H' F' as' l S'
 ·exact(show False from P1).elim
def zl6(ce:Ce):W->Option (Nat×List W)
 | .cel k=>match ce[k]? with
  | some (.lst xs)=>some (k,xs)
  | _=>none
 | _=>none
def zn6(ce:Ce):W->Option (Nat×List (Key×W))
 | .cel k=>match ce[k]? with
  | some (.dct xs)=>some (k,xs)
  | _=>none
 | _=>none
theorem zdF{F:Hp}{as:List Addr}{H:Hp}{ce:Ce}{w:W}{v:V}{k:Nat}{xs:List W}(S:Store G F as H ce)(r:Rep F as w v)(e:zl6 ce w=some (k,xs)):∃a vs,v=.ref a/\as[k]?=some a/\H a=some (.lst vs)/\Reps F as xs vs:=by
 cases w<;>simp only[zl6,reduceCtorEq] at e
 split at e
 ·rename_i hc
  cases e
  simp only[Rep] at r
  obtain⟨a,rfl,h⟩:=r
  obtain⟨_,vs,h2,rs⟩:=S.cell _ _ _ h hc
  exact⟨a,vs,rfl,h,h2,rs⟩
 ·cases e
theorem zmJ{F:Hp}{as:List Addr}{H:Hp}{ce:Ce}{w:W}{v:V}{k:Nat}{xs:List (Key×W)}(S:Store G F as H ce)(r:Rep F as w v)(e:zn6 ce w=some (k,xs)):∃a ps,v=.ref a/\as[k]?=some a/\H a=some (.dK ps)/\RepKV F as xs ps:=by
 cases w<;>simp only[zn6,reduceCtorEq] at e
 split at e
 ·rename_i hc
  cases e
  simp only[Rep] at r
  obtain⟨a,rfl,h⟩:=r
  obtain⟨_,ps,h2,rs⟩:=S.cell _ _ _ h hc
  exact⟨a,ps,rfl,h,h2,rs⟩
 ·cases e
def zfc(o i:Sl->M W):DG:=fun w sl ce=>match o sl ce with
 | some (.ok ow ce1)=>match i sl ce1 with
  | some (.ok (.int j) ce2)=>match zl6 ce2 ow with
   | some (k,xs)=>match ixN xs.length j with
    | some n=>some (sl,ce2.set k (.lst (xs.set n w)))
    | none=>none
   | none=>none
  | _=>none
 | _=>none
theorem zfd{o i:Expr}(ho:PE X o (zax G E da))(hi:PE X i (zax G E db))(hA:∀v,assign (.Subscript o i pos) X.env v=(do
   let ov <- holding [v] (eval o X.env)
   let iv <- holding [v,ov] (eval i X.env)
   standAt pos
   holding [v,ov,iv] (setItem ov iv v)
   release [v,ov,iv] []):=by intro _;rfl):PGv G X (.Subscript o i pos) (zfc da db):=by
 refine⟨_,zqK ho hi zmr hA,fun F as H σ sl ce w v sl' ce' Q S rw' e k=>?_⟩
 unfold zfc at e
 refine⟨F,as,sl,ce,S,?_⟩
 cases e1:da sl ce with
 | none=>rw[e1] at e;cases e
 | some r1=>cases r1 with
  | ex x c=>rw[e1] at e;cases e
  | ok ow ce1 =>
   rw[e1] at e
   intro ov H1 F1 as1 l1 S1 ro
   refine⟨F1,as1,sl,ce1,S1,?_⟩
   dsimp only at e
   cases e2:db sl ce1 with
   | none=>rw[e2] at e;cases e
   | some r2=>cases r2 with
    | ex x c=>rw[e2] at e;cases e
    | ok iw ce2 =>
     rw[e2] at e
     intro iv H2 F2 as2 l2 S2 ri
     cases iw<;>simp only[reduceCtorEq] at e
     rename_i j
     split at e
     ·rename_i kk xs hk
      split at e
      ·rename_i n hn
       cases e
       simp only[Rep] at ri
       subst ri
       obtain⟨a,vs,rfl,ha,hH,rs⟩:=zdF S2.st (ro.le l2) hk
       have rset:=rs.set n ((rw'.le l1).le l2)
       refine⟨a,vs,j,n,rfl,rfl,hH,by rw[rs.length];exact hn,?_⟩
       exact k _ _ _ _ (l1.trans l2) (S2.slots (S2.st.write (o:=.lst (vs.set n v)) (c:=.lst (xs.set n w)) ha ⟨_,zaw,rset⟩) .refl)
      ·cases e
     ·cases e
open Classical in
def zjI(o i v:Sl->M W):DS:=fun sl ce=>lft (v sl ce) fun w ce1=>lft (o sl ce1) fun ow ce2=>lft (i sl ce2) fun iw ce3=>match zj3 iw,zn6 ce3 ow with
 | some key,some (k,kvs)=>if kvs.length<sizeLine then some (.go .nx sl (ce3.set k (.dct (zjF kvs key w)))) else none
 | _,_=>none
theorem zew{o i value:Expr}{pos':Pos}(hu:X.A.units+1<cLine)(ho:PE X o (zax G E da))(hi:PE X i (zax G E db))(hv:PE X value (zax G E dc))(hs:swapsWith value (some (.Subscript o i pos')) pos.line X.env=pure false:=by rfl) :
  PS X (.Assign [.Subscript o i pos'] value pos) (toTS G E (zjI da db dc)):=by
 refine PS.imp (zo2 hu ho hi hv hs) fun D σ H zz_=>el6 zz_ fun F as sl ce S P=>(zdE S P).mono fun x H1 zz_=>el8 zz_ fun wx F1 as1 ce1 l1 S1 rx P1=>(zdE S1 P1).mono fun y H2 zz_=>el8 zz_ fun wy F2 as2 ce2 l2 S2 ry P2=>(zdE S2 P2).mono fun z H3 zz_=>el8 zz_ fun wz F3 as3 ce3 l3 S3 rz P3=>?_
 split at P3
 ·rename_i key kk kvs hk hc
  split at P3
  ·rename_i hl
   obtain⟨a,ps,rfl,ha,hH,rk⟩:=zmJ S3.st (ry.le l3) hc
   rw[zh9 rz hk]
   have rput:=rk.put key ((rx.le l2).le l3)
   refine⟨a,_,rfl,DPut.k hH (by rw[<- rk.length];exact hl),?_⟩
   exact P3 _ _ _ _ .refl (S3.slots (S3.st.write (o:=.dK (zhc ps key x)) (c:=.dct (zjF kvs key wx)) ha ⟨_,zaw,rput⟩) .refl)
  ·exact(show False from P3).elim
 ·exact(show False from P3).elim
end
end
section
inductive Src where
 | lst (xs:List W)|tup (xs:List W)|cell (k:Nat) (xs:List W)|rng (lo:Int) (n:Nat)|dky (xs:List W)
def kW:Key->W
 | .inl i=>.int i
 | .inr x=>.str x
def Src.items:Src->List W
 | .lst xs=>xs
 | .tup xs=>xs
 | .cell _ xs=>xs
 | .rng lo n=>(List.range n).map fun(i:Nat)=>W.int (lo+(i:Int))
 | .dky xs=>xs
def Src.Stays(ce:Ce):Src->Prop
 | .cell k xs=>ce[k]?=some (.lst xs)
 | _=>True
def IRep(K:PySem.W.Frag)(F:Hp)(as:List Addr):Src->It->Prop
 | .lst xs,J=>∃a vs,J=Itl K a/\Rd F a (.lst vs)/\Reps F as xs vs
 | .tup xs,J=>∃a vs,J=Itt K a/\Rd F a (.tup vs)/\Reps F as xs vs
 | .cell k _,J=>∃a,J=Itl K a/\as[k]?=some a
 | .rng lo n,J=>J=Itr lo n
 | .dky xs,J=>∃a o ps,J=Itd a o ps/\F a=some (.frz o (.dK ps))/\xs=ps.map fun p=>kW p.1
theorem IRep.le{K:PySem.W.Frag}{F F':Hp}{as as':List Addr}{s:Src}{J:It}(l:Le F as F' as')(h:IRep K F as s J):IRep K F' as' s J:=by
 cases s with
 | lst xs=>obtain⟨a,vs,e,h,r⟩:=h;exact⟨a,vs,e,l.rd h,r.le l⟩
 | tup xs=>obtain⟨a,vs,e,h,r⟩:=h;exact⟨a,vs,e,l.rd h,r.le l⟩
 | cell k xs=>obtain⟨a,e,h⟩:=h;exact⟨a,e,l.c _ _ h⟩
 | rng lo n=>exact h
 | dky xs=>obtain⟨a,o,ps,e,h,q⟩:=h;exact⟨a,o,ps,e,l.f _ _ h,q⟩
theorem IRep.turn{G:Ga}{K:PySem.W.Frag}{F:Hp}{as:List Addr}{H:Hp}{ce:Ce}{s:Src}{J:It}(S:Store G F as H ce)(h:IRep K F as s J)(hs:s.Stays ce)(i:Nat) :
  (i<s.items.length->J.go i H/\∀x H',J.yld i H x H'->H'=H/\∃w,s.items[i]?=some w/\Rep F as w x)/\(i=s.items.length->J.stop i H):=by
 have lst:∀{a:Addr} {vs:List V} {xs:List W},SqL K H a vs->Reps F as xs vs->(i<xs.length->(Itl K a).go i H/\∀x H',(Itl K a).yld i H x H'->H'=H/\∃w,xs[i]?=some w/\Rep F as w x)/\(i=xs.length->(Itl K a).stop i H):=by
  intro a vs xs hq rs
  have hl:=rs.length
  refine⟨fun hi=>⟨⟨vs,vs[i]'(by omega),hq,by simp⟩,fun x H' y=>?_⟩,fun hi=>⟨vs,hq,by omega⟩⟩
  obtain⟨e,y⟩:=y
  exact⟨e,rs.get' (y vs hq)⟩
 cases s with
 | lst xs=>obtain⟨a,vs,rfl,h,r⟩:=h;exact lst (.inl (Rd.sub S h)) r
 | cell k xs =>
  obtain⟨a,rfl,h⟩:=h
  obtain⟨_,vs,h2,rs⟩:=S.cell _ _ _ h hs
  exact lst (.inl (.inl h2)) rs
 | tup xs =>
  obtain⟨a,vs,rfl,h,rs⟩:=h
  have hq:SqT K H a vs:=.inl (Rd.sub S h)
  have hl:=rs.length
  refine⟨fun hi=>⟨⟨vs,vs[i]'(by show i<_;simp only[Src.items] at hi;omega),hq,by simp⟩,fun x H' y=>?_⟩,fun hi=>⟨vs,hq,by simp only[Src.items] at hi;omega⟩⟩
  obtain⟨e,y⟩:=y
  exact⟨e,rs.get' (y vs hq)⟩
 | rng lo n =>
  cases h
  have hl:(Src.rng lo n).items.length=n:=by simp[Src.items]
  rw[hl]
  refine⟨fun hi=>⟨hi,fun x H' y=>?_⟩,fun hi=>by rw[hi];exact le_refl _⟩
  obtain⟨e,rfl⟩:=y
  refine⟨e,.int (lo+i),?_,by simp only[Rep]⟩
  simp[Src.items,hi]
 | dky xs =>
  obtain⟨a,o,ps,rfl,h,rfl⟩:=h
  have hH:=S.sub _ _ h
  have hl:(Src.dky (ps.map fun p=>kW p.1)).items.length=ps.length:=by simp[Src.items]
  rw[hl]
  refine⟨fun hi=>⟨⟨hH,hi⟩,fun x H' y=>?_⟩,fun hi=>⟨hH,hi.symm⟩⟩
  obtain⟨e,p,hp,rfl⟩:=y
  refine⟨e,kW p.1,by simp only[Src.items,getElem?_map,hp,map_some],?_⟩
  cases p.1<;>simp only[kW,kV,Rep]
abbrev zn7(G:Ga)(E:XK)(K:PySem.W.Frag)(d:Sl->M Src):TI:=toT G E (IRep K) d
theorem PI.imp{X:Cx}{tg e:Expr}{t t':TI}(h:PI X tg e t)(q:∀σ H R,t' σ H R->t σ H R):PI X tg e t':=fun pins s σ H Q I z=>h pins s σ H Q I (q _ _ _ z)
def zib(ce:Ce):W->Option Src
 | .lst xs=>some (.lst xs)
 | .cel k=>match ce[k]? with
  | some (.lst xs)=>some (.cell k xs)
  | _=>none
 | _=>none
def ztv:W->Option Src
 | .tup xs=>some (.tup xs)
 | _=>none
def dID(d:Sl->M W):Sl->M Src:=fun sl=>bnd (d sl) fun w ce=>match w with
 | .cel k=>match ce[k]? with
  | some (.dct kvs)=>some (.ok (.dky (kvs.map fun p=>kW p.1)) (ce.set k (.fzd kvs)))
  | some (.fzd kvs)=>some (.ok (.dky (kvs.map fun p=>kW p.1)) ce)
  | _=>none
 | _=>none
def dIL(d:Sl->M W):Sl->M Src:=fun sl=>bnd (d sl) fun w=>look fun ce=>zib ce w
def dIT(d:Sl->M W):Sl->M Src:=fun sl=>bnd (d sl) fun w=>look fun _=>ztv w
open Classical in
def zph:List W->Option Src
 | [.int j]=>@ite _ (-4611686018427387904<=j/\j<4611686018427387904) (Classical.propDecidable _) (some (.rng 0 j.toNat)) none
 | _=>none
def zf6(d:Sl->M (List W)):Sl->M Src:=fun sl=>bnd (d sl) fun ws=>look fun _=>zph ws
section
variable {X:Cx} {G:Ga} {E:XK} {tg a b:Expr} {da:Sl->M W} {dr:Sl->M (List W)} {p pos:Pos}
theorem zgy(hl:PE X a (zax G E da)):PI X tg a (zn7 G E X.K (dIL da)):=by
 refine PI.imp (zoJ hl) fun σ H R zz_=>el6 zz_ fun F as sl ce S P=>(step S P).mono fun x H1 zz_=>el8 zz_ fun wx F1 as1 ce1 l1 S1 rx P1=>?_
 obtain⟨src,e,P2⟩:=zbx P1
 cases wx<;>simp only[zib,reduceCtorEq,Option.some.injEq] at e
 ·subst e
  simp only[Rep] at rx
  obtain⟨a,vs,rfl,h,rs⟩:=rx
  exact⟨a,rfl,⟨vs,.inl (Rd.sub S1.st h)⟩,Post.done (RP:=IRep X.K) S1 P2 ⟨a,vs,rfl,h,rs⟩⟩
 ·split at e
  ·rename_i hc
   cases e
   simp only[Rep] at rx
   obtain⟨a,rfl,h⟩:=rx
   obtain⟨_,vs,h2,rs⟩:=S1.st.cell _ _ _ h hc
   exact⟨a,rfl,⟨vs,.inl (.inl h2)⟩,Post.done (RP:=IRep X.K) S1 P2 ⟨a,rfl,h⟩⟩
  ·cases e
theorem RepKV.kW{F:Hp}{as:List Addr}{kvs:List (Key×W)}{ps:List (Key×V)}(r:RepKV F as kvs ps):(kvs.map fun p=>VS.kW p.1)=ps.map fun p=>VS.kW p.1:=by
 induction r with
 | nil=>rfl
 | cons h t ih=>rw[map_cons,map_cons,ih,h.1]
theorem Store.fzd{F:Hp}{as:List Addr}{H:Hp}{ce:Ce}{k:Nat}{a:Addr}{kvs:List (Key×W)}{ps:List (Key×V)}(S:Store G F as H ce)(h:as[k]?=some a)(hc:ce[k]?=some (.dct kvs))(hH:H a=some (.dK ps))(r:RepKV F as kvs ps)(o:Obj) :
  Store G (upd F a (.frz o (.dK ps))) as (upd H a (.frz o (.dK ps))) (ce.set k (.fzd kvs))/\Le F as (upd F a (.frz o (.dK ps))) as:=by
 have hk:k<ce.length:=zay hc
 have q1:F a=none:=(S.cell k a _ h hc).1 rfl
 have l:Le F as (upd F a (.frz o (.dK ps))) as:=⟨upd_sub q1,fun _ _ h=>h⟩
 refine⟨⟨fun b u e=>?_,S.nd,by rw[length_set];exact S.len,fun j b c h1 h2=>?_⟩,l⟩
 ·by_cases hb:b=a
  ·subst hb;rw[zaw] at e ⊢;exact e
  ·rw[zaD hb] at e ⊢;exact S.sub _ _ e
 ·by_cases hj:k=j
  ·subst hj
   rw[getElem?_set_self hk] at h2
   rw[h] at h1
   cases h1;cases h2
   exact⟨(fun z=>by cases z),o,ps,zaw,zaw,r.le l⟩
  ·rw[getElem?_set_ne hj] at h2
   obtain⟨p1,p2⟩:=S.cell j b c h1 h2
   have hb:b≠a:=fun z=>by
    subst z
    have hj':j<as.length:=zay h1
    have hk':k<as.length:=zay h
    have e1:as[k]=as[j]:=by
     rw[getElem?_eq_getElem hk'] at h
     rw[getElem?_eq_getElem hj'] at h1
     exact(Option.some.inj h).trans (Option.some.inj h1).symm
    exact hj (zhr S.nd hk' hj' e1)
   exact⟨fun z=>by rw[zaD hb];exact p1 z,p2.le l (zaD hb)⟩
theorem zu0(hl:PE X a (zax G E da)):PI X tg a (zn7 G E X.K (dID da)):=by
 refine PI.imp (zo6 hl) fun σ H R zz_=>el6 zz_ fun F as sl ce S P=>(step S P).mono fun x H1 zz_=>el8 zz_ fun wx F1 as1 ce1 l1 S1 rx P1=>?_
 cases wx<;>first|exact P1.elim|skip
 rename_i k
 simp only[Rep] at rx
 obtain⟨a,rfl,h⟩:=rx
 dsimp only at P1
 refine⟨a,rfl,?_⟩
 split at P1
 ·rename_i kvs hc
  obtain⟨_,ps,hH,r⟩:=S1.st.cell _ _ _ h hc
  refine .inl ⟨ps,hH,fun o=>?_⟩
  obtain⟨S2,l2⟩:=S1.st.fzd h hc hH r o
  exact P1 (Itd a o ps) _ _ _ l2 (S1.slots S2 l2) ⟨a,o,ps,rfl,zaw,r.kW⟩
 ·rename_i kvs hc
  obtain⟨_,o,ps,hF,hH,r⟩:=S1.st.cell _ _ _ h hc
  exact .inr ⟨o,ps,hH,Post.done (RP:=IRep X.K) S1 P1 ⟨a,o,ps,rfl,hF,r.kW⟩⟩
 ·exact P1.elim
theorem zj4(hl:PE X a (zax G E da)):PI X tg a (zn7 G E X.K (dIT da)):=by
 refine PI.imp (zqO hl) fun σ H R zz_=>el6 zz_ fun F as sl ce S P=>(step S P).mono fun x H1 zz_=>el8 zz_ fun wx F1 as1 ce1 l1 S1 rx P1=>?_
 obtain⟨src,e,P2⟩:=zbx P1
 cases wx<;>simp only[ztv,reduceCtorEq,Option.some.injEq] at e
 subst e
 simp only[Rep] at rx
 obtain⟨a,vs,rfl,h,rs⟩:=rx
 exact⟨a,rfl,⟨vs,.inl (.inl (S1.st.sub _ _ h))⟩,Post.done (RP:=IRep X.K) S1 P2 ⟨a,vs,rfl,.inl h,rs⟩⟩
theorem zeh(hg:Gl X "range")(hm:X.mg "range" = none)(ha:PA X [a] (zhd G E dr))(hs:starEach [a] X.env=[(false,eval a X.env)]:=by rfl):PI X tg (.Call (.Name "range" p) [a] [] pos) (zn7 G E X.K (zf6 dr)):=by
 refine PI.imp (zkc hg hm ha hs) fun σ H R zz_=>el6 zz_ fun F as sl ce S P=>(step (RP:=Reps) S P).mono fun x H1 zz_=>el8 zz_ fun wx F1 as1 ce1 l1 S1 rx P1=>?_
 obtain⟨src,e,P2⟩:=zbx P1
 unfold zph at e
 split at e
 ·rename_i j
  split at e
  ·rename_i hj
   cases e
   simp only[Reps,Rep] at rx
   obtain⟨v,r,rfl,rfl,rfl⟩:=rx
   exact⟨j,rfl,by omega,by omega,Post.done (RP:=IRep X.K) S1 P2 rfl⟩
  ·cases e
 ·cases e
end
open Classical in
def zhf(s:Src)(g:DG)(body:DS):List W->DS
 | []=>fun sl ce=>if s.Stays ce then some (.go .nx sl ce) else none
 | x::r=>fun sl ce=>if s.Stays ce then (match g x sl ce with
  | some (sl1,ce1)=>match body sl1 ce1 with
   | some (.go .nx sl2 ce2)=>zhf s g body r sl2 ce2
   | some (.go .ct sl2 ce2)=>zhf s g body r sl2 ce2
   | some (.go .bk sl2 ce2)=>some (.go .nx sl2 ce2)
   | o=>o
  | none=>none) else none
def zce(i:Sl->M Src)(g:DG)(body:DS):DS:=fun sl ce=>lft (i sl ce) fun s ce'=>zhf s g body s.items sl ce'
def zcx(c:Sl->M Bool)(body:DS):Nat->DS
 | 0=>fun _ _=>none
 | n+1=>fun sl ce=>lft (c sl ce) fun t ce1=>match t with
  | false=>some (.go .nx sl ce1)
  | true=>match body sl ce1 with
   | some (.go .nx sl2 ce2)=>zcx c body n sl2 ce2
   | some (.go .ct sl2 ce2)=>zcx c body n sl2 ce2
   | some (.go .bk sl2 ce2)=>some (.go .nx sl2 ce2)
   | o=>o
section
variable {X:Cx} {G:Ga} {E:XK} {tg iter t:Expr} {body:List Stmt} {di:Sl->M Src} {g:DG} {b:DS} {c:Sl->M Bool} {pos:Pos}
theorem zfe{D:Ends}{F:Hp}{as:List Addr}{N:VS.St->Hp->Prop}{k:DS}{r:Option O}(P:PostS G E D F as (match r with
   | some (.go .nx sl2 ce2)=>k sl2 ce2
   | some (.go .ct sl2 ce2)=>k sl2 ce2
   | some (.go .bk sl2 ce2)=>some (.go .nx sl2 ce2)
   | o=>o))(hN:∀σ H F' as' sl ce,Le F as F' as'->SR G F' as' H σ sl ce->PostS G E D F' as' (k sl ce)->N σ H):PostS G E { D with nx:=N,ct:=N,bk:=D.nx } F as r:=by
 cases r with
 | none=>exact P
 | some r=>cases r with
  | ex x ce'=>exact P
  | go f sl' ce'=>cases f with
   | nx=>exact fun σ' H' F' as' l S'=>hN σ' H' F' as' sl' ce' l S' (P.le l)
   | ct=>exact fun σ' H' F' as' l S'=>hN σ' H' F' as' sl' ce' l S' (P.le l)
   | bk=>exact fun σ' H' F' as' l S'=>P σ' H' F' as' l S'
   | rt w=>exact fun σ' H' F' as' l S'=>P σ' H' F' as' l S'
theorem zaV(hp:PassesOwn (model X.prog X.w) X.A X.env X.xe)(hc:X.calm=true)(hi:PI X tg iter (zn7 G E X.K di))(hg:PGv G X tg g)(hb:PSs X body (toTS G E b))(hs:∀x,foldedSetIterable iter X.env x=pure x:=by intro _;rfl):PS X (.For tg iter body [] pos) (toTS G E (zce di g b)):=by
 obtain⟨tgt,hg,qg⟩:=hg
 refine PS.imp (znQ hp hc hi hg hb hs) fun D σ H zz_=>el6 zz_ fun F as sl ce S P=>(zdE (RP:=IRep X.K) S P).mono fun J H1 zz_=>el8 zz_ fun s F1 as1 ce1 l1 S1 rJ P1=>?_
 refine⟨fun i m σ H=>∃F as sl ce,SR G F as H σ sl ce/\IRep X.K F as s J/\m=s.items.length-i/\i<=s.items.length/\PostS G E D F as (zhf s g b (s.items.drop i) sl ce),⟨s.items.length,F1,as1,sl,ce1,S1,rJ,rfl,zero_le _,P1⟩,?_⟩
 rintro i m σ H ⟨F,as,sl,ce,S,rJ,rfl,hi,P⟩
 by_cases hlt:i<s.items.length
 ·rw[drop_eq_getElem_cons hlt] at P
  simp only[zhf] at P
  split at P
  ·rename_i hst
   obtain⟨t1,t2⟩:=rJ.turn S.st hst i
   obtain⟨go,yl⟩:=t1 hlt
   refine .inr ⟨go,_,fun σ' H' h=>h,fun x H' y=>?_⟩
   obtain⟨rfl,w,hw,rw'⟩:=yl x H' y
   rw[getElem?_eq_getElem hlt] at hw
   cases hw
   split at P
   ·rename_i sl1 ce1 eg
    refine qg F as H' σ sl ce _ x sl1 ce1 _ S rw' eg fun σ' H2 F' as' l S'=>⟨F',as',sl1,ce1,S',?_⟩
    refine zfe (P.le l) fun σ3 H3 F3 as3 sl3 ce3 l3 S3 P3=>?_
    exact⟨s.items.length-(i+1),by omega,F3,as3,sl3,ce3,S3,rJ.le (l.trans l3),rfl,hlt,P3⟩
   ·exact(show False from P).elim
  ·exact(show False from P).elim
 ·have e:i=s.items.length:=by omega
  subst e
  rw[drop_length] at P
  simp only[zhf] at P
  split at P
  ·rename_i hst
   exact .inl ⟨(rJ.turn S.st hst _).2 rfl,P.nxt S⟩
  ·exact(show False from P).elim
theorem ziV(n:Nat)(hp:PassesOwn (model X.prog X.w) X.A X.env X.xe)(hc:PT X t (zcc G E c))(hb:PSs X body (toTS G E b)):PS X (.While t body [] pos) (toTS G E (zcx c b n)):=by
 refine PS.imp (zmf hp hc hb) fun D σ H zz_=>el6 zz_ fun F as sl ce S P=>?_
 refine⟨fun m σ H=>∃F as sl ce,SR G F as H σ sl ce/\PostS G E D F as (zcx c b m sl ce),⟨n,F,as,sl,ce,S,P⟩,?_⟩
 rintro m σ H ⟨F,as,sl,ce,S,P⟩
 cases m with
 | zero=>exact(show False from P).elim
 | succ m =>
  refine(zdE (RP:=rB) S P).mono fun x H1 zz_=>el8 zz_ fun wx F1 as1 ce1 l1 S1 rx P1=>?_
  have rx:wx=x:=rx
  subst rx
  cases wx
  ·rw[if_neg Bool.false_ne_true];exact P1.nxt S1
  ·rw[if_pos rfl]
   refine⟨fun σ' H'=>∃F as sl ce,SR G F as H' σ' sl ce/\PostS G E D F as (zcx c b m sl ce),fun σ' H' h=>⟨m,lt_succ_self _,h⟩,F1,as1,sl,ce1,S1,?_⟩
   exact zfe P1 fun σ3 H3 F3 as3 sl3 ce3 l3 S3 P3=>⟨F3,as3,sl3,ce3,S3,P3⟩
end
def zdG(js:List Nat)(sl:Sl):Sl:=js.map fun j=>sl.getD j none
open Classical in
def lcL(s:Src)(cs:Sl)(c:Sl->M Bool)(e:Sl->M W):List W->List W->M (List W)
 | [],ys=>fun ce=>if s.Stays ce then some (.ok ys ce) else none
 | x::r,ys=>fun ce=>if s.Stays ce/\ys.length<sizeLine then bnd (c (some x::cs)) (fun t=>match t with
   | true=>bnd (e (some x::cs)) fun y=>lcL s cs c e r (ys++[y])
   | false=>lcL s cs c e r ys) ce else none
def dLC(mk:List W->M W)(js:List Nat)(i:Sl->M Src)(c:Sl->M Bool)(e:Sl->M W):Sl->M W:=fun sl=>bnd (i sl) fun s=>bnd (lcL s (zdG js sl) c e s.items []) mk
def zdH:Sl->M Bool:=fun _=>ret true
section
variable {X:Cx} {G:Ga} {E:XK} {elt iter:Expr} {x:Str} {px pos:Pos} {ifs:List Expr} {scope:Scope} {js:List Nat} {caps:List Str} {di:Sl->M Src} {c:Sl->M Bool} {e:Sl->M W} {mk:List W->M W}
theorem PIfs.imp{Y:Cx}{ifs:List Expr}{t t':TT}(h:PIfs Y ifs t)(q:∀σ H Q,t' σ H Q->t σ H Q):PIfs Y ifs t':=fun pins s σ H Q I z=>h pins s σ H Q I (q _ _ _ z)
theorem zbh{Y:Cx}:PIfs Y [] (zcc G E zdH):=PIfs.imp zmu fun σ H Q zz_=>el6 zz_ fun F as sl ce S P=>Post.done (RP:=rB) S (a:=true) P rfl
theorem zcf{Y:Cx}{t:Expr}(h:PT Y t (zcc G E c)):PIfs Y [t] (zcc G E c):=zmv h
theorem SR.cap{F:Hp}{as:List Addr}{H:Hp}{σ:VS.St}{sl:Sl}{ce:Ce}(S:SR G F as H σ sl ce)(js:List Nat){w:W}{v:V}(r:Rep F as w v):SR G F as H (some v::zjy js σ) (some w::zdG js sl) ce:=by
 refine⟨S.st,by simp[zjy,zdG],fun i u h=>?_⟩
 cases i with
 | zero=>simp at h;subst h;exact⟨v,rfl,r⟩
 | succ i =>
  simp only[zdG,getElem?_cons_succ,getElem?_map] at h
  cases e:js[i]? with
  | none=>rw[e] at h;cases h
  | some j =>
   rw[e] at h
   have hj:sl[j]?=some (some u):=by
    have h':sl.getD j none=some u:=by simpa using h
    rw[getD_eq_getElem?_getD] at h'
    cases q:sl[j]? with
    | none=>rw[q] at h';cases h'
    | some z=>rw[q] at h';simp at h';rw[h']
   obtain⟨v',h1,h2⟩:=S.slot j u hj
   refine⟨v',?_,h2⟩
   simp only[zjy,getElem?_cons_succ,getElem?_map,e,map_some,getD_eq_getElem?_getD,h1,getD_some]
theorem zrn{α β γ δ:Type}{RP:Hp->List Addr->α->β->Prop}{RQ:Hp->List Addr->γ->δ->Prop}{F:Hp}{as:List Addr}{H:Hp}{σ σ':VS.St}{sl sl':Sl}{ce:Ce}{d:Sl->M α}{f:α->M γ}{Q:δ->Hp->Prop}(S:SR G F as H σ sl ce)(S':SR G F as H σ' sl' ce)(P:Post G E RQ F as σ sl Q (bnd (d sl') f ce)) :
  toT G E RP d σ' H fun b H2=>∃a F' as' ce',Le F as F' as'/\SR G F' as' H2 σ sl ce'/\SR G F' as' H2 σ' sl' ce'/\RP F' as' a b/\Post G E RQ F' as' σ sl Q (f a ce'):=by
 refine⟨F,as,sl',ce,S',?_⟩
 revert P
 unfold bnd
 cases d sl' ce with
 | none=>exact fun P=>P
 | some r=>cases r with
  | ok a ce'=>exact fun P b H' F' as' l S2 r=>⟨a,F',as',ce',l,S.slots S2.st l,S2,r,P.le l⟩
  | ex x ce'=>exact fun P=>P
theorem zhu{α β γ:Type}(m:M α)(f:α->M β)(g:β->M γ):bnd (bnd m f) g=bnd m fun a=>bnd (f a) g:=by
 funext ce
 unfold bnd
 cases m ce with
 | none=>rfl
 | some r=>cases r<;>rfl
theorem zkY{α β:Type}{m m':M α}{g:α->M β}{ce:Ce}(h:m ce=m' ce):bnd m g ce=bnd m' g ce:=by simp only[bnd,h]
theorem zgz{s:Src}{cs:Sl}{c:Sl->M Bool}{e:Sl->M W}{x:W}{r ys:List W}{ce:Ce}(h:s.Stays ce/\ys.length<sizeLine):lcL s cs c e (x::r) ys ce=bnd (c (some x::cs)) (fun t=>match t with
   | true=>bnd (e (some x::cs)) fun y=>lcL s cs c e r (ys++[y])
   | false=>lcL s cs c e r ys) ce:=by simp only[lcL,if_pos h]
theorem zro{s:Src}{cs:Sl}{c:Sl->M Bool}{e:Sl->M W}{x:W}{r ys:List W}{ce:Ce}(h:¬(s.Stays ce/\ys.length<sizeLine)):lcL s cs c e (x::r) ys ce=none:=by simp only[lcL,if_neg h]
theorem zn8(hm:MkL G E mk)(σ:L2.St)(H:Hp)(Q:VK)(h:zax G E (dLC mk js di c e) σ H Q):tLC js (zn7 G E X.K di) (zcc G E c) (zax G E e) σ H Q:=by
 obtain⟨F,as,sl,ce,S,P⟩:=h
 refine(step (RP:=IRep X.K) S P).mono fun J H1 zz_=>el8 zz_ fun s F1 as1 ce1 l1 S1 rJ P1=>?_
 refine⟨fun i m ys H=>∃F as ce ws,SR G F as H σ sl ce/\IRep X.K F as s J/\m=s.items.length-i/\i<=s.items.length/\Reps F as ws ys/\Post G E Rep F as σ sl Q (bnd (lcL s (zdG js sl) c e (s.items.drop i) ws) mk ce),⟨s.items.length,F1,as1,ce1,[],S1,rJ,rfl,zero_le _,.nil,P1⟩,?_⟩
 rintro i m ys H ⟨F,as,ce,ws,S,rJ,rfl,hi,rs,P⟩
 by_cases hlt:i<s.items.length
 ·rw[drop_eq_getElem_cons hlt] at P
  by_cases hst:s.Stays ce/\ws.length<sizeLine
  ·obtain⟨go,yl⟩:=(rJ.turn S.st hst.1 i).1 hlt
   refine .inr ⟨go,by rw[rs.length];exact hst.2,_,fun ys' H' h=>h,fun x H' y=>?_⟩
   obtain⟨rfl,w,hw,rw'⟩:=yl x H' y
   rw[getElem?_eq_getElem hlt] at hw
   cases hw
   have P':=P
   rw[zkY (zgz hst)] at P'
   rw[zhu] at P'
   refine(zrn (RP:=rB) S (S.cap js rw') P').mono fun b H2 ⟨t,F2,as2,ce2,l2,S2,S2',rt,P2⟩=>?_
   have rt:t=b:=rt
   subst rt
   cases t
   ·rw[if_neg Bool.false_ne_true]
    exact⟨s.items.length-(i+1),by omega,F2,as2,ce2,ws,S2,rJ.le l2,rfl,hlt,rs.le l2,P2⟩
   ·rw[if_pos rfl]
    dsimp only at P2
    rw[zhu] at P2
    refine(zrn (RP:=Rep) S2 S2' P2).mono fun y H3 ⟨wy,F3,as3,ce3,l3,S3,S3',ry,P3⟩=>?_
    exact⟨s.items.length-(i+1),by omega,F3,as3,ce3,ws++[wy],S3,rJ.le (l2.trans l3),rfl,hlt,(rs.le (l2.trans l3)).append (.cons ry .nil),P3⟩
  ·have P':=P
   simp only[bnd,zro hst] at P'
   exact(show False from P').elim
 ·have e':i=s.items.length:=by omega
  subst e'
  rw[drop_length] at P
  by_cases hst:s.Stays ce
  ·have eq:bnd (lcL s (zdG js sl) c e [] ws) mk ce=mk ws ce:=by simp only[bnd,lcL,if_pos hst]
   rw[eq] at P
   exact .inl ⟨(rJ.turn S.st hst _).2 rfl,(hm S rs P).2⟩
  ·have eq:bnd (lcL s (zdG js sl) c e [] ws) mk ce=none:=by simp only[bnd,lcL,if_neg hst]
   rw[eq] at P
   exact(show False from P).elim
theorem zeI(hm:MkL G E mk)(B:BlkS X.N X.env.scope js (x::caps) scope)(hc:X.calm=true)(hx:scope.names.lookup x=some .local)(hi:PI X (.Name x px) iter (zn7 G E X.K di))(ht:∀C fp s₀ H₀,PIfs (blk X (x::caps) scope C fp s₀ H₀) ifs (zcc G E c))(he:∀C fp s₀ H₀,PE (blk X (x::caps) scope C fp s₀ H₀) elt (zax G E e))(hs:∀v,foldedSetIterable iter X.env v=pure v:=by intro _;rfl):PE X (.ListComp elt [⟨.Name x px,iter,ifs,0⟩] scope pos) (zax G E (dLC mk js di c e)):=PE.imp (zta B hc hx hi ht he hs) (zn8 hm)
theorem zjJ{y:Str}{py spos:Pos}{k:Nat}(hm:MkL G E mk)(B:BlkS X.N X.env.scope js (x::caps) scope)(hc:X.calm=true)(hx:scope.names.lookup x=some .local)(hi:PI X (.Name x px) iter (zn7 G E X.K di))(ht:∀C fp s₀ H₀,PIfs (blk X (x::caps) scope C fp s₀ H₀) ifs (zcc G E c))(he:∀C fp s₀ H₀,PE (blk X (x::caps) scope C fp s₀ H₀) elt (zax G E e))(hN:X.N.Nodup)(hk:X.N[k]?=some y)(hy:X.env.scope.names.lookup y=some .local)(hsw:swapsWith (.ListComp elt [⟨.Name x px,iter,ifs,0⟩] scope pos) (some (.Name y py)) spos.line X.env=pure true)(hs:∀v,foldedSetIterable iter X.env v=pure v:=by intro _;rfl):PS X (.Assign [.Name y py] (.ListComp elt [⟨.Name x px,iter,ifs,0⟩] scope pos) spos) (toTS G E (zaU k (dLC mk js di c e))):=by
 refine PS.imp (ztb B hc hx hi ht he hN hk hy hsw hs) fun D σ H zz_=>el6 zz_ fun F as sl ce S P=>?_
 refine zn8 (X:=X) hm σ H _ ((zdE S P).mono fun x H1 zz_=>el8 zz_ fun wx F1 as1 ce1 l1 S1 rx P1=>?_)
 exact P1 _ H1 F1 as1 .refl (S1.put rx k)
end
end
section
mutual
def Bel(n:Nat):W->Prop
 | .cel k=>k<n
 | .lst xs=>zdl n xs
 | .tup xs=>zdl n xs
 | .non=>True
 | .bl _=>True
 | .int _=>True
 | .str _=>True
 | .ty _=>True
def zdl(n:Nat):List W->Prop
 | []=>True
 | x::xs=>Bel n x/\zdl n xs
end
mutual
theorem Rep.bel{F:Hp}{as:List Addr}:∀{w:W} {v:V},Rep F as w v->Bel as.length w
 | .non,_,_=>by simp only[Bel]
 | .bl _,_,_=>by simp only[Bel]
 | .int _,_,_=>by simp only[Bel]
 | .str _,_,_=>by simp only[Bel]
 | .ty _,_,_=>by simp only[Bel]
 | .lst xs,_,r=>by
  simp only[Rep] at r
  obtain⟨a,vs,_,_,s⟩:=r
  simp only[Bel]
  exact Reps.bel s
 | .tup xs,_,r=>by
  simp only[Rep] at r
  obtain⟨a,vs,_,_,s⟩:=r
  simp only[Bel]
  exact Reps.bel s
 | .cel k,_,r=>by
  simp only[Rep] at r
  obtain⟨a,_,h⟩:=r
  simp only[Bel]
  exact zay h
theorem Reps.bel{F:Hp}{as:List Addr}:∀{ws:List W} {vs:List V},Reps F as ws vs->zdl as.length ws
 | [],_,_=>by simp only[zdl]
 | _::_,_,r=>by
  simp only[Reps] at r
  obtain⟨v,vs',_,h,t⟩:=r
  simp only[zdl]
  exact⟨Rep.bel h,Reps.bel t⟩
end
mutual
theorem Rep.cut{F:Hp}{as as':List Addr}{n:Nat}(hl:∀k,k<n->as'[k]?=as[k]?):∀{w:W} {v:V},Bel n w->Rep F as w v->Rep F as' w v
 | .non,_,_,r=>by simpa only[Rep] using r
 | .bl _,_,_,r=>by simpa only[Rep] using r
 | .int _,_,_,r=>by simpa only[Rep] using r
 | .str _,_,_,r=>by simpa only[Rep] using r
 | .ty _,_,_,r=>by simpa only[Rep] using r
 | .lst xs,_,b,r=>by
  simp only[Rep] at r ⊢
  simp only[Bel] at b
  obtain⟨a,vs,h1,h2,s⟩:=r
  exact⟨a,vs,h1,h2,Reps.cutS hl b s⟩
 | .tup xs,_,b,r=>by
  simp only[Rep] at r ⊢
  simp only[Bel] at b
  obtain⟨a,vs,h1,h2,s⟩:=r
  exact⟨a,vs,h1,h2,Reps.cutS hl b s⟩
 | .cel k,_,b,r=>by
  simp only[Rep] at r ⊢
  simp only[Bel] at b
  obtain⟨a,h1,h⟩:=r
  exact⟨a,h1,by rw[hl k b];exact h⟩
theorem Reps.cutS{F:Hp}{as as':List Addr}{n:Nat}(hl:∀k,k<n->as'[k]?=as[k]?):∀{ws:List W} {vs:List V},zdl n ws->Reps F as ws vs->Reps F as' ws vs
 | [],_,_,r=>by simpa only[Reps] using r
 | _::_,_,b,r=>by
  simp only[Reps] at r ⊢
  simp only[zdl] at b
  obtain⟨v,vs',h1,h,t⟩:=r
  exact⟨v,vs',h1,Rep.cut hl b.1 h,Reps.cutS hl b.2 t⟩
end
def zf7(n:Nat):C->Prop
 | .lst xs=>zdl n xs
 | .dct kvs=>∀p∈kvs,Bel n p.2
 | .ins _ fs=>∀p∈fs,Bel n p.2
 | .exn _=>True
 | .dead=>True
 | .fzd kvs=>∀p∈kvs,Bel n p.2
 | .dtp kvs=>∀p∈kvs,Bel n p.2
theorem RepKV.bel{κ:Type}{F:Hp}{as:List Addr}{kvs:List (κ×W)}{ps:List (κ×V)}(r:RepKV F as kvs ps):∀p∈kvs,Bel as.length p.2:=by
 induction r with
 | nil=>simp
 | cons h t ih =>
  intro p hp
  rcases mem_cons.mp hp with rfl|hp
  ·exact h.2.bel
  ·exact ih p hp
theorem RepKV.cut{κ:Type}{F:Hp}{as as':List Addr}{n:Nat}(hl:∀k,k<n->as'[k]?=as[k]?){kvs:List (κ×W)}{ps:List (κ×V)}(b:∀p∈kvs,Bel n p.2)(r:RepKV F as kvs ps):RepKV F as' kvs ps:=by
 induction r with
 | nil=>exact .nil
 | cons h t ih=>exact .cons ⟨h.1,h.2.cut hl (b _ mem_cons_self)⟩ (ih fun p hp=>b p (mem_cons_of_mem _ hp))
section
variable {G:Ga} {F:Hp} {as as':List Addr} {H:Hp} {a:Addr} {c:C} {n:Nat}
theorem CRep.bel(h:CRep G F as H a c):zf7 as.length c:=by
 cases c with
 | lst xs=>obtain⟨vs,_,r⟩:=h;exact r.bel
 | dct xs=>obtain⟨vs,_,r⟩:=h;exact r.bel
 | ins c xs=>obtain⟨dx,vs,_,r⟩:=h;exact r.bel
 | exn c=>trivial
 | dead=>trivial
 | fzd xs=>obtain⟨o,ps,_,_,r⟩:=h;exact r.bel
 | dtp xs=>obtain⟨vs,_,r⟩:=h;exact r.bel
theorem CRep.cut(hl:∀k,k<n->as'[k]?=as[k]?)(b:zf7 n c)(h:CRep G F as H a c):CRep G F as' H a c:=by
 cases c with
 | lst xs=>obtain⟨vs,e,r⟩:=h;exact⟨vs,e,r.cutS hl b⟩
 | dct xs=>obtain⟨vs,e,r⟩:=h;exact⟨vs,e,RepKV.cut hl b r⟩
 | ins c xs=>obtain⟨dx,vs,e,r⟩:=h;exact⟨dx,vs,e,RepKV.cut hl b r⟩
 | exn c=>exact h
 | dead=>exact h
 | fzd xs=>obtain⟨o,ps,e1,e2,r⟩:=h;exact⟨o,ps,e1,e2,RepKV.cut hl b r⟩
 | dtp xs=>obtain⟨vs,e,r⟩:=h;exact⟨vs,e,RepKV.cut hl b r⟩
end
def zdI(ce ce':Ce):Prop:=ce.length<=ce'.length/\∀(k:Nat) (c:C),k<ce.length->ce'[k]?=some c->ce[k]?=some c\/zf7 ce.length c
section
variable {G:Ga} {F F':Hp} {as as':List Addr} {H H':Hp} {ce ce':Ce}
theorem zbt{α:Type}{l:List α}{n k:Nat}(h:k<n):(l.take n)[k]?=l[k]?:=getElem?_take_of_lt h
theorem Store.cut(S:Store G F as H ce)(S':Store G F' as' H' ce')(l:Le F as F' as')(h:zdI ce ce'):Store G F' (as'.take ce.length) H' (ce'.take ce.length)/\Le F as F' (as'.take ce.length):=by
 have hl:∀k,k<ce.length->(as'.take ce.length)[k]?=as'[k]?:=fun k hk=>zbt hk
 refine⟨⟨S'.sub,S'.nd.sublist (take_sublist _ _),by rw[length_take,length_take,S'.len],fun k a c h1 h2=>?_⟩,l.f,fun k a e=>?_⟩
 ·have hk:k<ce.length:=by have:=zay h2;rw[length_take] at this;omega
  rw[zbt hk] at h1 h2
  obtain⟨q1,q2⟩:=S'.cell k a c h1 h2
  refine⟨q1,q2.cut hl ?_⟩
  rcases h.2 k c hk h2 with h3|h3
  ·obtain⟨a0,e0,_,q0⟩:=S.at h3
   rw[<- S.len];exact q0.bel
  ·exact h3
 ·have hk:k<ce.length:=by rw[<- S.len];exact zay e
  rw[zbt hk];exact l.c k a e
end
open Classical in
def finC(ce ce':Ce)(w:W):Option (R W):=if zdI ce ce'/\Bel ce.length w then some (.ok w (ce'.take ce.length)) else none
open Classical in
def finO(ce ce':Ce)(w:W):Option (R W):=match w with
 | .cel k=>match ce'[k]? with
  | some c=>if zdI ce ce'/\ce.length<=k/\zf7 ce.length c then some (.ok (.cel ce.length) (ce'.take ce.length++[c])) else none
  | none=>none
 | _=>none
def zrp(_ce ce':Ce)(w:W):Option (R W):=some (.ok w ce')
def zmK(G:Ga)(fin:Ce->Ce->W->Option (R W)):Prop:=∀(F F':Hp) (as as':List Addr) (H H':Hp) (ce ce':Ce) (w:W) (v:V) (r:R W),Store G F as H ce->Store G F' as' H' ce'->Le F as F' as'->Rep F' as' w v->fin ce ce' w=some r ->
 ∃w2 ce2 as2,r=.ok w2 ce2/\Le F as F' as2/\Store G F' as2 H' ce2/\Rep F' as2 w2 v
theorem zrq{G:Ga}:zmK G zrp:=fun F F' as as' H H' ce ce' w v r S S' l rw' e=>by
 cases e
 exact⟨w,ce',as',rfl,l,S',rw'⟩
theorem zbe{G:Ga}:zmK G finC:=fun F F' as as' H H' ce ce' w v r S S' l rw' e=>by
 unfold finC at e
 split at e
 ·rename_i h
  cases e
  obtain⟨S2,l2⟩:=S.cut S' l h.1
  exact⟨w,_,_,rfl,l2,S2,rw'.cut (fun k hk=>zbt hk) h.2⟩
 ·cases e
theorem zgA{G:Ga}:zmK G finO:=fun F F' as as' H H' ce ce' w v r S S' l rw' e=>by
 cases w<;>simp only[finO,reduceCtorEq] at e
 rename_i k
 split at e
 ·rename_i c hc
  split at e
  ·rename_i h
   obtain⟨h1,h2,h3⟩:=h
   cases e
   obtain⟨S2,l2⟩:=S.cut S' l h1
   simp only[Rep] at rw'
   obtain⟨a,rfl,ha⟩:=rw'
   obtain⟨q1,q2⟩:=S'.cell k a c ha hc
   have hlen:(as'.take ce.length).length=ce.length:=by rw[length_take,S'.len];exact min_eq_left h1.1
   have hlen2:(ce'.take ce.length).length=ce.length:=by rw[length_take];exact min_eq_left h1.1
   have l3:Le F' (as'.take ce.length) F' (as'.take ce.length++[a]):=⟨fun _ _ h=>h,fun j b hb=>by rw[getElem?_append_left (zay hb)];exact hb⟩
   refine⟨_,_,as'.take ce.length++[a],rfl,l2.trans l3,⟨S'.sub,?_,by rw[length_append,length_append,hlen,hlen2];rfl,fun j b c' e1 e2=>?_⟩,?_⟩
   ·rw[nodup_append]
    refine⟨S2.nd,by simp,fun b hb d hd=>?_⟩
    rw[mem_singleton] at hd
    subst hd
    rintro rfl
    obtain⟨j,hj⟩:=getElem?_of_mem hb
    have hj1:j<ce.length:=by have:=zay hj;omega
    rw[zbt hj1] at hj
    have ha':=zay ha
    have hj':=zay hj
    rw[getElem?_eq_getElem ha'] at ha
    rw[getElem?_eq_getElem hj'] at hj
    have:=zhr S'.nd ha' hj' ((Option.some.inj ha).trans (Option.some.inj hj).symm)
    omega
   ·by_cases hj:j<ce.length
    ·rw[getElem?_append_left (by omega)] at e1 e2
     obtain⟨p1,p2⟩:=S2.cell j b c' e1 e2
     exact⟨p1,p2.le l3 rfl⟩
    ·rw[getElem?_append_right (by omega),hlen] at e1
     rw[getElem?_append_right (by omega),hlen2] at e2
     have hz:j-ce.length=0:=by
      cases q:j-ce.length with
      | zero=>rfl
      | succ m=>rw[q] at e1;simp at e1
     rw[hz] at e1 e2
     simp at e1 e2
     subst e1;subst e2
     exact⟨q1,(q2.cut (n:=ce.length) (fun i hi=>zbt hi) h3).le l3 rfl⟩
   ·simp only[Rep]
    exact⟨a,rfl,by rw[getElem?_append_right (by omega),hlen];simp⟩
  ·cases e
 ·cases e
open Classical in
def dFn(fin:Ce->Ce->W->Option (R W))(n:Nat)(body:DS):List W->M W:=fun ws ce=>match body (ws.map some++List.replicate (n-ws.length) none) ce with
 | some (.go (.rt w) _ ce')=>fin ce ce' w
 | some (.go .nx _ ce')=>fin ce ce' .non
 | some (.ex x ce')=>if zdI ce ce' then some (.ex x (ce'.take ce.length)) else none
 | _=>none
def PostF(G:Ga)(E:XK)(F:Hp)(as:List Addr)(Q:VK):Option (R W)->Prop
 | some (.ok w ce')=>∀v H' F' as',Le F as F' as'->Store G F' as' H' ce'->Rep F' as' w v->Q v H'
 | some (.ex x ce')=>∀H' F' as' cv od,Le F as F' as'->Store G F' as' H' ce'->G.xr x cv od H'->E cv od H'
 | none=>False
def spV(G:Ga)(fe:XK->XK)(n:Nat)(d:List W->M W):Sp:=fun vs H Q E=>vs.length=n/\∃F as ws ce,Store G F as H ce/\Reps F as ws vs/\PostF G (fe E) F as Q (d ws ce)
theorem zmL{G:Ga}{F:Hp}{as:List Addr}{H:Hp}{ce:Ce}{ws:List W}{vs:List V}(S:Store G F as H ce)(rs:Reps F as ws vs)(N:List Str):SR G F as H (L2.start N vs) (ws.map some++List.replicate (N.length-ws.length) none) ce:=by
 have hl:=rs.length
 refine⟨S,by unfold L2.start;simp[hl],fun i w h=>?_⟩
 have hi:i<ws.length:=by
  by_cases hi:i<ws.length
  ·exact hi
  ·rw[getElem?_append_right (by simpa using hi),getElem?_replicate] at h
   split at h<;>cases h
 rw[getElem?_append_left (by simpa using hi),getElem?_map] at h
 cases e:ws[i]? with
 | none=>rw[e] at h;cases h
 | some w' =>
  rw[e] at h
  simp only[map_some,Option.some.injEq] at h
  subst h
  obtain⟨v,h1,h2⟩:=rs.get e
  refine⟨v,?_,h2⟩
  unfold L2.start
  rw[getElem?_append_left (by simp;omega),getElem?_map,h1]
  rfl
theorem zav{G:Ga}{E:XK}{F:Hp}{as:List Addr}{H:Hp}{ce:Ce}{ws:List W}{vs:List V}{Q:VK}{fin:Ce->Ce->W->Option (R W)}{body:DS}(hf:zmK G fin)(N:List Str)(S:Store G F as H ce)(rs:Reps F as ws vs)(P:PostF G E F as Q (dFn fin N.length body ws ce)) :
  toTS G E body { nx:=fun _ H'=>Q .non H',rt:=Q } (L2.start N vs) H:=by
 refine⟨F,as,_,ce,zmL S rs N,?_⟩
 revert P
 unfold dFn
 have key:∀{w:W} {ce':Ce},PostF G E F as Q (fin ce ce' w)->∀v H' F' as',Le F as F' as'->Store G F' as' H' ce'->Rep F' as' w v->Q v H':=by
  intro w ce' P v H' F' as' l S' rw'
  cases e:fin ce ce' w with
  | none=>rw[e] at P;exact P.elim
  | some r =>
   obtain⟨w2,ce2,as2,rfl,l2,S2,r2⟩:=hf F F' as as' H H' ce ce' w v r S S' l rw' e
   rw[e] at P
   exact P v H' F' as2 l2 S2 r2
 cases body (ws.map some++List.replicate (N.length-ws.length) none) ce with
 | none=>exact fun P=>P
 | some o=>cases o with
  | ex x ce' =>
   intro P H' F' as' cv od l S' hx
   dsimp only at P
   split at P
   ·rename_i h
    obtain⟨S2,l2⟩:=S.cut S' l h
    exact P H' F' _ cv od l2 S2 hx
   ·exact P.elim
  | go f sl' ce'=>cases f with
   | nx=>exact fun P σ' H' F' as' l S'=>key P .non H' F' as' l S'.st (by simp only[Rep])
   | bk=>exact fun P=>P.elim
   | ct=>exact fun P=>P.elim
   | rt w=>exact fun P σ' H' F' as' l S' v r=>key P v H' F' as' l S'.st r
def zaH(n:Nat)(f:List W->M W)(args:Sl->M (List W)):Sl->M W:=fun sl=>bnd (args sl) fun ws=>if ws.length=n then f ws else zgp
section
variable {X:Cx} {G:Ga} {E E1:XK} {CX:CXT} {k n:Nat} {f:Addr} {fd:FuncData} {ps:List Str} {df:List W->M W} {x:Str} {p pos:Pos} {e:Expr} {es:List Expr} {dr:Sl->M (List W)} {fe:XK->XK}
theorem PostF.of{F:Hp}{as:List Addr}{H:Hp}{σ:VS.St}{sl:Sl}{ce:Ce}{Q:VK}{r:Option (R W)}(S:SR G F as H σ sl ce)(P:Post G E Rep F as σ sl Q r):PostF G E F as Q r:=by
 cases r with
 | none=>exact P
 | some r=>cases r with
  | ok w ce'=>exact fun v H' F' as' l S' rv=>P v H' F' as' l (S.slots S' l) rv
  | ex y ce'=>exact P
theorem zar(Fk:FnOk X.prog X.w X.K X.mg X.base CX k f fd ps (spV G fe n df))(hr:Room k X.A)(hg:Gl X x)(hm:X.mg x=some (.ref f))(hk:PySem.W.keepIn X.K (.ref f)=true)(hb:Binds X.K fd ps [])(hx:zbH CX X E1)(ha:PA X (e::es) (zhd G E dr))(hfe:fe E1=E:=by rfl)(hdb:(x==("__debug__" : Str))=false:=by decide)(he:starEach (e::es) X.env=(false,eval e X.env)::starEach es X.env:=by rfl)(hpl:(backTo pos (starEach es X.env)).any (·.1)=false:=by rfl) :
  PE X (.Call (.Name x p) (e::es) [] pos) (zax G E (zaH n df dr)):=by
 refine PE.imp (zoP Fk hr hg hm hk hb .nil hx ha hdb he hpl) fun σ H Q zz_=>el6 zz_ fun F as sl ce S P=>(step (RP:=Reps) S P).mono fun vs H1 zz_=>el8 zz_ fun ws F1 as1 ce1 l1 S1 rs P1=>?_
 split at P1
 ·rename_i hn
  rw[append_nil]
  exact⟨by rw[rs.length];exact hn,F1,as1,ws,ce1,S1.st,rs,by rw[hfe];exact PostF.of S1 P1⟩
 ·exact(show False from P1).elim
end
open Classical in
def zdg(d:List W->M W):List W->M W:=fun ws ce=>match d ws ce with
 | some (.ok (.cel k) ce')=>match ce'[k]? with
  | some (.lst xs)=>if zdI ce ce'/\k=ce.length/\zdl ce.length xs then some (.ok (.lst xs) (ce'.take ce.length)) else none
  | _=>none
 | some (.ok w ce')=>some (.ok w ce')
 | r=>r
theorem zb7{P:Program}{w:World}{K:PySem.W.Frag}{mg:Str->Option Value}{base:Heap}{CX:CXT}{k n:Nat}{f:Addr}{fd:FuncData}{ps:List Str}{G:Ga}{fe:XK->XK}{d:List W->M W}(h:FnOk P w K mg base CX k f fd ps (spV G fe n d)):FnOk P w K mg base CX k f fd ps (spV G fe n (zdg d)):=by
 refine h.imp fun vs H Q E ⟨hl,F,as,ws,ce,S,rs,Pf⟩=>⟨hl,F,as,ws,ce,S,rs,?_⟩
 revert Pf
 unfold zdg
 cases d ws ce with
 | none=>exact fun P=>P
 | some r=>cases r with
  | ex x ce'=>exact fun P=>P
  | ok w ce' =>
   cases w<;>first|exact fun P=>P|skip
   rename_i j
   dsimp only
   intro Pf v H' F' as' l S' rv
   simp only[Rep] at rv
   obtain⟨a,rfl,ha⟩:=rv
   split at Pf
   ·rename_i xs hc
    split at Pf
    ·rename_i h
     obtain⟨h1,h2,h3⟩:=h
     obtain⟨q1,vs',hH,rs'⟩:=S'.cell j a _ ha hc
     have q1:=q1 rfl
     obtain⟨S2,l2⟩:=S.cut S' l h1
     have rs2:Reps F' (as'.take ce.length) xs vs':=rs'.cutS (fun i hi=>zbt hi) h3
     have l3:Le F' (as'.take ce.length) (upd F' a (.lst vs')) (as'.take ce.length):=⟨upd_sub q1,fun _ _ h=>h⟩
     refine Pf (.ref a) H' (upd F' a (.lst vs')) (as'.take ce.length) (l2.trans l3) ⟨fun b o e=>?_,S2.nd,S2.len,fun i b c e1 e2=>?_⟩ (by simp only[Rep];exact⟨a,vs',rfl,.inl zaw,rs2.le l3⟩)
     ·by_cases hb:b=a
      ·subst hb;rw[zaw] at e;cases e;exact hH
      ·rw[zaD hb] at e;exact S2.sub _ _ e
     ·obtain⟨p1,p2⟩:=S2.cell i b c e1 e2
      have hb:b≠a:=by
       rintro rfl
       have hi:i<ce.length:=by have:=zay e2;rw[length_take] at this;omega
       rw[zbt hi] at e1
       have a1:=zay ha
       have a2:=zay e1
       rw[getElem?_eq_getElem a1] at ha
       rw[getElem?_eq_getElem a2] at e1
       have:=zhr S'.nd a1 a2 ((Option.some.inj ha).trans (Option.some.inj e1).symm)
       omega
      exact⟨fun hn=>by rw[zaD hb];exact p1 hn,p2.le l3 rfl⟩
    ·exact Pf.elim
   ·exact Pf.elim
end
section
def zei:List W->Option (List Int)
 | []=>some []
 | .int i::r=>(zei r).map (i::·)
 | _=>none
def zff:List W->Option (List Bool)
 | []=>some []
 | .bl i::r=>(zff r).map (i::·)
 | _=>none
def zhv:List (Key×W)->Option (List Int)
 | []=>some []
 | (.inl i,_)::r=>(zhv r).map (i::·)
 | _=>none
theorem zcJ:∀ns:List Int,zei (ns.map W.int)=some ns
 | []=>rfl
 | n::r=>by simp only[map_cons,zei,zcJ r,map_some]
theorem zf8:∀ns:List Bool,zff (ns.map W.bl)=some ns
 | []=>rfl
 | n::r=>by simp only[map_cons,zff,zf8 r,map_some]
theorem zc8:∀{ws:List W} {ns:List Int},zei ws=some ns->ws=ns.map W.int
 | [],ns,h=>by simp only[zei,Option.some.injEq] at h;subst h;rfl
 | w::r,ns,h=>by
  cases w<;>simp only[zei,reduceCtorEq,map_eq_some_iff] at h
  obtain⟨ms,h1,rfl⟩:=h
  rw[zc8 h1,map_cons]
theorem zhw:∀{ws:List W} {ns:List Bool},zff ws=some ns->ws=ns.map W.bl
 | [],ns,h=>by simp only[zff,Option.some.injEq] at h;subst h;rfl
 | w::r,ns,h=>by
  cases w<;>simp only[zff,reduceCtorEq,map_eq_some_iff] at h
  obtain⟨ms,h1,rfl⟩:=h
  rw[zhw h1,map_cons]
theorem zgB:∀{kvs:List (Key×W)} {ns:List Int},zhv kvs=some ns->kvs.map (·.1)=ns.map Sum.inl
 | [],ns,h=>by simp only[zhv,Option.some.injEq] at h;subst h;rfl
 | (k,w)::r,ns,h=>by
  cases k<;>simp only[zhv,reduceCtorEq,map_eq_some_iff] at h
  obtain⟨ms,h1,rfl⟩:=h
  rw[map_cons,zgB h1,map_cons]
def srt(ns:List Int):List Int:=ns.mergeSort fun a b=>decide (a<=b)
theorem zbu(ns:List Int):(srt ns).Perm ns:=mergeSort_perm ns _
theorem zc9(ns:List Int):(srt ns).Pairwise (·<=·):=by
 have:=pairwise_mergeSort (le:=fun a b:Int=>decide (a<=b)) (fun a b c=>by simp;omega) (fun a b=>by simp;omega) ns
 exact this.imp fun h=>by simpa using h
theorem zcg:∀{a b:List Int},a.Perm b->a.Pairwise (·<=·)->b.Pairwise (·<=·)->a=b
 | [],b,p,_,_=>by rw[nil_perm] at p;exact p.symm
 | x::a,[],p,_,_=>by have:=p.length_eq;simp at this
 | x::a,y::b,p,sa,sb=>by
  rw[pairwise_cons] at sa sb
  have h1:x=y:=by
   have hx:x∈y::b:=p.subset mem_cons_self
   have hy:y∈x::a:=p.symm.subset mem_cons_self
   rcases mem_cons.mp hx with e|hx
   ·exact e
   ·rcases mem_cons.mp hy with e|hy
    ·exact e.symm
    ·have:=sb.1 x hx
     have:=sa.1 y hy
     omega
  subst h1
  rw[zcg (List.Perm.cons_inv p) sa.2 sb.2]
theorem zn9{ms ns:List Int}(p:ms.Perm ns)(s:ms.Pairwise (·<=·)):ms=srt ns:=zcg (p.trans (zbu ns).symm) s (zc9 ns)
def dBi(f:List W->M W)(args:Sl->M (List W)):Sl->M W:=fun sl=>bnd (args sl) f
def Bi(G:Ga)(E:XK)(r:List V->Hp->VK->Prop)(f:List W->M W):Prop:=∀F as H σ sl ce ws vs Q,SR G F as H σ sl ce->Reps F as ws vs->Post G E Rep F as σ sl Q (f ws ce)->r vs H Q
open Classical in
def zbQ:List W->M W:=fun ws ce=>match ws with
 | [.str x]=>if x.length<=sizeLine then some (.ok (.int x.length) ce) else none
 | [w]=>match ze7 ce w with
  | some xs=>some (.ok (.int xs.length) ce)
  | none=>match zqm ce w with
   | some kvs=>some (.ok (.int kvs.length) ce)
   | none=>none
 | _=>none
open Classical in
def zaS(mk:List W->M W):List W->M W:=fun ws ce=>match ws with
 | [w]=>match zcw ce w with
  | some xs=>match zei xs with
   | some ns=>if ns.length<64 then mk ((srt ns).map W.int) ce else none
   | none=>none
  | none=>match zl3 ce w with
   | some kvs=>match zhv kvs with
    | some ns=>if ns.length<64 then mk ((srt ns).map W.int) ce else none
    | none=>none
   | none=>none
 | _=>none
def zeJ(mk:List W->M W):List W->M W:=fun ws ce=>match ws with
 | [w]=>match ze7 ce w with
  | some xs=>mk xs ce
  | none=>match zl3 ce w with
   | some kvs=>match zhv kvs with
    | some ns=>mk (ns.map W.int) ce
    | none=>none
   | none=>none
 | _=>none
def zbn:List W->M W:=fun ws ce=>match ws with
 | [.tup xs]=>some (.ok (.tup xs) ce)
 | [w]=>match zcw ce w with
  | some xs=>ztr xs ce
  | none=>none
 | _=>none
def zqn:List W->M W:=fun ws ce=>match ws with
 | [w]=>match zcw ce w with
  | some xs=>match zff xs with
   | some bs=>some (.ok (.bl (bs.all id)) ce)
   | none=>none
  | none=>none
 | _=>none
def zvk:List W->M W:=fun ws ce=>match ws with
 | [.int i,.int j]=>some (.ok (.int (if j<i then j else i)) ce)
 | _=>none
def zvl:List W->M W:=fun ws ce=>match ws with
 | [.int i,.int j]=>some (.ok (.int (if j>i then j else i)) ce)
 | _=>none
def tyW(ce:Ce):W->Option String
 | .non=>some "NoneType"
 | .bl _=>some "bool"
 | .int _=>some "int"
 | .str _=>some "str"
 | .lst _=>some "list"
 | .tup _=>some "tuple"
 | .cel k=>match ce[k]? with
  | some (.lst _)=>some "list"
  | some (.dct _)=>some "dict"
  | _=>none
 | .ty _=>none
def zpi(a b:String):Bool:=a==b||(a == "bool" && b == "int")
def kinds:List String:=["NoneType", "bool", "int", "str", "list", "tuple", "dict"]
theorem zkZ(K:PySem.W.Frag):∀a∈kinds,∀b∈["int", "bool", "list", "tuple", "str", "dict"],PySem.W.kitOne K (.type a) (.type b)=some (zpi a b):=by
 have h:∀a∈kinds,∀b∈["int", "bool", "list", "tuple", "str", "dict"],(fun _:Unit=>PySem.W.kitOne K (.type a) (.type b)) ()=some (zpi a b):=by
  intro a ha b hb
  simp only[kinds,mem_cons,not_mem_nil,or_false] at ha hb
  rcases ha with rfl|rfl|rfl|rfl|rfl|rfl|rfl<;>rcases hb with rfl|rfl|rfl|rfl|rfl|rfl<;>kernel_rfl
 exact h
def zmM:List W->M W:=fun ws ce=>match ws with
 | [w,.ty T]=>match tyW ce w with
  | some t=>if (kinds.contains t&&["int", "bool", "list", "tuple", "str", "dict"].contains T)=true then some (.ok (.bl (zpi t T)) ce) else none
  | none=>none
 | _=>none
section
variable {X:Cx} {G:Ga} {E:XK} {F:Hp} {as:List Addr} {H:Hp} {ce:Ce} {w:W} {v:V}
theorem CallR.or{f:Value}{r r':List V->Hp->VK->Prop}(h:CallR X f r)(h':CallR X f r'):CallR X f (fun xs H Q=>r xs H Q\/r' xs H Q):=by
 intro pins s σ H xs us Q I rx q
 rcases q with q|q
 ·exact h pins s σ H xs us Q I rx q
 ·exact h' pins s σ H xs us Q I rx q
theorem zbp{vs:List V}(h:Reps F as [w] vs):∃v,vs=[v]/\Rep F as w v:=by
 simp only[Reps] at h
 obtain⟨v,r,rfl,h1,rfl⟩:=h
 exact⟨v,rfl,h1⟩
theorem zpj{w':W}{vs:List V}(h:Reps F as [w,w'] vs):∃v v',vs=[v,v']/\Rep F as w v/\Rep F as w' v':=by
 simp only[Reps] at h
 obtain⟨v,r,rfl,h1,v',r',rfl,h2,rfl⟩:=h
 exact⟨v,v',rfl,h1,h2⟩
def zrr(K:PySem.W.Frag):List V->Hp->VK->Prop:=fun xs H Q=>(∃x n,xs=[x]/\zt3 K x H n/\Q (.int n) H)\/∃a kvs,xs=[V.ref a]/\H a=some (.dK kvs)/\Q (.int kvs.length) H
theorem zcE{K:PySem.W.Frag}(hK:X.K=K:=by rfl):CallR X (.builtin "len") (zrr K):=by subst hK;exact CallR.or zmk zkB
theorem zcF(K:PySem.W.Frag):Bi G E (zrr K) zbQ:=by
 intro F as H σ sl ce ws vs Q S rs P
 unfold zbQ at P
 split at P
 ·rename_i x
  split at P
  ·rename_i hl
   obtain⟨v,rfl,r⟩:=zbp rs
   simp only[Rep] at r
   subst r
   exact .inl ⟨_,_,rfl,⟨hl,rfl⟩,P.done S (by simp only[Rep])⟩
  ·exact P.elim
 ·rename_i w _
  obtain⟨v,rfl,r⟩:=zbp rs
  split at P
  ·rename_i xs hx
   obtain⟨a,us,rfl,h,rs'⟩:=zgu S.st r hx
   refine .inl ⟨_,us.length,rfl,?_,P.done S (by simp only[Rep];rw[rs'.length])⟩
   rcases h with h|h
   ·exact .inl ⟨us,.inl h,rfl⟩
   ·exact .inr ⟨us,.inl h,rfl⟩
  ·split at P
   ·rename_i kvs hd
    obtain⟨n,a,ps,rfl,rfl,ha,hH,rk⟩:=zkK S.st r hd
    exact .inr ⟨a,ps,rfl,hH,P.done S (by simp only[Rep];rw[rk.length])⟩
   ·exact P.elim
 ·exact P.elim
def zuc(K:PySem.W.Frag):List V->Hp->VK->Prop:=fun xs H Q=>zoY K xs H Q\/∃(a:Addr) (kvs:List (Key×V)) (ns:List Int),xs=[.ref a]/\Rd H a (.dK kvs)/\kvs.map (·.1)=ns.map Sum.inl/\ns.length<64 /\
  ∀ms:List Int,ms.Perm ns->ms.Pairwise (·<=·)->∀l,H l=none->Q (.ref l) (upd H l (.lst (ms.map V.int)))
theorem zjK{K:PySem.W.Frag}(hc:X.calm=true:=by rfl)(hK:X.K=K:=by rfl):CallR X (.builtin "sorted") (zuc K):=by subst hK;exact CallR.or zh5 (zhq hc)
theorem RepKV.keys{kvs:List (Key×W)}{ps:List (Key×V)}(r:RepKV F as kvs ps):ps.map (·.1)=kvs.map (·.1):=by
 induction r with
 | nil=>rfl
 | cons h t ih=>rw[map_cons,map_cons,ih,h.1]
theorem zjL{mk:List W->M W}(K:PySem.W.Frag)(hm:MkL G E mk):Bi G E (zuc K) (zaS mk):=by
 intro F as H σ sl ce ws vs Q S rs P
 unfold zaS at P
 split at P
 ·rename_i w
  obtain⟨v,rfl,r⟩:=zbp rs
  split at P
  ·rename_i xs hx
   split at P
   ·rename_i ns hi
    split at P
    ·rename_i h64
     obtain⟨a,us,rfl,h,rs'⟩:=zbI S.st r hx
     cases zc8 hi
     cases rs'.of_ints
     refine .inl ⟨a,ns,rfl,.inl h,h64,fun ms p s l hl=>?_⟩
     rw[zn9 p s]
     exact(hm S (Reps.ints (srt ns)) P).2 l hl
    ·exact P.elim
   ·exact P.elim
  ·split at P
   ·rename_i kvs hd
    split at P
    ·rename_i ns hk
     split at P
     ·rename_i h64
      obtain⟨n,a,ps,rfl,rfl,ha,hH,rk⟩:=ziT S.st r hd
      refine .inr ⟨a,ps,ns,rfl,hH,by rw[rk.keys];exact zgB hk,h64,fun ms p s l hl=>?_⟩
      rw[zn9 p s]
      exact(hm S (Reps.ints (srt ns)) P).2 l hl
     ·exact P.elim
    ·exact P.elim
   ·exact P.elim
 ·exact P.elim
def zrs(K:PySem.W.Frag):List V->Hp->VK->Prop:=fun xs H Q=>zoZ K xs H Q\/∃(a:Addr) (kvs:List (Key×V)) (ns:List Int),xs=[.ref a]/\Rd H a (.dK kvs)/\kvs.map (·.1)=ns.map Sum.inl/\∀l,H l=none->Q (.ref l) (upd H l (.lst (ns.map V.int)))
theorem zhx{K:PySem.W.Frag}(hc:X.calm=true:=by rfl)(hK:X.K=K:=by rfl):CallR X (.type "list") (zrs K):=by subst hK;exact CallR.or zhn (zjB hc)
theorem zhy{mk:List W->M W}(K:PySem.W.Frag)(hm:MkL G E mk):Bi G E (zrs K) (zeJ mk):=by
 intro F as H σ sl ce ws vs Q S rs P
 unfold zeJ at P
 split at P
 ·rename_i w
  obtain⟨v,rfl,r⟩:=zbp rs
  split at P
  ·rename_i xs hx
   obtain⟨a,us,rfl,h,rs'⟩:=zgu S.st r hx
   exact .inl ⟨a,us,rfl,h.imp .inl .inl,(hm S rs' P).2⟩
  ·split at P
   ·rename_i kvs hd
    split at P
    ·rename_i ns hk
     obtain⟨n,a,ps,rfl,rfl,ha,hH,rk⟩:=ziT S.st r hd
     exact .inr ⟨a,ps,ns,rfl,hH,by rw[rk.keys];exact zgB hk,(hm S (Reps.ints ns) P).2⟩
    ·exact P.elim
   ·exact P.elim
 ·exact P.elim
theorem zdt(K:PySem.W.Frag):Bi G E (znX K) zbn:=by
 intro F as H σ sl ce ws vs Q S rs P
 unfold zbn at P
 split at P
 ·rename_i xs
  obtain⟨v,rfl,r⟩:=zbp rs
  have r':=r
  simp only[Rep] at r
  obtain⟨a,us,rfl,h,rs'⟩:=r
  exact⟨a,us,rfl,.inr ⟨.inl (.inl (S.st.sub _ _ h)),P.done S r'⟩⟩
 ·rename_i w _
  obtain⟨v,rfl,r⟩:=zbp rs
  split at P
  ·rename_i xs hx
   obtain⟨a,us,rfl,h,rs'⟩:=zbI S.st r hx
   exact⟨a,us,rfl,.inl ⟨.inl h,(zkS S rs' P).2⟩⟩
  ·exact P.elim
 ·exact P.elim
theorem zrt(K:PySem.W.Frag):Bi G E (zt9 K) zqn:=by
 intro F as H σ sl ce ws vs Q S rs P
 unfold zqn at P
 split at P
 ·obtain⟨v,rfl,r⟩:=zbp rs
  split at P
  ·rename_i xs hx
   split at P
   ·rename_i bs hb
    obtain⟨a,us,rfl,h,rs'⟩:=zbI S.st r hx
    cases zhw hb
    cases rs'.of_bools
    exact⟨a,bs,rfl,.inl h,P.done S (by simp only[Rep])⟩
   ·exact P.elim
  ·exact P.elim
 ·exact P.elim
theorem zru(S:Store G F as H ce)(r:Rep F as w v){t:String}(e:tyW ce w=some t)(K:PySem.W.Frag):TyOf K H v (.type t):=by
 have lst:∀{a:Addr} {vs:List V},Rd H a (.lst vs)->TyOf K H (.ref a) (.type "list"):=fun {a vs} h=>by
  rcases h with h|⟨o,h⟩
  ·exact .lst h
  ·exact .frz h
 cases w with
 | non=>simp only[tyW,Option.some.injEq] at e;simp only[Rep] at r;subst e r;exact .non
 | bl b=>simp only[tyW,Option.some.injEq] at e;simp only[Rep] at r;subst e r;exact .bl b
 | int b=>simp only[tyW,Option.some.injEq] at e;simp only[Rep] at r;subst e r;exact .int b
 | str b=>simp only[tyW,Option.some.injEq] at e;simp only[Rep] at r;subst e r;exact .str b
 | ty b=>simp only[tyW,reduceCtorEq] at e
 | lst xs =>
  simp only[tyW,Option.some.injEq] at e
  simp only[Rep] at r
  obtain⟨a,vs,rfl,h,_⟩:=r
  subst e
  exact lst (Rd.sub S h)
 | tup xs =>
  simp only[tyW,Option.some.injEq] at e
  simp only[Rep] at r
  obtain⟨a,vs,rfl,h,_⟩:=r
  subst e
  exact .tup (S.sub _ _ h)
 | cel k =>
  simp only[Rep] at r
  obtain⟨a,rfl,h⟩:=r
  simp only[tyW] at e
  split at e
  ·rename_i hc
   cases e
   obtain⟨_,vs,h2,rs⟩:=S.cell _ _ _ h hc
   exact .lst h2
  ·rename_i hc
   cases e
   obtain⟨_,vs,h2,rs⟩:=S.cell _ _ _ h hc
   exact .dK h2
  ·cases e
end
end
section
section
variable {X:Cx} {G:Ga} {E:XK} {x:Str} {p pos:Pos} {e:Expr} {es:List Expr} {dr:Sl->M (List W)} {id T:String} {r:List V->Hp->VK->Prop} {f:List W->M W}
theorem zmN(K:PySem.W.Frag):Bi G E (ztc K) zmM:=by
 intro F as H σ sl ce ws vs Q S rs P
 unfold zmM at P
 split at P
 ·rename_i w T
  obtain⟨v,v',rfl,r,r'⟩:=zpj rs
  simp only[Rep] at r'
  subst r'
  split at P
  ·rename_i t ht
   split at P
   ·rename_i hk
    rw[and_eq_true,contains_iff_mem,contains_iff_mem] at hk
    exact⟨v,T,_,_,rfl,zru S.st r ht K,zkZ K t hk.1 T hk.2,P.done S (by simp only[Rep])⟩
   ·exact P.elim
  ·exact P.elim
 ·exact P.elim
theorem zas(hc:CallR X (.builtin id) r)(hf:Bi G E r f)(hg:Gl X x)(hm:X.mg x=none)(hv:bootBuiltins x=some (.builtin id))(ha:PA X (e::es) (zhd G E dr))(hn:x ≠ "__name__" := by decide)(hdb:(x==("__debug__" : Str))=false:=by decide)(he:starEach (e::es) X.env=(false,eval e X.env)::starEach es X.env:=by rfl)(hpl:(backTo pos (starEach es X.env)).any (·.1)=false:=by rfl):PE X (.Call (.Name x p) (e::es) [] pos) (zax G E (dBi f dr)) :=
 PE.imp (zmp hc hg hm hv ha hn hdb he hpl) fun σ H Q zz_=>el6 zz_ fun F as sl ce S P=>(step (RP:=Reps) S P).mono fun vs H1 zz_=>el8 zz_ fun ws F1 as1 ce1 l1 S1 rs P1=>hf F1 as1 H1 σ sl ce1 ws vs Q S1 rs P1
theorem zaZ(hc:CallR X (.type T) r)(hf:Bi G E r f)(hg:Gl X x)(hm:X.mg x=none)(hv:bootBuiltins x=some (.type T))(ha:PA X (e::es) (zhd G E dr))(hn:x ≠ "__name__" := by decide)(hdb:(x==("__debug__" : Str))=false:=by decide)(he:starEach (e::es) X.env=(false,eval e X.env)::starEach es X.env:=by rfl)(hpl:(backTo pos (starEach es X.env)).any (·.1)=false:=by rfl):PE X (.Call (.Name x p) (e::es) [] pos) (zax G E (dBi f dr)) :=
 PE.imp (zkn hc hg hm hv ha hn hdb he hpl) fun σ H Q zz_=>el6 zz_ fun F as sl ce S P=>(step (RP:=Reps) S P).mono fun vs H1 zz_=>el8 zz_ fun ws F1 as1 ce1 l1 S1 rs P1=>hf F1 as1 H1 σ sl ce1 ws vs Q S1 rs P1
open Classical in
def zu1(mk:List W->M W):List W->M W:=fun ws ce=>match zph ws with
 | some (.rng lo n)=>if n<=sizeLine then mk ((List.range n).map fun(i:Nat)=>W.int (lo+(i:Int))) ce else none
 | _=>none
def zl7(ce:Ce)(w:W):Option Unit:=(zcw ce w).map fun _=>()
def dMt(f:W->List W->M W)(o:Sl->M W)(args:Sl->M (List W)):Sl->M W:=fun sl=>bnd (o sl) fun x=>bnd (look fun ce=>zl7 ce x) fun _=>bnd (args sl) fun ws=>f x ws
def Mt(G:Ga)(E:XK)(r:V->List V->Hp->VK->Prop)(f:W->List W->M W):Prop:=∀F as H σ sl ce w v ws vs Q,SR G F as H σ sl ce->Rep F as w v->Reps F as ws vs->Post G E Rep F as σ sl Q (f w ws ce)->r v vs H Q
variable {o:Expr} {name:Str} {apos cpos:Pos} {do':Sl->M W} {rm:V->List V->Hp->VK->Prop} {fm:W->List W->M W}
theorem zhz{F:Hp}{as:List Addr}{σ:VS.St}{sl:Sl}{ce:Ce}{Q:VK}{w:W}{k:Unit->M W}(P:Post G E Rep F as σ sl Q (bnd (look fun ce=>zl7 ce w) k ce)):∃xs,zcw ce w=some xs/\Post G E Rep F as σ sl Q (k () ce):=by
 revert P
 simp only[bnd,look,zl7]
 cases zcw ce w with
 | none=>exact fun P=>P.elim
 | some xs=>exact fun P=>⟨xs,rfl,P⟩
theorem zej(slot:Slot "list" name id)(hty:typeOf (.builtin id)=pure (.type "method_descriptor"))(hm:MtR X id rm)(hf:Mt G E rm fm)(ho:PE X o (zax G E do'))(ha:PA X (e::es) (zhd G E dr))(hbase:attributeBase o name X.env (eval o X.env)=eval o X.env:=by rfl)(hfew:((backTo cpos (starEach (e::es) X.env)).all (fun x=>!x.1)&&(backToKw cpos (keywordEach [] X.env)).all (fun x=>x.1.isSome)
   && decide ((e::es).length+([]:List Keyword).length+(if ([]:List Keyword).isEmpty then 0 else 1)<30))=true:=by rfl)(hline:(apos.endLine==cpos.line)=true:=by rfl)(hs:starEach (e::es) X.env=(false,eval e X.env)::starEach es X.env:=by rfl)(hplain:(backTo cpos (starEach es X.env)).any (·.1)=false:=by rfl) :
  PE X (.Call (.Attribute o name apos) (e::es) [] cpos) (zax G E (dMt fm do' dr)):=by
 refine PE.imp (zs8 PySem.F.plainAttrs_list slot hty hm ho ha hbase hfew hline hs hplain) fun σ H Q zz_=>el6 zz_ fun F as sl ce S P=>(step S P).mono fun x H1 zz_=>el8 zz_ fun wx F1 as1 ce1 l1 S1 rx P1=>?_
 obtain⟨xs,hx,P2⟩:=zhz P1
 obtain⟨a,us,rfl,h,_⟩:=zbI S1.st rx hx
 refine⟨.inl ⟨rfl,us,.inl h⟩,(step (RP:=Reps) S1 P2).mono fun vs H2 zz_=>el8 zz_ fun ws F2 as2 ce2 l2 S2 rs P3=>?_⟩
 exact hf F2 as2 H2 σ sl ce2 wx _ ws vs Q S2 (rx.le l2) rs P3
def zrv(f:W->List W->M W)(o:Sl->M W):Sl->M W:=fun sl=>bnd (o sl) fun x=>bnd (look fun ce=>zl7 ce x) fun _=>f x []
theorem zrw(slot:Slot "list" name id)(hty:typeOf (.builtin id)=pure (.type "method_descriptor"))(hm:MtR X id rm)(hf:Mt G E rm fm)(ho:PE X o (zax G E do'))(hbase:attributeBase o name X.env (eval o X.env)=eval o X.env:=by rfl)(hline:(apos.endLine==cpos.line)=true:=by rfl):PE X (.Call (.Attribute o name apos) [] [] cpos) (zax G E (zrv fm do')):=by
 refine PE.imp (zq5 PySem.F.plainAttrs_list slot hty hm ho hbase hline) fun σ H Q zz_=>el6 zz_ fun F as sl ce S P=>(step S P).mono fun x H1 zz_=>el8 zz_ fun wx F1 as1 ce1 l1 S1 rx P1=>?_
 obtain⟨xs,hx,P2⟩:=zhz P1
 obtain⟨a,us,rfl,h,_⟩:=zbI S1.st rx hx
 exact⟨.inl ⟨rfl,us,.inl h⟩,hf F1 as1 H1 σ sl ce1 wx _ [] [] Q S1 rx Reps.nil P2⟩
open Classical in
def zex:W->List W->M W:=fun w ws ce=>match zl6 ce w,ws with
 | some (k,xs),[y]=>if xs.length<sizeLine then some (.ok .non (ce.set k (.lst (xs++[y])))) else none
 | _,_=>none
def zrx:W->List W->M W:=fun w ws ce=>match zl6 ce w,ws with
 | some (k,xs),[]=>match xs[xs.length-1]? with
  | some y=>some (.ok y (ce.set k (.lst xs.dropLast)))
  | none=>none
 | _,_=>none
open Classical in
def zry:W->List W->M W:=fun w ws ce=>match zl6 ce w,ws with
 | some (k,xs),[y]=>match zcw ce y with
  | some ys=>if xs.length+ys.length<=sizeLine then some (.ok .non (ce.set k (.lst (xs++ys)))) else none
  | none=>none
 | _,_=>none
theorem zfg:Mt G E zkr zex:=by
 intro F as H σ sl ce w v ws vs Q S rw' rs P
 unfold zex at P
 split at P
 ·rename_i k xs y hk
  split at P
  ·rename_i hl
   obtain⟨a,us,rfl,ha,hH,r⟩:=zdF S.st rw' hk
   obtain⟨u,rfl,ry⟩:=zbp rs
   refine⟨a,us,u,rfl,rfl,hH,by rw[r.length];exact hl,?_⟩
   exact P .non _ F as .refl (S.slots (S.st.write (o:=.lst (us++[u])) (c:=.lst (xs++[y])) ha ⟨_,zaw,r.append (.cons ry .nil)⟩) .refl) (by simp only[Rep])
  ·exact(show False from P).elim
 ·exact(show False from P).elim
theorem ztw:Mt G E zt6 zrx:=by
 intro F as H σ sl ce w v ws vs Q S rw' rs P
 unfold zrx at P
 split at P
 ·rename_i k xs hk
  split at P
  ·rename_i y hy
   obtain⟨a,us,rfl,ha,hH,r⟩:=zdF S.st rw' hk
   simp only[Reps] at rs
   obtain⟨u,hu,ru⟩:=r.get hy
   refine⟨a,us,u,rfl,rs,hH,by rw[r.length];exact hu,?_⟩
   exact P u _ F as .refl (S.slots (S.st.write (o:=.lst us.dropLast) (c:=.lst xs.dropLast) ha ⟨_,zaw,r.dropLast⟩) .refl) ru
  ·exact(show False from P).elim
 ·exact(show False from P).elim
def zrz:V->List V->Hp->VK->Prop:=fun x vs H Q=>∃l b xs zs,x=.ref l/\vs=[.ref b]/\H l=some (.lst xs)/\Rd H b (.lst zs)/\xs.length+zs.length<=sizeLine/\Q .non (upd H l (.lst (xs++zs)))
theorem zpk:MtR X "list.extend" zrz:=by
 intro pins s σ H x vs v us Q I rx rv h
 obtain⟨l,b,xs,zs,rfl,rfl,hH,hB,hz,q⟩:=h
 cases rx
 obtain⟨u,rfl,ru⟩:=rv.one
 cases ru
 obtain⟨z,its,n,r,hl,e⟩:=I.lstM hH
 obtain⟨z2,its2,n2,r2,hl2,e2⟩:=Inv.lstR I hB
 have hsz:its.toArray.size+its2.toArray.size<=sizeLine:=by rw[size_toArray,size_toArray];omega
 have hlong:¬(!its.toArray.isEmpty&&Builtin.List.listTooLong (its.toArray.size+its2.toArray.size))=true:=by
  rw[zms hsz,Bool.and_false]
  exact Bool.false_ne_true
 refine call_meets F.slot_list_extend ⟨_,e,rfl⟩ F.entry_list_extend (F.args_list_extend_2 _ _)
  (AutoSeq1.list_extend_list_list_0 l its.toArray n b its2.toArray n2 hlong (by rw[size_toArray];omega) (by omega)) ⟨e,e2,?_⟩
 refine⟨.non,_,I.lset (its':=its++its2) hH e (by simp) (r.append r2) ?_,rfl,q⟩
 rw[length_append]
 omega
theorem ztx:Mt G E zrz zry:=by
 intro F as H σ sl ce w v ws vs Q S rw' rs P
 unfold zry at P
 split at P
 ·rename_i k xs y hk
  split at P
  ·rename_i ys hy
   split at P
   ·rename_i hl
    obtain⟨a,us,rfl,ha,hH,r⟩:=zdF S.st rw' hk
    obtain⟨u,rfl,ry⟩:=zbp rs
    obtain⟨b,zs,rfl,hb,r2⟩:=zbI S.st ry hy
    refine⟨a,b,us,zs,rfl,rfl,hH,hb,by rw[r.length,r2.length];exact hl,?_⟩
    exact P .non _ F as .refl (S.slots (S.st.write (o:=.lst (us++zs)) (c:=.lst (xs++ys)) ha ⟨_,zaw,r.append r2⟩) .refl) (by simp only[Rep])
   ·exact(show False from P).elim
  ·exact(show False from P).elim
 ·exact(show False from P).elim
variable {a b:Expr} {da db:Sl->M W}
theorem zmO{i:Int}(hg:Gl X x)(hm:∃t,X.mg x=some (.int i t))(hd:(x==("__debug__" : Str))=false:=by decide):PE X (.Name x pos) (zax G E (dC (.int i))):=by
 obtain⟨t,hm⟩:=hm
 exact zql (zoD (v:=.int i) hg hm ⟨t,rfl⟩ hd) rfl
theorem zmP{n:String}(hg:Gl X x)(hm:X.mg x=none)(hv:bootBuiltins x=some (.type n))(hn:x ≠ "__name__" := by decide)(hd:(x==("__debug__" : Str))=false:=by decide):PE X (.Name x pos) (zax G E (dC (.ty n))):=zql (zoE (v:=.ty n) hg hm hv rfl hn hd) rfl
end
end
section
section
variable {X:Cx} {G:Ga} {E:XK} {a b:Expr} {da db:Sl->M W} {pos:Pos}
def zfh:W->W->Option W:=i2 fun i j=>.bl (decide (i=j))
def zk0:W->W->Option W:=i2 fun i j=>.bl (!decide (i=j))
theorem zoa:Sc2 rEq zfh:=by
 intro x y w e
 cases x<;>cases y<;>simp only[zfh,i2,Option.some.injEq,reduceCtorEq] at e
 subst e
 exact⟨_,_,_,rfl,rfl,rfl,fun H Q hq=>⟨rfl,by simpa using hq⟩⟩
theorem zrA:Sc2 rNe zk0:=by
 intro x y w e
 cases x<;>cases y<;>simp only[zk0,i2,Option.some.injEq,reduceCtorEq] at e
 subst e
 exact⟨_,_,_,rfl,rfl,rfl,fun H Q hq=>⟨rfl,by simpa using hq⟩⟩
theorem zrB(ha:PE X a (zax G E da))(hb:PE X b (zax G E db)):PE X (.Compare a [.Eq] [b] pos) (zax G E (dOp zfh da db)):=zkE zqV zoa ha hb (zb4 _)
theorem zcy(ha:PE X a (zax G E da))(hb:PE X b (zax G E db)):PT X (.Compare a [.Eq] [b] pos) (zcc G E (dB (dOp zfh da db))):=zgs zqV ha hb (zb4 _) (zbJ (ze8 zoa))
theorem zk1(ha:PE X a (zax G E da))(hb:PE X b (zax G E db)):PT X (.Compare a [.NotEq] [b] pos) (zcc G E (dB (dOp zk0 da db))):=zgs zsV ha hb (zb4 _) (zbJ (ze8 zrA))
def zhA(k v:Sl->M W):Sl->M W:=fun sl ce=>match bnd (k sl) (fun kw=>bnd (v sl) fun vw=>ret (kw,vw)) (ce++[.dct []]) with
 | some (.ok (kw,vw) ce2)=>match zj3 kw,ce2[ce.length]? with
  | some key,some (.dct [])=>some (.ok (.cel ce.length) (ce2.set ce.length (.dct [(key,vw)])))
  | _,_=>none
 | some (.ex x ce2)=>some (.ex x ce2)
 | none=>none
theorem zmQ{k v:Expr}{dk dv:Sl->M W}(hk:PE X k (zax G E dk))(hv:PE X v (zax G E dv)):PE X (.Dict [some k] [v] pos) (zax G E (zhA dk dv)):=by
 refine PE.imp (zo4 (zmA hk hv zo3) rfl rfl (by intro h;cases h) (by simp)) fun σ H Q zz_=>el6 zz_ fun F as sl ce S P=>?_
 intro p hp
 obtain⟨S1,l1⟩:=S.st.alloc (o:=.dK []) (c:=.dct []) hp (fun as' l=>⟨[],zaw,.nil⟩)
 have hlen:as.length=ce.length:=S.st.len
 have P':Post G E (fun F as (a:W×W) (b:V×V)=>Rep F as a.1 b.1/\Rep F as a.2 b.2) F (as++[p]) σ sl (fun b H2=>H2 p=some (.dK [])/\∃kvs:List (Key×V),[b]=kvs.map (fun kv=>(kV kv.1,kv.2))/\kvs.length<=15/\Q (.ref p) (upd H2 p (.dK (ze3 [] kvs))))
   (bnd (dk sl) (fun kw=>bnd (dv sl) fun vw=>ret (kw,vw)) (ce++[.dct []])):=by
  unfold zhA at P
  cases e:bnd (dk sl) (fun kw=>bnd (dv sl) fun vw=>ret (kw,vw)) (ce++[.dct []]) with
  | none=>rw[e] at P;exact P.elim
  | some r=>cases r with
   | ex x ce2=>rw[e] at P;exact fun H' F' as' cv od l=>P H' F' as' cv od (l1.trans l)
   | ok a ce2 =>
    obtain⟨kw,vw⟩:=a
    rw[e] at P
    dsimp only at P
    split at P
    ·rename_i key hkey hcell
     intro b H' F' as' l S' r
     obtain⟨kv,vv⟩:=b
     have hp':as'[ce.length]?=some p:=l.c _ _ (by rw[<- hlen];simp)
     obtain⟨_,ps,h2,rk⟩:=S'.st.cell _ _ _ hp' hcell
     cases rk
     have rput:RepKV F' as' [(key,vw)] [(key,vv)]:=.cons ⟨rfl,r.2⟩ .nil
     refine⟨h2,[(key,vv)],?_,by simp,?_⟩
     ·simp only[map_cons,map_nil];rw[show kv=kV key from zh9 r.1 hkey]
     ·exact P (.ref p) _ F' as' (l1.trans l) (S'.slots (S'.st.write (o:=.dK (ze3 [] [(key,vv)])) (c:=.dct [(key,vw)]) hp' ⟨_,zaw,rput⟩) .refl) (by simp only[Rep];exact⟨p,rfl,hp'⟩)
    ·exact P.elim
 refine(step (S.slots S1 l1) P').mono fun x H1 zz_=>el8 zz_ fun wx F1 as1 ce1 l2 S2 rx P1=>(step S2 P1).mono fun y H2 zz_=>el8 zz_ fun wy F2 as2 ce2 l3 S3 ry P2=>?_
 exact Post.done (RP:=fun F as (a:W×W) (b:V×V)=>Rep F as a.1 b.1/\Rep F as a.2 b.2) (a:=(wx,wy)) (b:=(x,y)) S3 P2 ⟨rx.le l3,ry⟩
end
end
section
def noL(K:PySem.W.Frag):Bool:=K.all fun p=>match p.2.cls with
 | .type "list" => false
 | _=>true
theorem zrC{K:PySem.W.Frag}(h:noL K=true){a:Addr}{o:Obj}(e:K.lookup a=some o):o.cls≠.type "list" := by
 intro hc
 have hm:∀{l:PySem.W.Frag},l.lookup a=some o->(a,o)∈l:=by
  intro l
  induction l with
  | nil=>intro e;cases e
  | cons p r ih =>
   intro e
   obtain⟨b,q⟩:=p
   by_cases hb:a=b
   ·subst hb
    have:List.lookup a ((a,q)::r)=some q:=by simp[List.lookup]
    rw[this] at e;cases e;exact mem_cons_self
   ·have:List.lookup a ((b,q)::r)=List.lookup a r:=by
     have hb':(a==b)=false:=by simpa using hb
     simp[List.lookup,hb']
    rw[this] at e
    exact mem_cons_of_mem _ (ih e)
 have:=all_eq_true.mp h _ (hm e)
 simp only[hc] at this
 cases this
def spLaw(G:PySem.W.Frag->Ga)(d:List W->M W)(K:PySem.W.Frag):Sp:=fun vs H Q E=>noL K=true->spV (G K) (fun _=>E0) 1 d vs H Q E
theorem law_sp{G:PySem.W.Frag->Ga}{d:List W->M W}{n:Nat}(main:∀ns:List Int,ns.length<=n->∃ce',d [.lst (ns.map W.int)] []=some (.ok (.bl true) ce'))(K:PySem.W.Frag)(H:Hp)(a:Addr)(ns:List Int)(hl:ns.length<=n)(_hO:zq7 H)(hS:SqL K H a (ns.map V.int)):spLaw G d K [.ref a] H (fun v _=>v=.bl true) fun _ _ _=>False:=by
 intro nl
 rcases hS with hS|⟨o,its,m,hk,hc,_⟩
 ·obtain⟨ce',e⟩:=main ns hl
  refine⟨rfl,H,[],[.lst (ns.map W.int)],[],⟨fun _ _ h=>h,by simp,rfl,fun k a c h _=>by simp at h⟩,.cons (by simp only[Rep];exact⟨a,_,rfl,hS,Reps.ints ns⟩) .nil,?_⟩
  rw[e]
  intro v H' F' as' _ _ r
  simpa only[Rep] using r
 ·exact absurd hc (zrC nl hk)
section
variable {α β:Type}
theorem zbR{m:M α}{f:α->M β}{ce ce':Ce}{a:α}(h:m ce=some (.ok a ce')):bnd m f ce=f a ce':=by simp only[bnd,h]
theorem zk2{a b:DS}{sl sl':Sl}{ce ce':Ce}(h:a sl ce=some (.go .nx sl' ce')):zaq a b sl ce=b sl' ce':=by simp only[zaq,h]
theorem zpl{a b:DS}{sl sl':Sl}{ce ce':Ce}{w:W}(h:a sl ce=some (.go (.rt w) sl' ce')):zaq a b sl ce=some (.go (.rt w) sl' ce'):=by simp only[zaq,h]
end
section
variable {ce l:Ce} {c:C} {n:Nat}
theorem zsx(ce l:Ce)(j:Nat):(ce++l)[ce.length+j]?=l[j]?:=by rw[getElem?_append_right (le_add_right _ _),add_sub_cancel_left]
theorem zrD(ce l:Ce):(ce++l)[ce.length]?=l[0]?:=zsx ce l 0
theorem zud(ce l:Ce)(j:Nat)(c:C):(ce++l).set (ce.length+j) c=ce++l.set j c:=by rw[set_append_right _ _ (le_add_right _ _),add_sub_cancel_left]
theorem zty(ce l:Ce)(c:C):(ce++l).set ce.length c=ce++l.set 0 c:=zud ce l 0 c
theorem cutOk_app(ce l:Ce):zdI ce (ce++l):=⟨by rw[length_append];omega,fun k c hk h=>.inl (by rwa [getElem?_append_left hk] at h)⟩
theorem zgC(ce l:Ce):(ce++l).take ce.length=ce:=take_left
theorem belInts(n:Nat):∀ns:List Int,zdl n (ns.map W.int)
 | []=>by simp only[map_nil,zdl]
 | a::r=>by simp only[map_cons,zdl,Bel];exact⟨trivial,belInts n r⟩
end
theorem zmR{ce l:Ce}{j:Nat}{c:C}(h:l[j]?=some c)(hb:zf7 ce.length c):finO ce (ce++l) (.cel (ce.length+j))=some (.ok (.cel ce.length) (ce++[c])):=by
 have e:(ce++l)[ce.length+j]?=some c:=by rw[zsx];exact h
 simp only[finO,e]
 rw[if_pos ⟨cutOk_app ce l,le_add_right _ _,hb⟩,zgC]
theorem zch{ce l:Ce}{w:W}(hb:Bel ce.length w):finC ce (ce++l) w=some (.ok w ce):=by
 unfold finC
 rw[if_pos ⟨cutOk_app ce l,hb⟩,zgC]
theorem zaz{ce:Ce}{w:W}(hb:Bel ce.length w):finC ce ce w=some (.ok w ce):=by
 have:=zch (l:=[]) hb
 rwa [append_nil] at this
theorem zci{d:List W->M W}{ws:List W}{ce:Ce}{xs:List W}(h:d ws ce=some (.ok (.cel ce.length) (ce++[.lst xs])))(hb:zdl ce.length xs):zdg d ws ce=some (.ok (.lst xs) ce):=by
 have e:(ce++[C.lst xs])[ce.length]?=some (.lst xs):=by rw[zrD];rfl
 simp only[zdg,h,e]
 rw[if_pos ⟨cutOk_app ce _,rfl,hb⟩,zgC]
end
end VS
namespace VS
open L2
section
variable {α β:Type}
@[simp] theorem zmS(m:M α)(f:α->M β)(ce:Ce):bnd m f ce=match m ce with|some (.ok a ce')=>f a ce'|some (.ex x ce')=>some (.ex x ce')|none=>none:=rfl
@[simp] theorem ztz(m:Option (R α))(k:α->Ce->Option O):lft m k=match m with|some (.ok a ce')=>k a ce'|some (.ex x ce')=>some (.ex x ce')|none=>none:=rfl
@[simp] theorem zrE(a:α)(ce:Ce):ret a ce=some (.ok a ce):=rfl
@[simp] theorem zob(f:Ce->Option α)(ce:Ce):look f ce=(f ce).map fun a=>R.ok a ce:=rfl
end
variable (a b c:Sl->M W) (ta tb:Sl->M Bool) (s t:DS) (sl:Sl) (ce:Ce) (i:Nat) (w:W)
@[simp] theorem ziW:zae i sl ce=match sl[i]? with|some (some w)=>some (.ok w ce)|_=>none:=rfl
@[simp] theorem zvm:dC w sl ce=some (.ok w ce):=rfl
@[simp] theorem zu2(f:W->W->Option W):dOp f a b sl ce=bnd (a sl) (fun x=>bnd (b sl) fun y=>look fun _=>f x y) ce:=rfl
@[simp] theorem zrF(f:Ce->W->W->Option W):zaL f a b sl ce=bnd (a sl) (fun x=>bnd (b sl) fun y=>look fun ce=>f ce x y) ce:=rfl
@[simp] theorem zu3(f:W->Option W):dUn f a sl ce=bnd (a sl) (fun x=>look fun _=>f x) ce:=rfl
@[simp] theorem zvn:dB a sl ce=bnd (a sl) (fun w=>look fun _=>match w with|.bl b=>some b|_=>none) ce:=rfl
@[simp] theorem zue:zl2 a sl ce=bnd (a sl) (fun w=>look fun ce=>zh7 ce w) ce:=rfl
@[simp] theorem ztA:zeH ta tb sl ce=bnd (ta sl) (fun x=>match x with|true=>tb sl|false=>ret false) ce:=rfl
@[simp] theorem zuf:zl4 ta tb sl ce=bnd (ta sl) (fun x=>match x with|true=>ret true|false=>tb sl) ce:=rfl
@[simp] theorem ztB:zdf ta sl ce=bnd (ta sl) (fun x=>ret (!x)) ce:=rfl
@[simp] theorem zug:zaq s t sl ce=match s sl ce with|some (.go .nx sl' ce')=>t sl' ce'|r=>r:=rfl
@[simp] theorem ztC:zaP sl ce=some (.go .nx sl ce):=rfl
@[simp] theorem zuh:zaU i a sl ce=lft (a sl ce) fun w ce'=>some (.go .nx (sl.set i (some w)) ce'):=rfl
@[simp] theorem zui:za7 a sl ce=lft (a sl ce) fun w ce'=>some (.go (.rt w) sl ce'):=rfl
@[simp] theorem ztD:dEx a sl ce=lft (a sl ce) fun _ ce'=>some (.go .nx sl ce'):=rfl
@[simp] theorem zu4:dIf ta s t sl ce=lft (ta sl ce) fun x ce'=>match x with|true=>s sl ce'|false=>t sl ce':=rfl
@[simp] theorem zoc:zan sl ce=some (.ok [] ce):=rfl
@[simp] theorem zk3(r:Sl->M (List W)):zac a r sl ce=bnd (a sl) (fun x=>bnd (r sl) fun xs=>ret (x::xs)) ce:=rfl
@[simp] theorem ztE(f:List W->M W)(r:Sl->M (List W)):dBi f r sl ce=bnd (r sl) f ce:=rfl
@[simp] theorem ztF(n:Nat)(f:List W->M W)(r:Sl->M (List W)):zaH n f r sl ce=bnd (r sl) (fun ws=>if ws.length=n then f ws else zgp) ce:=rfl
@[simp] theorem zuj(r:Sl->M (List W)):zfb r sl ce=bnd (r sl) (fun xs=>mkF (.tup xs) xs.length) ce:=rfl
@[simp] theorem zuk(r:Sl->M (List W)):zhZ r sl ce=bnd (r sl) (fun xs=>mkF (.lst xs) xs.length) ce:=rfl
@[simp] theorem ztG(r:Sl->M (List W)):zbW r sl ce=bnd (r sl) (fun xs=>mkC (.lst xs) xs.length) ce:=rfl
@[simp] theorem ztH:zfP sl ce=mkC (.dct []) 0 ce:=rfl
@[simp] theorem zu5{n:Nat}(h:n<=PySem.sizeLine):mkF w n ce=some (.ok w ce):=if_pos h
@[simp] theorem zu6(c:C){n:Nat}(h:n<=PySem.sizeLine):mkC c n ce=some (.ok (.cel ce.length) (ce++[c])):=if_pos h
@[simp] theorem zk4{xs:List W}(h:xs.length<=PySem.sizeLine):zbf xs ce=some (.ok (.lst xs) ce):=if_pos h
@[simp] theorem zul{xs:List W}(h:xs.length<=PySem.sizeLine):zgx xs ce=some (.ok (.cel ce.length) (ce++[.lst xs])):=if_pos h
@[simp] theorem zrG{xs:List W}(h:xs.length<=PySem.sizeLine):ztr xs ce=some (.ok (.tup xs) ce):=if_pos h
@[simp] theorem ztI(f:W->List W->M W)(r:Sl->M (List W)):dMt f a r sl ce=bnd (a sl) (fun x=>bnd (look fun ce=>zl7 ce x) fun _=>bnd (r sl) fun ws=>f x ws) ce:=rfl
@[simp] theorem zum(f:W->List W->M W):zrv f a sl ce=bnd (a sl) (fun x=>bnd (look fun ce=>zl7 ce x) fun _=>f x []) ce:=rfl
@[simp] theorem zvo:gN i w sl ce=some (sl.set i (some w),ce):=rfl
theorem zod{o i v:Sl->M W}{sl:Sl}{ce ce1 ce2 ce3:Ce}{w ow iw:W}{key:Key}{k:Nat}{kvs:List (Key×W)}(h1:v sl ce=some (.ok w ce1))(h2:o sl ce1=some (.ok ow ce2))(h3:i sl ce2=some (.ok iw ce3))(h4:zj3 iw=some key)(h5:zn6 ce3 ow=some (k,kvs))(h6:kvs.length<PySem.sizeLine) :
  zjI o i v sl ce=some (.go .nx sl (ce3.set k (.dct (zjF kvs key w)))):=by
 simp only[zjI,lft,h1,h2,h3,h4,h5,if_pos h6]
theorem zmT{w y:W}{ce:Ce}{k:Nat}{xs:List W}(h:zl6 ce w=some (k,xs))(hl:xs.length<PySem.sizeLine):zex w [y] ce=some (.ok .non (ce.set k (.lst (xs++[y])))):=by simp only[zex,h,if_pos hl]
@[simp] theorem zun(x y:Int):zb3 (.int x) (.int y)=some (.int (x+y)):=rfl
@[simp] theorem zuo(x y:Int):zhe (.int x) (.int y)=some (.int (x-y)):=rfl
@[simp] theorem zu7(x y:Int):fLt (.int x) (.int y)=some (.bl (decide (x<y))):=rfl
@[simp] theorem zu8(x y:Int):fLe (.int x) (.int y)=some (.bl (decide (x<=y))):=rfl
@[simp] theorem zu9(x y:Int):fGt (.int x) (.int y)=some (.bl (decide (y<x))):=rfl
@[simp] theorem zva(x y:Int):fGe (.int x) (.int y)=some (.bl (decide (y<=x))):=rfl
@[simp] theorem zup(x y:Int):zfh (.int x) (.int y)=some (.bl (decide (x=y))):=rfl
@[simp] theorem zuq(x y:Int):zk0 (.int x) (.int y)=some (.bl (!decide (x=y))):=rfl
@[simp] theorem zur(x:Int):zo8 (.int x)=some (.int (-x)):=rfl
theorem zhB{x y:Int}(h:CMul x y):zgr (.int x) (.int y)=some (.int (x*y)):=by simp only[zgr,i2c,if_pos h]
theorem zey{x y:Int}(h:0<y):zbP (.int x) (.int y)=some (.int (x % y)):=by simp only[zbP,i2c,if_pos h]
theorem zrH{x y:Int}(h:0<y/\y<1073741824):zo7 (.int x) (.int y)=some (.int (x / y)):=by
 have h':zsU x y:=h
 simp only[zo7,i2c,if_pos h']
@[simp] theorem zus(xs:List W):ze7 ce (.tup xs)=some xs:=rfl
@[simp] theorem zut(xs:List W):ze7 ce (.lst xs)=some xs:=rfl
@[simp] theorem zrI(xs:List W):zcw ce (.lst xs)=some xs:=rfl
theorem zcK{ce:Ce}{k:Nat}{xs:List W}(h:ce[k]?=some (.lst xs)):zcw ce (.cel k)=some xs:=by simp only[zcw,h]
theorem zbD{ce:Ce}{k:Nat}{xs:List W}(h:ce[k]?=some (.lst xs)):ze7 ce (.cel k)=some xs:=by simp only[ze7,zcw,h]
theorem zoe{ce:Ce}{k:Nat}{xs:List (Key×W)}(h:ce[k]?=some (.dct xs)):zqm ce (.cel k)=some xs:=by simp only[zqm,h]
theorem zez{ce:Ce}{k:Nat}{xs:List W}(h:ce[k]?=some (.lst xs)):zl6 ce (.cel k)=some (k,xs):=by simp only[zl6,h]
theorem zeA{ce:Ce}{k:Nat}{xs:List (Key×W)}(h:ce[k]?=some (.dct xs)):zn6 ce (.cel k)=some (k,xs):=by simp only[zn6,h]
@[simp] theorem zuu(j:Int):zj3 (.int j)=some (.inl j):=rfl
theorem zmU{α:Type}{xs:List α}{j:Nat}:atI xs (j:Int)=xs[j]?:=by
 unfold atI ixN
 by_cases h:j<xs.length
 ·rw[if_pos (by omega),if_pos (by omega)];simp
 ·rw[if_pos (by omega),if_neg (by omega),getElem?_eq_none (by omega)];rfl
theorem zh0{xs:List W}{x y:W}{ce:Ce}{j:Nat}(h:ze7 ce x=some xs)(hy:y=.int j):ixW ce x y=xs[j]?:=by
 subst hy
 simp only[ixW,h]
 exact zmU
theorem zhC(c0:C):(ce++[c0])[ce.length]?=some c0:=by rw[zrD];rfl
def nW(n:Nat):W:=.int (n:Int)
def wT(l:List Nat):W:=.tup (l.map nW)
def wB(b:List (List Nat)):W:=.tup (b.map wT)
def kvs(F:List Nat):List (Key×W):=F.map fun(x:Nat)=>((Sum.inl (x:Int):Key),W.bl true)
def toI(F:List Nat):List Int:=F.map fun(x:Nat)=>(x:Int)
theorem zpm(F:List Nat)(y:Nat):(zjE (kvs F) (.inl (y:Int))).isSome=decide (y∈F):=by
 induction F with
 | nil=>rfl
 | cons x F ih =>
  by_cases h:x=y
  ·subst h;simp[kvs,zjE]
  ·have h':¬((x:Int)=(y:Int)):=by omega
   have e:zjE (kvs (x::F)) (.inl (y:Int))=zjE (kvs F) (.inl (y:Int)):=by simp[kvs,zjE,find?_cons,h']
   have hm:(y∈x::F)↔y∈F:=by simp[Ne.symm h]
   rw[e,ih]
   simp[hm]
theorem zic(F:List Nat)(y:Nat)(h:y∉F):zjF (kvs F) (.inl (y:Int)) (.bl true)=kvs (F++[y]):=by
 have e:((kvs F).any fun kv=>decide (kv.1=(.inl (y:Int):Key)))=false:=by
  rw[eq_false_iff]
  intro q
  obtain⟨p,hp,e⟩:=any_eq_true.mp q
  obtain⟨x,hx,rfl⟩:=mem_map.mp hp
  have e:=of_decide_eq_true e
  have:(x:Int)=y:=Sum.inl.inj e
  exact h (by rw[<- ofNat_inj.mp this];exact hx)
 unfold zjF
 rw[e]
 simp[kvs]
theorem za5(F:List Nat):(kvs F).length=F.length:=by simp[kvs]
theorem zgD(F:List Nat):zhv (kvs F)=some (toI F):=by
 induction F with
 | nil=>rfl
 | cons x F ih=>simp only[kvs,toI,map_cons,zhv] at ih ⊢;rw[ih];rfl
theorem zbG(F:List Nat):(toI F).length=F.length:=by simp[toI]
theorem zk5(F:List Nat):F.map nW=(toI F).map W.int:=by simp[toI,nW]
theorem zeP(F:List Nat):zei (F.map nW)=some (toI F):=by rw[zk5,zcJ]
theorem zk6{F F':List Nat}(h:F.Perm F'):srt (toI F)=srt (toI F') :=
 zcg ((zbu _).trans ((show(toI F).Perm (toI F') from h.map _).trans (zbu _).symm)) (zc9 _) (zc9 _)
theorem zdJ{F F':List Nat}(h:F.Nodup)(h':F'.Nodup)(e:∀x,x∈F↔x∈F'):F.Perm F':=by
 rw[perm_iff_count]
 intro x
 rw[h.count,h'.count]
 simp[e x]
theorem zaG:∀{n:Nat} {F:List Nat},F.Nodup->(∀x∈F,x<n)->F.length<=n
 | 0,F,_,hl=>by
  cases F with
  | nil=>simp
  | cons a r=>exact absurd (hl a mem_cons_self) (not_lt_zero _)
 | n+1,F,h,hl=>by
  by_cases hn:n∈F
  ·have h1:=zaG (n:=n) (h.erase n) fun x hx=>by
    have hx':=(List.Nodup.mem_erase_iff h).mp hx
    have:=hl x hx'.2
    have:=hx'.1
    omega
   rw[length_erase_of_mem hn] at h1
   have:=length_pos_of_mem hn
   omega
  ·have h1:=zaG (n:=n) h fun x hx=>by
    have:=hl x hx
    have:x≠n:=fun e=>hn (e▸hx)
    omega
   omega
inductive Reach (b:List (List Nat)) (ok:Nat->Prop) (s:Nat):Nat->Prop where
 | refl:Reach b ok s s
 | step {x y:Nat} (h:Reach b ok s x) (hy:y∈b.getD x []) (o:ok y):Reach b ok s y
structure Comp (b:List (List Nat)) (ok:Nat->Prop) (s:Nat) (F:List Nat):Prop where
 nd:F.Nodup
 st:s∈F
 lt:∀x∈F,x<b.length
 cl:∀x∈F,∀y∈b.getD x [],ok y->y∈F
 re:∀x∈F,Reach b ok s x
theorem Comp.mem{b:List (List Nat)}{ok:Nat->Prop}{s:Nat}{F:List Nat}(h:Comp b ok s F)(x:Nat):x∈F↔Reach b ok s x:=by
 refine⟨h.re x,fun r=>?_⟩
 induction r with
 | refl=>exact h.st
 | step _ hy o ih=>exact h.cl _ ih _ hy o
def Bd(b:List (List Nat)):Prop:=∀r∈b,∀x∈r,x<b.length
theorem Bd.get{b:List (List Nat)}(h:Bd b){x y:Nat}(hy:y∈b.getD x []):y<b.length:=by
 rw[getD_eq_getElem?_getD] at hy
 cases e:b[x]? with
 | none=>rw[e] at hy;simp at hy
 | some r=>rw[e] at hy;exact h r (mem_of_getElem? e) y (by simpa using hy)
structure Row (row:List Nat) (ok:Nat->Prop) (F F':List Nat) (r new:List Nat):Prop where
 app:F'=F++new
 nd:F'.Nodup
 mem:∀y∈new,y∈row/\ok y
 done:∃d,row=d++r/\∀y∈d,ok y->y∈F'
theorem zfQ{ce:Ce}{x:W}{xs:List W}{j:Nat}(h:ze7 ce x=some xs):ixW ce x (nW j)=xs[j]?:=zh0 h rfl
theorem zrJ(T:List Nat)(y:Nat):(T.map nW).any (fun z=>peq z (nW y))=decide (y∈T):=by
 induction T with
 | nil=>rfl
 | cons x T ih =>
  rw[map_cons,any_cons,ih]
  by_cases h:x=y
  ·subst h;simp[nW,peq]
  ·have h':¬((x:Int)=(y:Int)):=by omega
   simp[nW,peq,h',Ne.symm h]
theorem zrK(T:List Nat):(T.map nW).all (cln 8)=true:=by
 rw[all_eq_true]
 intro w hw
 obtain⟨x,_,rfl⟩:=mem_map.mp hw
 rfl
theorem zeQ(T:List Int)(n:Nat):(T.map W.int).all (cln n)=true:=by
 rw[all_eq_true]
 intro w hw
 obtain⟨x,_,rfl⟩:=mem_map.mp hw
 cases n<;>rfl
theorem zrL{ce:Ce}{x:W}{T:List Nat}{y:Nat}(h:ze7 ce x=some (T.map nW))(ng:Bool):inW ng ce (nW y) x=some (.bl (if ng then !decide (y∈T) else decide (y∈T))):=by
 have c:cln 8 (nW y)=true:=rfl
 have e:drf ce (nW y)=nW y:=rfl
 simp only[inW,h,e,c,zrK,Bool.and_self,if_true,zrJ]
theorem zgE(a b:Int):peq (.int a) (.int b)=decide (a=b):=by simp[peq];rfl
theorem zfi:∀(l m:List Int),peqs (l.map W.int) (m.map W.int)=decide (l=m)
 | [],[]=>by simp[peqs]
 | [],_::_=>by simp[peqs]
 | _::_,[]=>by simp[peqs]
 | a::l,b::m=>by
  simp only[map_cons,peqs,zgE,zfi l m]
  by_cases h1:a=b<;>by_cases h2:l=m<;>simp[h1,h2]
theorem zmV(l m:List Int):peq (.lst (l.map W.int)) (.lst (m.map W.int))=decide (l=m):=by simp only[peq,zfi]
theorem zfj:(36:Nat)<PySem.sizeLine:=by decide
theorem zof{s:Src}{cs:Sl}{e:Sl->M W}{ce:Ce}(hst:s.Stays ce)(P:W->W->Prop):∀(l ys:List W),(∀x∈l,∃y,P x y/\e (some x::cs) ce=some (.ok y ce))->ys.length+l.length<=PySem.sizeLine ->
  ∃zs,lcL s cs zdH e l ys ce=some (.ok (ys++zs) ce)/\PySem.Paired P l zs
 | [],ys,_,_=>⟨[],by simp only[lcL,if_pos hst,append_nil],.nil⟩
 | x::r,ys,h,hz=>by
  have hl:ys.length<PySem.sizeLine:=by simp only[length_cons] at hz;omega
  obtain⟨y,py,ey⟩:=h x mem_cons_self
  obtain⟨zs,ez,pz⟩:=zof hst P r (ys++[y]) (fun z hz=>h z (mem_cons_of_mem _ hz)) (by simp only[length_append,length_cons,length_nil] at hz ⊢;omega)
  refine⟨y::zs,?_,.cons py pz⟩
  rw[zgz ⟨hst,hl⟩]
  show bnd (ret true) _ ce=_
  rw[zbR (m:=ret true) rfl]
  show bnd (e (some x::cs)) (fun y=>lcL s cs zdH e r (ys++[y])) ce=_
  rw[zbR ey,ez,append_assoc]
  rfl
theorem zrM{mk:List W->M W}{js:List Nat}{di:Sl->M Src}{e:Sl->M W}{sl:Sl}{ce ce0:Ce}{s:Src}(hi:di sl ce0=some (.ok s ce))(hst:s.Stays ce)(P:W->W->Prop)(h:∀x∈s.items,∃y,P x y/\e (some x::zdG js sl) ce=some (.ok y ce))(hz:s.items.length<=PySem.sizeLine) :
  ∃zs,dLC mk js di zdH e sl ce0=mk zs ce/\PySem.Paired P s.items zs:=by
 obtain⟨zs,e1,p⟩:=zof hst P s.items [] h (by simpa using hz)
 refine⟨zs,?_,p⟩
 show bnd (di sl) (fun s=>bnd (lcL s (zdG js sl) zdH e s.items []) mk) ce0=_
 rw[zbR hi,zbR e1,nil_append]
theorem zhD{s:Src}{cs:Sl}(hst:∀ce,s.Stays ce):∀(l ys:List W) (ce:Ce),ys.length+l.length<=PySem.sizeLine ->
  lcL s cs zdH (zbW zan) l ys ce=some (.ok (ys++(List.range l.length).map fun i=>W.cel (ce.length+i)) (ce++List.replicate l.length (C.lst [])))
 | [],ys,ce,_=>by simp[lcL,if_pos (hst ce)]
 | x::r,ys,ce,hz=>by
  have hl:ys.length<PySem.sizeLine:=by simp only[length_cons] at hz;omega
  have ih:=zhD (s:=s) (cs:=cs) hst r (ys++[W.cel ce.length]) (ce++[C.lst []]) (by simp only[length_append,length_cons,length_nil] at hz ⊢;omega)
  rw[zgz ⟨hst ce,hl⟩]
  show bnd (ret true) _ ce=_
  rw[zbR (m:=ret true) rfl]
  have ex:zbW zan (some x::cs) ce=some (.ok (W.cel ce.length) (ce++[C.lst []])):=by simp
  show bnd (zbW zan (some x::cs)) (fun y=>lcL s cs zdH (zbW zan) r (ys++[y])) ce=_
  rw[zbR ex,ih]
  have e1:(List.range (r.length+1)).map (fun i=>W.cel (ce.length+i))=W.cel ce.length::(List.range r.length).map fun i=>W.cel ((ce++[C.lst []]).length+i):=by
   rw[range_succ_eq_map,map_cons,map_map]
   congr 1
   apply map_congr_left
   intro i _
   simp only[Function.comp,length_append,length_cons,length_nil]
   congr 1
   omega
  have e2:ce++List.replicate (r.length+1) (C.lst [])=ce++[C.lst []]++List.replicate r.length (C.lst []):=by
   rw[replicate_succ,append_assoc];rfl
  rw[length_cons,e1,e2,append_assoc]
  rfl
theorem zrN{n:Nat}(h:n<=1000):zph [nW n]=some (.rng 0 n):=by
 have h1:(-4611686018427387904:Int)<=(n:Int)/\(n:Int)<4611686018427387904:=by omega
 simp only[zph,nW,if_pos h1,toNat_natCast]
theorem zrO{d:Sl->M (List W)}{sl:Sl}{ce ce':Ce}{n:Nat}(hd:d sl ce=some (.ok [nW n] ce'))(h:n<=1000):zf6 d sl ce=some (.ok (.rng 0 n) ce'):=by
 show bnd (d sl) (fun ws=>look (fun _=>zph ws)) ce=_
 rw[zbR hd]
 show(zph [nW n]).map _=_
 rw[zrN h]
 rfl
theorem zid(k:Int){n:Nat}(h:0<n):∃j:Nat,j<n/\k % (n:Int)=j:=by
 have h1:=emod_nonneg k (b:=(n:Int)) (by omega)
 have h2:=emod_lt_of_pos k (b:=(n:Int)) (by omega)
 exact⟨(k % (n:Int)).toNat,by omega,by omega⟩
theorem zhE{k:Int}{n j:Nat}(h:0<n)(e:k % (n:Int)=j):zbP (.int k) (.int (n:Int))=some (nW j):=by rw[zey (by omega),e];rfl
theorem zog{fin:Ce->Ce->W->Option (R W)}{n:Nat}{body:DS}{ws:List W}{ce ce':Ce}{sl:Sl}{w:W}{r:Option (R W)}(h:body (ws.map some++List.replicate (n-ws.length) none) ce=some (.go (.rt w) sl ce'))(hf:fin ce ce' w=r):dFn fin n body ws ce=r:=by
 unfold dFn
 rw[h]
 exact hf
theorem zmW{s:Src}{g:DG}{body:DS}{sl:Sl}{ce:Ce}(hst:s.Stays ce):zhf s g body [] sl ce=some (.go .nx sl ce):=by
 simp only[zhf,if_pos hst]
theorem zgF{di:Sl->M Src}{g:DG}{body:DS}{sl:Sl}{ce ce0:Ce}{src:Src}(hi:di sl ce=some (.ok src ce0)):zce di g body sl ce=zhf src g body src.items sl ce0:=by simp only[zce,lft,hi]
theorem zk7{i:Nat}{d:Sl->M W}{sl:Sl}{ce ce':Ce}{w:W}(h:d sl ce=some (.ok w ce')):zaU i d sl ce=some (.go .nx (sl.set i (some w)) ce'):=by simp only[zaU,lft,h]
theorem zrP{c:Sl->M Bool}{a b:DS}{sl:Sl}{ce ce':Ce}(h:c sl ce=some (.ok true ce')):dIf c a b sl ce=a sl ce':=by simp only[dIf,lft,h]
theorem zrQ{c:Sl->M Bool}{a b:DS}{sl:Sl}{ce ce':Ce}(h:c sl ce=some (.ok false ce')):dIf c a b sl ce=b sl ce':=by simp only[dIf,lft,h]
theorem zfk(n:Nat):(Src.rng 0 n).items=(List.range n).map nW:=by
 simp only[Src.items,Int.zero_add]
 rfl
theorem bels_nW(n:Nat):∀l:List Nat,zdl n (l.map nW)
 | []=>by simp only[map_nil,zdl]
 | a::r=>by simp only[map_cons,zdl,nW,Bel];exact⟨trivial,bels_nW n r⟩
theorem zoh(n:Nat)(b:List (List Nat)):Bel n (wB b):=by
 simp only[wB,Bel]
 induction b with
 | nil=>simp only[map_nil,zdl]
 | cons r b ih=>simp only[map_cons,zdl,wT,Bel];exact⟨bels_nW n r,ih⟩
def zcz(r:List Nat):List Nat:=(srt (toI r)).map Int.toNat
theorem zdK(r:List Nat):(srt (toI r)).map W.int=(zcz r).map nW:=by
 unfold zcz
 rw[map_map]
 apply map_congr_left
 intro x hx
 have hx':=(zbu (toI r)).subset hx
 obtain⟨y,_,rfl⟩:=mem_map.mp hx'
 show W.int (y:Int)=W.int (((y:Int).toNat:Nat):Int)
 simp
theorem zeR(r:List Nat)(x:Nat):x∈zcz r↔x∈r:=by
 unfold zcz
 constructor
 ·intro h
  obtain⟨z,hz,rfl⟩:=mem_map.mp h
  obtain⟨y,hy,rfl⟩:=mem_map.mp ((zbu (toI r)).subset hz)
  simpa using hy
 ·intro h
  refine mem_map.mpr ⟨(x:Int),(zbu (toI r)).symm.subset (mem_map.mpr ⟨x,h,rfl⟩),by simp⟩
theorem Reach.trans{b:List (List Nat)}{ok:Nat->Prop}{s x y:Nat}(h:Reach b ok s x)(h':Reach b ok x y):Reach b ok s y:=by
 induction h' with
 | refl=>exact h
 | step _ hy o ih=>exact .step ih hy o
theorem Reach.okOf{b:List (List Nat)}{ok:Nat->Prop}{s x:Nat}(hs:ok s)(h:Reach b ok s x):ok x:=by
 cases h with
 | refl=>exact hs
 | step _ _ o=>exact o
theorem Reach.symm{b:List (List Nat)}{ok:Nat->Prop}{s x:Nat}(sym:∀i j,j∈b.getD i []->i∈b.getD j [])(hs:ok s)(h:Reach b ok s x):Reach b ok x s:=by
 induction h with
 | refl=>exact .refl
 | step h hy o ih=>exact Reach.trans (.step .refl (sym _ _ hy) (h.okOf hs)) ih
theorem Paired.nth{α β:Type}{P:α->β->Prop}{l:List α}{m:List β}(h:PySem.Paired P l m):l.length=m.length/\∀(i:Nat) (a:α) (b:β),l[i]?=some a->m[i]?=some b->P a b:=by
 refine⟨PySem.Paired.length h,fun i a b h1 h2=>?_⟩
 obtain⟨b',e,p⟩:=L2.Paired.at2 h i a h1
 rw[h2] at e;cases e;exact p
def Run(s:DS)(sl:Sl)(ce:Ce)(Q:O->Prop):Prop:=∃o,s sl ce=some o/\Q o
def Nx(P:Sl->Ce->Prop):O->Prop
 | .go .nx sl ce=>P sl ce
 | .go .ct sl ce=>P sl ce
 | _=>False
def Rt(P:W->Ce->Prop):O->Prop
 | .go (.rt w) _ ce=>P w ce
 | _=>False
def NR(P:Sl->Ce->Prop)(T:W->Ce->Prop):O->Prop
 | .go .nx sl ce=>P sl ce
 | .go .ct sl ce=>P sl ce
 | .go (.rt w) _ ce=>T w ce
 | _=>False
section
variable {s a b:DS} {sl sl':Sl} {ce ce' c1 c2 c3:Ce} {Q Q':O->Prop} {d e:Sl->M W} {w x y:W} {i:Nat} {p q:Bool} {ta tb:Sl->M Bool}
theorem Run.mono(h:Run s sl ce Q)(m:∀o,Q o->Q' o):Run s sl ce Q':=by
 obtain⟨o,e,q⟩:=h;exact⟨o,e,m o q⟩
theorem zrR{o:O}(h:s sl ce=some o)(q:Q o):Run s sl ce Q:=⟨o,h,q⟩
theorem zaT(q:Q (.go .nx sl ce)):Run zaP sl ce Q:=⟨_,rfl,q⟩
theorem zie(h:e sl ce=some (.ok w ce'))(q:Q (.go .nx (sl.set i (some w)) ce')):Run (zaU i e) sl ce Q:=⟨_,zk7 h,q⟩
theorem zap(h:e sl ce=some (.ok w ce'))(q:Q (.go (.rt w) sl ce')):Run (za7 e) sl ce Q:=⟨_,by simp only[za7,lft,h],q⟩
theorem ziX(h:e sl ce=some (.ok w ce'))(q:Q (.go .nx sl ce')):Run (dEx e) sl ce Q:=⟨_,by simp only[dEx,lft,h],q⟩
theorem za6(h:ta sl ce=some (.ok p ce'))(ht:p=true->Run a sl ce' Q)(hf:p=false->Run b sl ce' Q):Run (dIf ta a b) sl ce Q:=by
 cases p with
 | true=>obtain⟨o,e,q⟩:=ht rfl;exact⟨o,by rw[zrP h];exact e,q⟩
 | false=>obtain⟨o,e,q⟩:=hf rfl;exact⟨o,by rw[zrQ h];exact e,q⟩
theorem zb8(h:a sl ce=some (.go .nx sl' ce'))(q:Run b sl' ce' Q):Run (zaq a b) sl ce Q:=by
 obtain⟨o,e,q⟩:=q;exact⟨o,by rw[zk2 h];exact e,q⟩
theorem zao(h:e sl ce=some (.ok w ce'))(q:Run b (sl.set i (some w)) ce' Q):Run (zaq (zaU i e) b) sl ce Q:=zb8 (zk7 h) q
theorem zf9(h:e sl ce=some (.ok w ce'))(q:Run b sl ce' Q):Run (zaq (dEx e) b) sl ce Q:=zb8 (by simp only[dEx,lft,h]) q
theorem zjM{c:DS}:zaq (zaq a b) c=zaq a (zaq b c):=by
 funext sl ce
 simp only[zaq]
 cases a sl ce with
 | none=>rfl
 | some o=>cases o with
  | ex x c=>rfl
  | go f sl' ce'=>cases f<;>rfl
theorem zbi{c:DS}(h:Run (zaq a (zaq b c)) sl ce Q):Run (zaq (zaq a b) c) sl ce Q:=by rw[zjM];exact h
theorem zaK{c:DS}(h:Run c sl ce Q):Run (zaq zaP c) sl ce Q:=h
theorem zdu{c:DS}(h:Run (za7 e) sl ce Q):Run (zaq (za7 e) c) sl ce Q:=by
 obtain⟨o,e',q⟩:=h
 refine⟨o,?_,q⟩
 simp only[zaq]
 simp only[za7,lft] at e' ⊢
 cases h:e sl ce with
 | none=>rw[h] at e';cases e'
 | some r=>rw[h] at e';cases r<;>exact e'
theorem zaQ{c:DS}(h:ta sl ce=some (.ok p ce'))(ht:p=true->Run (zaq a c) sl ce' Q)(hf:p=false->Run (zaq b c) sl ce' Q):Run (zaq (dIf ta a b) c) sl ce Q:=by
 cases p with
 | true=>obtain⟨o,e,q⟩:=ht rfl;exact⟨o,by rw[<- e];simp only[zaq,zrP h],q⟩
 | false=>obtain⟨o,e,q⟩:=hf rfl;exact⟨o,by rw[<- e];simp only[zaq,zrQ h],q⟩
end
section
variable {α:Type} {en:α->W} {src:Src} {g:DG} {body b:DS} {Q:O->Prop}
theorem zdL(xs:List α)(R:List α->Sl->Ce->Prop)(T:W->Ce->Prop)(step:∀d x r sl ce,d++x::r=xs->R d sl ce->src.Stays ce/\∃sl1,g (en x) sl ce=some (sl1,ce)/\Run body sl1 ce (NR (R (d++[x])) T))(hst:∀sl ce,R xs sl ce->src.Stays ce) :
  ∀(r d:List α) (sl:Sl) (ce:Ce),d++r=xs->R d sl ce->Run (zhf src g body (r.map en)) sl ce fun o=>(∃sl' ce',o=.go .nx sl' ce'/\R xs sl' ce')\/∃w sl' ce',o=.go (.rt w) sl' ce'/\T w ce'
 | [],d,sl,ce,e,h=>by
  rw[append_nil] at e
  subst e
  exact⟨_,zmW (hst _ _ h),.inl ⟨_,_,rfl,h⟩⟩
 | x::r,d,sl,ce,e,h=>by
  obtain⟨hs,sl1,e1,o,e2,q⟩:=step d x r sl ce e h
  have go:∀sl2 ce2,R (d++[x]) sl2 ce2->Run (zhf src g body (r.map en)) sl2 ce2 fun o=>(∃sl' ce',o=.go .nx sl' ce'/\R xs sl' ce')\/∃w sl' ce',o=.go (.rt w) sl' ce'/\T w ce':=fun sl2 ce2 h2=>zdL xs R T step hst r (d++[x]) sl2 ce2 (by rw[append_assoc];exact e) h2
  cases o with
  | ex x c=>exact q.elim
  | go f sl2 ce2 =>
   cases f with
   | nx =>
    obtain⟨o,e3,q3⟩:=go sl2 ce2 q
    exact⟨o,by simp only[map_cons,zhf,if_pos hs,e1,e2];exact e3,q3⟩
   | ct =>
    obtain⟨o,e3,q3⟩:=go sl2 ce2 q
    exact⟨o,by simp only[map_cons,zhf,if_pos hs,e1,e2];exact e3,q3⟩
   | bk=>exact q.elim
   | rt w=>exact⟨.go (.rt w) sl2 ce2,by simp only[map_cons,zhf,if_pos hs,e1,e2],.inr ⟨w,sl2,ce2,rfl,q⟩⟩
theorem zif{di:Sl->M Src}{sl:Sl}{ce ce0:Ce}{i:Nat}{xs:List α}(hi:di sl ce=some (.ok src ce0))(hx:src.items=xs.map en)(R:List α->Sl->Ce->Prop)(h0:R [] sl ce0)(step:∀d x r sl ce,d++x::r=xs->x∈xs->R d sl ce->src.Stays ce/\Run body (sl.set i (some (en x))) ce (Nx (R (d++[x]))))(hst:∀sl ce,R xs sl ce->src.Stays ce)(fin:∀sl ce,R xs sl ce->Q (.go .nx sl ce)):Run (zce di (gN i) body) sl ce Q:=by
 obtain⟨o,e,q⟩:=zdL (g:=gN i) (body:=body) (en:=en) (src:=src) xs R (fun _ _=>False) (fun d x r sl ce e h=>by
  obtain⟨h1,h2⟩:=step d x r sl ce e (by rw[<- e];simp) h
  exact⟨h1,_,rfl,h2.mono fun o q=>by
   cases o with
   | ex x c=>exact q.elim
   | go f sl2 ce2=>cases f<;>first|exact q|exact q.elim⟩) hst xs [] sl ce0 rfl h0
 rcases q with ⟨sl',ce',rfl,h⟩|⟨w,sl',ce',rfl,h⟩
 ·exact⟨_,by rw[zgF hi,hx];exact e,fin _ _ h⟩
 ·exact h.elim
theorem zig{di:Sl->M Src}{sl:Sl}{ce ce0:Ce}{i:Nat}{xs:List α}(hi:di sl ce=some (.ok src ce0))(hx:src.items=xs.map en)(R:List α->Sl->Ce->Prop)(h0:R [] sl ce0)(step:∀d x r sl ce,d++x::r=xs->x∈xs->R d sl ce->src.Stays ce/\Run body (sl.set i (some (en x))) ce (Nx (R (d++[x]))))(hst:∀sl ce,R xs sl ce->src.Stays ce)(fin:∀sl ce,R xs sl ce->Run b sl ce Q):Run (zaq (zce di (gN i) body) b) sl ce Q:=by
 obtain⟨o,e,q⟩:=zif (Q:=fun o=>∃sl' ce',o=.go .nx sl' ce'/\Run b sl' ce' Q) (body:=body) (i:=i) hi hx R h0 step hst fun sl ce h=>⟨sl,ce,rfl,fin sl ce h⟩
 obtain⟨sl',ce',rfl,h⟩:=q
 exact zb8 e h
theorem zk8{σ:Type}{c:Sl->M Bool}{sl:Sl}{ce:Ce}{fu:Nat}(R:σ->Sl->Ce->Prop)(m:σ->Nat)(s0:σ)(h0:R s0 sl ce)(hm:m s0<fu)(step:∀s sl ce,R s sl ce->∃p,c sl ce=some (.ok p ce)/\(p=true->Run body sl ce (Nx fun sl2 ce2=>∃s2,m s2<m s/\R s2 sl2 ce2))/\(p=false->Q (.go .nx sl ce))):Run (zcx c body fu) sl ce Q:=by
 induction fu generalizing s0 sl ce with
 | zero=>exact absurd hm (not_lt_zero _)
 | succ fu ih =>
  obtain⟨p,e,ht,hf⟩:=step s0 sl ce h0
  cases p with
  | false=>exact⟨_,by simp only[zcx,lft,e],hf rfl⟩
  | true =>
   obtain⟨o,e2,q⟩:=ht rfl
   cases o with
   | ex x c=>exact q.elim
   | go f sl2 ce2 =>
    cases f with
    | nx =>
     obtain⟨s2,hs,r⟩:=q
     obtain⟨o,e3,q3⟩:=ih s2 r (by omega)
     exact⟨o,by simp only[zcx,lft,e,e2];exact e3,q3⟩
    | ct =>
     obtain⟨s2,hs,r⟩:=q
     obtain⟨o,e3,q3⟩:=ih s2 r (by omega)
     exact⟨o,by simp only[zcx,lft,e,e2];exact e3,q3⟩
    | bk=>exact q.elim
    | rt w=>exact q.elim
theorem zpn{a b:DS}{sl:Sl}{ce:Ce}(h:Run a sl ce fun o=>∃sl' ce',o=.go .nx sl' ce'/\Run b sl' ce' Q):Run (zaq a b) sl ce Q:=by
 obtain⟨o,e,sl',ce',rfl,q⟩:=h
 exact zb8 e q
end
section
variable {sl:Sl} {ce c1 c2 c3:Ce} {a b:Sl->M W} {w x y:W} {i:Nat} {p q:Bool} {ta tb:Sl->M Bool} {ra:Sl->M (List W)} {xs ws:List W} {src:Src}
theorem zag(h:sl[i]?=some (some w)):zae i sl ce=some (.ok w ce):=by simp only[zae,h]
theorem za1:dC w sl ce=some (.ok w ce):=rfl
theorem zaW{f:W->W->Option W}(ha:a sl ce=some (.ok x c1))(hb:b sl c1=some (.ok y c2))(h:f x y=some w):dOp f a b sl ce=some (.ok w c2):=by simp only[dOp,bnd,look,ha,hb,h,map_some]
theorem zaJ{f:Ce->W->W->Option W}(ha:a sl ce=some (.ok x c1))(hb:b sl c1=some (.ok y c2))(h:f c2 x y=some w):zaL f a b sl ce=some (.ok w c2):=by simp only[zaL,bnd,look,ha,hb,h,map_some]
theorem zcL{f:W->Option W}(ha:a sl ce=some (.ok x c1))(h:f x=some w):dUn f a sl ce=some (.ok w c1):=by simp only[dUn,bnd,look,ha,h,map_some]
theorem zcj(ha:a sl ce=some (.ok (.bl p) c1)):dB a sl ce=some (.ok p c1):=by simp only[dB,bnd,look,ha,map_some]
theorem zk9(ha:a sl ce=some (.ok x c1))(h:zh7 c1 x=some p):zl2 a sl ce=some (.ok p c1):=by simp only[zl2,bnd,look,ha,h,map_some]
theorem zih(ha:ta sl ce=some (.ok p c1))(hb:p=true->tb sl c1=some (.ok q c1)):zeH ta tb sl ce=some (.ok (p&&q) c1):=by
 cases p with
 | true=>simp only[zeH,bnd,ha,hb rfl,Bool.true_and]
 | false=>simp only[zeH,bnd,ha,Bool.false_and];rfl
theorem zla(ha:ta sl ce=some (.ok p c1))(hb:p=false->tb sl c1=some (.ok q c1)):zl4 ta tb sl ce=some (.ok (p||q) c1):=by
 cases p with
 | true=>simp only[zl4,bnd,ha,Bool.true_or];rfl
 | false=>simp only[zl4,bnd,ha,hb rfl,Bool.false_or]
theorem zcM(ha:ta sl ce=some (.ok p c1)):zdf ta sl ce=some (.ok (!p) c1):=by simp only[zdf,bnd,ha];rfl
theorem zoi(hc:ta sl ce=some (.ok p c1))(ht:p=true->a sl c1=some (.ok x c1))(hf:p=false->b sl c1=some (.ok y c1)):zrj ta a b sl ce=some (.ok (if p=true then x else y) c1):=by
 cases p with
 | true=>simp only[zrj,bnd,hc,ht rfl,if_true]
 | false=>simp[zrj,bnd,hc,hf rfl]
theorem zam:zan sl ce=some (.ok [] ce):=rfl
theorem zak(ha:a sl ce=some (.ok x c1))(hr:ra sl c1=some (.ok xs c2)):zac a ra sl ce=some (.ok (x::xs) c2):=by simp only[zac,bnd,ha,hr];rfl
theorem za9{f:List W->M W}(hr:ra sl ce=some (.ok ws c1))(h:f ws c1=some (.ok w c2)):dBi f ra sl ce=some (.ok w c2):=by simp only[dBi,bnd,hr,h]
theorem zaB{f:List W->M W}{n:Nat}(hr:ra sl ce=some (.ok ws c1))(hl:ws.length=n)(h:f ws c1=some (.ok w c2)):zaH n f ra sl ce=some (.ok w c2):=by simp only[zaH,bnd,hr,if_pos hl,h]
theorem zcN(hr:ra sl ce=some (.ok ws c1))(hl:ws.length<=PySem.sizeLine):zfb ra sl ce=some (.ok (.tup ws) c1):=by simp only[zfb,bnd,hr,mkF,if_pos hl]
theorem zeB(hr:ra sl ce=some (.ok ws c1))(hl:ws.length<=PySem.sizeLine):zhZ ra sl ce=some (.ok (.lst ws) c1):=by simp only[zhZ,bnd,hr,mkF,if_pos hl]
theorem zck(hr:ra sl ce=some (.ok ws c1))(hl:ws.length<=PySem.sizeLine):zbW ra sl ce=some (.ok (.cel c1.length) (c1++[.lst ws])):=by simp only[zbW,bnd,hr,mkC,if_pos hl]
theorem zfl:zfP sl ce=some (.ok (.cel ce.length) (ce++[.dct []])):=by simp[zfP,mkC]
theorem zhF{f:W->List W->M W}{ys:List W}(ha:a sl ce=some (.ok x c1))(hl:zcw c1 x=some ys)(hr:ra sl c1=some (.ok ws c2))(h:f x ws c2=some (.ok w c3)):dMt f a ra sl ce=some (.ok w c3):=by simp only[dMt,bnd,ha,look,zl7,hl,hr,h,map_some]
theorem zrS{f:W->List W->M W}{ys:List W}(ha:a sl ce=some (.ok x c1))(hl:zcw c1 x=some ys)(h:f x [] c1=some (.ok w c3)):zrv f a sl ce=some (.ok w c3):=by simp only[zrv,bnd,ha,look,zl7,hl,h,map_some]
theorem zlb(ha:a sl ce=some (.ok x c1))(h:zib c1 x=some src):dIL a sl ce=some (.ok src c1):=by simp only[dIL,bnd,ha,look,h,map_some]
theorem zrT(ha:a sl ce=some (.ok x c1))(h:ztv x=some src):dIT a sl ce=some (.ok src c1):=by simp only[dIT,bnd,ha,look,h,map_some]
theorem zlc{n:Nat}(ha:ra sl ce=some (.ok [nW n] c1))(h:n<=1000):zf6 ra sl ce=some (.ok (.rng 0 n) c1):=zrO ha h
theorem zrU{α:Type}{mk:List W->M W}{js:List Nat}{di:Sl->M Src}{c:Sl->M Bool}{e:Sl->M W}{en:α->W}{zs:List α}{t:α->Bool}{g:α->W}(hi:di sl ce=some (.ok src c1))(hx:src.items=zs.map en)(hst:src.Stays c1)(hc:∀x∈zs,c (some (en x)::zdG js sl) c1=some (.ok (t x) c1))(he:∀x∈zs,t x=true->e (some (en x)::zdG js sl) c1=some (.ok (g x) c1))(hz:zs.length<=PySem.sizeLine)(hm:mk ((zs.filter t).map g) c1=some (.ok w c2)):dLC mk js di c e sl ce=some (.ok w c2):=by
 have key:∀(l:List α) (ys:List W),(∀x∈l,x∈zs)->ys.length+l.length<=PySem.sizeLine->lcL src (zdG js sl) c e (l.map en) ys c1=some (.ok (ys++(l.filter t).map g) c1):=by
  intro l
  induction l with
  | nil=>intro ys _ _;simp only[map_nil,lcL,if_pos hst,filter_nil,append_nil]
  | cons x r ih =>
   intro ys hl hz
   simp only[length_cons] at hz
   rw[map_cons,zgz ⟨hst,by omega⟩,zbR (hc x (hl x mem_cons_self))]
   cases ht:t x with
   | true =>
    show bnd (e (some (en x)::zdG js sl)) (fun y=>lcL src (zdG js sl) c e (r.map en) (ys++[y])) c1=_
    rw[zbR (he x (hl x mem_cons_self) ht),ih _ (fun y hy=>hl y (mem_cons_of_mem _ hy)) (by simp only[length_append,length_cons,length_nil];omega),filter_cons_of_pos ht,map_cons,append_assoc]
    rfl
   | false =>
    show lcL src (zdG js sl) c e (r.map en) ys c1=_
    rw[ih _ (fun y hy=>hl y (mem_cons_of_mem _ hy)) (by omega),filter_cons_of_neg (by simp[ht])]
 show bnd (di sl) (fun s=>bnd (lcL s (zdG js sl) c e s.items []) mk) ce=_
 rw[zbR hi,hx,zbR (key zs [] (fun _ h=>h) (by simpa using hz)),nil_append]
 exact hm
theorem zcO(h:xs.length<=PySem.sizeLine):zbf xs ce=some (.ok (.lst xs) ce):=if_pos h
theorem zdv(h:xs.length<=PySem.sizeLine):zgx xs ce=some (.ok (.cel ce.length) (ce++[.lst xs])):=if_pos h
theorem zoj{o i v:Sl->M W}{ow iw:W}{key:Key}{k:Nat}{kvs:List (Key×W)}{Q:O->Prop}(h1:v sl ce=some (.ok w c1))(h2:o sl c1=some (.ok ow c2))(h3:i sl c2=some (.ok iw c3))(h4:zj3 iw=some key)(h5:zn6 c3 ow=some (k,kvs))(h6:kvs.length<PySem.sizeLine)(q:Q (.go .nx sl (c3.set k (.dct (zjF kvs key w))))):Run (zjI o i v) sl ce Q:=⟨_,zod h1 h2 h3 h4 h5 h6,q⟩
theorem zpo{o i v:Sl->M W}{s:DS}{ow iw:W}{key:Key}{k:Nat}{kvs:List (Key×W)}{Q:O->Prop}(h1:v sl ce=some (.ok w c1))(h2:o sl c1=some (.ok ow c2))(h3:i sl c2=some (.ok iw c3))(h4:zj3 iw=some key)(h5:zn6 c3 ow=some (k,kvs))(h6:kvs.length<PySem.sizeLine)(q:Run s sl (c3.set k (.dct (zjF kvs key w))) Q):Run (zaq (zjI o i v) s) sl ce Q:=zb8 (zod h1 h2 h3 h4 h5 h6) q
end
structure Own (b ce:Ce) (l:List (Nat×C)):Prop where
 cut:∃t,ce=b++t
 get:∀p∈l,ce[p.1]?=some p.2
 ge:∀p∈l,b.length<=p.1
 nd:(l.map Prod.fst).Nodup
namespace Own
variable {b ce:Ce} {l:List (Nat×C)} {k k1 k2 k3:Nat} {c c' q1 q2 q3:C}
theorem start(b:Ce):Own b b []:=⟨⟨[],by simp⟩,by simp,by simp,by simp⟩
theorem alloc(h:Own b ce l)(c:C):Own b (ce++[c]) ((ce.length,c)::l):=by
 obtain⟨⟨t,e⟩,h2,h3,h4⟩:=h
 have lt:∀p∈l,p.1<ce.length:=fun p hp=>by
  have:=h2 p hp
  exact(List.getElem?_eq_some_iff.mp this).1
 refine⟨⟨t++[c],by rw[e,append_assoc]⟩,fun p hp=>?_,fun p hp=>?_,?_⟩
 ·rcases mem_cons.mp hp with rfl|hp
  ·exact zhC _ _
  ·rw[getElem?_append_left (lt p hp)];exact h2 p hp
 ·rcases mem_cons.mp hp with rfl|hp
  ·simp[e]
  ·exact h3 p hp
 ·simp only[map_cons,nodup_cons]
  exact⟨fun q=>by obtain⟨p,hp,e⟩:=mem_map.mp q;have:=lt p hp;omega,h4⟩
theorem perm{l':List (Nat×C)}(h:Own b ce l)(p:l.Perm l'):Own b ce l' :=
 ⟨h.cut,fun q hq=>h.get q (p.symm.subset hq),fun q hq=>h.ge q (p.symm.subset hq),(p.map _).nodup h.nd⟩
theorem g0(h:Own b ce ((k,c)::l)):ce[k]?=some c:=h.get _ mem_cons_self
theorem g1(h:Own b ce ((k1,q1)::(k,c)::l)):ce[k]?=some c:=h.get (k,c) (by simp)
theorem g2(h:Own b ce ((k1,q1)::(k2,q2)::(k,c)::l)):ce[k]?=some c:=h.get (k,c) (by simp)
theorem drop(h:Own b ce ((k,c)::l)):Own b ce l:=⟨h.cut,fun p hp=>h.get p (mem_cons_of_mem _ hp),fun p hp=>h.ge p (mem_cons_of_mem _ hp),(nodup_cons.mp h.nd).2⟩
theorem set0(h:Own b ce ((k,c)::l))(c':C):Own b (ce.set k c') ((k,c')::l):=by
 have hk:k<ce.length:=(List.getElem?_eq_some_iff.mp h.g0).1
 obtain⟨⟨t,e⟩,h2,h3,h4⟩:=h
 have hb:=h3 (k,c) mem_cons_self
 have hn:∀p∈l,p.1≠k:=fun p hp q=>(nodup_cons.mp h4).1 (mem_map.mpr ⟨p,hp,q⟩)
 refine⟨⟨t.set (k-b.length) c',?_⟩,fun p hp=>?_,fun p hp=>?_,h4⟩
 ·rw[e,set_append_right _ _ hb]
 ·rcases mem_cons.mp hp with rfl|hp
  ·simp[hk]
  ·rw[getElem?_set_ne (Ne.symm (hn p hp))];exact h2 p (mem_cons_of_mem _ hp)
 ·rcases mem_cons.mp hp with rfl|hp
  ·exact hb
  ·exact h3 p (mem_cons_of_mem _ hp)
theorem set1(h:Own b ce ((k1,q1)::(k,c)::l))(c':C):Own b (ce.set k c') ((k1,q1)::(k,c')::l):=((h.perm (.swap _ _ _)).set0 c').perm (.swap _ _ _)
theorem set2(h:Own b ce ((k1,q1)::(k2,q2)::(k,c)::l))(c':C):Own b (ce.set k c') ((k1,q1)::(k2,q2)::(k,c')::l) :=
 ((h.perm (.trans (.cons _ (.swap _ _ _)) (.swap _ _ _))).set0 c').perm (.trans (.swap _ _ _) (.cons _ (.swap _ _ _)))
theorem finC(h:Own b ce l){w:W}(hb:Bel b.length w):finC b ce w=some (.ok w b):=by
 obtain⟨t,rfl⟩:=h.cut
 exact zch hb
theorem finO(h:Own b ce ((k,c)::l))(hb:zf7 b.length c):finO b ce (.cel k)=some (.ok (.cel b.length) (b++[c])):=by
 have g:=h.g0
 have ge:=h.ge _ mem_cons_self
 obtain⟨t,rfl⟩:=h.cut
 obtain⟨j,hj⟩:=exists_eq_add_of_le ge
 have hj':k=b.length+j:=hj
 subst hj'
 exact zmR (by rw[<- zsx b t j];exact g) hb
end Own
theorem zfY{fin:Ce->Ce->W->Option (R W)}{n:Nat}{body:DS}{ws:List W}{ce:Ce}{r:Option (R W)}(h:Run body (ws.map some++List.replicate (n-ws.length) none) ce (Rt fun w ce'=>fin ce ce' w=r)):dFn fin n body ws ce=r:=by
 obtain⟨o,e,q⟩:=h
 cases o with
 | ex x c=>exact q.elim
 | go f sl c=>cases f with
  | rt w=>exact zog e q
  | nx=>exact q.elim
  | bk=>exact q.elim
  | ct=>exact q.elim
section
variable {ce:Ce} {k n p j:Nat} {b:List (List Nat)} {is:List Int} {l:List Nat} {xs:List W}
abbrev wS(is:List Int):W:=.tup (is.map W.int)
abbrev wL(l:List Nat):W:=.lst (l.map nW)
abbrev sW(ns:List Int):W:=.lst (ns.map W.int)
theorem zrV(h:p<b.length):ixW ce (wB b) (nW p)=some (wT (b.getD p [])):=by
 rw[zfQ (xs:=b.map wT) rfl,getElem?_map,getD_eq_getElem?_getD,getElem?_eq_getElem h];rfl
theorem zok(h:p<l.length):ixW ce (wL l) (nW p)=some (nW (l.getD p 0)):=by
 rw[zfQ (xs:=l.map nW) rfl,getElem?_map,getD_eq_getElem?_getD,getElem?_eq_getElem h];rfl
theorem zbz(h:p<is.length):ixW ce (wS is) (nW p)=some (.int (is.getD p 0)):=by
 rw[zfQ (xs:=is.map W.int) rfl,getElem?_map,getD_eq_getElem?_getD,getElem?_eq_getElem h];rfl
theorem zol(g:ce[k]?=some (.lst (l.map nW)))(h:p<l.length):ixW ce (.cel k) (nW p)=some (nW (l.getD p 0)):=by
 rw[zfQ (zbD g),getElem?_map,getD_eq_getElem?_getD,getElem?_eq_getElem h];rfl
theorem zpp(g:ce[k]?=some (.lst (l.map nW))):zbQ [.cel k] ce=some (.ok (nW l.length) ce):=by simp only[zbQ,zbD g,length_map];rfl
theorem zld:zbQ [wL l] ce=some (.ok (nW l.length) ce):=by simp[zbQ];rfl
theorem zle:zbQ [wB b] ce=some (.ok (nW b.length) ce):=by simp[zbQ,wB];rfl
theorem zlf:zbQ [wS is] ce=some (.ok (nW is.length) ce):=by simp[zbQ];rfl
theorem zrW(g:ce[k]?=some (.lst (l.map nW))){ng:Bool}:inW ng ce (nW p) (.cel k)=some (.bl (if ng then !decide (p∈l) else decide (p∈l))):=zrL (zbD g) ng
theorem zpq{F:List Nat}(g:ce[k]?=some (.dct (kvs F))){ng:Bool}:zn5 ng ce (nW p) (.cel k)=some (.bl (if ng then !decide (p∈F) else decide (p∈F))):=by
 have ky:zj3 (nW p)=some (.inl (p:Int)):=rfl
 simp only[zn5,ky,zoe g,zpm]
theorem ziY{y:W}(g:ce[k]?=some (.lst xs))(h:xs.length<PySem.sizeLine):zex (.cel k) [y] ce=some (.ok .non (ce.set k (.lst (xs++[y])))):=zmT (zez g) h
end
open L2
def ins(F:List Nat)(y:Nat):List Nat:=if y∈F then F else F++[y]
theorem ins_mem{F:List Nat}{y x:Nat}:x∈ins F y↔x∈F\/x=y:=by
 unfold ins
 split
 ·rename_i h
  exact⟨.inl,fun q=>q.elim id fun e=>e▸h⟩
 ·simp
theorem zfm{F:List Nat}{y:Nat}(h:F.Nodup):(ins F y).Nodup:=by
 unfold ins
 split
 ·exact h
 ·rename_i hn
  rw[nodup_append]
  exact⟨h,by simp,fun a ha b hb=>by rw[mem_singleton] at hb;subst hb;intro q;subst q;exact hn ha⟩
theorem zdw(F:List Nat)(y:Nat):zjF (kvs F) (.inl (y:Int)) (.bl true)=kvs (ins F y):=by
 unfold ins
 split
 ·rename_i h
  have e:((kvs F).any fun kv=>decide (kv.1=(.inl (y:Int):Key)))=true:=any_eq_true.mpr ⟨(.inl (y:Int),.bl true),mem_map.mpr ⟨y,h,rfl⟩,by simp⟩
  unfold zjF
  rw[e]
  simp only[if_true]
  conv=>rhs;rw[<- map_id (kvs F)]
  apply map_congr_left
  intro p hp
  obtain⟨x,hx,rfl⟩:=mem_map.mp hp
  simp only[id]
  split
  ·rename_i q;simp at q;rw[q]
  ·rfl
 ·rename_i h;exact zic F y h
theorem zda{F:List Nat}{n:Nat}(nd:F.Nodup)(lt:∀x∈F,x<n):zcz F=(List.range n).filter fun x=>decide (x∈F):=by
 have h:srt (toI F)=toI ((List.range n).filter fun x=>decide (x∈F)):=by
  refine zcg ((zbu _).trans ?_) (zc9 _) ?_
  ·refine List.Perm.map _ (zdJ nd (List.Pairwise.filter _ nodup_range) fun x=>?_)
   simp only[mem_filter,mem_range,decide_eq_true_eq]
   exact⟨fun h=>⟨lt x h,h⟩,fun h=>h.2⟩
  ·unfold toI
   rw[pairwise_map]
   exact(List.Pairwise.filter _ pairwise_lt_range).imp fun h=>by omega
 unfold zcz
 rw[h]
 unfold toI
 rw[map_map]
 conv=>rhs;rw[<- map_id (List.filter _ _)]
 apply map_congr_left
 intro x _
 simp
theorem ziZ{ce:Ce}{k:Nat}{F:List Nat}{mk:List W->M W}(g:ce[k]?=some (.dct (kvs F)))(h:F.length<64):zaS mk [.cel k] ce=mk ((zcz F).map nW) ce:=by
 have l:zcw ce (.cel k)=none:=by simp only[zcw,g]
 have g':zl3 ce (.cel k)=some (kvs F):=by simp only[zl3,g]
 simp only[zaS,l,g',zgD,zbG,if_pos h,zdK]
inductive DctOf (ce:Ce):W->List Nat->Prop where
 | cl {k:Nat} {F:List Nat} (g:ce[k]?=some (.dct (kvs F))):DctOf ce (.cel k) F
 | fz {k:Nat} {F:List Nat} (g:ce[k]?=some (.fzd (kvs F))):DctOf ce (.cel k) F
theorem zi0{ce:Ce}{w:W}{F:List Nat}{mk:List W->M W}(h:DctOf ce w F):zeJ mk [w] ce=mk (F.map nW) ce:=by
 have e:(toI F).map W.int=F.map nW:=by unfold toI;rw[map_map];rfl
 cases h with
 | cl g =>
  rename_i k
  have l:ze7 ce (.cel k)=none:=by simp only[ze7,zcw,g]
  have g':zl3 ce (.cel k)=some (kvs F):=by simp only[zl3,g]
  simp only[zeJ,l,g',zgD,e]
 | fz g =>
  rename_i k
  have l:ze7 ce (.cel k)=none:=by simp only[ze7,zcw,g]
  have g':zl3 ce (.cel k)=some (kvs F):=by simp only[zl3,g]
  simp only[zeJ,l,g',zgD,e]
theorem zmX{ce:Ce}{k:Nat}{l:List Nat}{mk:List W->M W}(g:ce[k]?=some (.lst (l.map nW)))(h:l.length<64):zaS mk [.cel k] ce=mk ((zcz l).map nW) ce:=by
 simp only[zaS,zcK g,zeP,zbG,if_pos h,zdK]
inductive LstOf (ce:Ce):W->List W->Prop where
 | fr (xs:List W):LstOf ce (.lst xs) xs
 | cl {k:Nat} {xs:List W} (h:ce[k]?=some (.lst xs)):LstOf ce (.cel k) xs
namespace LstOf
variable {ce:Ce} {w:W} {xs:List W}
theorem drf(h:LstOf ce w xs):drf ce w=.lst xs:=by
 cases h with
 | fr=>rfl
 | cl h=>simp only[VS.drf,h]
theorem src(h:LstOf ce w xs):∃s,zib ce w=some s/\s.items=xs/\s.Stays ce:=by
 cases h with
 | fr=>exact⟨.lst xs,rfl,rfl,trivial⟩
 | cl h=>exact⟨.cell _ xs,by simp only[zib,h],rfl,h⟩
theorem eqI{w':W}{l m:List Int}(h:LstOf ce w (l.map W.int))(h':LstOf ce w' (m.map W.int))(ng:Bool):eqW ng ce w w'=some (.bl (if ng then !decide (l=m) else decide (l=m))):=by
 have c1:cln 8 (.lst (l.map W.int))=true:=zeQ l 7
 have c2:cln 8 (.lst (m.map W.int))=true:=zeQ m 7
 simp only[eqW,h.drf,h'.drf,c1,c2,zmV,Bool.and_self,if_true]
theorem eqN{w':W}{l m:List Nat}(h:LstOf ce w (l.map nW))(h':LstOf ce w' (m.map nW))(ng:Bool):eqW ng ce w w'=some (.bl (if ng then !decide (l=m) else decide (l=m))):=by
 rw[zk5] at h h'
 rw[h.eqI h' ng]
 have inj:(toI l=toI m)↔l=m:=by
  unfold toI
  exact⟨fun h=>by simpa using List.map_inj_right (f:=fun(x:Nat)=>(x:Int)) (fun x y h=>by have h:(x:Int)=(y:Int):=h;omega) |>.mp h,fun h=>by rw[h]⟩
 simp only[inj]
end LstOf
theorem zgG{ce:Ce}{w:W}{xs:List W}(h:LstOf ce w xs)(hz:xs.length<=PySem.sizeLine):zbn [w] ce=some (.ok (.tup xs) ce):=by
 cases h with
 | fr=>exact if_pos hz
 | cl h=>simp only[zbn,zcK h];exact if_pos hz
theorem zii{ce:Ce}{w:W}{xs:List W}{mk:List W->M W}(h:ze7 ce w=some xs):zeJ mk [w] ce=mk xs ce:=by simp only[zeJ,h]
def zfR(di:Sl->M Src)(sl:Sl)(ce c1:Ce)(xs:List W):Prop:=∃s,di sl ce=some (.ok s c1)/\s.items=xs/\s.Stays c1
def SrcFix(di:Sl->M Src)(sl:Sl)(ce c1:Ce)(xs:List W):Prop:=∃s,di sl ce=some (.ok s c1)/\s.items=xs/\∀c,s.Stays c
section
variable {di:Sl->M Src} {sl:Sl} {ce c1 c2:Ce} {xs:List W} {a:Sl->M W} {ra:Sl->M (List W)} {w:W}
theorem SrcFix.is(h:SrcFix di sl ce c1 xs):zfR di sl ce c1 xs:=by obtain⟨s,h1,h2,h3⟩:=h;exact⟨s,h1,h2,h3 _⟩
theorem zgH(h:a sl ce=some (.ok (.lst xs) c1)):SrcFix (dIL a) sl ce c1 xs:=⟨.lst xs,zlb h rfl,rfl,fun _=>trivial⟩
theorem zhG(h:a sl ce=some (.ok (.tup xs) c1)):SrcFix (dIT a) sl ce c1 xs:=⟨.tup xs,zrT h rfl,rfl,fun _=>trivial⟩
theorem zfn{l:List Nat}(h:a sl ce=some (.ok (wT l) c1)):SrcFix (dIT a) sl ce c1 (l.map nW):=zhG h
theorem zek{n:Nat}(h:ra sl ce=some (.ok [nW n] c1))(hn:n<=1000):SrcFix (zf6 ra) sl ce c1 ((List.range n).map nW):=⟨.rng 0 n,zlc h hn,zfk n,fun _=>trivial⟩
theorem zjN(h:a sl ce=some (.ok w c1))(hw:LstOf c1 w xs):zfR (dIL a) sl ce c1 xs:=by
 obtain⟨s,h1,h2,h3⟩:=hw.src
 exact⟨s,zlb h h1,h2,h3⟩
variable {α:Type} {en:α->W} {zs:List α} {t:α->Bool} {g:α->W} {js:List Nat} {c:Sl->M Bool} {e:Sl->M W}
theorem lcF(hi:zfR di sl ce c1 (zs.map en))(hz:zs.length<=PySem.sizeLine)(hc:∀x∈zs,c (some (en x)::zdG js sl) c1=some (.ok (t x) c1))(he:∀x∈zs,t x=true->e (some (en x)::zdG js sl) c1=some (.ok (g x) c1)) :
  dLC zbf js di c e sl ce=some (.ok (.lst ((zs.filter t).map g)) c1):=by
 obtain⟨s,h1,h2,h3⟩:=hi
 exact zrU h1 h2 h3 hc he hz (zcO (by rw[length_map];exact le_trans (length_filter_le _ _) hz))
theorem lcC(hi:zfR di sl ce c1 (zs.map en))(hz:zs.length<=PySem.sizeLine)(hc:∀x∈zs,c (some (en x)::zdG js sl) c1=some (.ok (t x) c1))(he:∀x∈zs,t x=true->e (some (en x)::zdG js sl) c1=some (.ok (g x) c1)) :
  dLC zgx js di c e sl ce=some (.ok (.cel c1.length) (c1++[.lst ((zs.filter t).map g)])):=by
 obtain⟨s,h1,h2,h3⟩:=hi
 exact zrU h1 h2 h3 hc he hz (zdv (by rw[length_map];exact le_trans (length_filter_le _ _) hz))
theorem zi1(zs:List α):zs.filter (fun _=>true)=zs:=filter_eq_self.mpr fun _ _=>rfl
theorem zsy(hi:zfR di sl ce c1 (zs.map en))(hz:zs.length<=PySem.sizeLine)(he:∀x∈zs,e (some (en x)::zdG js sl) c1=some (.ok (g x) c1)) :
  dLC zbf js di zdH e sl ce=some (.ok (.lst (zs.map g)) c1):=by
 have h:=lcF (t:=fun _=>true) (js:=js) hi hz (c:=zdH) (fun _ _=>rfl) (fun x hx _=>he x hx)
 rwa [zi1] at h
theorem ztJ(hi:zfR di sl ce c1 (zs.map en))(hz:zs.length<=PySem.sizeLine)(he:∀x∈zs,e (some (en x)::zdG js sl) c1=some (.ok (g x) c1)) :
  dLC zgx js di zdH e sl ce=some (.ok (.cel c1.length) (c1++[.lst (zs.map g)])):=by
 have h:=lcC (t:=fun _=>true) (js:=js) hi hz (c:=zdH) (fun _ _=>rfl) (fun x hx _=>he x hx)
 rwa [zi1] at h
theorem zlg{f:α->Int}(hi:zfR di sl ce c1 (zs.map en))(hz:zs.length<=PySem.sizeLine)(he:∀x∈zs,e (some (en x)::zdG js sl) c1=some (.ok (.int (f x)) c1)):dLC zbf js di zdH e sl ce=some (.ok (sW (zs.map f)) c1):=by
 rw[zsy hi hz he,sW,map_map];rfl
theorem zsz(hi:zfR di sl ce c1 (zs.map en))(hz:zs.length<=PySem.sizeLine)(hc:∀x∈zs,c (some (en x)::zdG js sl) c1=some (.ok (t x) c1)):dLC zbf js di c (zae 0) sl ce=some (.ok (.lst ((zs.filter t).map en)) c1) :=
 lcF hi hz hc fun _ _ _=>rfl
theorem ztK(hi:zfR di sl ce c1 (zs.map en))(hz:zs.length<=PySem.sizeLine)(hc:∀x∈zs,c (some (en x)::zdG js sl) c1=some (.ok (t x) c1)):dLC zgx js di c (zae 0) sl ce=some (.ok (.cel c1.length) (c1++[.lst ((zs.filter t).map en)])) :=
 lcC hi hz hc fun _ _ _=>rfl
theorem zbS{body:DS}{i:Nat}{Q:O->Prop}(hi:SrcFix di sl ce c1 (zs.map en))(R:List α->Sl->Ce->Prop)(h0:R [] sl c1)(step:∀d x r sl ce,d++x::r=zs->x∈zs->R d sl ce->Run body (sl.set i (some (en x))) ce (Nx (R (d++[x]))))(fin:∀sl ce,R zs sl ce->Q (.go .nx sl ce)):Run (zce di (gN i) body) sl ce Q:=by
 obtain⟨s,h1,h2,h3⟩:=hi
 exact zif h1 h2 R h0 (fun d x r sl ce e m h=>⟨h3 _,step d x r sl ce e m h⟩) (fun _ _ _=>h3 _) fin
theorem za8{body b:DS}{i:Nat}{Q:O->Prop}(hi:SrcFix di sl ce c1 (zs.map en))(R:List α->Sl->Ce->Prop)(h0:R [] sl c1)(step:∀d x r sl ce,d++x::r=zs->x∈zs->R d sl ce->Run body (sl.set i (some (en x))) ce (Nx (R (d++[x]))))(fin:∀sl ce,R zs sl ce->Run b sl ce Q):Run (zaq (zce di (gN i) body) b) sl ce Q:=by
 obtain⟨s,h1,h2,h3⟩:=hi
 exact zig h1 h2 R h0 (fun d x r sl ce e m h=>⟨h3 _,step d x r sl ce e m h⟩) (fun _ _ _=>h3 _) fin
end
theorem zfo(ce:Ce)(x y:Int)(ng:Bool):eqW ng ce (.int x) (.int y)=some (.bl (if ng then !decide (x=y) else decide (x=y))):=by
 have d1:drf ce (.int x)=.int x:=rfl
 have d2:drf ce (.int y)=.int y:=rfl
 have c:∀i:Int,cln 8 (.int i)=true:=fun _=>rfl
 simp only[eqW,d1,d2,c,Bool.and_self,if_true,zgE]
theorem zmY{ce:Ce}{w:W}{l:List Int}{i:Int}(h:ze7 ce w=some (l.map W.int))(ng:Bool):inW ng ce (.int i) w=some (.bl (if ng then !decide (i∈l) else decide (i∈l))):=by
 have c:cln 8 (.int i)=true:=rfl
 have d:drf ce (.int i)=.int i:=rfl
 have a:(l.map W.int).any (fun z=>peq z (.int i))=decide (i∈l):=by
  rw[Bool.eq_iff_iff,any_eq_true]
  constructor
  ·rintro⟨z,hz,q⟩
   obtain⟨x,hx,rfl⟩:=mem_map.mp hz
   rw[zgE] at q
   have:=of_decide_eq_true q
   subst this
   simpa using hx
  ·intro q
   exact⟨.int i,mem_map.mpr ⟨i,of_decide_eq_true q,rfl⟩,by rw[zgE];simp⟩
 simp only[inW,h,d,c,zeQ,Bool.and_self,if_true,a]
theorem zvb{ce:Ce}{l:List Int}{i:Int}{ng:Bool}:inW ng ce (.int i) (sW l)=some (.bl (if ng then !decide (i∈l) else decide (i∈l))):=zmY rfl ng
theorem zba{fin:Ce->Ce->W->Option (R W)}{n:Nat}{body:DS}{ws:List W}{ce:Ce}{w:W}{c':Ce}(sl:Sl)(e:ws.map some++List.replicate (n-ws.length) none=sl)(h:Run body sl ce (Rt fun v ce'=>fin ce ce' v=some (.ok w c'))):dFn fin n body ws ce=some (.ok w c'):=by
 subst e
 exact zfY h
section
variable {ce:Ce} {k p:Nat} {l:List Nat} {m:List Int} {i j:Int} {w w':W}
theorem eqI0:eqW false ce (.int i) (.int j)=some (.bl (decide (i=j))):=zfo _ _ _ _
theorem zuv:eqW true ce (.int i) (.int j)=some (.bl (!decide (i=j))):=zfo _ _ _ _
theorem zrX:inW false ce (.int i) (sW m)=some (.bl (decide (i∈m))):=zvb
theorem zvc(g:ce[k]?=some (.lst (l.map nW))):inW true ce (nW p) (.cel k)=some (.bl (!decide (p∈l))):=zrW g
theorem ztL(g:ce[k]?=some (.dct (kvs l))):zn5 true ce (nW p) (.cel k)=some (.bl (!decide (p∈l))):=zpq g
end
section
variable {x y:W} {i j:Int} {n k:Nat} {ce:Ce}
theorem zbX(hx:x=.int i)(hy:y=.int j):zb3 x y=some (.int (i+j)):=by subst hx;subst hy;rfl
theorem zgI(hx:x=.int i)(hy:y=.int j):zhe x y=some (.int (i-j)):=by subst hx;subst hy;rfl
theorem zlh(hx:x=.int i)(hy:y=.int j):fLt x y=some (.bl (decide (i<j))):=by subst hx;subst hy;rfl
theorem zhH(hx:x=.int i)(hy:y=.int j):fGt x y=some (.bl (decide (j<i))):=by subst hx;subst hy;rfl
theorem zcP(hx:x=.int i)(hy:y=.int j):zfh x y=some (.bl (decide (i=j))):=by subst hx;subst hy;rfl
theorem zpr(hx:x=.int i)(hy:y=.int j):zk0 x y=some (.bl (!decide (i=j))):=by subst hx;subst hy;rfl
theorem zfp(hx:x=.int i)(hy:y=.int j)(h:0<j):zbP x y=some (.int (i % j)):=by subst hx;subst hy;exact zey h
theorem zgJ(hx:x=.int i)(hy:y=.int j)(h:0<j/\j<1073741824):zo7 x y=some (.int (i / j)):=by subst hx;subst hy;exact zrH h
theorem zps(hx:x=.int i)(hy:y=.int j)(h:CMul i j):zgr x y=some (.int (i*j)):=by subst hx;subst hy;exact zhB h
theorem zrY(hx:x=.int i):zj3 x=some (.inl i):=by subst hx;rfl
theorem zi2{mk:List W->M W}{l:List Nat}(h:l.length<64):zaS mk [wL l] ce=mk ((zcz l).map nW) ce:=by
 simp only[zaS,zrI,zeP,zbG,if_pos h,zdK]
end
section
variable {ce:Ce} {l:List Nat} {m:List Int} {w:W}
theorem zcl{P:W->Ce->Prop}{sl:Sl}(h:P w ce):Rt P (.go (.rt w) sl ce):=h
end
section
variable {ce c1:Ce} {l:List Nat} {k:Nat} {sl:Sl} {a:Sl->M W} {α:Type} {en:α->W} {zs:List α}
theorem zcm(l:List Nat):(zcz l).length=l.length:=by rw[zcz,length_map,(zbu _).length_eq,zbG]
theorem zmZ{body:DS}{i:Nat}{Q:O->Prop}(hi:a sl ce=some (.ok (.cel k) c1))(g:c1[k]?=some (.lst (zs.map en)))(R:List α->Sl->Ce->Prop)(h0:R [] sl c1)(hst:∀d sl ce,R d sl ce->ce[k]?=some (.lst (zs.map en)))(step:∀d x r sl ce,d++x::r=zs->x∈zs->R d sl ce->Run body (sl.set i (some (en x))) ce (Nx (R (d++[x]))))(fin:∀sl ce,R zs sl ce->Q (.go .nx sl ce)):Run (zce (dIL a) (gN i) body) sl ce Q :=
 zif (src:=.cell k (zs.map en)) (zlb hi (by simp only[zib,g])) rfl R h0 (fun d x r sl ce e m h=>⟨hst _ _ _ h,step d x r sl ce e m h⟩) (fun _ _ h=>hst _ _ _ h) fin
theorem zhI{σ:Type}{c:Sl->M Bool}{body b:DS}{fu:Nat}{Q:O->Prop}(R:σ->Sl->Ce->Prop)(m:σ->Nat)(s0:σ)(h0:R s0 sl ce)(hm:m s0<fu)(step:∀s sl ce,R s sl ce->∃p,c sl ce=some (.ok p ce)/\(p=true->Run body sl ce (Nx fun sl2 ce2=>∃s2,m s2<m s/\R s2 sl2 ce2))/\(p=false->Run b sl ce Q)):Run (zaq (zcx c body fu) b) sl ce Q :=
 zpn (zk8 R m s0 h0 hm fun s sl ce h=>by
  obtain⟨p,e,ht,hf⟩:=step s sl ce h
  exact⟨p,e,ht,fun q=>⟨sl,ce,rfl,hf q⟩⟩)
end
theorem zfq(n:Nat):∀cs:List (List Nat),zdl n (cs.map wL)
 | []=>by simp only[map_nil,zdl]
 | a::r=>by simp only[map_cons,zdl,wL,Bel];exact⟨bels_nW n a,zfq n r⟩
section
variable {ce:Ce} {k:Nat} {l:List Nat} {b:List (List Nat)} {m:List Int}
theorem zpt(g:ce[k]?=some (.lst (m.map W.int)))(h:m.length<=PySem.sizeLine):zbn [.cel k] ce=some (.ok (wS m) ce):=zgG (.cl g) (by rw[length_map];exact h)
theorem zrZ(h:b.length<=PySem.sizeLine):zbn [.lst (b.map wT)] ce=some (.ok (wB b) ce):=zgG (.fr _) (by rw[length_map];exact h)
theorem zm0(h:m.length<=PySem.sizeLine):zbn [sW m] ce=some (.ok (wS m) ce):=zgG (.fr _) (by rw[length_map];exact h)
end
section
variable {ce:Ce} {k:Nat} {l l':List Nat} {m:List Int}
end
open PySem PySem.Spec PyProof.Rows L2
section
variable {X:Cx}
end
section
variable {X:Cx} {G:Ga} {E:XK} {a b:Expr} {da db:Sl->M W} {pos:Pos}
def zvp(ng:Bool):W->W->Option W
 | .bl c,.bl d=>some (.bl (if ng then c != d else c==d))
 | _,_=>none
end
end VS
namespace VS
open L2
section
variable {sl:Sl} {ce c1 c2:Ce} {a b:Sl->M W} {w x y:W} {xs ys:List W} {k n:Nat} {i:Int} {p q:Bool}
theorem zm1{key:Key}(ha:a sl (ce++[.dct []])=some (.ok x (ce++[.dct []])))(hb:b sl (ce++[.dct []])=some (.ok y (ce++[.dct []])))(hk:zj3 x=some key):zhA a b sl ce=some (.ok (.cel ce.length) (ce++[.dct [(key,y)]])):=by
 have g:(ce++[C.dct []])[ce.length]?=some (.dct []):=zhC _ _
 have s:(ce++[C.dct []]).set ce.length (.dct [(key,y)])=ce++[.dct [(key,y)]]:=by rw[zty];rfl
 simp only[zhA,bnd,ha,hb,ret,hk,g,s]
theorem zr0(g:ce[k]?=some (.lst xs))(e:xs=ys++[y]):zrx (.cel k) [] ce=some (.ok y (ce.set k (.lst ys))):=by
 subst e
 simp[zrx,zez g]
theorem zpu(g:ce[k]?=some (.lst xs)):zh7 ce (.cel k)=some (!xs.isEmpty):=by simp only[zh7,g]
theorem zpv(g:ce[k]?=some (.lst xs))(h:zcw ce w=some ys)(hz:xs.length+ys.length<=PySem.sizeLine):zry (.cel k) [w] ce=some (.ok .non (ce.set k (.lst (xs++ys)))):=by simp only[zry,zez g,h,if_pos hz]
theorem zcQ(ha:a sl ce=some (.ok (.int i) c1)):zby a sl ce=some (.ok (some i) c1):=by simp only[zby,bnd,ha];rfl
theorem zli{bs:List Bool}:zqn [.lst (bs.map W.bl)] ce=some (.ok (.bl (bs.all id)) ce):=by simp only[zqn,zcw,zf8]
variable {α:Type} {en:α->W} {zs:List α} {di:Sl->M Src} {e:Sl->M W} {js:List Nat}
theorem zr1{f:α->Bool}(hi:zfR di sl ce c1 (zs.map en))(hz:zs.length<=PySem.sizeLine)(he:∀x∈zs,e (some (en x)::zdG js sl) c1=some (.ok (.bl (f x)) c1)):dLC zbf js di zdH e sl ce=some (.ok (.lst ((zs.map f).map W.bl)) c1):=by
 rw[zsy hi hz he,map_map];rfl
theorem zlj{body:DS}{i:Nat}{Q:O->Prop}(hi:SrcFix di sl ce c1 (zs.map en))(R:List α->Sl->Ce->Prop)(T:W->Ce->Prop)(h0:R [] sl c1)(step:∀d x r sl ce,d++x::r=zs->x∈zs->R d sl ce->Run body (sl.set i (some (en x))) ce (NR (R (d++[x])) T))(tell:∀w sl ce,T w ce->Q (.go (.rt w) sl ce))(fin:∀sl ce,R zs sl ce->Q (.go .nx sl ce)):Run (zce di (gN i) body) sl ce Q:=by
 obtain⟨s,h1,h2,h3⟩:=hi
 obtain⟨o,e,q⟩:=zdL (g:=gN i) (body:=body) (en:=en) (src:=s) zs R T (fun d x r sl ce e h=>⟨h3 _,_,rfl,step d x r sl ce e (by rw[<- e];simp) h⟩) (fun _ _ _=>h3 _) zs [] sl c1 rfl h0
 rcases q with ⟨sl',ce',rfl,h⟩|⟨w,sl',ce',rfl,h⟩
 ·exact⟨_,by rw[zgF h1,h2];exact e,fin _ _ h⟩
 ·exact⟨_,by rw[zgF h1,h2];exact e,tell _ _ _ h⟩
theorem zm2{a b:DS}{Q:O->Prop}(h:Run a sl ce fun o=>(∃sl' ce',o=.go .nx sl' ce'/\Run b sl' ce' Q)\/∃w sl' ce',o=.go (.rt w) sl' ce'/\Q o):Run (zaq a b) sl ce Q:=by
 obtain⟨o,e,⟨sl',ce',rfl,q⟩|⟨w,sl',ce',rfl,q⟩⟩:=h
 ·exact zb8 e q
 ·exact⟨_,zpl e,q⟩
theorem zfr{body b:DS}{i:Nat}{Q:O->Prop}(hi:SrcFix di sl ce c1 (zs.map en))(R:List α->Sl->Ce->Prop)(T:W->Ce->Prop)(h0:R [] sl c1)(step:∀d x r sl ce,d++x::r=zs->x∈zs->R d sl ce->Run body (sl.set i (some (en x))) ce (NR (R (d++[x])) T))(tell:∀w sl ce,T w ce->Q (.go (.rt w) sl ce))(fin:∀sl ce,R zs sl ce->Run b sl ce Q):Run (zaq (zce di (gN i) body) b) sl ce Q :=
 zm2 (zlj hi R T h0 step (fun w sl ce h=>.inr ⟨w,sl,ce,rfl,tell w sl ce h⟩) fun sl ce h=>.inl ⟨sl,ce,rfl,fin sl ce h⟩)
end
inductive SetAt:Sl->Nat->Option W->Sl->Prop where
 | zero {x w:Option W} {r:Sl}:SetAt (x::r) 0 w (w::r)
 | succ {x w:Option W} {r r':Sl} {i:Nat} (h:SetAt r i w r'):SetAt (x::r) (i+1) w (x::r')
theorem SetAt.eq{sl sl':Sl}{i:Nat}{w:Option W}(h:SetAt sl i w sl'):sl.set i w=sl':=by
 induction h with
 | zero=>rfl
 | succ _ ih=>rw[set_cons_succ,ih]
theorem zaj{b:DS}{sl sl':Sl}{i:Nat}{w:Option W}{ce:Ce}{Q:O->Prop}(hs:SetAt sl i w sl')(h:Run b sl' ce Q):Run b (sl.set i w) ce Q:=by rw[hs.eq];exact h
section
variable {b:List (List Nat)} {vl:Nat->Int} {s x y:Nat}
abbrev okV(vl:Nat->Int)(s y:Nat):Prop:=vl y=vl s
abbrev Sym(b:List (List Nat)):Prop:=∀i j,j∈b.getD i []->i∈b.getD j []
open Classical in
def cpt(b:List (List Nat))(vl:Nat->Int)(s:Nat):List Nat:=(List.range b.length).filter fun y=>decide (Reach b (okV vl s) s y)
def zbE(b:List (List Nat))(vl:Nat->Int)(s:Nat):Bool:=(cpt b vl s).all fun y=>decide (s<=y)
def ptc(b:List (List Nat))(vl:Nat->Int):List (List Nat):=((List.range b.length).filter (zbE b vl)).map (cpt b vl)
theorem Reach.lt(hb:Bd b)(hs:s<b.length){ok:Nat->Prop}(h:Reach b ok s x):x<b.length:=by
 cases h with
 | refl=>exact hs
 | step _ hy _=>exact hb.get hy
open Classical in
theorem zbj(hb:Bd b)(hs:s<b.length):x∈cpt b vl s↔Reach b (okV vl s) s x:=by
 unfold cpt
 rw[mem_filter,mem_range,decide_eq_true_eq]
 exact⟨fun h=>h.2,fun h=>⟨h.lt hb hs,h⟩⟩
theorem cpt_lt(h:x∈cpt b vl s):x<b.length:=mem_range.mp (mem_filter.mp h).1
theorem zom:(cpt b vl s).Nodup:=List.Pairwise.filter _ nodup_range
theorem zpw:(cpt b vl s).length<=b.length:=by
 have:=length_filter_le (fun y=>@decide (Reach b (okV vl s) s y) (Classical.propDecidable _)) (List.range b.length)
 rw[length_range] at this
 exact this
theorem zbv(hb:Bd b)(hs:s<b.length):s∈cpt b vl s:=(zbj hb hs).mpr .refl
theorem cpt_val(hb:Bd b)(hs:s<b.length)(h:x∈cpt b vl s):vl x=vl s:=Reach.okOf (ok:=okV vl s) rfl ((zbj hb hs).mp h)
open Classical in
theorem zpx{F:List Nat}(c:Comp b (okV vl s) s F):zcz F=cpt b vl s:=by
 rw[zda c.nd c.lt]
 unfold cpt
 apply filter_congr
 intro x _
 rw[Bool.eq_iff_iff,decide_eq_true_eq,decide_eq_true_eq]
 exact c.mem x
theorem zon(h:vl x=vl s):okV vl x=okV vl s:=by funext y;unfold okV;rw[h]
open Classical in
theorem zdm(hb:Bd b)(sym:Sym b)(hs:s<b.length)(h:x∈cpt b vl s):cpt b vl x=cpt b vl s:=by
 have v:=cpt_val hb hs h
 have r:=(zbj hb hs).mp h
 unfold cpt
 apply filter_congr
 intro y _
 rw[Bool.eq_iff_iff,decide_eq_true_eq,decide_eq_true_eq,zon v]
 exact⟨fun q=>r.trans q,fun q=>(Reach.symm (ok:=okV vl s) sym rfl r).trans q⟩
theorem zi3(hb:Bd b)(sym:Sym b)(hs:s<b.length)(h:x∈cpt b vl s):s∈cpt b vl x:=by rw[zdm hb sym hs h];exact zbv hb hs
theorem zcR(hb:Bd b)(sym:Sym b)(hs:s<b.length):∃m,m∈cpt b vl s/\zbE b vl m=true/\cpt b vl m=cpt b vl s:=by
 have key:∀(k:Nat) (s:Nat),s<=k->s<b.length->∃m,m∈cpt b vl s/\zbE b vl m=true/\cpt b vl m=cpt b vl s:=by
  intro k
  induction k with
  | zero =>
   intro s hk hs
   refine⟨s,zbv hb hs,?_,rfl⟩
   unfold zbE
   rw[all_eq_true]
   intro y _
   exact decide_eq_true (by omega)
  | succ k ih =>
   intro s hk hs
   by_cases h:zbE b vl s=true
   ·exact⟨s,zbv hb hs,h,rfl⟩
   ·unfold zbE at h
    rw[all_eq_true] at h
    obtain⟨y,hy⟩:=Classical.not_forall.mp h
    obtain⟨hy,hn⟩:=Classical.not_imp.mp hy
    have hn':¬s<=y:=fun q=>hn (decide_eq_true q)
    obtain⟨m,h1,h2,h3⟩:=ih y (by omega) (cpt_lt hy)
    have e:=zdm hb sym hs hy
    exact⟨m,by rw[<- e];exact h1,h2,by rw[h3,e]⟩
 exact key s s (le_refl _) hs
theorem zcn(hb:Bd b){c:List Nat}:c∈ptc b vl↔∃s,s<b.length/\zbE b vl s=true/\c=cpt b vl s:=by
 unfold ptc
 rw[mem_map]
 constructor
 ·rintro⟨s,hs,rfl⟩
  obtain⟨h1,h2⟩:=mem_filter.mp hs
  exact⟨s,mem_range.mp h1,h2,rfl⟩
 ·rintro⟨s,h1,h2,rfl⟩
  exact⟨s,mem_filter.mpr ⟨mem_range.mpr h1,h2⟩,rfl⟩
theorem ptc_of(hb:Bd b)(sym:Sym b)(hs:s<b.length):cpt b vl s∈ptc b vl:=by
 obtain⟨m,h1,h2,h3⟩:=zcR (vl:=vl) hb sym hs
 exact(zcn hb).mpr ⟨m,cpt_lt h1,h2,h3.symm⟩
theorem zgK:(ptc b vl).length<=b.length:=by
 unfold ptc
 rw[length_map]
 have:=length_filter_le (zbE b vl) (List.range b.length)
 rw[length_range] at this
 exact this
theorem zbT(hb:Bd b)(hs:s<b.length)(h:zbE b vl s=true):(cpt b vl s).getD 0 0=s:=by
 have hmem:=zbv (vl:=vl) hb hs
 unfold zbE at h
 rw[all_eq_true] at h
 have srt:(cpt b vl s).Pairwise (·<·):=List.Pairwise.filter _ pairwise_lt_range
 cases e:cpt b vl s with
 | nil=>rw[e] at hmem;simp at hmem
 | cons a r =>
  rw[e] at hmem h srt
  have h1:s<=a:=of_decide_eq_true (h a (by simp))
  rcases mem_cons.mp hmem with h2|h2
  ·simp[h2]
  ·have:=(pairwise_cons.mp srt).1 s h2
   omega
end
end VS
namespace VS
open PySem PySem.Spec PyProof.Rows L2
mutual
def zij(n:Nat)(ce:Ce):Nat->W->Option W
 | 0,.cel k=>if k<n then some (.cel k) else none
 | 0,.lst _=>none
 | 0,.tup _=>none
 | d+1,.cel k=>if k<n then some (.cel k) else match ce[k]? with
  | some (.lst xs)=>(zel n ce d xs).map .lst
  | _=>none
 | d+1,.lst xs=>(zel n ce d xs).map .lst
 | d+1,.tup xs=>(zel n ce d xs).map .tup
 | _,w=>some w
def zel(n:Nat)(ce:Ce):Nat->List W->Option (List W)
 | _,[]=>some []
 | d,x::xs=>match zij n ce d x,zel n ce d xs with
  | some y,some ys=>some (y::ys)
  | _,_=>none
end
section
variable {G:Ga} {F F2:Hp} {as as2:List Addr} {H:Hp} {ce:Ce} {n:Nat}
theorem zi4(h:∀{w w2:W} {v:V},zij n ce d w=some w2->Rep F as w v->Rep F2 as2 w2 v):∀{ws ws2:List W} {vs:List V},zel n ce d ws=some ws2->Reps F as ws vs->Reps F2 as2 ws2 vs
 | [],ws2,vs,e,r=>by
  simp only[zel,Option.some.injEq] at e
  subst e
  simp only[Reps] at r
  subst r
  exact .nil
 | x::xs,ws2,vs,e,r=>by
  simp only[zel] at e
  simp only[Reps] at r
  obtain⟨v,r',rfl,q,s⟩:=r
  split at e
  ·rename_i y ys e1 e2
   cases e
   exact .cons (h e1 q) (zi4 h e2 s)
  ·cases e
theorem zm3(S:Store G F as H ce)(hF:∀a o,F a=some o->F2 a=some o)(hc:∀(k:Nat) (a:Addr) (xs:List W) (vs:List V),n<=k->as[k]?=some a->ce[k]?=some (.lst xs)->H a=some (.lst vs)->F2 a=some (.lst vs))(ha:∀(k:Nat) (a:Addr),k<n->as[k]?=some a->as2[k]?=some a):∀(d:Nat) {w w2:W} {v:V},zij n ce d w=some w2->Rep F as w v->Rep F2 as2 w2 v:=by
 have rd:∀{a:Addr} {o:HO},Rd F a o->Rd F2 a o:=fun r=>by
  rcases r with r|⟨u,r⟩
  ·exact .inl (hF _ _ r)
  ·exact .inr ⟨u,hF _ _ r⟩
 have low:∀{k:Nat} {v:V},k<n->Rep F as (.cel k) v->Rep F2 as2 (.cel k) v:=fun hk r=>by
  simp only[Rep] at r ⊢
  obtain⟨a,rfl,q⟩:=r
  exact⟨a,rfl,ha _ _ hk q⟩
 intro d
 induction d with
 | zero =>
  intro w w2 v e r
  cases w<;>simp only[zij,Option.some.injEq,reduceCtorEq] at e
  case cel k =>
   split at e
   ·rename_i hk
    cases e
    exact low hk r
   ·cases e
  all_goals (subst e;simp only[Rep] at r ⊢;exact r)
 | succ d ih =>
  have ihs:∀{ws ws2:List W} {vs:List V},zel n ce d ws=some ws2->Reps F as ws vs->Reps F2 as2 ws2 vs:=fun e r=>zi4 ih e r
  intro w w2 v e r
  cases w<;>simp only[zij,Option.some.injEq] at e
  case cel k =>
   split at e
   ·rename_i hk
    cases e
    exact low hk r
   ·rename_i hk
    split at e
    ·rename_i xs hx
     obtain⟨ys,e1,rfl⟩:=map_eq_some_iff.mp e
     simp only[Rep] at r
     obtain⟨a,rfl,q⟩:=r
     obtain⟨_,vs,h2,rs⟩:=S.cell _ _ _ q hx
     simp only[Rep]
     exact⟨a,vs,rfl,.inl (hc k a xs vs (by omega) q hx h2),ihs e1 rs⟩
    ·cases e
  case lst xs =>
   obtain⟨ys,e1,rfl⟩:=map_eq_some_iff.mp e
   simp only[Rep] at r ⊢
   obtain⟨a,vs,rfl,h2,rs⟩:=r
   exact⟨a,vs,rfl,rd h2,ihs e1 rs⟩
  case tup xs =>
   obtain⟨ys,e1,rfl⟩:=map_eq_some_iff.mp e
   simp only[Rep] at r ⊢
   obtain⟨a,vs,rfl,h2,rs⟩:=r
   exact⟨a,vs,rfl,hF _ _ h2,ihs e1 rs⟩
  all_goals (subst e;simp only[Rep] at r ⊢;exact r)
end
open Classical in
def zqo(d:List W->M W):List W->M W:=fun ws ce=>match d ws ce with
 | some (.ok w ce')=>if zdI ce ce' then match zij ce.length ce' 6 w with
  | some w2=>some (.ok w2 (ce'.take ce.length))
  | none=>none
  else none
 | r=>r
open Classical in
theorem zpy{P:Program}{w:World}{K:PySem.W.Frag}{mg:Str->Option Value}{base:Heap}{CX:CXT}{k n:Nat}{f:Addr}{fd:FuncData}{ps:List Str}{G:Ga}{fe:XK->XK}{d:List W->M W}(h:FnOk P w K mg base CX k f fd ps (spV G fe n d)):FnOk P w K mg base CX k f fd ps (spV G fe n (zqo d)):=by
 refine h.imp fun vs H Q E ⟨hl,F,as,ws,ce,S,rs,Pf⟩=>⟨hl,F,as,ws,ce,S,rs,?_⟩
 revert Pf
 unfold zqo
 cases d ws ce with
 | none=>exact fun P=>P
 | some r=>cases r with
  | ex x ce'=>exact fun P=>P
  | ok w ce' =>
   dsimp only
   intro Pf v H' F' as' l S' rv
   split at Pf
   ·rename_i h1
    split at Pf
    ·rename_i w2 e2
     obtain⟨S2,l2⟩:=S.cut S' l h1
     let isC:Addr->Prop:=fun a=>∃(k:Nat) (xs:List W),ce.length<=k/\as'[k]?=some a/\ce'[k]?=some (.lst xs)
     let F2:Hp:=fun a=>if isC a then H' a else F' a
     have sub:∀a o,F' a=some o->F2 a=some o:=fun a o e=>by
      have:¬isC a:=by
       rintro⟨k,xs,_,e1,e3⟩
       have:=(S'.cell k a _ e1 e3).1 rfl
       rw[this] at e
       cases e
      show(if isC a then H' a else F' a)=_
      rw[if_neg this];exact e
     have l3:Le F' (as'.take ce.length) F2 (as'.take ce.length):=⟨sub,fun _ _ h=>h⟩
     refine Pf v H' F2 (as'.take ce.length) (l2.trans l3) ⟨fun b o e=>?_,S2.nd,S2.len,fun i b c e1 e3=>?_⟩ ?_
     ·have e:(if isC b then H' b else F' b)=some o:=e
      split at e
      ·exact e
      ·exact S'.sub _ _ e
     ·obtain⟨p1,p2⟩:=S2.cell i b c e1 e3
      refine⟨fun hn=>?_,p2.le l3 rfl⟩
      show(if isC b then H' b else F' b)=none
      rw[if_neg]
      ·exact p1 hn
      ·rintro⟨k,xs,hk,e4,_⟩
       have hi:i<ce.length:=by have:=zay e3;rw[length_take] at this;omega
       rw[zbt hi] at e1
       have a1:=zay e4
       have a2:=zay e1
       rw[getElem?_eq_getElem a1] at e4
       rw[getElem?_eq_getElem a2] at e1
       have:=zhr S'.nd a1 a2 ((Option.some.inj e4).trans (Option.some.inj e1).symm)
       omega
     ·refine zm3 S' sub (fun k a xs vs hk e1 e3 e4=>?_) (fun k a hk e1=>by rw[zbt hk];exact e1) 6 e2 rv
      show(if isC a then H' a else F' a)=_
      rw[if_pos ⟨k,xs,hk,e1,e3⟩]
      exact e4
    ·exact Pf.elim
   ·exact Pf.elim
section
variable {X:Cx} {G:Ga} {E:XK} {a b:Expr} {da db:Sl->M W} {pos:Pos}
end
end VS
namespace VS
open L2
section
variable {sl:Sl} {ce c1 c2 c3:Ce} {e o i:Sl->M W} {w x y:W} {xs:List W} {k j:Nat} {b:DS} {Q:O->Prop} {p q:Nat} {ij:Int}
theorem zik{n j:Nat}(h:j<n):ixN n (j:Int)=some j:=by
 unfold ixN
 rw[if_pos (by omega),if_pos (by omega)]
 simp
theorem zuw(he:e sl ce=some (.ok w c1))(ho:o sl c1=some (.ok (.cel k) c2))(hi:i sl c2=some (.ok (.int ij) c3))(g:c3[k]?=some (.lst xs))(hj:ixN xs.length ij=some j) :
  zjH e (zfc o i) sl ce=some (.go .nx sl (c3.set k (.lst (xs.set j w)))):=by
 simp only[zjH,lft,he,zfc,ho,hi,zez g,hj]
theorem zco(he:e sl ce=some (.ok w c1))(ho:o sl c1=some (.ok (.cel k) c2))(hi:i sl c2=some (.ok (.int ij) c3))(g:c3[k]?=some (.lst xs))(hj:ixN xs.length ij=some j)(q:Q (.go .nx sl (c3.set k (.lst (xs.set j w))))) :
  Run (zjH e (zfc o i)) sl ce Q:=⟨_,zuw he ho hi g hj,q⟩
theorem zm4(he:e sl ce=some (.ok w c1))(ho:o sl c1=some (.ok (.cel k) c2))(hi:i sl c2=some (.ok (.int ij) c3))(g:c3[k]?=some (.lst xs))(hj:ixN xs.length ij=some j)(q:Run b sl (c3.set k (.lst (xs.set j w))) Q) :
  Run (zaq (zjH e (zfc o i)) b) sl ce Q:=zb8 (zuw he ho hi g hj) q
abbrev g2(p q:Nat):DG:=gT 2 (zdk (gN p) (zdk (gN q) zkW))
theorem zpz:g2 p q (.tup [x,y]) sl ce=some ((sl.set p (some x)).set q (some y),ce):=rfl
theorem zm5(he:e sl ce=some (.ok (.tup [x,y]) c1))(q':Run b ((sl.set p (some x)).set q (some y)) c1 Q):Run (zaq (zjH e (g2 p q)) b) sl ce Q :=
 zb8 (sl':=(sl.set p (some x)).set q (some y)) (ce':=c1) (by simp only[zjH,lft,he,zpz]) q'
variable {α:Type} {fa fb:α->W} {zs:List α} {di:Sl->M Src} {body:DS}
theorem zm6(hi:SrcFix di sl ce c1 (zs.map fun z=>.tup [fa z,fb z]))(R:List α->Sl->Ce->Prop)(h0:R [] sl c1)(step:∀d x r sl ce,d++x::r=zs->x∈zs->R d sl ce->Run body ((sl.set p (some (fa x))).set q (some (fb x))) ce (Nx (R (d++[x]))))(fin:∀sl ce,R zs sl ce->Run b sl ce Q):Run (zaq (zce di (g2 p q) body) b) sl ce Q:=by
 obtain⟨s,h1,h2,h3⟩:=hi
 obtain⟨o,e,q'⟩:=zdL (g:=g2 p q) (body:=body) (en:=fun z=>W.tup [fa z,fb z]) (src:=s) zs R (fun _ _=>False) (fun d x r sl ce e h=>⟨h3 _,_,zpz,(step d x r sl ce e (by rw[<- e];simp) h).mono fun o q=>by
   cases o with
   | ex x c=>exact q.elim
   | go f sl2 ce2=>cases f<;>first|exact q|exact q.elim⟩) (fun _ _ _=>h3 _) zs [] sl c1 rfl h0
 rcases q' with ⟨sl',ce',rfl,h⟩|⟨w,sl',ce',rfl,h⟩
 ·exact zb8 (by rw[zgF h1,h2];exact e) (fin _ _ h)
 ·exact h.elim
end
structure Chg (ce b:Ce):Prop where
 len:b.length=ce.length
 cell:∀(k:Nat) (c:C),b[k]?=some c->ce[k]?=some c\/zf7 ce.length c
theorem Chg.refl(ce:Ce):Chg ce ce:=⟨rfl,fun _ _ h=>.inl h⟩
theorem Chg.cut{ce b t:Ce}(h:Chg ce b):zdI ce (b++t):=⟨by rw[length_append,h.len];omega,fun k c hk e=>h.cell k c (by rwa [getElem?_append_left (by rw[h.len];exact hk)] at e)⟩
theorem Chg.take{ce b t:Ce}(h:Chg ce b):(b++t).take ce.length=b:=by rw[<- h.len];exact take_left
namespace Own
variable {b ce c:Ce} {l:List (Nat×C)} {k:Nat} {x:C} {w:W}
theorem frzD'{d:List W->M W}{ws:List W}{w2:W}(e:d ws ce=some (.ok w c))(h:Own b c l)(g:Chg ce b)(ht:zij ce.length c 6 w=some w2):zqo d ws ce=some (.ok w2 b):=by
 obtain⟨⟨t,rfl⟩,_⟩:=h
 simp only[zqo,e,ht,g.take]
 exact if_pos g.cut
end Own
def pW(p:Nat×Nat):W:=.tup [nW p.1,nW p.2]
section
variable {ce:Ce} {n:Nat}
theorem zil(d:Nat)(k:Nat):zij n ce d (nW k)=some (nW k):=by cases d<;>simp only[nW,zij]
theorem zgL(d:Nat):∀l:List (Nat×Nat),zel n ce (d+1) (l.map pW)=some (l.map pW)
 | []=>by simp only[map_nil,zel]
 | a::r=>by simp only[map_cons,zel,pW,zij,zil,zgL d r,map_some]
end
open L2
section
variable {ce:Ce} {n:Nat}
def Cls(ce:Ce)(ks:List Nat)(cs:List (List Nat)):Prop:=PySem.Paired (fun k c=>ce[k]?=some (.lst (c.map nW))) ks cs
end
end VS
namespace VS
open PySem PySem.Spec PyProof.Rows L2
open MeetsSeq (EqGives)
theorem zhJ(l:Addr)(items:Array Value)(n:Nat)(dd:Option Addr)(sl:Array (Option Value))(x:Value)(e:Value->Bool)(he:∀y,y∈items->EqGives y x (e y)) :
  Meets (Builtin.«tuple.count» ⟨[.ref l,x],[]⟩) (fun _ R s=>s.heap.get? l=some { cls:=.type "tuple",dict:=dd,data:=.seq items n,slots:=sl }/\R (.ok (.ret (.int (items.toList.countP e:Nat) s.toks))) { s with toks:=s.toks+1 }) :=
 .of_wp fun prog w A R s h=>by
  obtain⟨hp,g,d,tk,os⟩:=s;obtain⟨hl,h⟩:=h
  have f2:=AutoSeq1.sub_tuple_tuple
  wp_walk using wpAny_loadPart' hl,MeetsSeq2.wpAny_forIn_array _ (fun rest (b:Nat) s'=>s'=⟨hp,g,d,tk,os⟩/\(∀y,y∈rest->y∈items)/\b+rest.countP e=items.toList.countP e) _
  case turn =>
   rintro y rest b s' ⟨rfl,hmem,hR⟩
   refine wpAny_bind (he y (hmem y (mem_cons_self ..)) prog w _ _ _ _ ?_)
   rw[countP_cons] at hR
   have hm2:∀z,z∈rest->z∈items:=fun z hz=>hmem z (mem_cons_of_mem _ hz)
   cases hy:e y with
   | true =>
    rw[hy] at hR
    wp_walk
    exact⟨rfl,hm2,by rw[if_pos rfl] at hR;omega⟩
   | false =>
    rw[hy] at hR
    wp_walk
    exact⟨rfl,hm2,by simpa using hR⟩
  case fin =>
   rintro b s' ⟨rfl,-,hR⟩
   simp only[countP_nil,add_zero] at hR
   subst hR
   wp_walk
   exact⟨_,rfl,h⟩
  case h =>
   exact⟨rfl,fun y hy=>by simpa using hy,by simp⟩
def zr2(K:PySem.W.Frag):V->List V->Hp->VK->Prop:=fun x vs H Q=>∃(a:Addr) (ns:List Int) (i:Int),x=.ref a/\vs=[.int i]/\SqT K H a (ns.map V.int)/\Q (.int (ns.count i:Nat)) H
theorem zpA{X:Cx}{K:PySem.W.Frag}(hK:X.K=K:=by rfl):MtR X "tuple.count" (zr2 K):=by
 subst hK
 intro pins s σ H x vs v us Q I rx rv h
 obtain⟨a,ns,i,rfl,rfl,ha,q⟩:=h
 cases rx
 obtain⟨u,rfl,ru⟩:=zeG rv
 obtain⟨t,rfl⟩:=ru
 obtain⟨its,r1,p1,_⟩:=I.tuple ha
 have hI:IntsAre its ns:=zb5 r1
 obtain⟨⟨cls,dd,data,sl⟩,ho,hc,n,hd⟩:=id p1
 simp only at hc hd
 subst hc hd
 refine call_meets F.slot_tuple_count ⟨_,ho,rfl⟩ F.entry_tuple_count (F.args_tuple_count_2 _ _)
  (zhJ a its.toArray n dd sl (.int i t) (isInt i) (fun y hy=>eq_isInt i t hI y (by simpa using hy))) ⟨ho,?_⟩
 have e:its.toArray.toList.countP (isInt i)=ns.count i:=countP_isInt i hI
 rw[e]
 exact⟨.int (ns.count i:Nat),H,I.tok _,⟨_,rfl⟩,q⟩
theorem zr3{X:Cx}{o e:Expr}{es:List Expr}{to:TE}{t:TA}{name:Str}{apos cpos:Pos}{id:String}{r:V->List V->Hp->VK->Prop}(slot:Slot "tuple" name id)(hty:typeOf (.builtin id)=pure (.type "method_descriptor"))(hm:MtR X id r)(ho:PE X o to)(ha:PA X (e::es) t)(hbase:attributeBase o name X.env (eval o X.env)=eval o X.env)(hfew:((backTo cpos (starEach (e::es) X.env)).all (fun x=>!x.1)&&(backToKw cpos (keywordEach [] X.env)).all (fun x=>x.1.isSome)
   && decide ((e::es).length+([]:List Keyword).length+(if ([]:List Keyword).isEmpty then 0 else 1)<30))=true)(hline:(apos.endLine==cpos.line)=true)(hs:starEach (e::es) X.env=(false,eval e X.env)::starEach es X.env)(hplain:(backTo cpos (starEach es X.env)).any (·.1)=false) :
  PE X (.Call (.Attribute o name apos) (e::es) [] cpos) (fun σ H Q=>to σ H fun x H1=>(∃p xs,x=.ref p/\Rd H1 p (.tup xs))/\t σ H1 fun xs H2=>r x xs H2 Q):=by
 intro pins s σ H Q I h
 refine wpAny_Call_method_late hbase hfew hline rfl (thn (ho pins s σ H _ I h) fun v s1 ⟨x,H1,I1,r1,ty,q1⟩=>?_)
 obtain⟨p,xs,rfl,hp⟩:=ty
 cases r1
 obtain⟨_,its,_,ob,e1,e2,_,e3⟩:=(hp.ok I1.hok)
 refine⟨"tuple",id,PySem.F.plainAttrs_tuple,slot,hty,⟨ob,e1,e2⟩,fun a ea=>⟨ob,by cases ea;exact e1,e3⟩,?_⟩
 have hA:=ha cpos pins s1 σ H1 _ I1 q1
 rw[hs] at hA ⊢
 refine Calls.callWith_builtin (by show(false||(backTo cpos (starEach es X.env)).any (·.1))=false;rw[hplain]<;>rfl) (Calls.evalArgs_plain ?_)
 exact thn hA fun us s2 ⟨vs,H2,I2,r2,q2⟩=>hm pins s2 σ H2 (.ref p) vs (.ref p) us Q I2 rfl r2 q2
section
variable {X:Cx} {G:Ga} {E:XK} {o e:Expr} {es:List Expr} {name:Str} {apos cpos:Pos} {do':Sl->M W} {dr:Sl->M (List W)} {id:String} {rm:V->List V->Hp->VK->Prop} {fm:W->List W->M W}
def ztM:W->Option Unit
 | .tup _=>some ()
 | _=>none
def zsA(f:W->List W->M W)(o:Sl->M W)(args:Sl->M (List W)):Sl->M W:=fun sl=>bnd (o sl) fun x=>bnd (look fun _=>ztM x) fun _=>bnd (args sl) fun ws=>f x ws
theorem zr4(slot:Slot "tuple" name id)(hty:typeOf (.builtin id)=pure (.type "method_descriptor"))(hm:MtR X id rm)(hf:Mt G E rm fm)(ho:PE X o (zax G E do'))(ha:PA X (e::es) (zhd G E dr))(hbase:attributeBase o name X.env (eval o X.env)=eval o X.env:=by rfl)(hfew:((backTo cpos (starEach (e::es) X.env)).all (fun x=>!x.1)&&(backToKw cpos (keywordEach [] X.env)).all (fun x=>x.1.isSome)
   && decide ((e::es).length+([]:List Keyword).length+(if ([]:List Keyword).isEmpty then 0 else 1)<30))=true:=by rfl)(hline:(apos.endLine==cpos.line)=true:=by rfl)(hs:starEach (e::es) X.env=(false,eval e X.env)::starEach es X.env:=by rfl)(hplain:(backTo cpos (starEach es X.env)).any (·.1)=false:=by rfl) :
  PE X (.Call (.Attribute o name apos) (e::es) [] cpos) (zax G E (zsA fm do' dr)):=by
 refine PE.imp (zr3 slot hty hm ho ha hbase hfew hline hs hplain) fun σ H Q zz_=>el6 zz_ fun F as sl ce S P=>(step S P).mono fun x H1 zz_=>el8 zz_ fun wx F1 as1 ce1 l1 S1 rx P1=>?_
 revert P1
 simp only[bnd,look]
 cases wx<;>first|exact fun P=>P.elim|skip
 rename_i xs
 simp only[ztM,map_some]
 intro P2
 have rx':=rx
 simp only[Rep] at rx'
 obtain⟨a,vs0,rfl,h,_⟩:=rx'
 refine⟨⟨a,vs0,rfl,.inl (S1.st.sub _ _ h)⟩,(step (RP:=Reps) S1 P2).mono fun vs H2 zz_=>el8 zz_ fun ws F2 as2 ce2 l2 S2 rs P3=>?_⟩
 exact hf F2 as2 H2 σ sl ce2 _ _ ws vs Q S2 (rx.le l2) rs P3
open Classical in
def zvd:W->List W->M W:=fun w ws ce=>match w,ws with
 | .tup xs,[.int i]=>match zei xs with
  | some ns=>if i∈ns then some (.ok (.int (ns.idxOf i:Nat)) ce) else none
  | none=>none
 | _,_=>none
def zlk:W->List W->M W:=fun w ws ce=>match w,ws with
 | .tup xs,[.int i]=>match zei xs with
  | some ns=>some (.ok (.int (ns.count i:Nat)) ce)
  | none=>none
 | _,_=>none
theorem zr5(K:PySem.W.Frag):Mt G E (zr2 K) zlk:=by
 intro F as H σ sl ce w v ws vs Q S rw' rs P
 revert P
 unfold zlk
 split
 ·rename_i xs i
  split
  ·rename_i ns hn
   intro P
   have hx:=zc8 hn
   subst hx
   simp only[Rep] at rw'
   obtain⟨a,us,rfl,h,r1⟩:=rw'
   obtain⟨v1,rfl,rv⟩:=zbp rs
   simp only[Rep] at rv
   subst rv
   have:=r1.of_ints
   subst this
   exact⟨a,ns,i,rfl,rfl,.inl (.inl (S.st.sub _ _ h)),P.done S (by simp only[Rep])⟩
  ·exact fun P=>P.elim
 ·exact fun P=>P.elim
end
section
variable {X:Cx} {G:Ga} {E:XK} {tg a:Expr} {da:Sl->M W}
end
end VS
namespace VS
open L2
section
variable {sl:Sl} {ce c1 c2 c3:Ce} {a b:Sl->M W} {w x y:W} {xs ws:List W} {n:Nat} {ra:Sl->M (List W)}
theorem zoo(ha:a sl ce=some (.ok (.bl true) c1))(hb:b sl c1=some (.ok w c2)):zpd a b sl ce=some (.ok w c2):=by simp only[zpd,bnd,ha,hb]
theorem zr6{f:W->List W->M W}(ha:a sl ce=some (.ok (.tup xs) c1))(hr:ra sl c1=some (.ok ws c2))(h:f (.tup xs) ws c2=some (.ok w c3)):zsA f a ra sl ce=some (.ok w c3):=by
 simp only[zsA,bnd,ha,look,ztM,map_some,hr,h]
end
section
variable {ce:Ce} {k:Nat} {xs:List W}
theorem zve(ng:Bool)(l m:List Int):eqW ng ce (wS l) (wS m)=some (.bl (if ng then !decide (l=m) else decide (l=m))):=by
 have d:∀l:List Int,drf ce (wS l)=wS l:=fun _=>rfl
 have c:∀l:List Int,cln 8 (wS l)=true:=fun l=>zeQ l 7
 simp only[eqW,d,c,Bool.and_self,if_true]
 simp only[peq,zfi]
end
end VS
namespace VS
open PySem PySem.Spec PyProof.Rows L2
section
variable {X:Cx} {G:Ga} {E:XK} {a b:Expr} {da db:Sl->M W} {pos:Pos}
end
end VS
namespace VS
open PySem PySem.Spec PyProof.Rows L2 HT
section
variable {prog:Program} {w:World} {A:Around} {E:Value->Shared->Prop} {s:Shared}
end
section
variable {X:Cx} {G:Ga} {E:XK} {a:Expr} {da:Sl->M W} {pos:Pos}
end
end VS
namespace VS
open PySem PySem.Spec PyProof.Rows L2
end VS
namespace L2
open PySem PySem.Spec PyProof.Rows
theorem ObjOk.there{P:Program}{w:World}{H:Hp}{h:Heap}{a:Addr}{o:HO}(x:ObjOk P w H h a o):∃u,h.get? a=some u:=by
 cases o with
 | lst xs=>obtain⟨_,_,_,_,e⟩:=x;exact⟨_,e⟩
 | tup xs=>obtain⟨_,_,_,u,e,_⟩:=x;exact⟨_,e⟩
 | dK kvs=>obtain⟨_,_,_,_,o,_,_,e,_⟩:=x;exact⟨_,e⟩
 | dT kvs=>obtain⟨_,_,_,_,o,_,_,e,_⟩:=x;exact⟨_,e⟩
 | set S n=>obtain⟨o,_,_,_,e,_⟩:=x;exact⟨_,e⟩
 | ins C dx fs=>obtain⟨_,_,_,e,_⟩:=x;exact⟨_,e⟩
 | own y=>exact x
 | xd fs=>obtain⟨_,⟨_,_,_,e,_⟩,_⟩:=x;exact⟨_,e⟩
 | rng lo hi=>obtain⟨_,_,_,e⟩:=x;exact⟨_,e⟩
 | frz ob u=>obtain⟨e,_⟩:=x;exact⟨_,e⟩
 | tbl ps=>exact⟨_,x⟩
 | met f y=>exact⟨_,x⟩
 | ext φ=>exact x.2.1
def Fl(N:Addr->Prop)(a:Addr)(cls:Value)(H:Hp)(h:Heap):Prop :=
 ∃oe vs a0,N a/\H a=none/\h.get? a=some oe/\oe.cls=cls/\oe.data=.fields vs/\vs[0]?=some a0 /\
  (vs[1]?=some .none\/∃T oT ts,vs[1]?=some (.ref T)/\N T/\H T=none/\T≠a/\h.get? T=some oT/\oT.data=.fields ts/\ts[3]?=some .none)
theorem Fl.mono{N N':Addr->Prop}{a:Addr}{cls:Value}{H:Hp}{h:Heap}(f:Fl N a cls H h)(k:∀b,N b->N' b):Fl N' a cls H h:=by
 obtain⟨oe,vs,a0,n,h1,h2,h3,h4,h5,h6⟩:=f
 refine⟨oe,vs,a0,k _ n,h1,h2,h3,h4,h5,h6.imp id fun⟨T,oT,ts,e1,e2,e⟩=>⟨T,oT,ts,e1,k _ e2,e⟩⟩
theorem zm7{M:Model}{A:Around}{E:Value->Shared->Prop}{s:Shared}{B:Heap}{env:Env}{outer:List Env}{L a:Addr}{oe:Obj}{vs:Array Value}{a0:Value}{Q:Unit->Shared->Prop}(hfr:A.frames=some (env::outer))(hl:s.heap.FunFrames B (env::outer))(hf:env.frame=some L)(he:s.heap.get? a=some oe)(hkb:B.StaysIn s.heap)(hen:B.get? a=none)(hd:oe.data=.fields vs)(h0:vs[0]?=some a0)(h1:vs[1]?=some .none\/∃T oT ts,vs[1]?=some (.ref T)/\B.get? T=none/\T≠a/\s.heap.get? T=some oT/\oT.data=.fields ts/\ts[3]?=some .none)(hQ:∀h',Heap.NotedW B (env::outer) a oe.cls a0 (rawInt L) s.heap h'->Q () { s with heap:=h' }):wpAny M A (noteFrame (.ref a) env) Q E s:=by
 rcases h1 with h1|⟨T,oT,ts,h1,hnT,hTe,hT,hdT,h3⟩
 ·unfold noteFrame
  simp only[hf]
  refine wpAny_bind (wpAny_field he hd h1 ?_)
  rw[if_neg (by decide)]
  exact wpAny_entryW hfr hl hf he hkb hen hd (Array.getElem?_eq_some_iff.mp h1).1 h0 hQ
 ·exact wpAny_noteFrame_onW hfr hl hf ⟨oe,vs,T,oT,ts,he,⟨rfl,h0⟩,hd,h1,hnT,hTe,hT,hdT,h3⟩ hkb hen hQ
structure Flown (stk:List Addr) (N:Addr->Prop) (H:Hp) (a:Addr) (cls:Value) (h h':Heap):Prop where
 keep:∀b o,h.get? b=some o->b∉stk->(H b≠none\/¬N b\/∀vs,o.data≠.fields vs)->h'.get? b=some o
 slot:∀b o,h.get? b=some o->b∈stk->∃sl,h'.get? b=some { o with slots:=sl }
 fl:Fl (fun b=>N b\/h.get? b=none) a cls H h'
theorem flown{X:Cx}{M:Model}{A':Around}{E:Value->Shared->Prop}{pins:List (Addr×Obj)}{σ:St}{H:Hp}{s:Shared}{N:Addr->Prop}{a:Addr}{cls:Value}{Q:Unit->Shared->Prop}(I:Inv X pins σ H s)(hst:X.stack=X.env::X.outer)(hf:X.env.frame=some X.env.locals)(f:Fl N a cls H s.heap)(hQ:∀h',Flown (frs X.stack) N H a cls s.heap h'->Q () { s with heap:=h' }) :
  wpAny M X.A (noteFrame (.ref a) X.env) (fun _ s₂=>wpAny M A' (setFlight (.ref a) none) Q E s₂) E s:=by
 obtain⟨oe,vs,a0,na,ha,he,rfl,hd,h0,h1⟩:=f
 have hstk:=I.stack
 have hfree:=I.stkFree
 have hfr:=I.ok.frames
 obtain⟨hid,hh1,hh2,hh3,hh4⟩:∃hid:List Addr,(∀b∈frs X.stack,b∈hid)/\a∈hid/\(∀b∈hid,b∈frs X.stack\/(N b/\H b=none/\∃o vs,s.heap.get? b=some o/\o.data=.fields vs)) /\
   (vs[1]?=some .none\/∃T oT ts,vs[1]?=some (.ref T)/\T∈hid/\T≠a/\s.heap.get? T=some oT/\oT.data=.fields ts/\ts[3]?=some .none):=by
  rcases h1 with h1|⟨T,oT,ts,h1,nT,hT,hTa,r⟩
  ·refine⟨frs X.stack++[a],fun b hb=>mem_append_left _ hb,mem_append_right _ (by simp),fun b hb=>?_,.inl h1⟩
   rcases mem_append.mp hb with hb|hb
   ·exact .inl hb
   ·rw[mem_singleton] at hb;subst hb;exact .inr ⟨na,ha,_,_,he,hd⟩
  ·obtain⟨hT1,hT2,hT3⟩:=r
   refine⟨frs X.stack++[a,T],fun b hb=>mem_append_left _ hb,mem_append_right _ (by simp),fun b hb=>?_,.inr ⟨T,oT,ts,h1,mem_append_right _ (by simp),hTa,hT1,hT2,hT3⟩⟩
   rcases mem_append.mp hb with hb|hb
   ·exact .inl hb
   ·rcases mem_cons.mp hb with rfl|hb
    ·exact .inr ⟨na,ha,_,_,he,hd⟩
    ·rw[mem_singleton] at hb;subst hb;exact .inr ⟨nT,hT,_,_,hT1,hT2⟩
 have hin:∀env∈X.env::X.outer,∀b,env.frame=some b->b∈hid:=fun env he b hb=>hh1 b (mem_filterMap.mpr ⟨env,by rw[hst];exact he,hb⟩)
 have hl:s.heap.FunFrames (PySem.W.hideAll s.heap hid) (X.env::X.outer):=PySem.W.funFrames_hide (by rw[<- hst];exact hstk) hin
 refine zm7 (by rw[hfr,hst]) hl hf he (fun b o q=>PySem.W.of_hideAll _ q) (PySem.W.hideAll_none _ hh2) hd h0 (hh4.imp id fun⟨T,oT,ts,e1,e2,e3,e4⟩=>⟨T,oT,ts,e1,PySem.W.hideAll_none _ e2,e3,e4⟩) fun h1 z=>?_
 obtain⟨z1,z2,z3,z4⟩:=z
 refine wpAny_landsW (base:=PySem.W.hideAll s.heap hid) (l:=X.env::X.outer) (cls:=oe.cls) (a0:=a0) ⟨z1,PySem.W.hideAll_none _ hh2,z2,z3⟩ fun h2 y1 y2=>hQ h2 ?_
 have up:∀b o,s.heap.get? b=some o->(∀vs,o.data≠.fields vs)->∃sl,h2.get? b=some { o with slots:=sl }:=fun b o e n=>by
  obtain⟨s1,e1⟩:=z4 b o e n
  obtain⟨s2,e2⟩:=y2 b _ e1 n
  exact⟨s2,e2⟩
 have sl:∀b o,s.heap.get? b=some o->b∈frs X.stack->∃sl,h2.get? b=some { o with slots:=sl }:=fun b o e hb=>by
  obtain⟨_,o',e',n⟩:=hstk.mem hb
  rw[e] at e';cases e'
  exact up b o e n
 obtain⟨y1,y3,y4,oe',vs',T',oT',ts',t1,⟨t2,t3⟩,t4,t5,t6,t7,t8,t9,t10⟩:=y1
 refine⟨fun b o e hb hc=>?_,sl,oe',vs',a0,.inl na,ha,t1,t2,t4,t3,.inr ⟨T',oT',ts',t5,?_,?_,t7,t8,t9,t10⟩⟩
 ·refine y1 b o (PySem.W.hideAll_get _ e fun hm=>?_)
  rcases hh3 b hm with q|⟨q1,q2,o',vs',q3,q4⟩
  ·exact hb q
  ·rcases hc with hc|hc|hc
   ·exact hc q2
   ·exact hc q1
   ·rw[e] at q3;cases q3;exact hc _ q4
 all_goals
  cases q:s.heap.get? T' with
  | none =>
   first
    | exact .inr q
    | (cases q2:H T' with
       | none=>rfl
       | some u=>obtain⟨u',e'⟩:=(I.hok T' u q2).there;rw[q] at e';cases e')
  | some o =>
   have hm:T'∈hid:=by
    apply Classical.byContradiction
    intro hm
    have:=PySem.W.hideAll_get _ q hm
    rw[t6] at this;cases this
   rcases hh3 T' hm with hs|⟨q1,q2,_⟩
   ·exfalso
    obtain⟨_,o',e',n⟩:=hstk.mem hs
    rw[q] at e';cases e'
    obtain⟨s2,e2⟩:=up T' o q n
    rw[t8] at e2;cases e2
    exact n _ t9
   ·first|exact .inl q1|exact q2
def CXx(P:Program)(w:World):CXT:=fun outer H s E e s'=>∃a cls H',e=.ref a/\s'.os=s.os/\AllBare s'.gens/\Un (frs outer) [] H H' s.heap s'.heap/\HOk P w H' s'.heap/\Fl (fun b=>s.heap.get? b=none) a cls H' s'.heap/\E cls none H'
def Nw(X:Cx)(pins:List (Addr×Obj))(b:Addr):Prop:=X.s₀.heap.get? b=none/\∀p∈X.pn++pins,p.1≠b
def Flies(X:Cx)(E:XK):Prop:=∀(pins:List (Addr×Obj)) (σ:St) (H:Hp) (s:Shared) (a:Addr) (cls:Value),Inv X pins σ H s->Fl (Nw X pins) a cls H s.heap->E cls none H->X.xe (.ref a) s
theorem zjO{X:Cx}{pins:List (Addr×Obj)}{σ:St}{H:Hp}{s:Shared}{b:Addr}(hx:X.ex=[])(I:Inv X pins σ H s)(h:s.heap.get? b=none):Nw X pins b:=by
 refine⟨?_,fun p hp e=>?_⟩
 ·cases q:X.s₀.heap.get? b with
  | none=>rfl
  | some o =>
   obtain⟨o',e⟩:=I.base.there b o q (by rw[hx];simp)
   rw[h] at e;cases e
 ·obtain⟨e1,_⟩:=I.pin p hp
  rw[e,h] at e1;cases e1
theorem Flies.passes{X:Cx}{E:XK}(h:Flies X E)(hx:X.ex=[]):zbH (CXx X.prog X.w) X E:=fun pins σ H s e s' I z=>by
 obtain⟨a,cls,H',rfl,ho,hg,u,hok,f,q⟩:=z
 exact h pins σ H' s' a cls (I.call' ho u hok hg (fun b z=>absurd z (by simp))) (f.mono fun b hb=>zjO hx I hb) q
theorem zbY{X:Cx}:zbH (CXx X.prog X.w) X E0:=fun _ _ _ _ _ _ _ z=>by
 obtain⟨_,_,_,_,_,_,_,_,_,q⟩:=z
 exact q.elim
theorem flies_cxOf{P:Program}{w:World}{K:PySem.W.Frag}{mg:Str->Option Value}{base:Heap}{N:List Str}{qual:Str}{scope:Scope}{f:Addr}{cd:Value}{A:Around}{outer:List Env}{s:Shared}{H:Hp}{E:XK} :
  Flies (zj2 (CXx P w) P w K mg base N qual scope f cd A outer s H E) E:=by
 intro pins σ H1 s1 a cls I fl q
 show wpAny (model P w) _ (leaving _ _) _ _ s1
 unfold leaving
 refine wpAny_bind (flown I rfl rfl fl fun h' F=>?_)
 have hb:=I.base
 have hstk:=I.stack
 have hlt:∀b o,s.heap.get? b=some o->b≠(zj2 (CXx P w) P w K mg base N qual scope f cd A outer s H E).env.locals:=fun b o e q=>absurd (Heap.lt_size e) (by rw[q];exact not_lt.mpr I.ok.above)
 have hfs:∀b,b∈frs (zj2 (CXx P w) P w K mg base N qual scope f cd A outer s H E).stack->b=(zj2 (CXx P w) P w K mg base N qual scope f cd A outer s H E).env.locals\/b∈frs outer:=fun b hb=>mem_cons.mp (I.stkSub b hb)
 have hout:∀b,b∈frs outer->b∈frs (zj2 (CXx P w) P w K mg base N qual scope f cd A outer s H E).stack:=fun b hb=>by
  obtain⟨env,h1,h2⟩:=mem_filterMap.mp hb
  exact mem_filterMap.mpr ⟨env,mem_cons_of_mem _ h1,h2⟩
 refine⟨a,cls,H1,rfl,I.os,I.bare,⟨fun b o e n h1 h2=>?_,fun b o e n h1 h2=>?_,fun b o e n h2=>hb.free b o e n h2,fun b o e h2=>?_,hb.tups,hb.frzs,hb.tbls⟩,fun b o e=>?_,F.fl.mono fun b hb'=>?_,q⟩
 ·have e1:=hb.keep b o e n h1 h2
  refine F.keep b o e1 (fun hm=>?_) (.inr<|.inl fun hn=>by have z:s.heap.get? b=none:=hn.1;rw[z] at e;cases e)
  rcases hfs b hm with z|z
  ·exact hlt b o e z
  ·exact h1 z
 ·obtain⟨sl,e1⟩:=hb.slot b o e n h1 h2
  obtain⟨s2,e2⟩:=F.slot b _ e1 (hout b h1)
  exact⟨s2,e2⟩
 ·obtain⟨o',e1⟩:=hb.there b o e h2
  by_cases hm:b∈frs (zj2 (CXx P w) P w K mg base N qual scope f cd A outer s H E).stack
  ·obtain⟨s2,e2⟩:=F.slot b o' e1 hm
   exact⟨_,e2⟩
  ·exact⟨o',F.keep b o' e1 hm (.inr<|.inl fun hn=>by have z:s.heap.get? b=none:=hn.1;rw[z] at e;cases e)⟩
 ·refine(I.hok b o e).stay (fun c u hc r=>?_) (fun _ q=>q) fun _ _ q=>q
  have hH:H1 c≠none:=by
   rcases hc with rfl|hc
   ·rw[e];simp
   ·rw[hc];simp
  exact F.keep c u r (fun hm=>hH (I.stkFree c hm)) (.inl hH)
 ·rcases hb' with hb'|hb'
  ·exact hb'.1
  ·exact(zjO (pins:=pins) rfl I hb').1
theorem Fun.okX{P:Program}{w:World}{K:PySem.W.Frag}{mg:Str->Option Value}{base:Heap}{x qual:Str}{st:Stmt}{f:Addr}{fd:FuncData}{N ps:List Str}{k:Nat}{sp:Sp}(F:Fun K x qual st f fd)(S:FnScope N ps (zal st))(len:∀vs H Q E,sp vs H Q E->vs.length=ps.length)(hbody:∀(cdv:Value) (A:Around) (outer:List Env) (s:Shared) (H:Hp) (vs:List V) (Q:VK) (E:XK),Room k (A.deeper (envOfC qual (zal st) s.heap.objs.size f cdv))->sp vs H Q E ->
   ∃t,PSs (zj2 (CXx P w) P w K mg base N qual (zal st) f cdv A outer s H E) (zdr st) t/\t { nx:=fun _ H'=>Q .non H',rt:=Q } (start N vs) H):FnOk P w K mg base (CXx P w) (k+1) f fd ps sp:=by
 obtain⟨oc,od,kV,doc,pm,an,cdv,ct,osl,rfl,lk,hcd⟩:=F.ex
 refine zs2 lk hcd S len fun A outer s H vs Q E hr hsp=>?_
 obtain⟨t,h,q⟩:=hbody cdv A outer s H vs Q E hr hsp
 exact⟨t,h,q⟩
def bmV:List Value:=[.type "ValueError",.type "Exception",.type "BaseException",.type "object"]
def XC(K:PySem.W.Frag)(C:Addr):Prop:=PySem.W.excIn K C bmV "ValueError.__new__" = true
theorem XC.obj{K:PySem.W.Frag}{h:Heap}{C:Addr}(q:XC K C)(X:K.In h):∃bm N nm qn bs hdct sn sub ab col dd k0 k1 k2 k3 k5 mN,
  h.get? C=some (excClassObj nm qn C N bs bm hdct sn sub ab col dd k0 k1 k2 k3 k5 "ValueError.__new__")/\h.Ns N mN/\mN "__init__" = none/\OwnTail h bmV bm:=by
 unfold XC PySem.W.excIn at q
 split at q
 case h_2=>cases q
 rename_i dd cd sl ho
 split at q
 case h_2=>cases q
 rename_i C' bm k0 k1 k2 k3 n k5 hm hs
 simp only[and_eq_true,beq_iff_eq,not_eq_true'] at q
 obtain⟨⟨⟨⟨⟨rfl,rfl⟩,hdel⟩,ht⟩,hok⟩,hni⟩:=q
 obtain⟨nm,bs,mro,ns,qn,hd,sn,sub,ab,col,del⟩:=cd
 dsimp only at hm hdel hok hni
 subst hm hdel
 have hsl:sl=#[k0,k1,k2,k3,some (.builtin "ValueError.__new__"),k5]:=by
  obtain⟨l⟩:=sl
  simp only at hs
  rw[hs]
 subst hsl
 exact⟨bm,ns,nm,qn,bs,hd,sn,sub,ab,col,dd,k0,k1,k2,k3,k5,_,X _ _ ho,.of_isNs (PySem.W.isNs_of_in X hok),PySem.W.nsMap_none_of_in X hok hni,PySem.W.tail_of_in X ht⟩
section
variable {X:Cx}
def PM(X:Cx)(e:Expr)(t:St->Prop):Prop:=∀(pins:List (Addr×Obj)) (s:Shared) (σ:St) (H:Hp),Inv X pins σ H s->t σ->wpAny (model X.prog X.w) X.A (eval e X.env) (fun u s'=>(∃y tk,u=.str y tk/\y.length<=1000)/\Inv X pins σ H s') X.xe s
def PX(X:Cx)(e:Expr)(t:St->Prop):Prop:=∀(pins:List (Addr×Obj)) (s:Shared) (σ:St) (H:Hp),Inv X pins σ H s->t σ->wpAny (model X.prog X.w) X.A (eval e X.env) (fun u s'=>Inv X pins σ H s') X.xe s
def PMs(X:Cx)(es:List Expr)(t:St->Prop):Prop:=∀(out:Str) (pins:List (Addr×Obj)) (s:Shared) (σ:St) (H:Hp),out.length+1000*es.length<=sizeLine->Inv X pins σ H s->t σ->wpAny (model X.prog X.w) X.A (joinParts out (evalEach es X.env)) (fun u s'=>Inv X pins σ H s') X.xe s
theorem zhK{x:Str}{j:Nat}{pos:Pos}(hx:x.length<=1000:=by decide):PM X (.Constant (.str x) j pos) (fun _=>True):=fun pins s σ H I _=>Calls.Constant_str ⟨⟨x,_,rfl,hx⟩,I.tok _⟩
theorem zr7{e:Expr}{pos:Pos}{n:Int}{s:Shared}{pins:List (Addr×Obj)}{σ:St}{H:Hp}(hn:n.natAbs<1000)(I:Inv X pins σ H s)(tk:Tok) :
  wpAny (model X.prog X.w) X.A (formatField (.int n tk) Str.empty) (fun u s'=>(∃y tk,u=.str y tk/\y.length<=1000)/\Inv X pins σ H s') X.xe s:=by
 have hl:n.natAbs.log2<100:=by
  by_cases h0:n.natAbs=0
  ·rw[h0];decide
  ·exact(log2_lt h0).mpr (lt_of_lt_of_le hn (by decide))
 refine formatField_int_small (by omega) ⟨⟨_,_,rfl,?_⟩,I.tok _⟩
 have e:=int_text_length_le (k:=100) (by decide) hl
 show(Str.ofString (toString n)).length<=1000
 rw[PySem.ofString_length];omega
theorem zll{x:Str}{p pos:Pos}(i:Nat)(hN:X.N[i]?=some x:=by rfl)(hv:Vis X.env.scope x:=by first|exact Or.inl rfl|exact Or.inr (Or.inl rfl)|exact Or.inr (Or.inr rfl))(hd:(x==("__debug__" : Str))=false:=by decide)(hcd:(x==("__classdict__" : Str))=false:=by decide):PM X (.FormattedValue (.Name x p) (-1) none pos) (fun σ=>∃n:Int,σ[i]?=some (some (.int n))/\n.natAbs<1000):=fun pins s σ H I ⟨n,e,hn⟩=>by
 refine FormattedValue_plain (thn (zfV (pos:=p) hN hv hd hcd pins s σ H (fun v H'=>v=.int n/\H'=H) I ⟨.int n,e,rfl,rfl⟩) fun u s1 ⟨v,H1,I1,r,hv,hH⟩=>?_)
 subst hv;subst hH
 obtain⟨tk,rfl⟩:∃tk,u=.int n tk:=r
 exact zr7 (e:=.Name x p) (pos:=pos) hn I1 tk
theorem zim:PMs X [] (fun _=>True):=fun out pins s σ H hl I _=>joinParts_nil (I.tok _) (by simpa using hl)
theorem zbU{e:Expr}{es:List Expr}{t t':St->Prop}(h1:PM X e t)(h2:PMs X es t'):PMs X (e::es) (fun σ=>t σ/\t' σ):=fun out pins s σ H hl I q=>by
 show wpAny _ _ (joinParts out (eval e X.env::evalEach es X.env)) _ _ _
 refine joinParts_cons (thn (h1 pins s σ H I q.1) fun u s1 ⟨⟨y,tk,hu,hy⟩,I1⟩=>?_)
 subst hu
 have hz:(out++y).length=out.length+y.length:=strLen_append _ _
 simp only[length_cons] at hl
 exact⟨by omega,h2 (out++y) pins s1 σ H (by omega) I1 q.2⟩
theorem zlm{x:Str}{j:Nat}{pos:Pos}:PX X (.Constant (.str x) j pos) (fun _=>True):=fun pins s σ H I _=>Calls.Constant_str (I.tok _)
theorem zin{e1 e2:Expr}{es:List Expr}{t:St->Prop}{pos:Pos}(h:PMs X (e1::e2::es) t)(hl:1000*(es.length+2)<=sizeLine:=by decide):PX X (.JoinedStr (e1::e2::es) pos) t:=fun pins s σ H I q =>
 JoinedStr_many (h Str.empty pins s σ H (by show 0+1000*(es.length+2)<=sizeLine;rw[zero_add];exact hl) I q)
theorem zm8{E:XK}{C:Addr}{x:Str}{np cpos pos:Pos}{e:Expr}{t:St->Prop}(hx:Flies X E)(hex:X.ex=[])(xc:XC X.K C)(hg:Gl X x)(hm:X.mg x=some (.ref C))(hh:X.A.handled=none)(ha:PX X e t)(he:starEach [e] X.env=[(false,eval e X.env)]:=by rfl)(hd:(x==("__debug__" : Str))=false:=by decide) :
  PS X (.Raise (some (.Call (.Name x np) [e] [] cpos)) none pos) (fun _ σ H=>t σ/\E (.ref C) none H):=by
 intro pins s σ H D I hq
 obtain⟨bm,N,nm,qn,bs,hdct,sn,sub,ab,col,dd,k0,k1,k2,k3,k5,mN,hC,hN,hni,T⟩:=xc.obj I.ok.mod.kin
 refine wpAny_Raise_call_subU (C:=C) (nm:=nm) (q:=qn) (N:=N) (bs:=bs) (bm:=bm) (hdct:=hdct) (sn:=sn) (sub:=sub) (ab:=ab) (col:=col) (dd:=dd) (k0:=k0) (k1:=k1) (k2:=k2) (k3:=k3) (k5:=k5)
  PySem.F.excBase_ValueError (by decide) PySem.F.excBase_ValueError (mN:=mN) (T.hasType PySem.F.excBase_ValueError.hasBase) hh (by rw[he];rfl) hni (zdq I hg hm ⟨rfl,?_⟩ hd)
 rw[he]
 refine Calls.evalArgs_plain (Calls.spliced_cons (thn (ha pins s σ H I hq.1) fun u s1 I1=>Calls.spliced_nil ?_))
 refine⟨rfl,(by show 1<=sizeLine;decide),I1.bk _ _ hC,hN.keeps I1.bk,T.keeps I1.bk,fun h' b hm=>?_⟩
 obtain⟨tt,e1,e2,e3⟩:=hm.there
 refine hx pins σ H { s1 with heap:=h' } b (.ref C) (I1.kept (t':=s1.toks) hm.keeps) ⟨_,_,_,zjO hex I1 hm.new,?_,e1,rfl,rfl,rfl,.inl rfl⟩ hq.2
 cases q:H b with
 | none=>rfl
 | some o=>obtain⟨u,e⟩:=(I1.hok b o q).there;rw[hm.new] at e;cases e
end
section
variable {X:Cx} {pins:List (Addr×Obj)} {σ:St} {H:Hp} {s:Shared} {a:Addr} {cls:Value}
theorem Inv.flown{h':Heap}(I:Inv X pins σ H s)(hex:X.ex=[])(F:Flown (frs X.stack) (Nw X pins) H a cls s.heap h'):Inv X pins σ H { s with heap:=h' }:=by
 have neL:∀b o,X.s₀.heap.get? b=some o->b≠X.env.locals:=fun b o e=>ne_of_lt (lt_of_lt_of_le (Heap.lt_size e) I.ok.above)
 have hs0:∀b o,X.s₀.heap.get? b=some o->¬Nw X pins b:=fun b o e n=>by rw[n.1] at e;cases e
 have stk:∀b,b≠X.env.locals->b∉X.fs->b∉frs X.stack:=fun b h1 h2=>I.stkNe h1 h2
 have anyK:∀b o,s.heap.get? b=some o->(¬Nw X pins b\/∀vs,o.data≠.fields vs)->∃sl,h'.get? b=some { o with slots:=sl }:=fun b o e hn=>by
  by_cases hm:b∈frs X.stack
  ·exact F.slot b o e hm
  ·exact⟨o.slots,F.keep b o e hm (.inr hn)⟩
 have cellK:∀x c,X.env.cells.lookup x=some c->∀v,s.heap.IsCell c v->h'.IsCell c v:=fun x c e v ⟨o,ho,hd⟩=>by
  obtain⟨sl,q⟩:=anyK c o ho (.inr fun vs q=>by rw[hd] at q;cases q)
  exact⟨_,q,hd⟩
 refine⟨I.ok,I.os,I.bare,⟨fun b o e n hb hx=>?_,fun b o e n hb hx=>?_,I.base.free,fun b o e hx=>?_,I.base.tups,I.base.frzs,I.base.tbls⟩,?_,fun x c e=>?_,I.free,I.freeC,fun p hp=>?_,fun b o e=>?_,I.len⟩
 ·exact F.keep b o (I.base.keep b o e n hb hx) (stk b (neL b o e) hb) (.inr (.inl (hs0 b o e)))
 ·obtain⟨sl,e1⟩:=I.base.slot b o e n hb hx
  obtain⟨sl',e2⟩:=anyK b _ e1 (.inl (hs0 b o e))
  exact⟨sl',e2⟩
 ·obtain⟨o',e1⟩:=I.base.there b o e hx
  obtain⟨sl',e2⟩:=anyK b _ e1 (.inl (hs0 b o e))
  exact⟨_,e2⟩
 ·obtain⟨m,hn,hl⟩:=I.loc
  obtain⟨oL,es,ep,hoL,hdL,r⟩:=id hn
  obtain⟨sl,q⟩:=anyK _ oL hoL (.inr fun vs q=>by rw[hdL] at q;cases q)
  refine⟨m,⟨_,es,ep,q,hdL,r⟩,fun i x v e1 e2 e3=>?_⟩
  obtain⟨u,r,l⟩:=hl i x v e1 e2 e3
  refine⟨u,r,?_⟩
  rcases l with l|⟨k,c,e,z⟩
  ·exact .inl l
  ·exact .inr ⟨k,c,e,cellK x c e _ z⟩
 ·obtain⟨v,z⟩:=I.cell x c e
  exact⟨v,cellK x c e v z⟩
 ·obtain⟨e,n,ne,nf,d⟩:=I.pin p hp
  exact⟨F.keep p.1 p.2 e (stk _ ne nf) (.inr (.inl fun hn=>hn.2 p hp rfl)),n,ne,nf,d⟩
 ·refine(I.hok b o e).stay (fun c u hc r=>?_) (fun _ q=>q) fun _ _ q=>q
  have hH:H c≠none:=by
   rcases hc with rfl|hc
   ·rw[e];simp
   ·rw[hc];simp
  exact F.keep c u r (fun hm=>hH (I.stkFree c hm)) (.inl hH)
theorem Fl.nw{h':Heap}(I:Inv X pins σ H s)(hex:X.ex=[])(F:Flown (frs X.stack) (Nw X pins) H a cls s.heap h'):Fl (Nw X pins) a cls H h':=F.fl.mono fun b hb=>hb.elim id fun hb=>zjO hex I hb
theorem zfs{N:Addr->Prop}{M:Model}{A:Around}{E:Value->Shared->Prop}{Q:Unit->Shared->Prop}(f:Fl N a cls H s.heap)(h:Q () s):wpAny M A (setFlight (.ref a) none) Q E s:=by
 obtain⟨oe,vs,a0,_,_,he,_,hd,h0,h1⟩:=f
 unfold setFlight
 rcases h1 with h1|⟨T,oT,ts,h1,_,_,_,hT,hdT,h3⟩
 ·refine wpAny_bind (wpAny_field he hd h1 ?_)
  rw[if_neg (by decide)]
  exact wpAny_pure h
 ·refine wpAny_bind (wpAny_field he hd h1 ?_)
  rw[if_pos (show(Value.ref T != Value.none)=true from by simp)]
  refine wpAny_setField hT hdT (Array.getElem?_eq_some_iff.mp h3).1 ?_
  show Q () { s with heap:=s.heap.update T (Obj.mapFields (·.setIfInBounds 3 Value.none)) }
  rw[Heap.update_setField_same s.heap T oT ts 3 Value.none hT hdT h3]
  exact h
theorem Inv.trackX{N:Addr->Prop}(I:Inv X pins σ H s)(hN:∀b,N b->Nw X pins b)(f:Fl N a cls H s.heap):Inv X pins σ (upd H a (.ext (VS.XPhi a cls))) s:=by
 obtain⟨oe,vs,a0,na,ha,he,hc,hd,h0,_⟩:=f
 obtain⟨n1,n2⟩:=hN a na
 obtain⟨m,hn,hl⟩:=id I.loc
 obtain⟨oL,es,ep,hoL,hdL,r⟩:=id hn
 have hne:a≠X.env.locals:=by rintro rfl;rw[he] at hoL;cases hoL;rw[hd] at hdL;cases hdL
 have up:∀b,b≠a->∀{o:Option HO},H b=o->upd H a (.ext (VS.XPhi a cls)) b=o:=fun b hb o e=>by rw[zaD hb];exact e
 refine⟨I.ok,I.os,I.bare,⟨I.base.keep,I.base.slot,fun b o e n hx=>?_,I.base.there,fun b xs e=>?_,fun b o u e=>?_,fun b ps e=>?_⟩,I.loc,I.cell,?_,fun x c e=>?_,fun p hp=>?_,I.hok.track ha ⟨⟨oe,vs,he,hc,hd,a0,h0⟩,⟨oe,he⟩,fun h1 h2 ⟨o,vs,e1,e2,e3⟩ k=>⟨o,vs,k _ e1,e2,e3⟩⟩,I.len⟩
 ·refine up b ?_ (I.base.free b o e n hx)
  rintro rfl;rw[n1] at e;cases e
 ·have:=I.base.tups b xs e
  exact up b (zaC this ha) this
 ·have:=I.base.frzs b o u e
  exact up b (zaC this ha) this
 ·obtain⟨m,this⟩:=I.base.tbls b ps e
  exact⟨m,up b (zaC this ha) this⟩
 ·exact up _ (Ne.symm hne) I.free
 ·refine up c ?_ (I.freeC x c e)
  rintro rfl
  obtain⟨v,o,ho,hd'⟩:=I.cell x c e
  rw[he] at ho;cases ho;rw[hd] at hd';cases hd'
 ·obtain⟨e,n,r⟩:=I.pin p hp
  exact⟨e,up _ (n2 p hp) n,r⟩
theorem zdM{M:Model}{A:Around}{E:Value->Shared->Prop}{i:Nat}{n:Str}{pos:Pos}{Q:Unit->Shared->Prop}(I:Inv X pins σ H s)(hN:X.N.Nodup)(hi:X.N[i]?=some n)(hk:X.env.scope.names.lookup n=some .local)(h:∀s',Inv X pins (σ.set i none) H s'->Q () s'):wpAny M A (do bindName X.env n .none;unbindBehindTheSuite X.env n pos) Q E s:=by
 obtain⟨m,hn,hl⟩:=id I.loc
 have hcls:(X.env.scope.kind==.class||(X.env.scope.kind==.module&&X.env.locals != X.env.globals))=false:=by rw[I.ok.kind];rfl
 refine wpAny_nameGoes_keeps hk hn hcls fun h' v hn' hs=>h _ ?_
 refine⟨I.ok,I.os,I.bare,⟨fun b o e n hb hx=>?_,fun b o e n hb hx=>?_,I.base.free,fun b o e hx=>?_,I.base.tups,I.base.frzs,I.base.tbls⟩,⟨_,hn',fun j y v' e1 e2 e3=>?_⟩,fun y c e=>?_,I.free,I.freeC,fun p hp=>?_,fun b ob e=>?_,by simpa using I.len⟩
 ·exact(hs.2 b (ne_of_lt (lt_of_lt_of_le (Heap.lt_size e) I.ok.above))).trans (I.base.keep b o e n hb hx)
 ·obtain⟨sl,e1⟩:=I.base.slot b o e n hb hx
  exact⟨sl,(hs.2 b (ne_of_lt (lt_of_lt_of_le (Heap.lt_size e) I.ok.above))).trans e1⟩
 ·obtain⟨o',e1⟩:=I.base.there b o e hx
  exact⟨o',(hs.2 b (ne_of_lt (lt_of_lt_of_le (Heap.lt_size e) I.ok.above))).trans e1⟩
 ·by_cases hj:j=i
  ·subst hj
   by_cases hjl:j<σ.length
   ·rw[getElem?_set_self hjl] at e2;cases e2
   ·rw[getElem?_eq_none (by simpa using hjl)] at e2;cases e2
  ·rw[getElem?_set_ne (Ne.symm hj)] at e2
   obtain⟨u',r',q⟩:=hl j y v' e1 e2 e3
   refine⟨u',r',?_⟩
   rcases q with ⟨k,e⟩|⟨k,c,e,z⟩
   ·refine .inl ⟨k,?_⟩
    have:y≠n:=fun e=>hj (zgj hN e1 (e▸hi))
    simp[this,e]
   ·exact .inr ⟨k,c,e,z.sameBut hs (I.cne y c e)⟩
 ·obtain⟨w',z⟩:=I.cell y c e
  exact⟨w',z.sameBut hs (I.cne y c e)⟩
 ·obtain⟨e,n,ne,nf,d⟩:=I.pin p hp
  exact⟨(hs.2 p.1 ne).trans e,n,ne,nf,d⟩
 ·refine(I.hok b ob e).stay (fun c w' hc q=>(hs.2 c ?_).trans q) (fun _ q=>q) fun _ _ q=>q
  rintro rfl
  rcases hc with rfl|hc
  ·rw[I.free] at e;cases e
  ·rw[I.free] at hc;cases hc
end
abbrev Cx.hnd(X:Cx)(a:Addr):Cx:={ X with A:=X.A.mark (some (.ref a)),calm:=false,xe:=fun _ _=>False }
section
variable {X:Cx} {pins:List (Addr×Obj)} {σ:St} {H:Hp} {s:Shared} {a:Addr}
theorem Cx.Ok.hnd(ok:X.Ok)(a:Addr):(X.hnd a).Ok :=
 ⟨ok.mod,ok.kind,ok.glob,ok.blt,ok.above,ok.inj,ok.has,ok.cab,fun h=>absurd (show false=true from h) Bool.false_ne_true,ok.frames,ok.stk,ok.exf,ok.bs,ok.bsz,ok.noex,ok.exfs,ok.funs,ok.frf⟩
theorem Inv.hnd(I:Inv X pins σ H s)(a:Addr):Inv (X.hnd a) pins σ H s:=⟨I.ok.hnd a,I.os,I.bare,I.base,I.loc,I.cell,I.free,I.freeC,I.pin,I.hok,I.len⟩
theorem Inv.unhnd(ok:X.Ok)(I:Inv (X.hnd a) pins σ H s):Inv X pins σ H s:=⟨ok,I.os,I.bare,I.base,I.loc,I.cell,I.free,I.freeC,I.pin,I.hok,I.len⟩
theorem SP.unhnd{D:Ends}{f:Flow}{s':Shared}(ok:X.Ok)(h:SP (X.hnd a) pins D f s'):SP X pins D f s':=by
 cases f with
 | next=>obtain⟨σ',H',I,q⟩:=h;exact⟨σ',H',I.unhnd ok,q⟩
 | brk=>obtain⟨σ',H',I,q⟩:=h;exact⟨σ',H',I.unhnd ok,q⟩
 | cont=>obtain⟨σ',H',I,q⟩:=h;exact⟨σ',H',I.unhnd ok,q⟩
 | ret u=>obtain⟨v,σ',H',I,r,q⟩:=h;exact⟨v,σ',H',I.unhnd ok,r,q⟩
end
theorem zfS{K:PySem.W.Frag}{M:Model}{A:Around}{E:Value->Shared->Prop}{s:Shared}{Q:Bool->Shared->Prop}{a C S:Addr}{oe:Obj}{b:Bool}(X:K.In s.heap)(he:s.heap.get? a=some oe)(hcls:oe.cls=.ref C)(xs:XC K S)(hm:PySem.W.mroIn K C (.ref S)=some b)(h:Q b s):wpAny M A (excMatches (.ref a) (.ref S)) Q E s:=by
 obtain⟨bm,N,nm,qn,bs,hdct,sn,sub,ab,col,dd,k0,k1,k2,k3,k5,mN,hC,hN,hni,T⟩:=xs.obj X
 have hL:=PySem.W.looks_mroIn (M:=M) X hm
 obtain⟨hp,g,d,tk,os⟩:=s
 have hcB:(Value.ref S::bm).contains (.type "BaseException")=true:=by rw[contains_cons,T.hasType PySem.F.excBase_ValueError.hasBase,Bool.or_true]
 have f:=tc_notTuple
 unfold excMatches
 repeat (first|with_reducible refine hL.at ?_|(with_reducible refine wpAny_loadPart_at he ?_;rw[hcls])|with_reducible refine wpAny_loadPart_at hC ?_|(with_reducible refine wpAny_isSubtype_exc hC ?_;rw[hcB])|wp_step)
 cases b<;>(wp_walk;exact h)
section
variable {X:Cx}
def PH(X:Cx)(h:ExceptHandler)(th:Value->TS):Prop:=∀(pins:List (Addr×Obj)) (s:Shared) (σ:St) (H:Hp) (D:Ends) (a:Addr) (cls:Value),Inv X pins σ H s->Fl (Nw X pins) a cls H s.heap->th cls D σ H ->
 wpAny (model X.prog X.w) X.A (handleBy (.ref a) X.env [h]) (SP X pins D) X.xe s
def zop(D:Ends)(i:Nat):Ends:={ nx:=fun σ' H'=>D.nx (σ'.set i none) H',rt:=D.rt,bk:=fun σ' H'=>D.bk (σ'.set i none) H',ct:=fun σ' H'=>D.ct (σ'.set i none) H' }
theorem ztN{S:Addr}{cn n:Str}{i:Nat}{np hpos:Pos}{b0:Stmt}{suite:List Stmt}{ts:TS}(hN:X.N.Nodup)(hi:X.N[i]?=some n)(hk:X.env.scope.names.lookup n=some .local)(hg:Gl X cn)(hm:X.mg cn=some (.ref S))(xs:XC X.K S)(hs:∀a,PSs (X.hnd a) (b0::suite) ts)(hd:(cn==("__debug__" : Str))=false:=by decide) :
  PH X (.ExceptHandler (some (.Name cn np)) (some n) (b0::suite) hpos) (fun cls D σ H=>(∃C,cls=.ref C/\PySem.W.mroIn X.K C (.ref S)=some true)/\∀a,H a=none->ts (zop D i) (σ.set i (some (.ref a))) (upd H a (.ext (VS.XPhi a cls)))):=by
 intro pins s σ H D a cls I fl ⟨⟨C,hC,hmr⟩,hq⟩
 subst hC
 refine wpAny_handleBy_cons (codeAny_handlers_test (zdq (X:=X.hnd a) (I.hnd a) hg hm ?_ hd)) (by intro q;cases q)
 obtain⟨oe,vs,a0,_,ha,he,hc,_⟩:=id fl
 refine zfS I.kIn he hc xs hmr ?_
 refine codeAny_handlers_suite_as (zfs fl (zgk (I.trackX (fun _ z=>z) fl) hN hi (.inl hk) (show RelV (.ref a) (.ref a) from rfl) (fun s2 I2=>?_) (.inr hk)))
 refine wpAny_mono (hs a pins s2 _ _ (zop D i) (I2.hnd a) (hq a ha)) (fun f s3 z=>?_) fun _ _ z=>z.elim
 have z':=SP.unhnd I.ok z
 cases f with
 | next=>obtain⟨σ',H',I3,q⟩:=z';exact zdM I3 hN hi hk fun s4 I4=>⟨_,H',I4,q⟩
 | brk=>obtain⟨σ',H',I3,q⟩:=z';exact zdM I3 hN hi hk fun s4 I4=>⟨_,H',I4,q⟩
 | cont=>obtain⟨σ',H',I3,q⟩:=z';exact zdM I3 hN hi hk fun s4 I4=>⟨_,H',I4,q⟩
 | ret u=>obtain⟨v,σ',H',I3,r,q⟩:=z';exact zdM I3 hN hi hk fun s4 I4=>⟨v,_,H',I4,r,q⟩
def XP(X:Cx)(pins:List (Addr×Obj))(σ:St)(E:XK)(e:Value)(s':Shared):Prop:=∃a cls H',e=.ref a/\Inv X pins σ H' s'/\Fl (Nw X pins) a cls H' s'.heap/\E cls none H'
def PCx(X:Cx)(e:Expr)(t:XK->TE):Prop:=∀(pins:List (Addr×Obj)) (s:Shared) (σ:St) (H:Hp) (Q:VK) (E:XK),Inv X pins σ H s->t E σ H Q->wpAny (model X.prog X.w) X.A (eval e X.env) (EP X pins σ Q) (XP X pins σ E) s
def PB(X:Cx)(b:List Stmt)(t:XK->TS):Prop:=∀(pins:List (Addr×Obj)) (s:Shared) (σ:St) (H:Hp) (D:Ends) (E:XK),Inv X pins σ H s->t E D σ H->wpAny (model X.prog X.w) X.A (execs b X.env) (SP X pins D) (XP X pins σ E) s
theorem zr8{b:List Stmt}{h:ExceptHandler}{t:XK->TS}{th:Value->TS}{pos:Pos}(hst:X.stack=X.env::X.outer)(hf:X.env.frame=some X.env.locals)(hex:X.ex=[])(hb:PB X b t)(hh:PH X h th) :
  PS X (.Try b [h] [] [] pos) (fun D σ H=>t (fun cls _ H'=>th cls D σ H') D σ H):=by
 intro pins s σ H D I q
 refine wpAny_Try_except (wpAny_mono (hb pins s σ H D _ I q) (fun f s1 z=>?_) fun e s1 ⟨a,cls,H',e1,I1,fl,z⟩=>?_)
 ·cases f with
  | next=>exact wpAny_execs_nil z
  | brk=>exact z
  | cont=>exact z
  | ret u=>exact z
 ·subst e1
  exact flown I1 hst hf fl fun h' F=>hh pins _ σ H' D a cls (I1.flown hex F) (Fl.nw I1 hex F) z
variable {k:Nat} {f:Addr} {fd:FuncData} {ps:List Str} {sp:Sp} {x:Str} {p pos:Pos} {e:Expr} {es:List Expr} {t:TA}
variable {te:XK->TE}
theorem zpB(he:PCx X e te)(hs:swapsWith e none pos.line X.env=pure false:=by rfl):PB X [.Expr e pos] (fun E D σ H=>te E σ H fun _ H1=>D.nx σ H1):=by
 intro pins s σ H D E I h
 exact wpAny_execs_cons (wpAny_Expr_any (wpAny_mono (he pins s σ H _ E I h) (fun v s1 ⟨x,H1,I1,r1,q1⟩=>wpAny_execs_nil ⟨σ,H1,I1,q1⟩) fun _ _ z=>z) I.quiet hs)
end
end L2
namespace L2
open PySem PySem.Spec PyProof.Rows PySem.W PySem.Builtin PySem.Builtin.ObjectAttr PySem.Builtin.Getset_descriptor
section
variable {prog:Program} {w:World} {A:Around} {E:Value->Shared->Prop} {K:PySem.W.Frag} {h:Heap} {g:Array GenState} {d:Drawn} {t:Nat} {os:OsState} {a C:Addr} {o:Obj}
def zux(K:PySem.W.Frag)(C:Addr):Bool:=findIn K (.ref C) "__getattribute__" == some (some (.builtin "BaseException.__getattribute__"))&&findIn K (.ref C) "__getattr__" == some none &&
 findIn K (.ref C) "__class__" == some (some (.builtin "object.__class__"))&&mroIn K C (.type "object")==some true&&mroIn K C (.type "BaseException")==some true&&(clsIn K C).isSome
end
end L2
namespace L2
open PySem PySem.Spec PyProof.Rows
section
variable {X:Cx}
end
end L2
namespace VS
open PySem PySem.Spec PyProof.Rows L2
section
def clOf(K:PySem.W.Frag)(nm:Str):Addr:=match PySem.W.nsIn K mainGlobals nm with
 | some (some (.ref C))=>C
 | _=>0
abbrev Gy(K:PySem.W.Frag):Ga:=⟨K,clOf K,fun x cv od _=>cv=.ref (clOf K x.nm)/\od=none⟩
abbrev XTb:=List (Str×Bool×List Str)
def ztO(K:PySem.W.Frag)(tb:XTb):Bool:=tb.all fun p=>PySem.W.nsIn K mainGlobals p.1==some (some (.ref (clOf K p.1)))&&(!p.2.1||PySem.W.excIn K (clOf K p.1) bmV "ValueError.__new__")&&zux K (clOf K p.1)&&PySem.W.kitOne K (.ref (clOf K p.1)) (.type "ValueError")==some true &&
 tb.all fun q=>PySem.W.kitOne K (.ref (clOf K p.1)) (.ref (clOf K q.1))==some (p.2.2.contains q.1)&&PySem.W.mroIn K (clOf K p.1) (.ref (clOf K q.1))==some (p.2.2.contains q.1)
structure XT (K:PySem.W.Frag) (mg:Str->Option Value) (tb:XTb):Prop where
 ok:ztO K tb=true
 mg:∀p∈tb,mg p.1=some (.ref (clOf K p.1))
theorem ztP{K:PySem.W.Frag}{h:Heap}{mg:Str->Option Value}{tb:XTb}(X:K.In h)(G:h.Ns mainGlobals mg)(ok:ztO K tb=true):XT K mg tb:=by
 refine⟨ok,fun p hp=>?_⟩
 have:=all_eq_true.mp ok p hp
 simp only[and_eq_true,beq_iff_eq] at this
 exact PySem.W.mg_of X G this.1.1.1.1
section
variable {K:PySem.W.Frag} {mg:Str->Option Value} {tb:XTb}
theorem XT.x(T:XT K mg tb){nm:Str}{fl:Bool}{anc:List Str}(h:(nm,fl,anc)∈tb):zux K (clOf K nm)=true/\PySem.W.kitOne K (.ref (clOf K nm)) (.type "ValueError")=some true /\
  ∀q∈tb,PySem.W.kitOne K (.ref (clOf K nm)) (.ref (clOf K q.1))=some (anc.contains q.1)/\PySem.W.mroIn K (clOf K nm) (.ref (clOf K q.1))=some (anc.contains q.1):=by
 have:=all_eq_true.mp T.ok _ h
 simp only[and_eq_true,beq_iff_eq,all_eq_true] at this
 exact⟨this.1.1.2,this.1.2,fun q hq=>this.2 q hq⟩
theorem XT.xc(T:XT K mg tb){nm:Str}{anc:List Str}(h:(nm,true,anc)∈tb):XC K (clOf K nm):=by
 have:=all_eq_true.mp T.ok _ h
 simp only[Bool.not_true,Bool.false_or,and_eq_true,beq_iff_eq,all_eq_true] at this
 exact this.1.1.1.2
end
def zpC(tb:XTb)(nm:Str):Option (List Str):=match tb.find? (fun p=>p.1==nm) with
 | some p=>some p.2.2
 | none=>none
theorem zln{tb:XTb}{nm:Str}{anc:List Str}(h:zpC tb nm=some anc):∃fl,(nm,fl,anc)∈tb:=by
 unfold zpC at h
 split at h
 ·rename_i p e
  cases h
  have h1:=mem_of_find?_eq_some e
  have h2:=find?_some e
  simp only[beq_iff_eq] at h2
  obtain⟨a,b,c⟩:=p
  dsimp only at h2
  subst h2
  exact⟨b,h1⟩
 ·cases h
def zsB(tb:XTb)(nm:Str):Option (List Str):=match tb.find? (fun p=>p.1==nm&&p.2.1) with
 | some p=>some p.2.2
 | none=>none
theorem zi5{tb:XTb}{nm:Str}{anc:List Str}(h:zsB tb nm=some anc):(nm,true,anc)∈tb:=by
 unfold zsB at h
 split at h
 ·rename_i p e
  cases h
  have h1:=mem_of_find?_eq_some e
  have h2:=find?_some e
  simp only[and_eq_true,beq_iff_eq] at h2
  obtain⟨a,b,c⟩:=p
  dsimp only at h2
  obtain⟨rfl,rfl⟩:=h2
  exact h1
 ·cases h
def noX{α:Type}(m:M α):M α:=fun ce=>match m ce with
 | some (.ok a ce')=>some (.ok a ce')
 | _=>none
section
variable {α β:Type} {X:Cx} {G:Ga} {E E':XK} {RP:Hp->List Addr->α->β->Prop}
theorem toT.noX{d:Sl->M α}{σ:VS.St}{H:Hp}{Q:β->Hp->Prop}(h:toT G E RP (fun sl=>VS.noX (d sl)) σ H Q):toT G E' RP d σ H Q:=by
 obtain⟨F,as,sl,ce,S,P⟩:=h
 refine⟨F,as,sl,ce,S,?_⟩
 unfold VS.noX at P
 dsimp only at P
 split at P
 ·rename_i a ce' e
  rw[e];exact P
 ·exact(show False from P).elim
def zfT{α:Type}(d:Sl->M α):Sl->M α:=fun sl=>noX (d sl)
theorem zi6{e:Expr}{d:Sl->M W}(h:PE X e (zax G E0 d)):PE X e (zax G E (zfT d)):=PE.imp h fun _ _ _ z=>z.noX
theorem zoq{e:Expr}{d:Sl->M Bool}(h:PT X e (zcc G E0 d)):PT X e (zcc G E (zfT d)):=PT.imp h fun _ _ _ z=>z.noX
end
def sml(sl:Sl)(i:Nat):Bool:=match sl[i]? with
 | some (some (.int n))=>decide (n.natAbs<1000)
 | _=>false
def zbo(nm:Str)(l:List Nat):DS:=fun sl ce=>if l.all (sml sl)=true then some (.ex ⟨nm,none⟩ ce) else none
section
variable {X:Cx} {K:PySem.W.Frag} {E:XK} {tb:XTb} {x:Str} {np cpos pos:Pos} {e:Expr} {t:L2.St->Prop}
theorem zdN{l:List Nat}{anc:List Str}(hx:Flies X E)(hK:X.K=K)(T:XT K X.mg tb)(hm:zsB tb x=some anc)(hex:X.ex=[])(hg:Gl X x)(hh:X.A.handled=none)(ha:PX X e t)(ht:∀σ:L2.St,(∀i∈l,∃n:Int,σ[i]?=some (some (.int n))/\n.natAbs<1000)->t σ)(he:starEach [e] X.env=[(false,eval e X.env)]:=by rfl)(hd:(x==("__debug__" : Str))=false:=by decide) :
  PS X (.Raise (some (.Call (.Name x np) [e] [] cpos)) none pos) (toTS (Gy K) E (zbo x l)):=by
 have hmem:=zi5 hm
 have hx':=T.xc hmem
 refine PS.imp (zm8 (E:=E) (C:=clOf K x) hx hex (by rw[hK];exact hx') hg (T.mg _ hmem) hh ha he hd) fun D σ H zz_=>el6 zz_ fun F as sl ce S P=>?_
 unfold zbo at P
 split at P
 ·rename_i h
  refine⟨ht σ fun i hi=>?_,P H F as (.ref (clOf K x)) none .refl S.st ⟨rfl,rfl⟩⟩
  have:=all_eq_true.mp h i hi
  unfold sml at this
  split at this
  ·rename_i n e
   obtain⟨v,e1,e2⟩:=S.slot i _ e
   simp only[Rep] at e2
   subst e2
   exact⟨n,e1,of_decide_eq_true this⟩
  ·cases this
 ·exact(show False from P).elim
end
def zvq(d:DS):DS:=fun sl ce=>match d sl ce with
 | some (.go f sl' ce')=>some (.go f sl' ce')
 | _=>none
def zuy(put:Option Nat)(sl:Sl)(w:W):Sl:=match put with
 | some i=>sl.set i (some w)
 | none=>sl
def zuz(put:Option Nat)(σ:VS.St)(v:V):VS.St:=match put with
 | some i=>σ.set i (some v)
 | none=>σ
def zm9(c:Sl->M W)(put:Option Nat)(ok:Exn->Bool)(hd:Exn->DS):DS:=fun sl ce=>match c sl ce with
 | some (.ok w ce')=>some (.go .nx (zuy put sl w) ce')
 | some (.ex x ce')=>if ok x=true then hd x sl ce' else none
 | none=>none
def ztQ(i:Nat):Option O->Option O
 | some (.go f sl ce)=>some (.go f (sl.set i none) ce)
 | _=>none
def dAs(i:Nat)(d:DS):Exn->DS:=fun x sl ce=>ztQ i (d (sl.set i (some (.cel ce.length))) (ce++[.exn x.nm]))
def zft(tb:XTb)(cn:Str)(x:Exn):Bool:=match zpC tb x.nm with
 | some anc=>anc.contains cn&&tb.any (fun p=>p.1==cn)
 | none=>false
theorem zjP{K:PySem.W.Frag}{mg:Str->Option Value}{tb:XTb}(T:XT K mg tb){cn:Str}{x:Exn}(h:zft tb cn x=true):PySem.W.mroIn K (clOf K x.nm) (.ref (clOf K cn))=some true:=by
 unfold zft at h
 split at h
 ·rename_i anc e
  simp only[and_eq_true,any_eq_true,beq_iff_eq] at h
  obtain⟨h1,p,hp,rfl⟩:=h
  have:=((T.x (zln e).choose_spec).2.2 p hp).2
  rw[h1] at this
  exact this
 ·cases h
theorem SR.unset{G:Ga}{F:Hp}{as:List Addr}{H:Hp}{σ:VS.St}{sl:Sl}{ce:Ce}(S:SR G F as H σ sl ce)(i:Nat):SR G F as H (σ.set i none) (sl.set i none) ce:=by
 refine⟨S.st,by rw[length_set,length_set];exact S.len,fun j u e=>?_⟩
 by_cases hj:i=j
 ·subst hj
  have hi:i<sl.length:=by have:=zay e;rwa [length_set] at this
  rw[getElem?_set_self hi] at e
  cases e
 ·rw[getElem?_set_ne hj] at e
  obtain⟨v,h1,h2⟩:=S.slot j u e
  exact⟨v,by rw[getElem?_set_ne hj];exact h1,h2⟩
section
variable {X:Cx} {K:PySem.W.Frag} {E:XK} {tb:XTb} {k n:Nat} {f:Addr} {fd:FuncData} {ps:List Str} {df:List W->M W} {x cn:Str} {p pos hpos np cpos epos:Pos} {e:Expr} {es:List Expr} {dr:Sl->M (List W)} {h:ExceptHandler} {hd:Exn->DS} {ok:Exn->Bool} {b0:Stmt} {suite:List Stmt} {ds:DS}
def PHv(K:PySem.W.Frag)(E:XK)(X:Cx)(h:ExceptHandler)(ok:Exn->Bool)(hd:Exn->DS):Prop:=∃th:Value->TS,PH X h th/\∀D σ H F as sl ce (x:Exn),SR (Gy K) F as H σ sl ce->ok x=true->PostS (Gy K) E D F as (hd x sl ce)->th (.ref (clOf K x.nm)) D σ H
theorem ztR{i:Nat}{nm:Str}{anc:List Str}(hK:X.K=K)(T:XT K X.mg tb)(hm:zsB tb cn=some anc)(hN:X.N.Nodup)(hi:X.N[i]?=some nm)(hk:X.env.scope.names.lookup nm=some .local)(hg:Gl X cn)(hs:∀a,PSs (X.hnd a) (b0::suite) (toTS (Gy K) E0 ds))(hd:(cn==("__debug__" : Str))=false:=by decide):PHv K E X (.ExceptHandler (some (.Name cn np)) (some nm) (b0::suite) hpos) (zft tb cn) (dAs i ds):=by
 have hmem:=zi5 hm
 refine⟨_,ztN hN hi hk hg (T.mg _ hmem) (by rw[hK];exact T.xc hmem) hs hd,fun D σ H F as sl ce x S hx P=>⟨⟨_,rfl,by rw[hK];exact zjP T hx⟩,fun a ha=>?_⟩⟩
 obtain⟨S2,l2⟩:=S.st.alloc (G:=Gy K) (o:=.ext (XPhi a (.ref (clOf K x.nm)))) ha (c:=.exn x.nm) (fun as' _=>zaw)
 have S3:SR (Gy K) F (as++[a]) (upd H a (.ext (XPhi a (.ref (clOf K x.nm))))) σ sl (ce++[.exn x.nm]):=S.slots S2 l2
 have hr:Rep F (as++[a]) (.cel ce.length) (.ref a):=by
  simp only[Rep]
  exact⟨a,rfl,by rw[<- S.st.len];simp⟩
 refine⟨F,as++[a],_,_,S3.put hr i,?_⟩
 unfold dAs at P
 revert P
 cases ds (sl.set i (some (.cel ce.length))) (ce++[.exn x.nm]) with
 | none=>exact fun P=>P
 | some o=>cases o with
  | ex y ce'=>exact fun P=>(show False from P).elim
  | go f sl' ce' =>
   intro P σ' H' F' as' l S'
   have q:=P (σ'.set i none) H' F' as' (l2.trans l) (S'.unset i)
   cases f with
   | nx=>exact q
   | bk=>exact q
   | ct=>exact q
   | rt w=>exact q
end
section
variable {X:Cx} {K:PySem.W.Frag} {E:XK} {tb:XTb} {cn:Str} {p pos p2:Pos} {e:Expr} {d:Sl->M W} {F:Hp} {as:List Addr} {H:Hp} {ce:Ce} {w:W} {v:V}
end
end
section
theorem XT.at{K:PySem.W.Frag}{mg:Str->Option Value}{tb:XTb}(T:XT K mg tb){cn:Str}(h:tb.any (fun p=>p.1==cn)=true):mg cn=some (.ref (clOf K cn)):=by
 obtain⟨q,hq,hqn⟩:=any_eq_true.mp h
 exact beq_iff_eq.mp hqn▸T.mg q hq
section
variable {P:Program} {w:World} {K:PySem.W.Frag} {mg:Str->Option Value} {base:Heap} {k:Nat} {f:Addr} {fd:FuncData} {ps:List Str}
theorem zr9{sp:Sp}(F:FnOk P w K mg base (CXx P w) k f fd ps sp):FnOk P w K mg base CX0 k f fd ps (fun vs H Q _=>sp vs H Q E0):=by
 refine⟨fun vs H Q E h=>F.len vs H Q E0 h,fun A outer s H args us vs Q E hr he hb hv hs=>codeAny_mono (F.run A outer s H args us vs Q E0 hr he hb hv hs) fun r s' h=>?_⟩
 cases r with
 | error e=>obtain⟨_,_,_,_,_,_,_,_,_,z⟩:=h;exact z
 | ok fl=>cases fl<;>exact h
theorem zpD{G:PySem.W.Frag->Ga}{d:List W->M W}(nl:noL K=true)(h:FnOk P w K mg base (CXx P w) k f fd ps (spV (G K) (fun E=>E) 1 d)):FnOk P w K mg base CX0 k f fd ps (spLaw G d K):=(zr9 h).imp fun _ _ _ _ q=>q nl
end
end
section
def Xt(T:Exn->Ce->Prop):O->Prop
 | .ex x ce=>T x ce
 | _=>False
section
variable {sl:Sl} {ce c1:Ce} {a b:DS} {Q:O->Prop} {x:Exn} {nm:Str} {l:List Nat}
theorem zlo(h:l.all (sml sl)=true)(q:Q (.ex ⟨nm,none⟩ ce)):Run (zbo nm l) sl ce Q:=⟨_,by unfold zbo;rw[if_pos h],q⟩
theorem zlp(h:Run a sl ce (Xt fun x c=>Q (.ex x c))):Run (zaq a b) sl ce Q:=by
 obtain⟨o,e,q⟩:=h
 cases o with
 | ex x c=>exact⟨_,by simp only[zaq,e],q⟩
 | go f sl' c=>exact(show False from q).elim
theorem zdO(h:l.all (sml sl)=true)(q:Q (.ex ⟨nm,none⟩ ce)):Run (zaq (zbo nm l) b) sl ce Q:=zlp (zlo h q)
variable {f:List W->M W} {n:Nat} {ra:Sl->M (List W)} {ws:List W} {e:Sl->M W} {i:Nat}
theorem zna(h:ra sl ce=some (.ok ws c1))(hn:ws.length=n)(hf:f ws c1=some (.ex x ce)):zaH n f ra sl ce=some (.ex x ce):=by simp only[zaH,bnd,h,hn,if_true,hf]
theorem zdn{α:Type}{d:Sl->M α}{v:α}(h:d sl ce=some (.ok v c1)):zfT d sl ce=some (.ok v c1):=by simp only[zfT,noX,h]
theorem zdP{fin:Ce->Ce->W->Option (R W)}{body:DS}(sl:Sl)(e:ws.map some++List.replicate (n-ws.length) none=sl)(h:Run body sl ce (Xt fun y c'=>y=x/\∃t,c'=ce++t)):dFn fin n body ws ce=some (.ex x ce):=by
 subst e
 obtain⟨o,e,q⟩:=h
 cases o with
 | go f sl' c=>exact(show False from q).elim
 | ex y c =>
  obtain⟨rfl,t,rfl⟩:=q
  have hc:zdI ce (ce++t):=⟨by simp,fun k c hk e=>.inl (by rw[getElem?_append_left hk] at e;exact e)⟩
  simp only[dFn,e]
  rw[if_pos hc]
  simp
theorem znb{c:Sl->M W}{put:Option Nat}{ok:Exn->Bool}{hd:Exn->DS}{w:W}(h:c sl ce=some (.ok w c1))(q:Run b (zuy put sl w) c1 Q):Run (zaq (zm9 c put ok hd) b) sl ce Q:=zb8 (by simp only[zm9,h]) q
theorem znc{c:Sl->M W}{put:Option Nat}{ok:Exn->Bool}{hd:Exn->DS}{sl':Sl}{c2:Ce}(h:c sl ce=some (.ex x c1))(hok:ok x=true)(e:hd x sl c1=some (.go .nx sl' c2))(q:Run b sl' c2 Q):Run (zaq (zm9 c put ok hd) b) sl ce Q :=
 zb8 (by simp only[zm9,h];rw[if_pos hok];exact e) q
variable {α:Type} {en:α->W} {src:Src} {g:DG} {body:DS} {zs:List α} {di:Sl->M Src}
end
end
end VS
namespace L2
open PySem PySem.Spec PyProof.Rows
section
variable {X:Cx}
end
end L2
namespace VS
open PySem PySem.Spec PyProof.Rows L2
section
section
variable {G:Ga} {E:XK}
end
end
section
end
end VS
namespace L2
open PySem PySem.Spec PyProof.Rows
section
variable {X:Cx}
def zuA:V->List V->Hp->VK->Prop:=fun x vs H Q=>∃(l:Addr) (ns:List Int) (i:Int),x=.ref l/\vs=[.int i]/\H l=some (.lst (ns.map V.int))/\i∈ns/\Q .non (upd H l (.lst ((ns.erase i).map V.int)))
theorem zsa:MtM X "list.remove" zuA:=by
 intro pins s σ H x vs v us Q I rx rv h
 obtain⟨l,ns,i,rfl,rfl,hH,hi,q⟩:=h
 cases rx
 obtain⟨u,rfl,ru⟩:=zeG rv
 obtain⟨t,rfl⟩:=ru
 obtain⟨z,its,n,r,hl,e⟩:=I.lstM hH
 have hI:IntsAre its ns:=zb5 r
 have hlen:=hI.length
 have hj:ns.idxOf i<ns.length:=idxOf_lt_length_iff.mpr hi
 have hsz:its.toArray.size<=sizeLine:=by rw[size_toArray];omega
 refine call_meets PySem.F.slot_list_remove ⟨_,e,rfl⟩ PySem.F.entry_list_remove (PySem.F.args_list_remove_2 _ _)
  (MeetsSeq.list_remove l its.toArray n (.int i t) (isInt i) (fun y hy=>eq_isInt i t hI y (by simpa using hy)) (ns.idxOf i) (by simpa[hlen] using hj) ?_ ?_ hsz) ⟨e,?_⟩
 ·show isInt i its[ns.idxOf i]=true
  rw[isInt_at i hI _ (by omega) hj]
  simpa using getElem_idxOf hj
 ·intro m hm hlt
  show isInt i its[m]=false
  rw[isInt_at i hI m (by simpa using hm) (by omega)]
  exact ne_of_lt_idxOf hlt _
 ·refine⟨.non,_,I.lset (its':=its.eraseIdx (ns.idxOf i)) hH e ?_ ?_ ?_,rfl,q⟩
  ·apply toList_inj.mp
   simp[toList_eraseIdxIfInBounds]
  ·rw[erase_eq_eraseIdx_of_idxOf rfl,eraseIdx_eq_take_drop_succ,eraseIdx_eq_take_drop_succ,map_append,map_take,map_drop]
   exact(r.take _).append (r.drop _)
  ·rw[length_map] at z ⊢;exact le_trans (length_erase_le ..) z
end
end L2
namespace VS
open PySem PySem.Spec PyProof.Rows L2
section
open Classical in
def zsb:W->List W->M W:=fun w ws ce=>match zl6 ce w,ws with
 | some (k,xs),[.int i]=>match zei xs with
  | some ns=>if i∈ns then some (.ok .non (ce.set k (.lst ((ns.erase i).map W.int)))) else none
  | none=>none
 | _,_=>none
section
variable {G:Ga} {E:XK}
theorem ztS:Mt G E zuA zsb:=by
 intro F as H σ sl ce w v ws vs Q S rw' rs P
 revert P
 unfold zsb
 split
 ·rename_i k xs i hc
  intro P
  split at P
  ·rename_i ns hn
   split at P
   ·rename_i hi
    have hx:=zc8 hn
    subst hx
    obtain⟨a,us,rfl,ha,hH,r⟩:=zdF S.st rw' hc
    obtain⟨v1,rfl,rv⟩:=zbp rs
    simp only[Rep] at rv
    subst rv
    have:=r.of_ints
    subst this
    refine⟨a,ns,i,rfl,rfl,hH,hi,P .non _ F as .refl (S.slots (S.st.write (o:=.lst ((ns.erase i).map V.int)) (c:=.lst ((ns.erase i).map W.int)) ha ⟨_,zaw,Reps.ints _⟩) .refl) (by simp only[Rep])⟩
   ·exact(show False from P).elim
  ·exact(show False from P).elim
 ·exact fun P=>(show False from P).elim
theorem zhL:∀(l:List Nat) (p:Nat),(toI l).erase (p:Int)=toI (l.erase p)
 | [],_=>rfl
 | a::l,p=>by
  unfold toI
  rw[map_cons,erase_cons,erase_cons]
  by_cases h:a=p
  ·subst h;simp
  ·have h':¬((a:Int)=(p:Int)):=by omega
   have h1:((a:Int)==(p:Int))=false:=by simpa using h'
   have h2:(a==p)=false:=by simpa using h
   have ih:=zhL l p
   unfold toI at ih
   rw[h1,h2]
   simp only[false_eq_true,if_false,map_cons,ih]
theorem zsc{ce:Ce}{k p:Nat}{l:List Nat}(g:ce[k]?=some (.lst (l.map nW)))(hp:p∈l):zsb (.cel k) [nW p] ce=some (.ok .non (ce.set k (.lst ((l.erase p).map nW)))):=by
 have hi:(p:Int)∈toI l:=mem_map.mpr ⟨p,hp,rfl⟩
 simp only[zsb,zez g,nW,zeP]
 rw[zk5,if_pos hi,zhL]
end
end
end VS
namespace HT
open PySem PySem.Spec PyProof.Rows
section
variable {prog:Program} {w:World} {A:Around} {E:Value->Shared->Prop} {s:Shared}
end
end HT
namespace L2
open PySem PySem.Spec PyProof.Rows
section
variable {X:Cx} {e:Expr} {te:TE} {st:Expr} {ts:TO} {pos p2:Pos}
theorem zi7{K:PySem.W.Frag}(hc:X.calm=true:=by rfl)(hK:X.K=K:=by rfl):CallR X (.builtin "sum") (fun xs H Q=>∃(a:Addr) (ns:List Int),xs=[.ref a]/\SqL K H a (ns.map V.int)/\Q (.int ns.sum) H):=by
 subst hK
 intro pins s σ H xs us Q I r h
 obtain⟨a,ns,rfl,ha,q⟩:=h
 obtain⟨u,rfl,rx⟩:=zeG r
 cases rx
 obtain⟨its,r1,p1,_⟩:=I.list ha
 have hI:IntsAre its ns:=zb5 r1
 obtain⟨xs,e⟩:=hI.allInts.items
 have hl:s.heap.IsList a (intItems xs):=by rw[<- e];exact p1.isList
 refine sum_intListG (I.ok.hd hc) hl fun h' tk t' hk=>?_
 have e3:preSum (numAt xs) xs.size=ns.sum:=by
  rw[preSum_eq,take_of_length_le (by simp)]
  have:numsOf its.toArray.toList=ns:=hI.numsOf
  rw[e,nums_intItems] at this
  rw[this]
 rw[e3]
 exact⟨.int ns.sum,H,I.kept hk,⟨_,rfl⟩,q⟩
end
end L2
namespace VS
open PySem PySem.Spec PyProof.Rows L2
section
def zqp:List W->M W:=fun ws ce=>match ws with
 | [w]=>match zcw ce w with
  | some xs=>match zei xs with
   | some ns=>some (.ok (.int ns.sum) ce)
   | none=>none
  | none=>none
 | _=>none
section
variable {X:Cx} {G:Ga} {E:XK} {a:Expr} {da:Sl->M W} {pos p2:Pos}
theorem zsd(K:PySem.W.Frag):Bi G E (fun xs H Q=>∃(a:Addr) (ns:List Int),xs=[.ref a]/\SqL K H a (ns.map V.int)/\Q (.int ns.sum) H) zqp:=by
 intro F as H σ sl ce ws vs Q S rs P
 unfold zqp at P
 split at P
 ·rename_i w
  obtain⟨v,rfl,r⟩:=zbp rs
  split at P
  ·rename_i xs hx
   split at P
   ·rename_i ns hi
    obtain⟨a,us,rfl,h,rs'⟩:=zbI S.st r hx
    cases zc8 hi
    cases rs'.of_ints
    exact⟨a,ns,rfl,.inl h,P.done S (by simp only[Rep])⟩
   ·exact P.elim
  ·exact P.elim
 ·exact P.elim
theorem zlq{ce:Ce}{ns:List Int}:zqp [sW ns] ce=some (.ok (.int ns.sum) ce):=by simp only[zqp,zcw,zcJ]
end
end
theorem us1{fd:FuncData}{ps:List Str}(h:∀a,bindArgs fd { pos:=[a] }=pure (ps.zip [a])):∀us:List Value,us.length=1->bindArgs fd { pos:=us }=pure (ps.zip us)
 | [a],_=>h a
theorem us2{fd:FuncData}{ps:List Str}(h:∀a b,bindArgs fd { pos:=[a,b] }=pure (ps.zip [a,b])):∀us:List Value,us.length=2->bindArgs fd { pos:=us }=pure (ps.zip us)
 | [a,b],_=>h a b
theorem us3{fd:FuncData}{ps:List Str}(h:∀a b c,bindArgs fd { pos:=[a,b,c] }=pure (ps.zip [a,b,c])):∀us:List Value,us.length=3->bindArgs fd { pos:=us }=pure (ps.zip us)
 | [a,b,c],_=>h a b c
theorem us4{fd:FuncData}{ps:List Str}(h:∀a b c d,bindArgs fd { pos:=[a,b,c,d] }=pure (ps.zip [a,b,c,d])):∀us:List Value,us.length=4->bindArgs fd { pos:=us }=pure (ps.zip us)
 | [a,b,c,d],_=>h a b c d
theorem us5{fd:FuncData}{ps:List Str}(h:∀a b c d e,bindArgs fd { pos:=[a,b,c,d,e] }=pure (ps.zip [a,b,c,d,e])):∀us:List Value,us.length=5->bindArgs fd { pos:=us }=pure (ps.zip us)
 | [a,b,c,d,e],_=>h a b c d e
section
section
variable {κ:Type} [DecidableEq κ] {F:Hp} {as:List Addr} {kvs:List (κ×W)} {ps:List (κ×V)}
end
section
variable {G:Ga} {F:Hp} {as:List Addr} {H:Hp} {ce:Ce} {w:W} {v:V}
end
section
variable {X:Cx} {G:Ga} {E:XK} {a b c:Expr} {da db dc:Sl->M W} {pos:Pos}
end
section
variable {sl:Sl} {ce c1 c2 c3:Ce} {k:Nat} {a b o i v:Sl->M W} {x y w:W}
end
end
end VS
namespace L2
open PySem PySem.Spec PyProof.Rows PySem.MeetsSeq
open PySem.AutoSeq1 (wpAny_loadPart')
end L2
namespace VS
open PySem PySem.Spec PyProof.Rows L2
section
section
variable {X:Cx}
end
section
variable {G:Ga} {E:XK}
end
end
end VS
namespace L2
open PySem PySem.Spec PyProof.Rows
section
variable {X:Cx} {e:Expr} {te:TE} {st:Expr} {ts:TO} {pos p2:Pos}
end
end L2
namespace VS
open PySem PySem.Spec PyProof.Rows L2
section
section
variable {X:Cx} {G:Ga} {E:XK} {a:Expr} {da:Sl->M W} {pos p2:Pos}
end
end
end VS
namespace L2
open PySem
def Ris(xs:Array Nat):Prop:=xs.toList.Pairwise (·<·)
structure TOk (t:SetTable):Prop where
 dum:t.dummies=#[]
 ris:t.plain=true->Ris t.place
end L2
namespace L2
open PySem PySem.Spec PyProof.Rows
def iv:Value->Int
 | .int k _=>k
 | _=>0
section
variable {prog:Program} {w:World} {A:Around} {E:Value->Shared->Prop} {s:Shared} {a:Addr} {ds:List Int} {led:Bool}
def zvr(prog:Program)(w:World)(h:Heap)(a:Addr)(ds:List Int)(led:Bool):Prop :=
 ∃o es ep t,h.get? a=some o/\o.ExactSet/\o.data=.set es ep t/\ElemsOf (intKind prog w) es.toList/\es.size<scanBound/\t.fits es.size=true/\TOk t/\t.led=led/\(∀e∈es.toList,∃k tk,e.2=.int k tk)/\(es.toList.map fun e=>iv e.2).Perm ds
end
section
variable {prog:Program} {w:World} {A:Around} {R:Result->Shared->Prop} {I:Addr} {fp wr:List Addr} {G:Array GenState->Array GenState->Prop} {n:Nat} {P:Nat->Value->Prop} {St:Nat->Shared->Prop}
end
section
variable {prog:Program} {w:World} {A:Around} {E:Value->Shared->Prop} {s:Shared}
end
section
variable {prog:Program} {w:World} {A:Around} {E:Value->Shared->Prop} {s:Shared} {a:Addr} {o:Obj} {es:Array (Int×Value)} {ep:Nat} {t:SetTable}
end
section
variable {prog:Program} {w:World} {A:Around} {E:Value->Shared->Prop} {s:Shared} {a I T:Addr} {o:Obj} {es:Array (Int×Value)} {ep:Nat} {t:SetTable} {i sl sl':Nat} {x:Value} {Q:Option Value->Shared->Prop}
end
section
variable {prog:Program} {w:World} {A:Around} {E:Value->Shared->Prop} {s:Shared} {a I T:Addr} {o:Obj} {es:Array (Int×Value)} {ep:Nat} {t:SetTable} {ds:List Int}
end
section
variable {prog:Program} {w:World} {A:Around} {E:Value->Shared->Prop} {s:Shared} {a:Addr} {ds:List Int}
end
section
variable {X:Cx} {e:Expr} {t:TA} {p pos p2 pos2:Pos}
end
end L2
namespace VS
open PySem PySem.Spec PyProof.Rows L2
section
section
variable {X:Cx} {G:Ga} {E:XK} {e:Expr} {dr:Sl->M (List W)} {p pos p2 pos2:Pos}
end
end
end VS
namespace L2
open PySem PySem.Spec PyProof.Rows
open PySem.AutoSeq1 (wpAny_loadPart')
section
variable {prog:Program} {w:World} {A:Around} {E:Value->Shared->Prop} {s:Shared}
end
end L2
namespace L2
open PySem PySem.Spec PyProof.Rows PySem.MeetsSeq PySem.MeetsSeq3
open PySem.AutoSeq1 (wpAny_loadPart')
section
variable {prog:Program} {w:World} {A:Around} {E:Value->Shared->Prop} {s:Shared}
end
end L2
namespace L2
open PySem PySem.Spec PyProof.Rows
section
variable {prog:Program} {w:World} {A:Around} {E:Value->Shared->Prop} {s:Shared}
end
section
variable {X:Cx}
end
end L2
namespace VS
open PySem PySem.Spec PyProof.Rows L2
section
section
variable {X:Cx} {G:Ga} {E:XK}
end
end
section
variable {X:Cx} {G:Ga} {E:XK} {a b c:Expr} {da db dc:Sl->M W} {pos:Pos}
end
section
variable {G:Ga} {E:XK}
end
end VS
namespace L2
open PySem PySem.Spec PyProof.Rows
section
variable {X:Cx}
end
end L2
namespace VS
open PySem PySem.Spec PyProof.Rows L2
section
variable {X:Cx} {K:PySem.W.Frag} {E:XK} {tb:XTb} {c1 c2:Str} {p1 p2 tpos hpos:Pos} {b0:Stmt} {suite:List Stmt} {ds:DS}
end
end VS
namespace L2
open PySem PySem.Spec PyProof.Rows
section
variable {X:Cx} {k:Nat} {f C:Addr} {fd:FuncData} {ps:List Str} {sp:Sp} {x m:Str} {p pos apos:Pos} {e o:Expr} {es:List Expr} {t:TA} {ta:TE}
theorem zpE{pins:List (Addr×Obj)}{σ:St}{H:Hp}{s:Shared}{Q:VK}{E:XK}{us:List Value}{vs:List V}(F:FnOk X.prog X.w X.K X.mg X.base (CXx X.prog X.w) k f fd ps sp)(hr:Room k X.A)(hex:X.ex=[])(hb:Binds X.K fd ps [])(I:Inv X pins σ H s)(r:Vals vs us)(q:sp vs H Q E):wpAny (model X.prog X.w) X.A (call (.ref f) us) (EP X pins σ Q) (XP X pins σ E) s:=by
 have hl:(us++[]).length=ps.length:=by rw[append_nil,<- r.length];exact F.len _ _ _ _ q
 have hb':=hb s us I.kIn hl
 rw[append_nil] at hb'
 refine wpAny_call (codeAny_mono (F.run X.A X.stack s H ⟨us,[]⟩ us vs Q E hr I.env0 hb' r q) fun r s' hq=>?_)
 cases r with
 | error e =>
  obtain⟨a,cls,H',rfl,ho,hgn,u,hok,fl,z⟩:=hq
  exact⟨a,cls,H',rfl,I.call' ho u hok hgn (fun b z=>absurd z (by simp)),fl.mono fun b hb=>zjO hex I hb,z⟩
 | ok fl =>
  cases fl with
  | ret u=>exact I.after hq
  | next=>exact False.elim hq
  | brk=>exact False.elim hq
  | cont=>exact False.elim hq
theorem znd{pl:Sem Bool}(he:PE X.nox o ta)(c:Cls X.K C)(hm:Meth X.K C m f)(F:FnOk X.prog X.w X.K X.mg X.base (CXx X.prog X.w) k f fd ps sp)(hr:Room k X.A)(hex:X.ex=[])(hb:Binds X.K fd ps [])(ha:PA X.nox (e::es) t)(hst:starEach (e::es) X.env=(false,eval e X.env)::starEach es X.env:=by rfl)(hpl:(backTo pos (starEach es X.env)).any (·.1)=false:=by rfl)(ht:eval (.Call (.Attribute o m apos) (e::es) [] pos) X.env=(do
   let ov <- eval o X.env
   standAt apos.atName
   let (f,first) <- holding [ov] (getMethod ov m pl)
   callWith pos f first (backTo pos (starEach (e::es) X.env)) (backToKw pos (keywordEach [] X.env))):=by rfl) :
  PCx X (.Call (.Attribute o m apos) (e::es) [] pos) (fun E=>fun σ H Q=>ta σ H fun x H1=>∃a dx fs,x=.ref a/\H1 a=some (.ins C dx fs)/\fs.lookup m=none/\t σ H1 fun vs H2=>sp (x::vs) H2 Q E):=by
 intro pins s σ H Q E I h
 refine PySem.W.methodCall_KW (pl:=pl) (wpAny_mono (he pins s σ H _ (I.wish _) h) (fun u s1 ⟨x,H1,I1,rx,a,dx,fs,ex,ea,l,q⟩=>?_) fun _ _ z=>z.elim) ht
 subst ex
 obtain rfl:u=Value.ref a:=rx
 have I1:=I1.unwish
 refine zed I1 ea c hm l ?_
 refine PySem.W.callWith_K (first:=[.ref a]) (h₀:=X.base) I.ok.mod.kin hm.kp (wpAny_mono (ha pos pins s1 σ H1 _ (I1.wish _) q) (fun us s2 ⟨vs,H2,I2,r,q2⟩=>⟨I2.unwish.kIn,?_⟩) fun _ _ z=>z.elim) hst hpl
 exact zpE (us:=.ref a::us) (vs:=.ref a::vs) F hr hex hb I2.unwish (.cons rfl r) q2
end
end L2
namespace VS
open PySem PySem.Spec PyProof.Rows L2
section
def putA(f:Str)(v:W):List (Str×W)->List (Str×W)
 | []=>[(f,v)]
 | (g,x)::r=>if g=f then (g,v)::r else (g,x)::putA f v r
section
variable {F:Hp} {as:List Addr} {fs:List (Str×W)} {ps:List (Str×V)}
theorem RepKV.look{w:W}{f:Str}(r:RepKV F as fs ps)(e:fs.lookup f=some w):∃v,ps.lookup f=some v/\Rep F as w v:=by
 induction r with
 | nil=>cases e
 | @cons p q l1 l2 h t ih =>
  obtain⟨a,x⟩:=p
  obtain⟨b,y⟩:=q
  obtain⟨e1,rv⟩:=h
  dsimp only at e1 rv
  subst e1
  rw[lookup_cons] at e ⊢
  split at e
  ·rename_i h;cases e;exact⟨y,rfl,rv⟩
  ·rename_i h;exact ih e
theorem RepKV.lookN{f:Str}(r:RepKV F as fs ps)(e:fs.lookup f=none):ps.lookup f=none:=by
 induction r with
 | nil=>rfl
 | @cons p q l1 l2 h t ih =>
  obtain⟨a,x⟩:=p
  obtain⟨b,y⟩:=q
  obtain⟨e1,rv⟩:=h
  dsimp only at e1 rv
  subst e1
  rw[lookup_cons] at e ⊢
  split at e
  ·cases e
  ·exact ih e
theorem RepKV.putA{w:W}{v:V}(r:RepKV F as fs ps)(f:Str)(rv:Rep F as w v):RepKV F as (VS.putA f w fs) (zgl f v ps):=by
 induction r with
 | nil=>exact .cons ⟨rfl,rv⟩ .nil
 | @cons p q l1 l2 h t ih =>
  obtain⟨a,x⟩:=p
  obtain⟨b,y⟩:=q
  obtain⟨e1,rx⟩:=h
  dsimp only at e1 rx
  subst e1
  simp only[VS.putA,zgl]
  split
  ·exact .cons ⟨rfl,rv⟩ t
  ·exact .cons ⟨rfl,rx⟩ ih
end
def zgM(ce:Ce)(c:Str):W->Option (Nat×List (Str×W))
 | .cel k=>match ce[k]? with
  | some (.ins c' fs)=>if c'=c then some (k,fs) else none
  | _=>none
 | _=>none
section
variable {G:Ga} {E:XK} {F:Hp} {as:List Addr} {H:Hp} {σ:VS.St} {sl:Sl} {ce:Ce} {w:W} {v:V} {c:Str} {k:Nat} {fs:List (Str×W)}
theorem zgN(S:Store G F as H ce)(r:Rep F as w v)(h:zgM ce c w=some (k,fs)):∃a dx ps,v=.ref a/\as[k]?=some a/\H a=some (.ins (G.cl c) dx ps)/\RepKV F as fs ps:=by
 unfold zgM at h
 split at h
 ·rename_i j
  split at h
  ·rename_i c' fs' e
   split at h
   ·rename_i hc
    cases h
    subst hc
    simp only[Rep] at r
    obtain⟨a,rfl,ha⟩:=r
    obtain⟨_,dx,ps,h1,h2⟩:=S.cell _ a _ ha e
    exact⟨a,dx,ps,rfl,ha,h1,h2⟩
   ·cases h
  ·cases h
 ·cases h
end
def zdh(c f:Str)(d:Sl->M W):Sl->M W:=fun sl=>bnd (d sl) fun x=>look fun ce=>match zgM ce c x with
 | some p=>p.2.lookup f
 | none=>none
def zfu(c f:Str)(d v:Sl->M W):DS:=fun sl ce=>lft (v sl ce) fun w ce1=>lft (d sl ce1) fun x ce2=>match zgM ce2 c x with
 | some (k,fs)=>if fs.length<1000 then some (.go .nx sl (ce2.set k (.ins c (putA f w fs)))) else none
 | none=>none
def za3(c m:Str)(n:Nat)(df:List W->M W)(d:Sl->M W)(dr:Sl->M (List W)):Sl->M W:=fun sl=>bnd (d sl) fun x=>bnd (look fun ce=>match zgM ce c x with
 | some p=>if p.2.lookup m=none then some () else none
 | none=>none) fun _=>bnd (dr sl) fun ws=>if ws.length+1=n then df (x::ws) else zgp
def zpF(k:Nat):Option (R W)->Option (R W)
 | some (.ok .non ce')=>some (.ok (.cel k) ce')
 | some (.ex x ce')=>some (.ex x ce')
 | _=>none
def zne(c:Str)(n:Nat)(df:List W->M W)(dr:Sl->M (List W)):Sl->M W:=fun sl=>bnd (dr sl) fun ws ce=>if ws.length+1=n then zpF ce.length (df (.cel ce.length::ws) (ce++[.ins c []])) else none
section
variable {X:Cx} {G:Ga} {E E1:XK} {CX:CXT} {k n:Nat} {f:Addr} {fd:FuncData} {ps:List Str} {df:List W->M W} {x c m:Str} {p pos pos' apos tpos:Pos} {e o value:Expr} {es:List Expr} {d dv:Sl->M W} {dr:Sl->M (List W)} {fe:XK->XK}
theorem zbk(hc:L2.Cls X.K (G.cl c))(hn:L2.NoAttr X.K (G.cl c) m)(he:PE X e (zax G E d))(hb:attributeBase e m X.env (eval e X.env)=eval e X.env:=by rfl):PE X (.Attribute e m pos) (zax G E (zdh c m d)):=by
 refine PE.imp (zq0 he hb) fun σ H Q zz_=>el6 zz_ fun F as sl ce S P=>(step S P).mono fun x H1 zz_=>el8 zz_ fun wx F1 as1 ce1 l1 S1 rx P1=>?_
 obtain⟨w,e1,P2⟩:=zbx P1
 split at e1
 ·rename_i q hq
  obtain⟨j,fs⟩:=q
  obtain⟨a,dx,ps,rfl,ha,hH,rk⟩:=zgN S1.st rx hq
  obtain⟨v,e4,rv⟩:=rk.look e1
  exact⟨a,_,dx,ps,v,rfl,hH,hc,hn,e4,P2.done S1 rv⟩
 ·cases e1
theorem zga(hc:L2.Cls X.K (G.cl c))(hn:L2.NoAttr X.K (G.cl c) m)(ho:PE X o (zax G E d))(hv:PE X value (zax G E dv))(hs:swapsWith value (some (.Attribute o m pos')) pos.line X.env=pure false:=by rfl) :
  PS X (.Assign [.Attribute o m pos'] value pos) (toTS G E (zfu c m d dv)):=by
 refine PS.imp (zq1 ho hv hs) fun D σ H zz_=>el6 zz_ fun F as sl ce S P=>(zdE S P).mono fun y H1 zz_=>el8 zz_ fun wy F1 as1 ce1 l1 S1 ry P1=>(zdE S1 P1).mono fun x H2 zz_=>el8 zz_ fun wx F2 as2 ce2 l2 S2 rx P2=>?_
 split at P2
 ·rename_i j fs hq
  split at P2
  ·rename_i hl
   obtain⟨a,dx,ps,rfl,ha,hH,rk⟩:=zgN S2.st rx hq
   refine⟨a,_,dx,ps,rfl,hH,hc,hn,by rw[<- Paired.length rk];exact hl,?_⟩
   exact P2 _ _ _ _ .refl (S2.slots (S2.st.write (o:=.ins (G.cl c) dx (zgl m y ps)) (c:=.ins c (putA m wy fs)) ha ⟨_,_,zaw,rk.putA m (ry.le l2)⟩) .refl)
  ·exact(show False from P2).elim
 ·exact(show False from P2).elim
theorem zgO{F:Hp}{as:List Addr}{H:Hp}{σ:VS.St}{sl:Sl}{ce:Ce}{Q:VK}(S:SR G F as H σ sl ce)(P:Post G E Rep F as σ sl Q (za3 c m n df d dr sl ce)) :
  zax G E d σ H fun x H1=>∃a dx fs,x=.ref a/\H1 a=some (.ins (G.cl c) dx fs)/\fs.lookup m=none/\zhd G E dr σ H1 fun vs H2=>vs.length+1=n/\∃F2 as2 ws ce2,SR G F2 as2 H2 σ sl ce2/\Reps F2 as2 ws (x::vs)/\Post G E Rep F2 as2 σ sl Q (df ws ce2):=by
 refine(step S P).mono fun x H1 zz_=>el8 zz_ fun wx F1 as1 ce1 l1 S1 rx P1=>?_
 unfold bnd at P1
 unfold look at P1
 dsimp only at P1
 split at P1
 ·rename_i u ce' e1
  cases hq:zgM ce1 c wx with
  | none=>rw[hq] at e1;cases e1
  | some q =>
   obtain⟨j,fs⟩:=q
   rw[hq] at e1
   dsimp only at e1
   split at e1
   ·rename_i hl
    cases e1
    obtain⟨a,dx,ps,rfl,ha,hH,rk⟩:=zgN S1.st rx hq
    refine⟨a,dx,ps,rfl,hH,rk.lookN hl,?_⟩
    refine(step (RP:=Reps) S1 P1).mono fun vs H2 zz_=>el8 zz_ fun ws F2 as2 ce2 l2 S2 rs P2=>?_
    split at P2
    ·rename_i hn
     exact⟨by rw[rs.length];exact hn,F2,as2,wx::ws,ce2,S2,.cons (rx.le l2) rs,P2⟩
    ·exact(show False from P2).elim
   ·cases e1
 ·rename_i e1
  cases hq:zgM ce1 c wx with
  | none=>rw[hq] at e1;cases e1
  | some q=>rw[hq] at e1;dsimp only at e1;split at e1<;>cases e1
 ·exact P1.elim
theorem zcp{pl:Sem Bool}(hc:L2.Cls X.K (G.cl c))(hm:L2.Meth X.K (G.cl c) m f)(Fk:FnOk X.prog X.w X.K X.mg X.base CX k f fd ps (spV G fe n df))(hr:Room k X.A)(hb:Binds X.K fd ps [])(hx:zbH CX X E1)(he:PE X o (zax G E d))(ha:PA X (e::es) (zhd G E dr))(hfe:fe E1=E:=by rfl)(hst:starEach (e::es) X.env=(false,eval e X.env)::starEach es X.env:=by rfl)(hpl:(backTo pos (starEach es X.env)).any (·.1)=false:=by rfl)(ht:eval (.Call (.Attribute o m apos) (e::es) [] pos) X.env=(do
   let ov <- eval o X.env
   standAt apos.atName
   let (f,first) <- holding [ov] (getMethod ov m pl)
   callWith pos f first (backTo pos (starEach (e::es) X.env)) (backToKw pos (keywordEach [] X.env))):=by rfl) :
  PE X (.Call (.Attribute o m apos) (e::es) [] pos) (zax G E (za3 c m n df d dr)):=by
 refine PE.imp (zoQ he hc hm Fk hr hb .nil hx ha hst hpl ht) fun σ H Q zz_=>el6 zz_ fun F as sl ce S P=>(zgO S P).mono fun x H1 h=>?_
 obtain⟨a,dx,fs,e1,e2,e3,h⟩:=h
 refine⟨a,dx,fs,e1,e2,e3,h.mono fun vs H2 h=>?_⟩
 obtain⟨hn,F2,as2,ws,ce2,S2,rs,P2⟩:=h
 rw[append_nil]
 exact⟨hn,F2,as2,ws,ce2,S2.st,rs,by rw[hfe];exact PostF.of S2 P2⟩
theorem zbw{pl:Sem Bool}(hc:L2.Cls X.K (G.cl c))(hm:L2.Meth X.K (G.cl c) m f)(Fk:FnOk X.prog X.w X.K X.mg X.base CX k f fd ps (spV G fe n df))(hr:Room k X.A)(hb:Binds X.K fd ps [])(hx:zbH CX X E1)(he:PE X o (zax G E d))(hfe:fe E1=E:=by rfl)(ht:eval (.Call (.Attribute o m apos) [] [] pos) X.env=(do
   let ov <- eval o X.env
   standAt apos.atName
   let (f,first) <- holding [ov] (getMethod ov m pl)
   callWith pos f first (backTo pos (starEach [] X.env)) (backToKw pos (keywordEach [] X.env))):=by rfl) :
  PE X (.Call (.Attribute o m apos) [] [] pos) (zax G E (za3 c m n df d zan)):=by
 refine PE.imp (zmn he hc hm Fk hr hb .nil hx ht) fun σ H Q zz_=>el6 zz_ fun F as sl ce S P=>(zgO S P).mono fun x H1 h=>?_
 obtain⟨a,dx,fs,e1,e2,e3,h⟩:=h
 refine⟨a,dx,fs,e1,e2,e3,?_⟩
 obtain⟨F1,as1,sl1,ce1,S1,P1⟩:=h
 obtain⟨hn,F2,as2,ws,ce2,S2,rs,P2⟩:=P1 [] H1 F1 as1 .refl S1 .nil
 show spV G fe n df [x] H1 Q E1
 exact⟨hn,F2,as2,ws,ce2,S2.st,rs,by rw[hfe];exact PostF.of S2 P2⟩
theorem Store.other{F:Hp}{as:List Addr}{H:Hp}{ce:Ce}{q:Addr}{ho:HO}(S:Store G F as H ce)(hp:H q=none):Store G F as (upd H q ho) ce:=by
 refine⟨fun a u e=>?_,S.nd,S.len,fun k a c' h1 h2=>?_⟩
 ·rw[zaD (zaC (S.sub _ _ e) hp)];exact S.sub _ _ e
 ·obtain⟨q1,q2⟩:=S.cell k a c' h1 h2
  obtain⟨u,hu⟩:=q2.tracked
  exact⟨q1,q2.le .refl (zaD (zaC hu hp))⟩
theorem znf{F:Hp}{as:List Addr}{H:Hp}{σ:VS.St}{sl:Sl}{ce:Ce}{Q:VK}{ws:List W}{vs:List V}{x dx:Addr}(S:SR G F as H σ sl ce)(rs:Reps F as ws vs)(hx:H x=none)(hdx:H dx=none)(hne:dx≠x)(hl:ws.length+1=n)(P:Post G E Rep F as σ sl Q (zpF ce.length (df (.cel ce.length::ws) (ce++[.ins c []])))):spV G (fun _=>E) n df (.ref x::vs) (upd (upd H dx (.own x)) x (.ins (G.cl c) dx [])) (fun v H2=>v=.non/\Q (.ref x) H2) E:=by
 have hx':upd H dx (.own x) x=none:=by rw[zaD (fun z=>hne z.symm)];exact hx
 obtain⟨S2,l2⟩:=(S.st.other (ho:=.own x) hdx).alloc (o:=.ins (G.cl c) dx []) hx' (c:=.ins c []) (fun as' _=>⟨dx,[],zaw,.nil⟩)
 have hr:Rep F (as++[x]) (.cel ce.length) (.ref x):=by
  simp only[Rep]
  exact⟨x,rfl,by rw[<- S.st.len];simp⟩
 refine⟨by rw[length_cons,rs.length];exact hl,F,as++[x],_,_,S2,.cons hr (rs.le l2),?_⟩
 revert P
 cases df (.cel ce.length::ws) (ce++[.ins c []]) with
 | none=>exact fun P=>P
 | some r=>cases r with
  | ex y ce'=>exact fun P H' F' as' cv od l S' hx=>P H' F' as' cv od (l2.trans l) S' hx
  | ok w ce' =>
   cases w<;>first|exact fun P=>(show False from P).elim|skip
   intro P v H' F' as' l S' rv
   simp only[Rep] at rv
   exact⟨rv,P (.ref x) H' F' as' (l2.trans l) (S.slots S' (l2.trans l)) (hr.le l)⟩
theorem zpG(M:L2.Mk X.K (G.cl c) f)(Fk:FnOk X.prog X.w X.K X.mg X.base CX k f fd ps (spV G fe n df))(hr:Room (k+1) X.A)(hg:Gl X c)(hm:X.mg c=some (.ref (G.cl c)))(hb:Binds X.K fd ps [])(hx:zbH CX X E1)(ha:PA X (e::es) (zhd G E dr))(hfe:fe E1=E:=by rfl)(hdb:(c==("__debug__" : Str))=false:=by decide)(he:starEach (e::es) X.env=(false,eval e X.env)::starEach es X.env:=by rfl)(hpl:(backTo pos (starEach es X.env)).any (·.1)=false:=by rfl) :
  PE X (.Call (.Name c p) (e::es) [] pos) (zax G E (zne c n df dr)):=by
 refine PE.imp (zoR M Fk hr hg hm hb .nil hx ha hdb he hpl) fun σ H Q zz_=>el6 zz_ fun F as sl ce S P=>(step (RP:=Reps) S P).mono fun vs H1 zz_=>el8 zz_ fun ws F1 as1 ce1 l1 S1 rs P1=>?_
 intro y dy hy hdy hne
 split at P1
 ·rename_i hn
  rw[append_nil]
  have q:=znf S1 rs hy hdy hne hn P1
  obtain⟨h1,F2,as2,ws2,ce2,S2,rs2,P2⟩:=q
  exact⟨h1,F2,as2,ws2,ce2,S2,rs2,by rw[hfe];exact P2⟩
 ·exact(show False from P1).elim
end
section
variable {X:Cx} {K:PySem.W.Frag} {E:XK} {k n:Nat} {f:Addr} {fd:FuncData} {ps:List Str} {df:List W->M W} {x c m:Str} {p pos apos cpos epos:Pos} {e o:Expr} {es:List Expr} {d:Sl->M W} {dr:Sl->M (List W)} {h:ExceptHandler} {hd:Exn->DS} {ok:Exn->Bool}
theorem zng{D:Ends}{σ:VS.St}{H:Hp}{put:Option Nat}{th:Value->TS}{F:Hp}{as:List Addr}{sl:Sl}{ce:Ce}{g:Sl->M W}(hh:∀D σ H F as sl ce (x:Exn),SR (Gy K) F as H σ sl ce->ok x=true->PostS (Gy K) E D F as (hd x sl ce)->th (.ref (clOf K x.nm)) D σ H)(S:SR (Gy K) F as H σ sl ce)(P:PostS (Gy K) E D F as (zm9 g put ok hd sl ce)):Post (Gy K) (fun cls _ H'=>th cls D σ H') Rep F as σ sl (fun v H2=>D.nx (zuz put σ v) H2) (g sl ce):=by
 unfold zm9 at P
 cases e:g sl ce with
 | none=>rw[e] at P;exact P
 | some r=>cases r with
  | ok w ce' =>
   rw[e] at P
   intro b H' F' as' l S' rv
   cases put with
   | none=>exact P _ _ _ _ l S'
   | some i=>exact P _ _ _ _ l (S'.put rv i)
  | ex y ce' =>
   rw[e] at P
   dsimp only at P
   split at P
   ·rename_i hok
    intro H' F' as' cv od l S' hx
    obtain⟨rfl,rfl⟩:=hx
    exact hh D σ H' F' as' sl ce' y (S.slots S' l) hok (P.le l)
   ·exact(show False from P).elim
theorem znh{D:Ends}{σ:VS.St}{H:Hp}{put:Option Nat}{th:Value->TS}{F:Hp}{as:List Addr}{sl:Sl}{ce:Ce}(hh:∀D σ H F as sl ce (x:Exn),SR (Gy K) F as H σ sl ce->ok x=true->PostS (Gy K) E D F as (hd x sl ce)->th (.ref (clOf K x.nm)) D σ H)(S:SR (Gy K) F as H σ sl ce)(P:PostS (Gy K) E D F as (zm9 (za3 c m n df (zfT d) (zfT dr)) put ok hd sl ce)) :
  zax (Gy K) E0 d σ H fun x H1=>∃a dx fs,x=.ref a/\H1 a=some (.ins (clOf K c) dx fs)/\fs.lookup m=none/\zhd (Gy K) E0 dr σ H1 fun vs H2=>spV (Gy K) (fun E=>E) n df (x::vs) H2 (fun v H2=>D.nx (zuz put σ v) H2) (fun cls _ H'=>th cls D σ H'):=by
 refine(zgO S (zng hh S P)).noX.mono fun x H1 h=>?_
 obtain⟨a,dx,fs,e1,e2,e3,h⟩:=h
 refine⟨a,dx,fs,e1,e2,e3,h.noX.mono fun vs H2 h=>?_⟩
 obtain⟨hn,F2,as2,ws,ce2,S2,rs,P2⟩:=h
 exact⟨hn,F2,as2,ws,ce2,S2.st,rs,PostF.of S2 P2⟩
theorem zni{pl:Sem Bool}(hst:X.stack=X.env::X.outer)(hf:X.env.frame=some X.env.locals)(hex:X.ex=[])(hc:L2.Cls X.K (clOf K c))(hm:L2.Meth X.K (clOf K c) m f)(Fk:FnOk X.prog X.w X.K X.mg X.base (CXx X.prog X.w) k f fd ps (spV (Gy K) (fun E=>E) n df))(hr:Room k X.A)(hb:Binds X.K fd ps [])(ho:PE X.nox o (zax (Gy K) E0 d))(ha:PA X.nox (e::es) (zhd (Gy K) E0 dr))(hh:PHv K E X h ok hd)(hst2:starEach (e::es) X.env=(false,eval e X.env)::starEach es X.env:=by rfl)(hpl:(backTo cpos (starEach es X.env)).any (·.1)=false:=by rfl)(ht:eval (.Call (.Attribute o m apos) (e::es) [] cpos) X.env=(do
   let ov <- eval o X.env
   standAt apos.atName
   let (f,first) <- holding [ov] (getMethod ov m pl)
   callWith cpos f first (backTo cpos (starEach (e::es) X.env)) (backToKw cpos (keywordEach [] X.env))):=by rfl)(hs:swapsWith (.Call (.Attribute o m apos) (e::es) [] cpos) none epos.line X.env=pure false:=by rfl) :
  PS X (.Try [.Expr (.Call (.Attribute o m apos) (e::es) [] cpos) epos] [h] [] [] pos) (toTS (Gy K) E (zm9 (za3 c m n df (zfT d) (zfT dr)) none ok hd)):=by
 obtain⟨th,hh1,hh2⟩:=hh
 exact PS.imp (zr8 hst hf hex (zpB (znd ho hc hm Fk hr hex hb ha hst2 hpl ht) hs) hh1) fun D σ H zz_=>el6 zz_ fun F as sl ce S P=>znh hh2 S P
end
end
section
section
variable {sl:Sl} {ce c1 c2 c3:Ce} {a b:DS} {Q:O->Prop} {d v:Sl->M W} {dr:Sl->M (List W)} {w u:W} {ws:List W} {k n:Nat} {c f m:Str} {fs:List (Str×W)} {df:List W->M W} {x:Exn}
theorem zbb{p:List (Str×W)}{j:Nat}(h:p.length<=j):(putA f w p).length<=j+1:=by
 induction p generalizing j with
 | nil=>simp[putA]
 | cons a r ih =>
  obtain⟨g,y⟩:=a
  rw[length_cons] at h
  simp only[putA]
  split
  ·rw[length_cons];omega
  ·rw[length_cons]
   have:=ih (j:=j-1) (by omega)
   omega
theorem zpH(g:ce[k]?=some (.ins c fs)):zgM ce c (.cel k)=some (k,fs):=by simp only[zgM,g,if_true]
theorem zbd(h:d sl ce=some (.ok (.cel k) c1))(g:c1[k]?=some (.ins c fs))(l:fs.lookup f=some w):zdh c f d sl ce=some (.ok w c1):=by
 simp only[zdh,bnd,h,look,zpH g,l,map_some]
theorem zor(hv:v sl ce=some (.ok w c1))(h:d sl c1=some (.ok (.cel k) c2))(g:c2[k]?=some (.ins c fs))(hl:fs.length<1000):zfu c f d v sl ce=some (.go .nx sl (c2.set k (.ins c (putA f w fs)))):=by
 simp only[zfu,lft,hv,h,zpH g,if_pos hl]
theorem znj(hv:v sl ce=some (.ok w c1))(h:d sl c1=some (.ok (.cel k) c2))(g:c2[k]?=some (.ins c fs))(hl:fs.length<1000)(q:Q (.go .nx sl (c2.set k (.ins c (putA f w fs))))):Run (zfu c f d v) sl ce Q:=⟨_,zor hv h g hl,q⟩
theorem zdQ(hv:v sl ce=some (.ok w c1))(h:d sl c1=some (.ok (.cel k) c2))(g:c2[k]?=some (.ins c fs))(hl:fs.length<1000)(q:Run b sl (c2.set k (.ins c (putA f w fs))) Q):Run (zaq (zfu c f d v) b) sl ce Q:=zb8 (zor hv h g hl) q
theorem zse(h:d sl ce=some (.ok (.cel k) c1))(g:c1[k]?=some (.ins c fs))(l:fs.lookup m=none)(hr:dr sl c1=some (.ok ws c2))(hn:ws.length+1=n):za3 c m n df d dr sl ce=df (.cel k::ws) c2:=by
 simp only[za3,bnd,h,look,zpH g,l,if_true,map_some,hr,hn]
theorem zaM{r:Option (R W)}(h:d sl ce=some (.ok (.cel k) c1))(g:c1[k]?=some (.ins c fs))(l:fs.lookup m=none)(hr:dr sl c1=some (.ok ws c2))(hn:ws.length+1=n)(hf:df (.cel k::ws) c2=r):za3 c m n df d dr sl ce=r:=(zse h g l hr hn).trans hf
theorem zpI(hr:dr sl ce=some (.ok ws c1))(hn:ws.length+1=n)(hf:df (.cel c1.length::ws) (c1++[.ins c []])=some (.ok .non c2)):zne c n df dr sl ce=some (.ok (.cel c1.length) c2):=by
 simp only[zne,bnd,hr,if_pos hn,hf,zpF]
theorem zpJ{fin:Ce->Ce->W->Option (R W)}{body:DS}{r:R W}(sl:Sl)(e:ws.map some++List.replicate (n-ws.length) none=sl)(h:Run body sl ce fun o=>∃sl' c',o=.go .nx sl' c'/\fin ce c' .non=some r):dFn fin n body ws ce=some r:=by
 subst e
 obtain⟨o,e,sl',c',rfl,hf⟩:=h
 simp only[dFn,e,hf]
end
end
end VS
namespace L2
open PySem PySem.Spec PyProof.Rows
section
variable {X:Cx} {c:Expr} {a b:List Stmt} {tc:TT} {ta tb:XK->TS} {pos:Pos}
end
end L2
namespace VS
open PySem PySem.Spec PyProof.Rows L2
section
section
variable {X:Cx} {K:PySem.W.Frag} {E:XK} {k n:Nat} {f:Addr} {fd:FuncData} {ps:List Str} {df:List W->M W} {x y:Str} {p pos cpos epos pos':Pos} {e t:Expr} {es:List Expr} {dr:Sl->M (List W)} {h:ExceptHandler} {hd:Exn->DS} {ok:Exn->Bool} {i:Nat} {sa sb:List Stmt} {da db d:DS} {c:Sl->M Bool}
end
section
variable {sl sl':Sl} {ce c1 c2:Ce} {d b:DS} {Q:O->Prop} {ok:Exn->Bool} {hd:Exn->DS} {x:Exn}
end
end
end VS
namespace L2
open PySem PySem.Spec PyProof.Rows
open AutoSeq1 (wpAny_loadPart')
section
variable {prog:Program} {w:World} {A:Around} {E:Value->Shared->Prop} {s:Shared}
end
section
variable {prog:Program} {w:World} {A:Around} {E:Value->Shared->Prop} {s:Shared}
end
section
variable {X:Cx}
end
end L2
namespace VS
open PySem PySem.Spec PyProof.Rows L2
section
section
variable {G:Ga} {E:XK} {X:Cx} {dr:Sl->M (List W)} {p pos:Pos}
end
end
end VS
namespace L2
open PySem PySem.Spec PyProof.Rows PySem.W
section
variable {prog:Program} {w:World} {A:Around} {R:Result->Shared->Prop} {h:Heap} {g:Array GenState} {d:Drawn} {t:Nat} {os:OsState}
variable {nm q:Str} {C N:Addr} {bs bm bmB:List Value} {hdct:Bool} {sn:List Str} {sub:List Value} {ab:Bool} {col:Option Bool} {dd:Option Addr} {k0 k1 k2 k3 k5:Option Value} {B Bn newId nid initId inN:String} {bmN:List Value}
abbrev zgb(C T:Addr):Obj:={ cls:=.ref C,data:=.fields #[.ref T,.none,.none,.none,.bool false,.none] }
theorem znk{rest:List Value}{init:Value}(Fn:ExcBaseFacts Bn newId inN bmN)(hBn:bmB.contains (.type Bn)=true)(F:ExcBaseFacts B nid initId bmB)(T:OwnTail h bmB bm)(hC:h.get? C=some (excClassObj nm q C N bs bm hdct sn sub ab col dd k0 k1 k2 k3 k5 newId))(self:Looks (model prog w) h (isSubtype (.ref C) (.ref C)) true)(call:Looks (model prog w) h (specialOf (.ref C) "__call__") (some (.builtin "type.__call__")))(typ:Looks (model prog w) h (isInstance (.ref C) (.type "type")) true)(hi:Looks (model prog w) h (typeLookup (.ref C) "__init__") (some init))(hb:∀self,Looks (model prog w) h (bindSpecial init self) (init,[self]))(hrest:rest.length<=sizeLine)(hq:codeAny (model prog w) (A.under (.builtin "type.__call__" ⟨.ref C::rest,[]⟩)) (.call init ⟨.ref (h.objs.size+1)::rest,[]⟩) (InitBack (h.objs.size+1) R) ⟨(h.push { cls:=.type "tuple",data:=.seq rest.toArray }).push (zgb C h.objs.size),g,d,t,os⟩) :
  codeAny (model prog w) A (.call (.ref C) ⟨rest,[]⟩) R ⟨h,g,d,t,os⟩:=by
 refine codeAny_of_tree ?_
 show wpAny _ _ (callAny (.ref C) _) _ _ _
 refine nd_load hC ?_
 show wpAny _ _ (callAny.viaDunder (.ref C) _) _ _ _
 unfold callAny.viaDunder
 refine wpAny_bind (call.at ?_)
 dsimp only
 rw[tc_bind]
 refine wpAny_bind (wpAny_pure (wpAny_bind (wpAny_pure ?_)))
 refine wpAny_pure (a:=Fin.again (.call (.builtin "type.__call__") ⟨.ref C::rest,[]⟩)) (And.intro rfl ?_)
 refine codeAny_call_builtin_at (Code.quiet_builtin _ (by decide +kernel)) entry_typeCall (check_slot tc_kind tc_split typ (tc_args _ _ _) ?_)
 unfold Builtin.«type.__call__»
 have e4:(Value.ref C::bm).isEmpty=false:=rfl
 have hm:Looks (model prog w) h (mroOf (.ref C)) (Value.ref C::bm):=((Looks.ld (part:=none) hC).andThen .now).andThen .now
 repeat (first|simp only[e4,false_eq_true,if_false]|with_reducible refine wpAny_madeBy_exc hC ?_|with_reducible refine wpAny_call ?_|lk)
 refine codeAny_call_builtin_code (Code.quiet_builtin _ Fn.quiet) (wpAny_check_new_subU Fn hBn T hC ?_)
 refine codeAny_exc_new_subU Fn hBn F T hC ?_ hrest
 have k:∀b o,h.get? b=some o->((h.push { cls:=.type "tuple",data:=.seq rest.toArray }).push (zgb C h.objs.size)).get? b=some o:=fun b o e=>Heap.get?_push_of_some _ (Heap.get?_push_of_some _ e)
 have hx:((h.push { cls:=.type "tuple",data:=.seq rest.toArray }).push (zgb C h.objs.size)).get? (h.objs.size+1)=some (zgb C h.objs.size):=by heap_get
 have t1:Looks (model prog w) ((h.push { cls:=.type "tuple",data:=.seq rest.toArray }).push (zgb C h.objs.size)) (typeOf (.ref (h.objs.size+1))) (.ref C):=(Looks.ld hx).andThen .now
 have s1:=self.keeps k
 have i1:=hi.keeps k
 have b1:=(hb (.ref (h.objs.size+1))).keeps k
 unfold isInstance callSpecial? specialOf
 repeat (first|with_reducible refine wpAny_call ?_|lk)
 refine codeAny_mono hq fun r s' z=>?_
 rcases r with e|(v|_|_|_)<;>first|exact z|exact z.elim|skip
 obtain⟨rfl,z⟩:=z
 exact wpAny_pure (wpAny_pure z)
theorem znl{E:Value->Shared->Prop}(F:ExcBaseFacts B nid initId bmB)(T:OwnTail h bmB bm){e:Addr}{oe:Obj}{vs:Array Value}{rest:List Value}{Q:Value->Shared->Prop}(hC:h.get? C=some (excClassObj nm q C N bs bm hdct sn sub ab col dd k0 k1 k2 k3 k5 newId))(he:h.get? e=some oe)(hcls:oe.cls=.ref C){a0:Value}(hd:oe.data=.fields vs)(h0:vs[0]?=some a0)(hrest:rest.length<=sizeLine)(hq:Q .none ⟨(h.push { cls:=.type "tuple",data:=.seq rest.toArray }).update e (Obj.mapFields (·.setIfInBounds 0 (.ref h.objs.size))),g,d,t,os⟩) :
  wpAny (model prog w) A (PySem.call (.builtin initId) (.ref e::rest)) Q E ⟨h,g,d,t,os⟩:=by
 refine wpAny_call (codeAny_call_builtin F.init.plain F.initEntry (wpAny_check_init_subU F T hC he hcls ?_))
 wp_walk
 rw[hd]
 refine wpAny_pure ?_
 rw[h0]
 refine wpAny_pure ?_
 refine wpAny_bind (wpAny_setField (Heap.get?_push_of_some _ he) hd (Array.getElem?_eq_some_iff.mp h0).1 ?_)
 have fin:∀s',s'=(⟨(h.push { cls:=.type "tuple",data:=.seq rest.toArray }).update e (Obj.mapFields (·.setIfInBounds 0 (.ref h.objs.size))),g,d,t,os⟩:Shared)->Q .none s':=fun s' e=>by rw[e];exact hq
 cases a0 with
 | ref a1=>exact wpAny_letGo (wpAny_pure (fin _ rfl))
 | _=>exact wpAny_pure (wpAny_pure (fin _ rfl))
end
def zpK(K:PySem.W.Frag)(C:Addr):Bool:=match K.lookup C with
 | some ⟨.type "type",_,.cls cd,sl⟩=>(match cd.mro,sl.toList with
  | .ref C'::bm,[_,_,_,_,some (.builtin n),_]=>C'==C&&n == "ValueError.__new__" && !cd.hasDel&&tailIn K bmV bm&&nsOkIn K cd.ns
  | _,_=>false)
 | _=>false
theorem zeS{K:PySem.W.Frag}{h:Heap}{C:Addr}(q:zpK K C=true)(X:K.In h):∃bm N nm qn bs hdct sn sub ab col dd k0 k1 k2 k3 k5,
  h.get? C=some (excClassObj nm qn C N bs bm hdct sn sub ab col dd k0 k1 k2 k3 k5 "ValueError.__new__")/\OwnTail h bmV bm:=by
 unfold zpK at q
 split at q
 case h_2=>cases q
 rename_i dd cd sl ho
 split at q
 case h_2=>cases q
 rename_i C' bm k0 k1 k2 k3 n k5 hm hs
 simp only[and_eq_true,beq_iff_eq,not_eq_true'] at q
 obtain⟨⟨⟨⟨rfl,rfl⟩,hdel⟩,ht⟩,hok⟩:=q
 obtain⟨nm,bs,mro,ns,qn,hd,sn,sub,ab,col,del⟩:=cd
 dsimp only at hm hdel hok
 subst hm hdel
 have hsl:sl=#[k0,k1,k2,k3,some (.builtin "ValueError.__new__"),k5]:=by
  obtain⟨l⟩:=sl
  simp only at hs
  rw[hs]
 subst hsl
 exact⟨bm,ns,nm,qn,bs,hd,sn,sub,ab,col,dd,k0,k1,k2,k3,k5,X _ _ ho,PySem.W.tail_of_in X ht⟩
def XNew(a C:Addr)(h:Heap):Prop:=∃t sl,h.get? a=some ⟨.ref C,none,.fields #[.ref t,.none,.none,.none,.bool false,.none],sl⟩
def XDone(a C:Addr)(h:Heap):Prop:=∃D t sl,h.get? a=some ⟨.ref C,some D,.fields #[.ref t,.none,.none,.none,.bool false,.none],sl⟩
theorem XNew.ok{P:Program}{w:World}{H:Hp}{h:Heap}{a C:Addr}(x:XNew a C h):ObjOk P w H h a (.ext (XNew a C)):=by
 refine⟨x,?_,fun h1 h2 ⟨t,sl,e1⟩ k=>⟨t,sl,k _ e1⟩⟩
 obtain⟨t,sl,e⟩:=x
 exact⟨_,e⟩
theorem XDone.ok{P:Program}{w:World}{H:Hp}{h:Heap}{a C:Addr}(x:XDone a C h):ObjOk P w H h a (.ext (XDone a C)):=by
 refine⟨x,?_,fun h1 h2 ⟨D,t,sl,e1⟩ k=>⟨D,t,sl,k _ e1⟩⟩
 obtain⟨D,t,sl,e⟩:=x
 exact⟨_,e⟩
theorem zsf{H:Hp}{a:Addr}{o:HO}(h:H a=some o):upd H a o=H:=by
 funext b
 by_cases hb:b=a
 ·subst hb;rw[zaw,h]
 ·rw[zaD hb]
section
variable {X:Cx}
theorem zlr{np ap pos:Pos}{e1 e2:Expr}{SA C:Addr}{x:Str}{t1:TE}{t2:St->Prop}{pl:Sem Bool}(hg:Gl X x)(hm:X.mg x=some (.ref SA))(hga:specialIn X.K (.ref SA) "__getattribute__" = some (some (.builtin "type.__getattribute__")))(hr:readsIn X.K SA (.type "type")=true)(hf:findCls X.K (.ref SA) (.type "type") "__init__" = some (.val (.builtin "ValueError.__init__")))(qC:zpK X.K C=true)(h1:PE X e1 t1)(h2:PX X e2 t2)(hd:(x==("__debug__" : Str))=false:=by decide)(ht:eval (.Call (.Attribute (.Name x np) "__init__" ap) [e1,e2] [] pos) X.env=(do
   let ov <- eval (.Name x np) X.env
   standAt ap.atName
   let (f,first) <- holding [ov] (getMethod ov "__init__" pl)
   callWith pos f first (backTo pos (starEach [e1,e2] X.env)) (backToKw pos (keywordEach [] X.env))):=by rfl)(he:starEach [e1,e2] X.env=[(false,eval e1 X.env),(false,eval e2 X.env)]:=by rfl) :
  PE X (.Call (.Attribute (.Name x np) "__init__" ap) [e1,e2] [] pos) (fun σ H Q=>t1 σ H fun v H1=>∃a,v=.ref a/\H1 a=some (.ext (XNew a C))/\t2 σ/\Q .non H1):=by
 intro pins s σ H Q I h
 refine PySem.W.methodCall_KW (pl:=pl) (zdq I hg hm ?_ hd) ht
 refine method_cls I.kIn hga (cls_value I.kIn hr hf (by decide +kernel) ?_)
 have I0:Inv X pins σ H { s with toks:=s.toks+1 }:=I.tok _
 show wpAny _ _ (callWith pos (.builtin "ValueError.__init__") [] (backTo pos (starEach [e1,e2] X.env)) []) _ _ _
 rw[he]
 refine Calls.callWith_builtin rfl (Calls.evalArgs_plain (Calls.spliced_cons (thn (h1 pins _ σ H _ I0 h) fun u s1 ⟨v,H1,I1,rv,a,ev,ha,ht2,hq⟩=>?_)))
 refine Calls.spliced_cons (thn (h2 pins s1 σ H1 I1 ht2) fun u2 s2 I2=>Calls.spliced_nil ?_)
 subst ev
 obtain rfl:u=Value.ref a:=rv
 obtain⟨bm,N,nm,qn,bs,hdct,sn,sub,ab,col,dd,k0,k1,k2,k3,k5,hC,T⟩:=zeS qC I2.kIn
 obtain⟨tt,osl,hx⟩:=(show ObjOk X.prog X.w H1 s2.heap a (.ext (XNew a C)) from I2.hok a _ ha).1
 obtain⟨hh,g,d,tk,os⟩:=s2
 refine znl (rest:=[u2]) (a0:=.ref tt) PySem.F.excBase_ValueError T hC hx rfl rfl rfl (by show 1<=sizeLine;decide) ?_
 have hx':=Heap.get?_push_of_some { cls:=.type "tuple",data:=.seq [u2].toArray } hx
 have hs:=Heap.get?_update_self (Obj.mapFields (·.setIfInBounds 0 (.ref hh.objs.size))) hx' rfl
 have I3:=I2.write (x:=a) (e:=a) (o:=.ext (XNew a C)) (t':=tk) (h':=(hh.push { cls:=.type "tuple",data:=.seq [u2].toArray }).update a (Obj.mapFields (·.setIfInBounds 0 (.ref hh.objs.size)))) (by rw[ha];trivial) (.inl rfl)
  (fun b u hb e=>(Heap.get?_update_other _ _ (Ne.symm hb)).trans (Heap.get?_push_of_some _ e)) ⟨_,hs⟩ (XNew.ok ⟨hh.objs.size,osl,hs⟩)
 rw[zsf ha] at I3
 exact⟨.non,H1,I3,rfl,hq⟩
end
end L2
namespace L2
open PySem PySem.Spec PyProof.Rows PySem.W PySem.Builtin PySem.Builtin.ObjectAttr
theorem zpL(self:Value):refuseLoop self "__setattr__" bmV=pure ():=by kernel_rfl
theorem zpM{h:Heap}{bm:List Value}(T:OwnTail h bmV bm)(self:Value):refuseLoop self "__setattr__" bm=pure ():=by
 induction T with
 | base=>exact zpL self
 | own _ _ _ _ ih=>rw[refuseLoop_ref];exact ih
section
variable {prog:Program} {w:World} {A:Around} {E:Value->Shared->Prop} {K:PySem.W.Frag} {s:Shared} {a C:Addr}
theorem zpN{name:Str}{v:Value}{vs:Array Value}{sl:Array (Option Value)}{cd:ClassData}{bm:List Value}{Q:Unit->Shared->Prop}(X:K.In s.heap)(hx:s.heap.get? a=some ⟨.ref C,none,.fields vs,sl⟩)(hs:findIn K (.ref C) "__setattr__" = some (some (.builtin "object.__setattr__")))(hc:clsIn K C=some cd)(hm:cd.mro=.ref C::bm)(hd:cd.hasDict=true)(T:OwnTail s.heap bmV bm)(ht:takerIn K C name=some none)(h:∀h' tk D,(∀b u,b≠a->s.heap.get? b=some u->h'.get? b=some u)->h'.get? a=some ⟨.ref C,some D,.fields vs,sl⟩->Q () { s with heap:=h',toks:=tk }) :
  wpAny (model prog w) A (setAttr (.ref a) name v) Q E s:=by
 have J:InstAt s.heap a ⟨.ref C,none,.fields vs,sl⟩ C none:=⟨hx,rfl,rfl,trivial⟩
 refine PySem.W.set_plain X J hs ?_
 have SF:=PySem.F.store_object
 have sub:Looks (model prog w) s.heap (isInstance (.ref a) (.type "object")) true:=J.type.andThen (looks_mroIn X (by unfold mroIn;rw[hc,bind_some,hm,if_neg (by simp),contains_cons,T.hasType (show bmV.contains (.type "object")=true by decide)];simp))
 refine codeAny_call_builtin SF.slot.plain SF.entry (@check_slot (model prog w) _ _ { s with toks:=s.toks+1 } "object.__setattr__" "object" "__setattr__" (.ref a) [.str name s.toks,v] [] _ SF.kind SF.split sub (SF.args (.ref a) (.str name s.toks) v) ?_)
 obtain⟨attr,ha,hr⟩:=bind_eq_some_iff.mp ht
 have hmL:Looks (model prog w) s.heap (mroOf (.ref C)) cd.mro:=(looks_clsIn X hc).andThen .now
 have L3:Looks (model prog w) s.heap (storeTaker? attr) none:=by
  cases attr with
  | none=>exact .now
  | some a =>
   obtain⟨b,hb,he⟩:=map_eq_some_iff.mp hr
   refine(looks_takesIn X hb).andThen ?_
   cases b
   ·exact .now
   ·cases he
 rw[osa_eq,refuse_eq]
 refine wpAny_bind (wpAny_bind (J.type.here (s:={ s with toks:=s.toks+1 }) (wpAny_bind (hmL.here (s:={ s with toks:=s.toks+1 }) ?_))))
 rw[hm,refuseLoop_ref,zpM T]
 refine wpAny_pure (wpAny_bind (J.type.here (s:={ s with toks:=s.toks+1 }) (wpAny_bind ((looks_findIn X ha).here (s:={ s with toks:=s.toks+1 }) (wpAny_bind (L3.here (s:={ s with toks:=s.toks+1 }) ?_))))))
 refine wpAny_bind (wpAny_pure (wpAny_bind (wpAny_bind (wpAny_loadPart hx (wpAny_bind (PySem.W.Looks.here (s:={ s with toks:=s.toks+1 }) (PySem.W.looks_clsIn X hc) ?_))))))
 rw[hd]
 have hx₁:(s.heap.push { cls:=.type "dict",data:=.dict #[] }).get? a=some ⟨.ref C,none,.fields vs,sl⟩:=Heap.get?_push_of_some _ hx
 have hxs:a≠s.heap.objs.size:=ne_of_lt (Heap.lt_size hx)
 refine wpAny_bind (wpAny_alloc' ?_)
 refine wpAny_bind (wpAny_update' hx₁ ?_)
 refine wpAny_pure ?_
 have hgd:((s.heap.push { cls:=.type "dict",data:=.dict #[] }).update a fun o=>{ cls:=o.cls,dict:=some s.heap.objs.size,data:=o.data,slots:=o.slots }).get? s.heap.objs.size=some { cls:=.type "dict",data:=.dict #[] } :=
  (Heap.get?_update_ne _ _ _ _ hxs.symm).trans (Heap.get?_push_at rfl rfl)
 have hnd:((s.heap.push { cls:=.type "dict",data:=.dict #[] }).update a fun o=>{ cls:=o.cls,dict:=some s.heap.objs.size,data:=o.data,slots:=o.slots }).Ns s.heap.objs.size (fun _=>none) :=
  ⟨_,#[],_,hgd,rfl,fun e he=>absurd he (by simp),fun _=>rfl⟩
 show wpAny _ _ (storeInDict s.heap.objs.size (.str name s.toks) name v) _ _ _
 unfold storeInDict newKeyGuard
 refine wpAny_bind (wpAny_pure (wpAny_bind (wpAny_nsSet1 (Heap.Ns1.of_empty hnd) fun h' hn' hs=>?_)))
 obtain⟨oD,esD,epD,hoD,hdD,hcD⟩:=hn'.count (Within.cons name v Within.nil)
 refine wpAny_bind (wpAny_lookBehind hoD (by rw[hdD];exact pastItsLine_dict (le_trans hcD (by rw[length_cons,length_nil,sizeLine_eq];omega))) ?_)
 refine wpAny_pure (h h' _ s.heap.objs.size (fun b u hb e=>?_) ?_)
 ·exact(hs.2 b (ne_of_lt (Heap.lt_size e))).trans ((Heap.get?_update_ne _ _ _ _ hb).trans (Heap.get?_push_of_some _ e))
 ·exact(hs.2 a hxs).trans (Heap.get?_update_self _ hx₁ rfl)
end
section
variable {X:Cx} {o value:Expr} {f:Str} {pos pos':Pos} {ta tv:TE} {C:Addr} {cd:ClassData} {bm:List Value}
theorem znm(ha:PE X o ta)(hv:PE X value tv)(hs:swapsWith value (some (.Attribute o f pos')) pos.line X.env=pure false)(hsa:findIn X.K (.ref C) "__setattr__" = some (some (.builtin "object.__setattr__")))(qC:zpK X.K C=true)(hd:(clsIn X.K C).any (·.hasDict)=true)(ht:takerIn X.K C f=some none) :
  PS X (.Assign [.Attribute o f pos'] value pos) (fun D σ H=>tv σ H fun y H1=>ta σ H1 fun x H2=>∃a,x=.ref a/\H2 a=some (.ext (XNew a C))/\D.nx σ (upd H2 a (.ext (XDone a C)))):=by
 intro pins s σ H D I h
 refine plainObj_wpAny_Assign_Attribute (thn (hv pins s σ H _ I h) fun u s1 ⟨y,H1,I1,ry,q⟩=>thn (ha pins s1 σ H1 _ I1 q) fun ov s2 ⟨x,H2,I2,rx,a,ex,ea,q2⟩=>?_) hs
 subst ex
 obtain rfl:ov=Value.ref a:=rx
 obtain⟨bm,N,nm,qn,bs,hdct,sn,sub,ab,col,dd,k0,k1,k2,k3,k5,hC,T⟩:=zeS qC I2.kIn
 obtain⟨tt,osl,hx⟩:=(show ObjOk X.prog X.w H2 s2.heap a (.ext (XNew a C)) from I2.hok a _ ea).1
 obtain⟨cd,hc,hdc⟩:=PySem.W.any_some hd
 have hm:cd.mro=.ref C::bm:=by
  unfold clsIn at hc
  split at hc
  ·rename_i ho
   cases hc
   have:=I2.kIn _ _ ho
   rw[hC] at this
   cases this
   rfl
  ·cases hc
 refine zpN I2.kIn hx hsa hc hm hdc T ht fun h' tk D' hk hx'=>?_
 have I3:=I2.write (x:=a) (e:=a) (o:=.ext (XDone a C)) (t':=tk) (h':=h') (by rw[ea];trivial) (.inl rfl) hk ⟨_,hx'⟩ (XDone.ok ⟨D',tt,osl,hx'⟩)
 exact⟨σ,_,I3,q2⟩
end
section
variable {M:Model} {A:Around} {E:Value->Shared->Prop} {env:Env} {nm q:Str} {C N:Addr} {bs bm:List Value} {hdct:Bool} {sn:List Str} {sub:List Value} {ab:Bool} {col:Option Bool} {dd:Option Addr} {k0 k1 k2 k3 k5:Option Value} {newId:String}
theorem zfv{s:Shared}{x:Sem Value}{Q:Flow->Shared->Prop}(hbase:bm.contains (.type "BaseException")=true)(hh:A.handled=none)(h:wpAny M A x (fun v s₁=>∃e D t sl,v=.ref e/\s₁.heap.get? C=some (excClassObj nm q C N bs bm hdct sn sub ab col dd k0 k1 k2 k3 k5 newId)/\s₁.heap.get? e=some ⟨.ref C,D,.fields #[.ref t,.none,.none,.none,.bool false,.none],sl⟩/\E (.ref e) s₁) E s) :
  wpAny M A (raiseStmt env (some x) none) Q E s:=by
 have hcB:(Value.ref C::bm).contains (.type "BaseException")=true:=by rw[contains_cons,hbase,Bool.or_true]
 unfold raiseStmt
 refine wpAny_bind (wpAny_mono h (fun v s₁ h₁=>?_) fun _ _ x=>x)
 obtain⟨e,D,t,sl,rfl,hC,he,hE⟩:=h₁
 obtain⟨hp,g,d,tk,os⟩:=s₁
 repeat (first|with_reducible refine wpAny_loadPart_at he ?_|with_reducible refine wpAny_loadPart_at hC ?_|(with_reducible refine wpAny_isSubtype_exc hC ?_;rw[hcB])|wp_step)
 exact wpAny_raiseNew_none hh hE
end
section
variable {X:Cx} {pins:List (Addr×Obj)} {σ:St} {H:Hp} {s:Shared} {a:Addr} {φ:Heap->Prop}
theorem Inv.untrack(I:Inv X pins σ (upd H a (.ext φ)) s)(ha:H a=none):Inv X pins σ H s:=by
 have dn:∀{b:Addr} {o:HO},(∀ψ,o≠.ext ψ)->upd H a (.ext φ) b=some o->H b=some o:=fun {b o} hn e=>by
  by_cases hb:b=a
  ·subst hb;rw[zaw] at e;cases e;exact absurd rfl (hn φ)
  ·rw[zaD hb] at e;exact e
 have dz:∀{b:Addr},upd H a (.ext φ) b=none->H b=none:=fun {b} e=>by
  by_cases hb:b=a
  ·subst hb;exact ha
  ·rw[zaD hb] at e;exact e
 refine⟨I.ok,I.os,I.bare,⟨I.base.keep,I.base.slot,fun b o e n hx=>dz (I.base.free b o e n hx),I.base.there,fun b xs e=>dn (fun ψ z=>by cases z) (I.base.tups b xs e),fun b o u e=>dn (fun ψ z=>by cases z) (I.base.frzs b o u e),fun b ps e=>?_⟩,I.loc,I.cell,dz I.free,fun x c e=>dz (I.freeC x c e),fun p hp=>?_,fun b o e=>?_,I.len⟩
 ·obtain⟨m,q⟩:=I.base.tbls b ps e
  exact⟨m,dn (fun ψ z=>by cases z) q⟩
 ·obtain⟨e,n,r⟩:=I.pin p hp
  exact⟨e,dz n,r⟩
 ·have hb:b≠a:=fun z=>by rw[z,ha] at e;cases e
  exact(I.hok b o (by rw[zaD hb];exact e)).stay (fun _ _ _ r=>r) (fun c q=>dn (fun ψ z=>by cases z) q) fun c xs q=>dn (fun ψ z=>by cases z) q
end
section
variable {X:Cx} {CX:CXT} {k:Nat} {f:Addr} {fd:FuncData} {ps:List Str} {sp:Sp}
structure XI (K:PySem.W.Frag) (C f:Addr):Prop where
 exc:zpK K C=true
 init:findIn K (.ref C) "__init__" = some (some (.ref f))
 fn:PySem.W.isFn K (.ref f)=true
 call:specialIn K (.ref C) "__call__" = some (some (.builtin "type.__call__"))
 typ:instIn K (.ref C) (.type "type")=some true
 self:mroIn K C (.ref C)=some true
 kp:PySem.W.keepIn K (.ref C)=true
theorem zpO{E:XK}{C:Addr}{pins:List (Addr×Obj)}{σ:St}{H:Hp}{s:Shared}{us:List Value}{vs:List V}{Q:Value->Shared->Prop}(M:XI X.K C f)(F:FnOk X.prog X.w X.K X.mg X.base CX k f fd ps sp)(hr:Room (k+1) X.A)(hb:Binds X.K fd ps [])(hpx:zbH CX X E)(I:Inv X pins σ H s)(r:Vals vs us)(hl:us.length<=sizeLine){R:Prop}(hq:sp (.ref (s.heap.objs.size+1)::vs) (upd H (s.heap.objs.size+1) (.ext (XNew (s.heap.objs.size+1) C))) (fun v H2=>v=.non/\H2=upd H (s.heap.objs.size+1) (.ext (XDone (s.heap.objs.size+1) C))/\R) E)(hR:R->∀s',Inv X pins σ (upd H (s.heap.objs.size+1) (.ext (XDone (s.heap.objs.size+1) C))) s'->Q (.ref (s.heap.objs.size+1)) s') :
  wpAny (model X.prog X.w) X.A (PySem.call (.ref C) us) Q X.xe s:=by
 obtain⟨bm,N,nm,qn,bs,hdct,sn,sub,ab,col,dd,k0,k1,k2,k3,k5,hC,T⟩:=zeS M.exc I.kIn
 have hn:H (s.heap.objs.size+1)=none:=I.hok.fresh (le_succ _)
 have I2:Inv X pins σ (upd H (s.heap.objs.size+1) (.ext (XNew (s.heap.objs.size+1) C))) { s with heap:=(s.heap.push { cls:=.type "tuple",data:=.seq us.toArray }).push (zgb C s.heap.objs.size) } :=
  I.laid (t':=s.toks) (fun b o e=>Heap.get?_push_of_some _ (Heap.get?_push_of_some _ e)) (le_succ _) (XNew.ok ⟨s.heap.objs.size,_,by heap_get⟩)
 have r2:Vals (V.ref (s.heap.objs.size+1)::vs) (Value.ref (s.heap.objs.size+1)::us):=.cons rfl r
 have hlen:(Value.ref (s.heap.objs.size+1)::us).length=ps.length:=by
  have e:=r2.length
  rw[F.len _ _ _ _ hq] at e
  exact e.symm
 obtain⟨hh,g,d,tk,os⟩:=s
 refine wpAny_call (znk (init:=.ref f) PySem.F.excBase_ValueError (by decide) PySem.F.excBase_ValueError T hC (looks_mroIn I.kIn M.self) (looks_specialIn I.kIn M.call) (looks_instIn I.kIn M.typ) (looks_findIn I.kIn M.init) (fun self=>PySem.W.bind_fn I.kIn self (beq_iff_eq.mp M.fn)) hl ?_)
 refine codeAny_mono (F.run _ X.stack _ _ ⟨Value.ref (hh.objs.size+1)::us,[]⟩ (Value.ref (hh.objs.size+1)::us) _ _ E (hr.make C us []) (I2.env0.make C us []) (by have:=hb _ (Value.ref (hh.objs.size+1)::us) I2.kIn (by simpa using hlen);simpa using this) r2 hq) fun r s' hq'=>?_
 cases r with
 | error e=>exact hpx pins σ _ _ e s' I2 hq'
 | ok fl =>
  cases fl with
  | ret u =>
   obtain⟨v,H',I3,rv,ev,eH,q3⟩:=I2.after hq'
   subst ev
   rw[eH] at I3
   exact⟨rv,hR q3 s' I3⟩
  | next=>exact False.elim hq'
  | brk=>exact False.elim hq'
  | cont=>exact False.elim hq'
theorem zls{E:XK}{C:Addr}{x:Str}{np cpos pos:Pos}{e:Expr}{te:TE}(hx:Flies X E)(hex:X.ex=[])(M:XI X.K C f)(F:FnOk X.prog X.w X.K X.mg X.base CX k f fd ps sp)(hr:Room (k+1) X.A)(hb:Binds X.K fd ps [])(hpx:zbH CX X E)(hg:Gl X x)(hm:X.mg x=some (.ref C))(hh:X.A.handled=none)(he:PE X e te)(hs:starEach [e] X.env=[(false,eval e X.env)]:=by rfl)(hd:(x==("__debug__" : Str))=false:=by decide) :
  PS X (.Raise (some (.Call (.Name x np) [e] [] cpos)) none pos) (fun _ σ H=>te σ H fun y H1=>∀a,H1 a=none->sp [.ref a,y] (upd H1 a (.ext (XNew a C))) (fun v H2=>v=.non/\H2=upd H1 a (.ext (XDone a C))/\E (.ref C) none H1) E):=by
 intro pins s σ H D I hq
 obtain⟨bm,N,nm,qn,bs,hdct,sn,sub,ab,col,dd,k0,k1,k2,k3,k5,hC,T⟩:=zeS M.exc I.ok.mod.kin
 have ev:wpAny (model X.prog X.w) X.A (eval (.Call (.Name x np) [e] [] cpos) X.env) (fun v s₁=>∃e D t sl,v=.ref e/\s₁.heap.get? C=some (excClassObj nm qn C N bs bm hdct sn sub ab col dd k0 k1 k2 k3 k5 "ValueError.__new__")/\s₁.heap.get? e=some ⟨.ref C,D,.fields #[.ref t,.none,.none,.none,.bool false,.none],sl⟩/\X.xe (.ref e) s₁) X.xe s:=by
  refine wpAny_Call_Name_kw (zdq I hg hm ?_ hd)
  refine PySem.W.callWith_K (h₀:=X.base) I.ok.mod.kin M.kp (thn (zkl he znT (by rw[hs];rfl) cpos pins s σ H (fun vs H1=>match vs with|[y]=>(∀a,H1 a=none->sp [.ref a,y] (upd H1 a (.ext (XNew a C))) (fun v H2=>v=.non/\H2=upd H1 a (.ext (XDone a C))/\E (.ref C) none H1) E)|_=>False) I hq) fun us s1 ⟨vs,H1,I1,r,q⟩=>⟨I1.kIn,?_⟩) (by rw[hs];rfl) rfl
  match vs,r,q with
  | [y],r,q =>
   have hl1:us.length=1:=r.length.symm
   have hC1:=I1.bk _ _ hC
   have hnw:Nw X pins (s1.heap.objs.size+1):=zjO hex I1 (Heap.get?_none_of_le (le_succ _))
   have hH1:H1 (s1.heap.objs.size+1)=none:=I1.hok.fresh (le_succ _)
   refine zpO (R:=E (.ref C) none H1) M F hr hb hpx I1 r (by rw[nil_append,hl1];decide) (q _ hH1) fun hE s' I3=>?_
   obtain⟨D,t,sl,e⟩:=(show ObjOk X.prog X.w _ s'.heap (s1.heap.objs.size+1) (.ext (XDone (s1.heap.objs.size+1) C)) from I3.hok _ _ zaw).1
   exact⟨_,_,_,_,rfl,I3.bk _ _ hC,e,hx pins σ H1 s' _ (.ref C) (I3.untrack hH1) ⟨_,_,_,hnw,hH1,e,rfl,rfl,rfl,.inl rfl⟩ hE⟩
 rw[arm_exec_Raise]
 first
  | refine wpAny_bind (wpAny_standAt (zfv (T.hasType (show bmV.contains (.type "BaseException")=true by decide)) hh (wpAny_bind (wpAny_mono ev (fun v s₁ h₁=>wpAny_bind (wpAny_standAt (wpAny_pure h₁))) fun _ _ x=>x))))
  | (simp only[evalOpt,Option.map];refine wpAny_bind (wpAny_standAt (zfv (T.hasType (show bmV.contains (.type "BaseException")=true by decide)) hh (wpAny_bind (wpAny_mono ev (fun v s₁ h₁=>wpAny_bind (wpAny_standAt (wpAny_pure h₁))) fun _ _ x=>x)))))
  | (show wpAny _ _ (do standAt pos;raiseStmt X.env (some (do let v <- eval (.Call (.Name x np) [e] [] cpos) X.env;standAt pos;pure v)) none) _ _ s;refine wpAny_bind (wpAny_standAt (zfv (T.hasType (show bmV.contains (.type "BaseException")=true by decide)) hh (wpAny_bind (wpAny_mono ev (fun v s₁ h₁=>wpAny_bind (wpAny_standAt (wpAny_pure h₁))) fun _ _ x=>x)))))
end
end L2
namespace L2
open PySem PySem.Spec PyProof.Rows PySem.W
def spI(C:Addr):Sp:=fun vs H Q _=>∃a n,vs=[.ref a,.int n]/\n.natAbs<1000/\H a=some (.ext (XNew a C))/\Q .non (upd H a (.ext (XDone a C)))
end L2
namespace VS
open PySem PySem.Spec PyProof.Rows L2
section
variable {X:Cx} {K:PySem.W.Frag} {E:XK} {x y:Str} {np cpos pos p:Pos} {k i:Nat} {f:Addr} {fd:FuncData} {ps:List Str}
theorem zlt(hx:Flies X E)(hpx:zbH (CXx X.prog X.w) X E)(hK:X.K=K)(M:XI X.K (clOf K x) f)(Fi:FnOk X.prog X.w X.K X.mg X.base (CXx X.prog X.w) k f fd ps (spI (clOf K x)))(hr:Room (k+1) X.A)(hb:Binds X.K fd ps [])(hm:X.mg x=some (.ref (clOf K x)))(hex:X.ex=[])(hg:Gl X x)(hh:X.A.handled=none)(hN:X.N[i]?=some y)(hv:Vis X.env.scope y)(hd2:(y==("__debug__" : Str))=false:=by decide)(hcd:(y==("__classdict__" : Str))=false:=by decide)(he:starEach [.Name y p] X.env=[(false,eval (.Name y p) X.env)]:=by rfl)(hd:(x==("__debug__" : Str))=false:=by decide) :
  PS X (.Raise (some (.Call (.Name x np) [.Name y p] [] cpos)) none pos) (toTS (Gy K) E (zbo x [i])):=by
 refine PS.imp (zls (E:=E) (C:=clOf K x) hx hex M Fi hr hb hpx hg hm hh (zfV (pos:=p) hN hv hd2 hcd) he hd) fun D σ H zz_=>el6 zz_ fun F as sl ce S P=>?_
 unfold zbo at P
 split at P
 ·rename_i h
  have:=all_eq_true.mp h i (by simp)
  unfold sml at this
  split at this
  ·rename_i n e
   obtain⟨v,e1,e2⟩:=S.slot i _ e
   simp only[Rep] at e2
   subst e2
   exact⟨.int n,e1,fun a ha=>⟨a,n,rfl,of_decide_eq_true this,zaw,rfl,zoA,P H F as (.ref (clOf K x)) none .refl S.st ⟨rfl,rfl⟩⟩⟩
  ·cases this
 ·exact(show False from P).elim
end
end VS
namespace L2
open PySem PySem.Spec PyProof.Rows PySem.W
section
variable {X:Cx}
theorem zpP{np ap pos p1 p2 p3 pe pos' pa:Pos}{e2:Expr}{SA C:Addr}{x u y f:Str}{t2:St->Prop}(hg:Gl X x)(hm:X.mg x=some (.ref SA))(hga:specialIn X.K (.ref SA) "__getattribute__" = some (some (.builtin "type.__getattribute__")))(hr:readsIn X.K SA (.type "type")=true)(hf:findCls X.K (.ref SA) (.type "type") "__init__" = some (.val (.builtin "ValueError.__init__")))(qC:zpK X.K C=true)(hsa:findIn X.K (.ref C) "__setattr__" = some (some (.builtin "object.__setattr__")))(hd:(clsIn X.K C).any (·.hasDict)=true)(ht:takerIn X.K C f=some none)(h2:PX X e2 t2)(hN0:X.N[0]?=some u:=by rfl)(hN1:X.N[1]?=some y:=by rfl)(hv0:Vis X.env.scope u:=by exact Or.inl rfl)(hv1:Vis X.env.scope y:=by exact Or.inl rfl)(d0:(u==("__debug__" : Str))=false:=by decide)(d1:(y==("__debug__" : Str))=false:=by decide)(c0:(u==("__classdict__" : Str))=false:=by decide)(c1:(y==("__classdict__" : Str))=false:=by decide){pl:Sem Bool}(hdx:(x==("__debug__" : Str))=false:=by decide)(hev:eval (.Call (.Attribute (.Name x np) "__init__" ap) [.Name u p1,e2] [] pos) X.env=(do
   let ov <- eval (.Name x np) X.env
   standAt ap.atName
   let (f,first) <- holding [ov] (getMethod ov "__init__" pl)
   callWith pos f first (backTo pos (starEach [.Name u p1,e2] X.env)) (backToKw pos (keywordEach [] X.env))):=by rfl)(hst:starEach [.Name u p1,e2] X.env=[(false,eval (.Name u p1) X.env),(false,eval e2 X.env)]:=by rfl)(hs0:swapsWith (.Call (.Attribute (.Name x np) "__init__" ap) [.Name u p1,e2] [] pos) none pe.line X.env=pure false:=by rfl)(hs:swapsWith (.Name y p3) (some (.Attribute (.Name u p2) f pos')) pa.line X.env=pure false:=by rfl) :
  PSs X [.Expr (.Call (.Attribute (.Name x np) "__init__" ap) [.Name u p1,e2] [] pos) pe,.Assign [.Attribute (.Name u p2) f pos'] (.Name y p3) pa]
   (fun D σ H=>∃a n,σ[0]?=some (some (.ref a))/\σ[1]?=some (some (.int n))/\H a=some (.ext (XNew a C))/\t2 σ/\D.nx σ (upd H a (.ext (XDone a C)))):=by
 refine VS.PSs.imp (ziL (zka (zlr (C:=C) hg hm hga hr hf qC (zfV (pos:=p1) hN0 hv0 d0 c0) h2 hdx hev hst) hs0) (zj9 (znm (C:=C) (zfV (pos:=p2) hN0 hv0 d0 c0) (zfV (pos:=p3) hN1 hv1 d1 c1) hs hsa qC hd ht))) fun D σ H z=>?_
 obtain⟨a,n,e0,e1,eH,q2,q⟩:=z
 exact⟨.ref a,e0,a,rfl,eH,q2,.int n,e1,.ref a,e0,a,rfl,eH,q⟩
end
structure XN (K:PySem.W.Frag) (C SA f:Addr) (fld:Str):Prop where
 xi:XI K C f
 hga:specialIn K (.ref SA) "__getattribute__" = some (some (.builtin "type.__getattribute__"))
 hr:readsIn K SA (.type "type")=true
 hf:findCls K (.ref SA) (.type "type") "__init__" = some (.val (.builtin "ValueError.__init__"))
 hsa:findIn K (.ref C) "__setattr__" = some (some (.builtin "object.__setattr__"))
 hd:(clsIn K C).any (·.hasDict)=true
 ht:takerIn K C fld=some none
def exI(K:PySem.W.Frag)(C SA:Addr)(fld:Str):Bool:=zpK K C&&specialIn K (.ref C) "__call__" == some (some (.builtin "type.__call__"))&&instIn K (.ref C) (.type "type")==some true&&mroIn K C (.ref C)==some true&&PySem.W.keepIn K (.ref C) &&
 specialIn K (.ref SA) "__getattribute__" == some (some (.builtin "type.__getattribute__"))&&readsIn K SA (.type "type")&&(match findCls K (.ref SA) (.type "type") "__init__" with|some (.val (.builtin n))=>n == "ValueError.__init__" | _=>false) &&
 findIn K (.ref C) "__setattr__" == some (some (.builtin "object.__setattr__"))&&(clsIn K C).any (·.hasDict)&&takerIn K C fld==some none
theorem ztT{K:PySem.W.Frag}{C SA f:Addr}{fld:Str}(q:exI K C SA fld=true)(hi:findIn K (.ref C) "__init__" = some (some (.ref f)))(fn:PySem.W.isFn K (.ref f)=true):XN K C SA f fld:=by
 unfold exI at q
 simp only[and_eq_true,beq_iff_eq] at q
 obtain⟨⟨⟨⟨⟨⟨⟨⟨⟨⟨q1,q2⟩,q3⟩,q4⟩,q5⟩,q6⟩,q7⟩,q8⟩,q9⟩,q10⟩,q11⟩:=q
 refine⟨⟨q1,hi,fn,q2,q3,q4,q5⟩,q6,q7,?_,q9,q10,q11⟩
 split at q8
 ·rename_i n e
  rw[e,beq_iff_eq.mp q8]
 ·cases q8
section
variable {X:Cx} {o:Expr} {m:Str} {apos pos:Pos} {ta:TE} {C:Addr} {k:Nat} {f:Addr} {fd:FuncData} {ps:List Str} {sp:Sp}
end
end L2
namespace VS
open PySem PySem.Spec PyProof.Rows L2
section
variable {X:Cx} {K:PySem.W.Frag} {E:XK} {k n:Nat} {f:Addr} {fd:FuncData} {ps:List Str} {df:List W->M W} {c m:Str} {pos apos cpos epos:Pos} {o:Expr} {d:Sl->M W} {h:ExceptHandler} {hd:Exn->DS} {ok:Exn->Bool}
end
end VS
namespace L2
open PySem PySem.Spec PyProof.Rows
section
variable {X:Cx} {pins:List (Addr×Obj)} {σ:St} {H:Hp} {s:Shared} {h':Heap}
theorem Inv.turned2{t':Nat}{e it:Addr}(I:Inv X pins σ H s)(k:∀b o,b≠e->b≠it->s.heap.get? b=some o->h'.get? b=some o)(fe:zj1 X pins H e)(fi:zj1 X pins H it):Inv X pins σ H { s with heap:=h',toks:=t' }:=by
 obtain⟨a0,aL,_,a1,a2,a3⟩:=fe
 obtain⟨b0,bL,_,b1,b2,b3⟩:=fi
 have nit:∀b u,H b=some u->b≠e/\b≠it:=fun b u q=>⟨fun z=>(by rw[z,a0] at q;cases q),fun z=>(by rw[z,b0] at q;cases q)⟩
 have kk:∀b o,b∉[e,it]->s.heap.get? b=some o->h'.get? b=some o:=fun b o hc q=>k b o (fun z=>hc (by simp[z])) (fun z=>hc (by simp[z])) q
 refine I.step (g':=s.gens) (d':=s.drawn) (ch:=[e,it]) (fun b hb=>?_) (fun b o _ _ hc q _=>kk b o hc q) (fun b o _ _ hc q _=>⟨o.slots,kk b o hc q⟩) (fun _ _ _ _ n=>n)
  (fun b o hc q=>⟨o,kk b o hc q⟩) (fun _ _ q=>q) (fun _ _ _ q=>q) (fun b ps q=>⟨#[],by rw[q];simp⟩) (fun m hm=>?_) (fun b u q=>?_) I.bare
 ·have:b=e\/b=it:=by simpa using hb
  rcases this with rfl|rfl
  ·exact⟨a1,aL,a2,a3⟩
  ·exact⟨b1,bL,b2,b3⟩
 ·obtain⟨o,es,ep,ho,r⟩:=hm
  exact⟨o,es,ep,k _ o (Ne.symm aL) (Ne.symm bL) ho,r⟩
 ·refine(I.hok b u q).stay (fun c v hc r=>?_) (fun _ r=>r) fun _ _ r=>r
  rcases hc with z|z
  ·rw[z] at r ⊢;exact k b v (nit b u q).1 (nit b u q).2 r
  ·exact k c v (nit c _ z).1 (nit c _ z).2 r
end
def Ite(K:PySem.W.Frag)(a:Addr):It :=
 ⟨fun i H=>∃xs x,SqL K H a xs/\xs[i]?=some x,fun i H x H'=>∃t y,H t=none/\x=.ref t/\H'=upd H t (.tup [.int (i:Int),y])/\∀xs,SqL K H a xs->xs[i]?=some y,fun i H=>∃xs,SqL K H a xs/\xs.length<=i⟩
theorem zlu{P:Program}{w:World}{K:PySem.W.Frag}{elts:List Expr}{x1:Nat}{tpos:Pos}(a e it:Addr):Turn P w K (.Tuple elts x1 tpos) (Ite K a) [e,it] e (fun i h=>(∃old,IsEnum h e it (i:Int) old)/\h.IsListIter it a i/\e≠it) where
 mem:=by simp
 obj:=fun i h st b hb=>by
  obtain⟨⟨old,ie⟩,il,_⟩:=st
  have:b=e\/b=it:=by simpa using hb
  rcases this with rfl|rfl
  ·exact⟨_,ie,fun v z=>by
    have z':Data.fields _=Data.cell v:=z
    cases z'⟩
  ·obtain⟨o,q,c,d⟩:=il
   exact⟨o,q,fun v z=>by rw[d] at z;cases z⟩
 keep:=fun i h h' st k=>by
  obtain⟨⟨old,ie⟩,il,ne⟩:=st
  exact⟨⟨old,k e (by simp) _ ie⟩,il.at fun o q=>k it (by simp) o q,ne⟩
 item:=by
  intro X hP hw hK hc i pins s σ H E I hf st hg
  subst hP hw hK
  obtain⟨⟨old,ie⟩,il,ne⟩:=st
  obtain⟨xs,x,hq,hx⟩:=hg
  obtain⟨its,rv,p,hz⟩:=I.list hq
  obtain⟨u,hu,ru⟩:=rv.get hx
  have fe:=hf e (by simp)
  have fi:=hf it (by simp)
  have he:e<s.heap.objs.size:=Heap.lt_size ie
  have hi:it<s.heap.objs.size:=by obtain⟨o,q,_⟩:=id il;exact Heap.lt_size q
  have hn:H s.heap.objs.size=none:=I.hok.fresh (le_refl _)
  refine wpAny_pyNext_enum_item ie il p.isList (x:=u) (by simpa using hu) ne fun h' io il' ht hsz kk=>?_
  have z2:2<=sizeLine:=by decide
  have I1:Inv X pins σ (upd H s.heap.objs.size (.tup [.int (i:Int),x])) { s with heap:=s.heap.push { cls:=.type "tuple",data:=.seq #[.int (i:Int) s.toks,u] } } :=
   I.laid (t':=s.toks) (fun b o q=>Heap.get?_push_of_some _ q) (le_refl _) ⟨z2,[.int (i:Int) s.toks,u],.cons ⟨_,rfl⟩ (.cons ru .nil),TupN.new _ _⟩
  have up:∀b,b<s.heap.objs.size->zj1 X pins H b->zj1 X pins (upd H s.heap.objs.size (.tup [.int (i:Int),x])) b:=fun b hb f=>⟨by rw[zaD (ne_of_lt hb)];exact f.1,f.2⟩
  have I2:Inv X pins σ (upd H s.heap.objs.size (.tup [.int (i:Int),x])) { s with heap:=h',toks:=s.toks+1 } :=
   I1.turned2 (t':=s.toks+1) (fun b o h1 h2 q=>by
    by_cases hb:b=s.heap.objs.size
    ·subst hb
     rw[Heap.get?_push_size _ rfl] at q
     rw[ht];exact q
    ·refine kk b o h1 h2 ?_
     rw[<- q]
     exact(Heap.get?_push_ne _ _ _ hb).symm) (up e he fe) (up it hi fi)
  refine⟨_,rfl,wpAny_letOwnedTupleGo_enum (s:={ s with heap:=h',toks:=s.toks+1 }) io fun h'' ie' sb=>?_⟩
  obtain⟨f0,f1,f2,f3,f4,f5⟩:=up e he fe
  have I3:=I2.turned (h':=h'') (t':=s.toks+1) (it:=e) (fun b o hb q=>(sb.2 b hb).trans q) f0 f1 f3 f4 f5
  refine⟨.ref s.heap.objs.size,_,I3,rfl,⟨_,x,hn,rfl,rfl,fun ys hy=>by rw[I.list_inj hy hq];exact hx⟩,⟨⟨_,ie'⟩,il'.at fun o q=>(sb.2 it (Ne.symm ne)).trans q,ne⟩,fun b hb=>?_⟩
  have:b=e\/b=it:=by simpa using hb
  rcases this with rfl|rfl
  ·exact f0
  ·exact(up _ hi fi).1
 done:=by
  intro X hP hw hK hc i pins s σ H E I hf st hg
  subst hP hw hK
  obtain⟨⟨old,ie⟩,il,ne⟩:=st
  obtain⟨xs,hq,hx⟩:=hg
  obtain⟨its,rv,p,hz⟩:=I.list hq
  obtain⟨f0,f1,f2,f3,f4,f5⟩:=hf it (by simp)
  have hl:=rv.length
  exact wpAny_pyNext_enum_end (I.ok.hd hc) ie il p.isList (by simp;omega) fun h' eb=>⟨rfl,I.turned (t':=s.toks) (fun b o hb q=>eb b o hb q) f0 f1 f3 f4 f5⟩
 self:=fun _ _ _ _ _ st h=>by
  obtain⟨⟨old,ie⟩,_,_⟩:=st
  exact wpAny_pyIter_enum ie h
def ztU(K:PySem.W.Frag)(ta:TA):TI:=fun σ H R=>ta σ H fun vs H1=>∃a,vs=[.ref a]/\(∃xs,SqL K H1 a xs)/\R (Ite K a) H1
theorem zpQ{X:Cx}{elts:List Expr}{x1:Nat}{tpos:Pos}{l:Expr}{ta:TA}{p pos:Pos}(hg:Gl X "enumerate")(hm:X.mg "enumerate" = none)(ha:PA X [l] ta)(hs:starEach [l] X.env=[(false,eval l X.env)]:=by rfl):PI X (.Tuple elts x1 tpos) (.Call (.Name "enumerate" p) [l] [] pos) (ztU X.K ta):=by
 intro pins s σ H R I h
 refine Call_ (zhg I hg hm boot_enumerate (PyProof.Rows.callWith_type1 (thn (ha pos pins s σ H _ I h) fun us s1 ⟨vs,H1,I1,r1,q1⟩=>?_) hs rfl))
 obtain⟨a,e,⟨xs,hq⟩,q⟩:=q1
 subst e
 cases r1 with
 | cons r rr =>
  cases rr
  obtain⟨rfl⟩:_=Value.ref a:=r
  obtain⟨its,rv,pl,hz⟩:=I1.list hq
  refine call_enumerate_list pl.isList fun h' ie il hsz kk=>?_
  refine wpAny_pyIter_enum ie ⟨s1.heap.objs.size+1,[s1.heap.objs.size+1,s1.heap.objs.size],_,_,H1,rfl,I1.kept (t':=s1.toks) kk,zlu a _ _,⟨⟨_,ie⟩,il,succ_ne_self _⟩,fun b hb=>?_,q⟩
  have:b=s1.heap.objs.size+1\/b=s1.heap.objs.size:=by simpa using hb
  rcases this with rfl|rfl
  ·exact I1.fpOk (le_succ _) (I1.hok.fresh (le_succ _))
  ·exact I1.fpOk (le_refl _) (I1.hok.fresh (le_refl _))
end L2
namespace VS
open PySem PySem.Spec PyProof.Rows L2
section
def zio(xs:List W):List W:=(List.range xs.length).map fun(i:Nat)=>W.tup [.int (i:Int),xs.getD i .non]
def znn(d:Sl->M (List W))(g:DG)(b:DS):DS:=fun sl ce=>lft (d sl ce) fun ws ce1=>match ws with
 | [.lst xs]=>zhf (.tup (zio xs)) g b (zio xs) sl ce1
 | _=>none
section
variable {X:Cx} {G:Ga} {E:XK} {elts:List Expr} {x1:Nat} {tpos p pos fpos:Pos} {l:Expr} {dr:Sl->M (List W)} {g:DG} {b:DS} {body:List Stmt}
theorem zpR(hp:PassesOwn (model X.prog X.w) X.A X.env X.xe)(hc:X.calm=true)(hgl:Gl X "enumerate")(hm:X.mg "enumerate" = none)(ha:PA X [l] (zhd G E dr))(hg:PGv G X (.Tuple elts x1 tpos) g)(hb:PSs X body (toTS G E b))(hst:starEach [l] X.env=[(false,eval l X.env)]:=by rfl)(hs:∀x,foldedSetIterable (.Call (.Name "enumerate" p) [l] [] pos) X.env x=pure x:=by intro _;rfl):PS X (.For (.Tuple elts x1 tpos) (.Call (.Name "enumerate" p) [l] [] pos) body [] fpos) (toTS G E (znn dr g b)):=by
 obtain⟨tgt,hg,qg⟩:=hg
 refine PS.imp (znQ hp hc (zpQ hgl hm ha hst) hg hb hs) fun D σ H zz_=>el6 zz_ fun F as sl ce S P=>(zdE (RP:=Reps) S P).mono fun vs H1 zz_=>el8 zz_ fun ws F1 as1 ce1 l1 S1 rs P1=>?_
 split at P1
 case h_2=>exact(show False from P1).elim
 rename_i ws xs
 simp only[Reps,Rep] at rs
 obtain⟨v,r,rfl,⟨a,vs',rfl,ra,rx⟩,rfl⟩:=rs
 have hl:=rx.length
 have il:(zio xs).length=xs.length:=by simp[zio]
 refine⟨a,rfl,⟨vs',.inl (Rd.sub S1.st ra)⟩,?_⟩
 refine⟨fun i m σ H=>∃F as sl ce,SR G F as H σ sl ce/\Rd F a (.lst vs')/\Reps F as xs vs'/\m=(zio xs).length-i/\i<=(zio xs).length/\PostS G E D F as (zhf (.tup (zio xs)) g b ((zio xs).drop i) sl ce),⟨(zio xs).length,F1,as1,sl,ce1,S1,ra,rx,rfl,zero_le _,P1⟩,?_⟩
 rintro i m σ H ⟨F,as,sl,ce,S,ra,rx,rfl,hi,P⟩
 have hq:SqL X.K H a vs':=.inl (Rd.sub S.st ra)
 by_cases hlt:i<(zio xs).length
 ·rw[drop_eq_getElem_cons hlt] at P
  simp only[zhf] at P
  split at P
  ·have hiv:i<vs'.length:=by omega
   refine .inr ⟨⟨vs',vs'[i],hq,getElem?_eq_getElem hiv⟩,_,fun σ' H' h=>h,fun x H' y=>?_⟩
   obtain⟨t,y',ht,rfl,rfl,hy⟩:=y
   have hy:=hy vs' hq
   obtain⟨w,hw,rw'⟩:=rx.get' hy
   obtain⟨S',l'⟩:=S.st.freeze (o:=.tup [.int (i:Int),y']) ht
   have S2:SR G (upd F t (.tup [.int (i:Int),y'])) as (upd H t (.tup [.int (i:Int),y'])) σ sl ce:=S.slots S' l'
   have ei:(zio xs)[i]=.tup [.int (i:Int),w]:=by
    have:xs.getD i .non=w:=by rw[getD_eq_getElem?_getD,hw];rfl
    simp only[zio,getElem_map,getElem_range,this]
   rw[ei] at P
   have rp:Rep (upd F t (.tup [.int (i:Int),y'])) as (.tup [.int (i:Int),w]) (.ref t):=by
    simp only[Rep,Reps]
    exact⟨t,_,rfl,zaw,_,_,rfl,rfl,_,_,rfl,rw'.le l',rfl⟩
   split at P
   ·rename_i sl1 ce1 eg
    refine qg _ as _ σ sl ce _ _ sl1 ce1 _ S2 rp eg fun σ' H2 F' as' l S'=>⟨F',as',sl1,ce1,S',?_⟩
    refine zfe (P.le (l'.trans l)) fun σ3 H3 F3 as3 sl3 ce3 l3 S3 P3=>?_
    have ll:=l'.trans (l.trans l3)
    exact⟨(zio xs).length-(i+1),by omega,F3,as3,sl3,ce3,S3,ll.rd ra,rx.le ll,rfl,hlt,P3⟩
   ·exact(show False from P).elim
  ·exact(show False from P).elim
 ·have e:i=(zio xs).length:=by omega
  subst e
  rw[drop_length] at P
  simp only[zhf] at P
  split at P
  ·exact .inl ⟨⟨vs',hq,by omega⟩,P.nxt S⟩
  ·exact(show False from P).elim
end
end
end VS
namespace L2
open PySem PySem.Spec PyProof.Rows
section
variable {X:Cx}
theorem zhM{K:PySem.W.Frag}(hc:X.calm=true:=by rfl)(hK:X.K=K:=by rfl):CallR X (.builtin "sum") (fun xs H Q=>∃(a:Addr) (ns:List Int),xs=[.ref a]/\SqT K H a (ns.map V.int)/\Q (.int ns.sum) H):=by
 subst hK
 intro pins s σ H xs us Q I r h
 obtain⟨a,ns,rfl,ha,q⟩:=h
 obtain⟨u,rfl,rx⟩:=zeG r
 cases rx
 obtain⟨its,r1,p1,_⟩:=I.tuple ha
 have hI:IntsAre its ns:=zb5 r1
 obtain⟨xs,e⟩:=hI.allInts.items
 have hl:s.heap.IsTuple a (intItems xs):=by rw[<- e];exact p1
 have hlt:a<s.heap.objs.size:=by obtain⟨o,q,_⟩:=id hl;exact Heap.lt_size q
 refine call_sum_walkG (wpAny_pyIter_tuple hl ⟨s.heap.objs.size,_,_,_,_,_,numAt xs,rfl,Walks.tuple (show X.A.in1.handled=none from I.ok.hd hc) s.heap.objs.size a (ne_of_lt hlt) (intItems xs),⟨⟨_,Heap.get?_push_size _ rfl,rfl,rfl⟩,?_⟩,fun b hb=>?_,fun i v hv=>?_,fun h' tk t' hk=>?_⟩)
 ·obtain⟨o,q1,q2⟩:=hl
  exact⟨o,Heap.get?_push_of_some _ q1,q2⟩
 ·have:b=s.heap.objs.size\/b=a:=by simpa using hb
  simp only[Heap.push,size_push]
  rcases this with rfl|rfl
  ·exact lt_succ_self _
  ·exact lt_succ_of_lt hlt
 ·simp only[intItems,Array.getElem?_map,map_eq_some_iff] at hv
  obtain⟨p,hp,rfl⟩:=hv
  exact⟨p.2,by simp[numAt,hp]⟩
 ·have e3:preSum (numAt xs) (intItems xs).size=ns.sum:=by
   rw[show(intItems xs).size=xs.size by simp[intItems],preSum_eq,take_of_length_le (by simp)]
   have:numsOf its.toArray.toList=ns:=hI.numsOf
   rw[e,nums_intItems] at this
   rw[this]
  rw[e3]
  refine⟨.int ns.sum,H,I.kept (h':=h') (t':=tk) (fun b o q=>hk b o (fun z=>?_) (Heap.get?_push_of_some _ q)),⟨_,rfl⟩,q⟩
  have:b=s.heap.objs.size:=by simpa using z
  have h2:=Heap.lt_size q
  rw[this] at h2
  exact absurd h2 (lt_irrefl _)
end
end L2
namespace VS
open PySem PySem.Spec PyProof.Rows L2
section
def zhN:List W->M W:=fun ws ce=>match ws with
 | [.tup xs]=>match zei xs with
  | some ns=>some (.ok (.int ns.sum) ce)
  | none=>none
 | _=>none
section
variable {G:Ga} {E:XK}
theorem zos(K:PySem.W.Frag):Bi G E (fun xs H Q=>∃(a:Addr) (ns:List Int),xs=[.ref a]/\SqT K H a (ns.map V.int)/\Q (.int ns.sum) H) zhN:=by
 intro F as H σ sl ce ws vs Q S rs P
 unfold zhN at P
 split at P
 ·rename_i xs
  obtain⟨v,rfl,r⟩:=zbp rs
  split at P
  ·rename_i ns hi
   simp only[Rep] at r
   obtain⟨a,us,rfl,h,rs'⟩:=r
   cases zc8 hi
   cases rs'.of_ints
   exact⟨a,ns,rfl,.inl (.inl (S.st.sub _ _ h)),P.done S (by simp only[Rep])⟩
  ·exact P.elim
 ·exact P.elim
theorem zpS{ce:Ce}{ns:List Int}:zhN [wS ns] ce=some (.ok (.int ns.sum) ce):=by simp only[zhN,zcJ]
end
end
def FnK(K:PySem.W.Frag)(x q:Str)(st:Stmt)(f:Addr):Prop:=∃fd,Fun K x q st f fd
theorem fnk{K:PySem.W.Frag}{x qual:Str}{st:Stmt}{f:Addr}{oc:Value}{od an:Option Addr}{osl:Array (Option Value)}{kV doc pm cdv ct:Value}(l:K.lookup f=some ⟨oc,od,.func (PySem.W.fnOf x qual (zee st) (zdr st) (zal st) .none kV doc pm an cdv ct),osl⟩)(c:PySem.W.codeIn K cdv qual=true)(k:PySem.W.keepIn K (.ref f)=true):FnK K x qual st f:=⟨_,znW l c k⟩
theorem sc_{N P:List Str}{sc:Scope}(h1:sc.kind=.function:=by rfl)(h2:sc.isCoroutine=false:=by rfl)(h3:sc.isGenerator=false:=by rfl)(h4:N.Nodup:=by decide +kernel)(h5:N.take P.length=P:=by rfl)(h6:∀x∈P,sc.names.lookup x=some .local\/sc.names.lookup x=some .cell:=by decide +kernel)(h7:∀y∈sc.names,y.2≠.free:=by decide +kernel):FnScope N P sc:=⟨h1,h2,h3,h4,h5,h6,h7⟩
end VS
namespace K25
open PySem PySem.Spec PyProof.Rows L2 VS
def XTB:XTb:=[("StoneError",true,["StoneError"]),("NoStand",true,["NoStand", "StoneError"]),("NoLay",true,["NoLay", "StoneError"]),("NoBreath",true,["NoBreath", "StoneError"]),("Again",false,["Again", "StoneError"]),("Over",true,["Over", "StoneError"])]
def d_ba(fu:Nat):List W->M W:=dFn finC 1
 (za7 (zpd (dBi zmM (zac (zae 0) (zac (dC (.ty "int")) zan))) (zub (dBi zmM (zac (zae 0) (zac (dC (.ty "bool")) zan))))))
def d_r(fu:Nat):List W->M W:=dFn finC 1
 (za7 (dOp zhe (dC (.int 3)) (zae 0)))
def zfw(fu:Nat):DS :=
 (dIf (zeH (dB (zaL (zn5 true) (zae 6) (zae 3))) (dB (zaL (eqW false) (zaL ixW (zae 1) (zae 6)) (zaL ixW (zae 1) (zae 2))))) (zaq (zjI (zae 3) (zae 6) (dC (.bl true)))
 (dEx (dMt zex (zae 4) (zac (zae 6) zan)))) zaP)
def zfx(fu:Nat):DS :=
 (zaq (zaU 5 (zrv zrx (zae 4)))
 (zce (dIT (zaL ixW (zae 0) (zae 5))) (gN 6) (zfw fu)))
def d_aa(fu:Nat):List W->M W:=dFn finO 7
 (zaq (zaU 3 (zhA (zae 2) (dC (.bl true))))
 (zaq (zaU 4 (zbW (zac (zae 2) zan)))
 (zaq (zcx (zl2 (zae 4)) (zfx fu) fu)
 (za7 (dBi (zaS zgx) (zac (zae 3) zan))))))
def zgc(fu:Nat):DS :=
 (zjI (zae 2) (zae 6) (dC (.bl true)))
def zgd(fu:Nat):DS :=
 (dIf (dB (zaL (zn5 true) (zae 4) (zae 2))) (zaq (zaU 5 (zaH 3 (zdg (d_aa fu)) (zac (zae 0) (zac (zae 1) (zac (zae 4) zan)))))
 (zaq (dEx (dMt zex (zae 3) (zac (zae 5) zan)))
 (zce (dIL (zae 5)) (gN 6) (zgc fu)))) zaP)
def d_ea(fu:Nat):List W->M W:=dFn finO 7
 (zaq (zaU 2 zfP)
 (zaq (zaU 3 (zbW zan))
 (zaq (zce (zf6 (zac (dBi zbQ (zac (zae 0) zan)) zan)) (gN 4) (zgd fu))
 (za7 (zae 3)))))
def d_da(fu:Nat):List W->M W:=dFn finC 2
 (zaq (dIf (zl4 (zdf (dB (dBi zmM (zac (zae 1) (zac (dC (.ty "tuple")) zan))))) (dB (zaL (eqW true) (dBi zbQ (zac (zae 1) zan)) (dBi zbQ (zac (zae 0) zan))))) (za7 (dC (.bl false))) zaP)
 (za7 (dBi zqn (zac (dLC zbf [] (dIT (zae 1)) zdH (zfT (zpd (zaH 1 (d_ba fu) (zac (zae 0) zan)) (zhs (fun _=>fLe) (fun _=>fLe) (dC (.int 0)) (zae 0) (dC (.int 2)))))) zan))))
def d_la(fu:Nat):List W->M W:=dFn finO 3
 (za7 (zaH 3 (d_aa fu) (zac (zae 0) (zac (zae 1) (zac (zae 2) zan)))))
def d_ma(fu:Nat):List W->M W:=dFn finC 2
 (za7 (dLC zbf [1] (dIL (zaH 2 (zdg (d_ea fu)) (zac (zae 0) (zac (zae 1) zan)))) (dB (zaL (eqW true) (zaL ixW (zae 1) (zaL ixW (zae 0) (dC (.int 0)))) (dC (.int 0)))) (zae 0)))
def d_ka(fu:Nat):List W->M W:=dFn finC 2
 (za7 (dLC zbf [1] (dIL (zaH 2 (zdg (d_ea fu)) (zac (zae 0) (zac (zae 1) zan)))) (dB (zaL (eqW false) (zaL ixW (zae 1) (zaL ixW (zae 0) (dC (.int 0)))) (dC (.int 0)))) (zae 0)))
def zcA(fu:Nat):DS :=
 (zjI (zae 2) (zae 4) (dC (.bl true)))
def zcB(fu:Nat):DS :=
 (zce (dIT (zaL ixW (zae 0) (zae 3))) (gN 4) (zcA fu))
def d_c(fu:Nat):List W->M W:=dFn finO 5
 (zaq (zaU 2 zfP)
 (zaq (zce (dIL (zae 1)) (gN 3) (zcB fu))
 (za7 (dBi (zaS zgx) (zac (zae 2) zan)))))
def d_fa(fu:Nat):List W->M W:=dFn finO 3
 (za7 (dLC zgx [1] (dIL (zaH 2 (zdg (d_c fu)) (zac (zae 0) (zac (zae 2) zan)))) (dB (zaL (eqW false) (zaL ixW (zae 1) (zae 0)) (dC (.int 0)))) (zae 0)))
def d_ja(fu:Nat):List W->M W:=dFn finO 4
 (zaq (zaU 3 (dLC zbf [1] (dIL (zaH 2 (zdg (d_c fu)) (zac (zae 0) (zac (zae 2) zan)))) zdH (zaL ixW (zae 1) (zae 0))))
 (za7 (dLC zgx [3] (dIT (zfb (zac (dC (.int 1)) (zac (dC (.int 2)) zan)))) (dB (zaL (inW false) (zae 0) (zae 1))) (zae 0))))
def d_ca(fu:Nat):List W->M W:=dFn finC 2
 (za7 (dBi zqn (zac (dLC zbf [0,1] (dIL (zaH 2 (d_ma fu) (zac (zae 0) (zac (zae 1) zan)))) zdH (zfT (dOp fGt (dBi zbQ (zac (zaH 3 (zdg (d_fa fu)) (zac (zae 1) (zac (zae 2) (zac (zae 0) zan)))) zan)) (dC (.int 0))))) zan)))
def d_ga(fu:Nat):List W->M W:=dFn finC 3
 (za7 (dBi zqp (zac (dLC zbf [0,1,2] (dIL (zaH 2 (d_ka fu) (zac (zae 0) (zac (zae 1) zan)))) (zfT (dB (zaL (eqW false) (zaH 3 (zdg (d_ja fu)) (zac (zae 1) (zac (zae 2) (zac (zae 0) zan)))) (zhZ (zac (zae 3) zan))))) (dBi zbQ (zac (zae 0) zan))) zan)))
def d_v(fu:Nat):List W->M W:=dFn finC 3
 (zaq (zaU 2 (dLC zbf [0,1] (dIT (zfb (zac (dC (.int 1)) (zac (dC (.int 2)) zan)))) zdH (zfT (dOp zb3 (zsA zlk (zae 2) (zac (zae 0) zan)) (zaH 3 (d_ga fu) (zac (zae 1) (zac (zae 2) (zac (zae 0) zan))))))))
 (za7 (dBi zbn (zac (zae 2) zan))))
def d_e(fu:Nat):List W->M W:=dFn finC 2
 (za7 (zrj (dB (zaL (eqW false) (dOp zbP (zae 1) (dC (.int 2))) (dC (.int 0)))) (zdh "Game" "first" (zae 0)) (zaH 1 (d_r fu) (zac (zdh "Game" "first" (zae 0)) zan))))
def d_x(fu:Nat):List W->M W:=dFn finC 2
 (za7 (dBi zqp (zac (dLC zbf [0,1] (zf6 (zac (dBi zbQ (zac (zdh "Game" "done" (zae 0)) zan)) zan)) (zfT (dB (zaL (eqW true) (za3 "Game" "hand_at" 2 (d_e fu) (zae 1) (zac (zae 0) zan)) (zae 2)))) (zaL ixW (zdh "Game" "takings" (zae 1)) (zae 0))) zan)))
def d_q(fu:Nat):List W->M W:=dFn finC 1
 (za7 (zdh "Game" "joined" (zae 0)))
def d_j(fu:Nat):List W->M W:=dFn finC 1
 (za7 (zaL ixW (zdh "Game" "past" (zae 0)) (dUn zo8 (dC (.int 1)))))
def d_ha(fu:Nat):List W->M W:=dFn finC 2
 (zaq (zaU 1 (dLC zbf [0] (dIT (zfb (zac (dC (.int 1)) (zac (dC (.int 2)) zan)))) zdH (zfT (dOp zb3 (zaH 3 (d_ga fu) (zac (za3 "Game" "board" 1 (d_q fu) (zae 1) zan) (zac (za3 "Game" "stand" 1 (d_j fu) (zae 1) zan) (zac (zae 0) zan)))) (za3 "Game" "lost" 2 (d_x fu) (zae 1) (zac (zaH 1 (d_r fu) (zac (zae 0) zan)) zan))))))
 (za7 (dBi zbn (zac (zae 1) zan))))
def zhO(fu:Nat):DS :=
 (zjH (zae 2) (zfc (zae 3) (zae 4)))
def d_ia(fu:Nat):List W->M W:=dFn finC 5
 (zaq (zaU 3 (dBi (zeJ zgx) (zac (zae 0) zan)))
 (zaq (zce (dIL (zae 1)) (gN 4) (zhO fu))
 (za7 (dBi zbn (zac (zae 3) zan)))))
def zdR(fu:Nat):DS :=
 (dIf (zeH (dB (zaL (eqW false) (zaL ixW (zae 1) (zaL ixW (zae 4) (dC (.int 0)))) (zae 2))) (zdf (zl2 (zaH 3 (zdg (d_fa fu)) (zac (zae 0) (zac (zae 1) (zac (zae 4) zan))))))) (dEx (dMt zry (zae 3) (zac (zae 4) zan))) zaP)
def d_k(fu:Nat):List W->M W:=dFn finO 5
 (zaq (zaU 3 (zbW zan))
 (zaq (zce (dIL (zaH 2 (d_ma fu) (zac (zae 0) (zac (zae 1) zan)))) (gN 4) (zdR fu))
 (za7 (dBi (zaS zgx) (zac (zae 3) zan)))))
def d_na(fu:Nat):List W->M W:=dFn finC 7
 (zaq (dIf (dB (zaL (eqW true) (zaL ixW (zae 1) (zae 3)) (dC (.int 0)))) (zbo "NoLay" [3]) zaP)
 (zaq (zaU 4 (zaH 3 (d_ia fu) (zac (zae 1) (zac (zhZ (zac (zae 3) zan)) (zac (zae 2) zan)))))
 (zaq (zaU 5 (zaH 3 (zdg (d_k fu)) (zac (zae 0) (zac (zae 4) (zac (zaH 1 (d_r fu) (zac (zae 2) zan)) zan)))))
 (zaq (zaU 6 (zaH 3 (d_ia fu) (zac (zae 4) (zac (zae 5) (zac (dC (.int 0)) zan)))))
 (zaq (dIf (zdf (zl2 (zaH 3 (zdg (d_fa fu)) (zac (zae 0) (zac (zae 6) (zac (zaH 3 (zdg (d_la fu)) (zac (zae 0) (zac (zae 6) (zac (zae 3) zan)))) zan)))))) (zbo "NoBreath" [3]) zaP)
 (za7 (zfb (zac (zae 6) (zac (zae 5) zan)))))))))
def zdo(fu:Nat):DS :=
 (zaq (zaU 3 (dOp zbP (dOp zb3 (dOp zb3 (dOp zgr (zae 3) (zae 3)) (dOp zgr (dC (.int 48271)) (zae 3))) (zae 4)) (dC (.int 2147483647))))
 (dEx (dMt zex (zae 2) (zac (zae 3) zan))))
def d_i(fu:Nat):List W->M W:=dFn finC 5
 (zaq (zaU 2 (zbW zan))
 (zaq (zaU 3 (dOp zb3 (dOp zbP (zae 0) (dC (.int 2147483647))) (dC (.int 48271))))
 (zaq (zce (zf6 (zac (dOp zb3 (zae 1) (dC (.int 1))) zan)) (gN 4) (zdo fu))
 (za7 (dSl zbf (zae 2) (zby (dC (.int 1))) zbA)))))
def zdp(fu:Nat):DS :=
 (zaq (dEx (dMt zex (zaL ixW (zae 2) (zae 3)) (zac (zae 4) zan)))
 (dEx (dMt zex (zaL ixW (zae 2) (zae 4)) (zac (zae 3) zan))))
def d_h(fu:Nat):List W->M W:=dFn finC 5
 (zaq (zaU 2 (dLC zbf [] (zf6 (zac (zae 0) zan)) zdH (zbW zan)))
 (zaq (zce (dIL (zae 1)) (gT 2 (zdk (gN 3) (zdk (gN 4) zkW))) (zdp fu))
 (za7 (dBi zbn (zac (dLC zbf [] (dIL (zae 2)) zdH (dBi zbn (zac (dBi (zaS zbf) (zac (zae 0) zan)) zan))) zan)))))
def zdS(fu:Nat):DS :=
 (dIf (dB (dOp fLt (dOp zbP (zaL ixW (zae 5) (dOp zb3 (dOp zgr (zae 6) (zae 2)) (zae 7))) (dC (.int 5))) (dOp zbP (zaL ixW (zae 0) (dC (.int 1))) (dC (.int 4))))) (dEx (dMt zex (zae 3) (zac (zfb (zac (zae 7) (zac (zae 6) zan))) zan))) zaP)
def zdT(fu:Nat):DS :=
 (zce (zf6 (zac (zae 6) zan)) (gN 7) (zdS fu))
def d_n(fu:Nat):List W->M W:=dFn zrp 8
 (zaq (dIf (dB (dOp zfh (dOp zbP (zaL ixW (zae 0) (dC (.int 1))) (dC (.int 4))) (dC (.int 0)))) (zaq (zaU 1 (dOp zb3 (dC (.int 1)) (dOp zbP (zaL ixW (zae 0) (dC (.int 0))) (dC (.int 4)))))
 (zaq (zaU 2 (dOp zgr (zae 1) (dOp zb3 (dC (.int 1)) (dOp zbP (zaL ixW (zae 0) (dC (.int 2))) (dC (.int 4))))))
 (zaq (dIf (dB (dOp zfh (dOp zbP (dOp zo7 (zaL ixW (zae 0) (dC (.int 2))) (dC (.int 4))) (dC (.int 9))) (dC (.int 0)))) (zaq (zaU 1 (dOp zb3 (dC (.int 3)) (dOp zbP (zaL ixW (zae 0) (dC (.int 0))) (dC (.int 4)))))
 (zaU 2 (dOp zgr (dC (.int 6)) (zae 1)))) zaP)
 (zaq (zaU 3 (dLC zgx [1] (zf6 (zac (dOp zhe (zae 2) (zae 1)) zan)) zdH (zfb (zac (zae 0) (zac (dOp zb3 (zae 0) (zae 1)) zan)))))
 (zaq (zaU 4 (dLC zbf [1] (zf6 (zac (dOp zhe (zae 2) (dC (.int 1))) zan)) (dB (dOp fGt (dOp zbP (dOp zb3 (zae 0) (dC (.int 1))) (zae 1)) (dC (.int 0)))) (zae 0)))
 (za7 (zfb (zac (zae 2) (zac (zmI zbf (zae 3) (dLC zbf [] (dIL (zae 4)) zdH (zfb (zac (zae 0) (zac (dOp zb3 (zae 0) (dC (.int 1))) zan))))) zan))))))))) zaP)
 (zaq (zaU 2 (dOp zb3 (dC (.int 1)) (dOp zbP (zaL ixW (zae 0) (dC (.int 0))) (zaL ixW (zhZ (zac (dC (.int 0)) (zac (dC (.int 7)) (zac (dC (.int 9)) (zac (dC (.int 5)) zan))))) (dOp zbP (zaL ixW (zae 0) (dC (.int 1))) (dC (.int 4)))))))
 (zaq (zaU 3 (dLC zgx [] (zf6 (zac (dOp zhe (zae 2) (dC (.int 1))) zan)) zdH (zfb (zac (zae 0) (zac (dOp zb3 (zae 0) (dC (.int 1))) zan)))))
 (zaq (dIf (zeH (dB (dOp zfh (dOp zbP (zaL ixW (zae 0) (dC (.int 1))) (dC (.int 4))) (dC (.int 1)))) (zeH (dB (dOp fGt (zae 2) (dC (.int 2)))) (dB (dOp zfh (dOp zbP (zaL ixW (zae 0) (dC (.int 2))) (dC (.int 2))) (dC (.int 0)))))) (dEx (dMt zex (zae 3) (zac (zfb (zac (dC (.int 0)) (zac (dOp zhe (zae 2) (dC (.int 1))) zan))) zan))) zaP)
 (zaq (dIf (dB (dOp fGt (dOp zbP (zaL ixW (zae 0) (dC (.int 1))) (dC (.int 4))) (dC (.int 1)))) (zaq (zaU 5 (zaH 2 (d_i fu) (zac (zaL ixW (zae 0) (dC (.int 2))) (zac (dOp zgr (zae 2) (zae 2)) zan))))
 (zaq (zaU 3 (zbW zan))
 (zce (zf6 (zac (zae 2) zan)) (gN 6) (zdT fu)))) zaP)
 (za7 (zfb (zac (zae 2) (zac (zae 3) zan)))))))))
def zfy(fu:Nat):DS :=
 (dIf (zeH (dB (dOp zfh (zaL ixW (zae 1) (zae 5)) (zaL ixW (zae 1) (zae 2)))) (dB (zaL (inW true) (zae 5) (zae 3)))) (dEx (dMt zex (zae 3) (zac (zae 5) zan))) zaP)
def zfz(fu:Nat):DS :=
 (zaq (zce (dIT (zaL ixW (zae 0) (zaL ixW (zae 3) (zae 4)))) (gN 5) (zfy fu))
 (zaU 4 (dOp zb3 (zae 4) (dC (.int 1)))))
def d_z(fu:Nat):List W->M W:=dFn finO 6
 (zaq (zaU 3 (zbW (zac (zae 2) zan)))
 (zaq (zaU 4 (dC (.int 0)))
 (zaq (zcx (dB (dOp fLt (zae 4) (dBi zbQ (zac (zae 3) zan)))) (zfz fu) fu)
 (za7 (zae 3)))))
def zcS(fu:Nat):DS :=
 (dIf (dB (dOp zfh (zaL ixW (zae 1) (zae 5)) (dC (.int 0)))) (zjI (zae 3) (zae 5) (dC (.bl true))) zaP)
def zcT(fu:Nat):DS :=
 (zce (dIT (zaL ixW (zae 0) (zae 4))) (gN 5) (zcS fu))
def d_f(fu:Nat):List W->M W:=dFn finO 6
 (zaq (zaU 3 zfP)
 (zaq (zce (dIL (zae 2)) (gN 4) (zcT fu))
 (za7 (dBi (zaS zgx) (zac (dBi (zeJ zbf) (zac (zae 3) zan)) zan)))))
def zdU(fu:Nat):DS :=
 (zjH (dC (.int 0)) (zfc (zae 10) (zae 9)))
def zdV(fu:Nat):DS :=
 (zjI (zae 4) (zae 9) (dC (.bl true)))
def zdW(fu:Nat):DS :=
 (zjI (zae 5) (zae 9) (dC (.bl true)))
def zdX(fu:Nat):DS :=
 (dIf (dB (dOp zfh (zaL ixW (zae 1) (zae 6)) (dC (.int 0)))) (zjI (zae 5) (zae 6) (dC (.bl true))) (zaq (zaU 7 (zaH 3 (zdg (d_z fu)) (zac (zae 0) (zac (zae 1) (zac (zae 6) zan)))))
 (zaq (zaU 8 (zaH 3 (d_f fu) (zac (zae 0) (zac (zae 1) (zac (zae 7) zan)))))
 (zaq (dEx (dMt zsb (zae 8) (zac (zae 3) zan)))
 (dIf (dB (dOp zfh (zaL ixW (zae 1) (zae 6)) (zae 2))) (zce (dIL (zae 8)) (gN 9) (zdW fu)) (dIf (dB (zaL (eqW false) (zae 8) (zhZ zan))) (zce (dIL (zae 7)) (gN 9) (zdV fu)) zaP))))))
def d_s(fu:Nat):List W->M W:=dFn finC 11
 (zaq (dIf (dB (dOp zk0 (zaL ixW (zae 1) (zae 3)) (dC (.int 0)))) (za7 (dC (.str "lay"))) zaP)
 (zaq (zaU 4 zfP)
 (zaq (zaU 5 zfP)
 (zaq (zce (dIT (zaL ixW (zae 0) (zae 3))) (gN 6) (zdX fu))
 (zaq (dIf (zeH (dB (dOp zfh (dBi zbQ (zac (zae 5) zan)) (dC (.int 0)))) (dB (dOp zfh (dBi zbQ (zac (zae 4) zan)) (dC (.int 0))))) (za7 (dC (.str "breath"))) zaP)
 (zaq (zaU 10 (dBi (zeJ zgx) (zac (zae 1) zan)))
 (zaq (zce (dID (zae 4)) (gN 9) (zdU fu))
 (zaq (zjH (zae 2) (zfc (zae 10) (zae 3)))
 (za7 (zfb (zac (dBi zbn (zac (zae 10) zan)) (zac (dBi (zaS zbf) (zac (dBi (zeJ zbf) (zac (zae 4) zan)) zan)) zan))))))))))))
def zdY(fu:Nat):DS :=
 (zaq (zaU 6 (dOp zbP (dOp zb3 (zaL ixW (zae 4) (dC (.int 0))) (dOp zgr (dC (.int 7)) (zae 5))) (dBi zbQ (zac (zae 0) zan))))
 (zaq (zaU 7 (zaH 4 (d_s fu) (zac (zae 0) (zac (zae 2) (zac (dOp zb3 (dC (.int 1)) (dOp zbP (dOp zb3 (zaL ixW (zae 4) (dC (.int 1))) (zae 5)) (dC (.int 2)))) (zac (zae 6) zan))))))
 (dIf (dB (dBi zmM (zac (zae 7) (zac (dC (.ty "tuple")) zan)))) (zaU 2 (zaL ixW (zae 7) (dC (.int 0)))) zaP)))
def zdZ(fu:Nat):DS :=
 (zaq (zaU 4 (zaH 2 (d_i fu) (zac (zae 3) (zac (dC (.int 3)) zan))))
 (zce (zf6 (zac (dOp zb3 (dC (.int 1)) (dOp zbP (zaL ixW (zae 4) (dC (.int 2))) (dC (.int 3)))) zan)) (gN 5) (zdY fu)))
def d_o(fu:Nat):List W->M W:=dFn finC 8
 (zaq (zaU 2 (dBi zbn (zac (dLC zbf [] (dIT (zae 0)) zdH (dC (.int 0))) zan)))
 (zaq (zce (dIL (zae 1)) (gN 3) (zdZ fu))
 (za7 (zae 2))))
def d_l(fu:Nat):List W->M W:=dFn finC 1
 (zaq (dIf (dB (zaL (eqW false) (dSl zbf (zdh "Game" "done" (zae 0)) (zby (dUn zo8 (dC (.int 2)))) zbA) (zhZ (zac (dC .non) (zac (dC .non) zan))))) (za7 (dC (.str "passed"))) zaP)
 (zaq (dIf (dB (dOp fGe (dBi zbQ (zac (zdh "Game" "done" (zae 0)) zan)) (dC (.int 300)))) (za7 (dC (.str "long"))) zaP)
 (za7 (dC .non))))
def d_y(fu:Nat):List W->M W:=dFn finC 1
 (za7 (za3 "Game" "hand_at" 2 (d_e fu) (zae 0) (zac (dBi zbQ (zac (zdh "Game" "done" (zae 0)) zan)) zan)))
def d_a(fu:Nat):List W->M W:=dFn finC 2
 (za7 (dOr (zaL (eqW false) (zdh "Game" "barring" (zae 0)) (dC (.str "stones"))) (zaL (eqW false) (za3 "Game" "hand_at" 2 (d_e fu) (zae 0) (zac (zae 1) zan)) (zaH 1 (d_r fu) (zac (za3 "Game" "hand" 1 (d_y fu) (zae 0) zan) zan)))))
def zcU(fu:Nat):DS :=
 (dIf (zeH (dB (zaL (eqW false) (zaL ixW (zdh "Game" "past" (zae 0)) (zae 2)) (zae 1))) (dB (za3 "Game" "is_barring" 2 (d_a fu) (zae 0) (zac (zae 2) zan)))) (za7 (zae 2)) zaP)
def d_g(fu:Nat):List W->M W:=dFn finC 3
 (zaq (zce (zf6 (zac (dBi zbQ (zac (zdh "Game" "past" (zae 0)) zan)) zan)) (gN 2) (zcU fu))
 (za7 (dC .non)))
def d_u(fu:Nat):List W->M W:=dFn finC 6
 (zaq (dIf (dB (dUn zde (za3 "Game" "ended" 1 (d_l fu) (zae 0) zan))) (zbo "Over" []) zaP)
 (zaq (zaU 2 (za3 "Game" "stand" 1 (d_j fu) (zae 0) zan))
 (zaq (zaU 3 (dC (.int 0)))
 (zaq (dIf (dB (dUn zde (zae 1))) (zaq (zaU 4 (zaH 4 (d_na fu) (zac (zdh "Game" "joined" (zae 0)) (zac (zae 2) (zac (za3 "Game" "hand" 1 (d_y fu) (zae 0) zan) (zac (zae 1) zan))))))
 (zaq (zaU 2 (zaL ixW (zae 4) (dC (.int 0))))
 (zaq (zaU 3 (dBi zbQ (zac (zaL ixW (zae 4) (dC (.int 1))) zan)))
 (zaq (zaU 5 (za3 "Game" "came_at" 2 (d_g fu) (zae 0) (zac (zae 2) zan)))
 (dIf (dB (dUn zde (zae 5))) (zbo "Again" [5]) zaP))))) zaP)
 (zaq (dEx (dMt zex (zdh "Game" "past" (zae 0)) (zac (zae 2) zan)))
 (zaq (dEx (dMt zex (zdh "Game" "done" (zae 0)) (zac (zae 1) zan)))
 (dEx (dMt zex (zdh "Game" "takings" (zae 0)) (zac (zae 3) zan)))))))))
def zeC(fu:Nat):DS :=
 (zaq (zaU 4 (dOp zbP (dOp zb3 (zae 2) (zae 3)) (zae 1)))
 (zaq (zaU 5 (dC .non))
 (zaq (zm9 (za3 "Game" "deed" 2 (d_u fu) (zfT (zae 0)) (zfT (zac (zae 4) zan))) none (zft XTB "StoneError") (dAs 6 (zaU 5 (zae 6))))
 (dIf (dB (dUn zre (zae 5))) (za7 (dC (.bl true))) zaP))))
def d_w(fu:Nat):List W->M W:=dFn finC 7
 (zaq (zce (zf6 (zac (zae 1) zan)) (gN 3) (zeC fu))
 (za7 (dC (.bl false))))
def zb9(fu:Nat):DS :=
 (dIf (dB (dOp fGt (zaL ixW (zae 1) (zae 5)) (dC (.int 0)))) (zjI (zae 3) (zaL ixW (zae 1) (zae 5)) (dC (.bl true))) zaP)
def zbq(fu:Nat):DS :=
 (zce (dIT (zaL ixW (zae 0) (zae 4))) (gN 5) (zb9 fu))
def zca(fu:Nat):DS :=
 (dIf (dB (dOp zfh (zaL ixW (zae 1) (zae 2)) (dC (.int 0)))) (zaq (zaU 3 zfP)
 (zaq (zce (dIL (zaH 3 (zdg (d_z fu)) (zac (zae 0) (zac (zae 1) (zac (zae 2) zan))))) (gN 4) (zbq fu))
 (dIf (dB (dOp zk0 (dBi zbQ (zac (zae 3) zan)) (dC (.int 1)))) (za7 (dC (.bl true))) zaP))) zaP)
def d_b(fu:Nat):List W->M W:=dFn finC 6
 (zaq (zce (zf6 (zac (dBi zbQ (zac (zae 1) zan)) zan)) (gN 2) (zca fu))
 (za7 (dC (.bl false))))
def d_p(fu:Nat):List W->M W:=dFn finC 1
 (za7 (zfb (zac (zaL ixW (zdh "Game" "past" (zae 0)) (dC (.int 0))) (zac (zdh "Game" "first" (zae 0)) zan))))
def d_m(fu:Nat):List W->M W:=dFn finC 1
 (za7 (dBi (zeJ zbf) (zac (zdh "Game" "done" (zae 0)) zan)))
def zd0(fu:Nat):DS :=
 (dIf (dB (dUn zde (zae 7))) (zaq (zaU 9 (zaL ixW (zhZ (zac (zae 2) (zac (dOp zhe (dC (.int 3)) (zae 2)) zan))) (dOp zbP (zae 8) (dC (.int 2)))))
 (zjH (dOp zb3 (zaL ixW (zae 6) (zae 9)) (dC (.int 1))) (zfc (zae 6) (zae 9)))) zaP)
def zd1(fu:Nat):DS :=
 (zjH (dOp zb3 (zaL ixW (zae 6) (zae 7)) (dC (.int 1))) (zfc (zae 6) (zae 7)))
def d_t(fu:Nat):List W->M W:=dFn finC 10
 (zaq (zaU 3 (za3 "Game" "stand" 1 (d_j fu) (zae 0) zan))
 (zaq (zaU 4 (zaH 2 (d_v fu) (zac (zae 1) (zac (zae 3) zan))))
 (zaq (zaU 5 (zaH 1 (d_ha fu) (zac (zae 0) zan)))
 (zaq (zaU 6 (zbW (zac (dC (.int 0)) (zac (dC (.int 0)) (zac (dC (.int 0)) zan)))))
 (zaq (zce (dIT (zaL ixW (za3 "Game" "begin" 1 (d_p fu) (zae 0) zan) (dC (.int 0)))) (gN 7) (zd1 fu))
 (zaq (znn (zac (za3 "Game" "deeds" 1 (d_m fu) (zae 0) zan) zan) (gT 2 (zdk (gN 8) (zdk (gN 7) zkW))) (zd0 fu))
 (zaq (dIf (dB (dOp zk0 (dOp zhe (dOp zhe (zaL ixW (zae 4) (dC (.int 0))) (zaL ixW (zae 4) (dC (.int 1)))) (dOp zhe (zaL ixW (zae 5) (dC (.int 0))) (zaL ixW (zae 5) (dC (.int 1))))) (dOp zhe (zaL ixW (zae 6) (dC (.int 1))) (zaL ixW (zae 6) (dC (.int 2)))))) (za7 (dC (.bl false))) zaP)
 (zaq (dIf (zl4 (dB (zaL (eqW false) (dOp zfh (dBi zhN (zac (zae 4) zan)) (dBi zbQ (zac (zae 1) zan))) (zaH 2 (d_b fu) (zac (zae 1) (zac (zae 3) zan))))) (dB (dOp fGt (dBi zhN (zac (zae 4) zan)) (dBi zbQ (zac (zae 1) zan))))) (za7 (dC (.bl false))) zaP)
 (za7 (zpd (dOp fGe (zaL ixW (zae 5) (dC (.int 0))) (za3 "Game" "lost" 2 (d_x fu) (zae 0) (zac (dC (.int 2)) zan))) (dOp fGe (zaL ixW (zae 5) (dC (.int 1))) (za3 "Game" "lost" 2 (d_x fu) (zae 0) (zac (dC (.int 1)) zan)))))))))))))
def d_d(fu:Nat):List W->M W:=dFn zrp 5
 (zaq (dIf (zdf (dB (zaH 2 (d_da fu) (zac (zae 1) (zac (zae 3) zan))))) (zbo "NoStand" []) zaP)
 (zaq (dIf (zdf (dB (zaH 2 (d_ca fu) (zac (zae 1) (zac (zae 3) zan))))) (zbo "NoStand" []) zaP)
 (zaq (zfu "Game" "joined" (zae 0) (zae 1))
 (zaq (zfu "Game" "barring" (zae 0) (zae 2))
 (zaq (zfu "Game" "first" (zae 0) (zae 4))
 (zaq (zfu "Game" "past" (zae 0) (zbW (zac (zae 3) zan)))
 (zaq (zfu "Game" "done" (zae 0) (zbW zan))
 (zfu "Game" "takings" (zae 0) (zbW zan)))))))))
def zot(fu:Nat):DS :=
 (dIf (dB (dUn zre (za3 "Game" "ended" 1 (d_l fu) (zae 7) zan))) (zaq (dIf (zl4 (dB (dOp zfh (dOp zbP (zae 8) (dC (.int 8))) (dC (.int 0)))) (zdf (dB (zaH 3 (d_w fu) (zac (zae 7) (zac (zae 2) (zac (dOp zo7 (zae 8) (dC (.int 8))) zan))))))) (dEx (za3 "Game" "deed" 2 (d_u fu) (zae 7) (zac (dC .non) zan))) zaP)
 (dIf (zdf (dB (zaH 3 (d_t fu) (zac (zae 7) (zac (zae 4) (zac (zae 6) zan)))))) (za7 (dC (.bl false))) zaP)) zaP)
def d_law(fu:Nat):List W->M W:=dFn finC 9
 (zaq (zaU 1 (zaH 2 (d_i fu) (zac (zaL ixW (zmI zbf (zae 0) (zhZ (zac (dC (.int 0)) zan))) (dC (.int 0))) (zac (dC (.int 70)) zan))))
 (zaq (zjH (zaH 1 (zqo (d_n fu)) (zac (zae 1) zan)) (gT 2 (zdk (gN 2) (zdk (gN 3) zkW))))
 (zaq (zaU 4 (zaH 2 (d_h fu) (zac (zae 2) (zac (zae 3) zan))))
 (zaq (zaU 5 (zaH 2 (d_o fu) (zac (zae 4) (zac (dSl zbf (zae 1) (zby (dC (.int 8))) (zby (dOp zb3 (dC (.int 8)) (dOp zbP (zaL ixW (zae 1) (dC (.int 6))) (dC (.int 12)))))) zan))))
 (zaq (zaU 6 (dOp zb3 (dC (.int 1)) (dOp zbP (zaL ixW (zae 1) (dC (.int 5))) (dC (.int 2)))))
 (zaq (zaU 7 (zne "Game" 5 (d_d fu) (zac (zae 4) (zac (zaL ixW (zhZ (zac (dC (.str "stones")) (zac (dC (.str "turns")) zan))) (dOp zbP (zaL ixW (zae 1) (dC (.int 3))) (dC (.int 2)))) (zac (zae 5) (zac (zae 6) zan))))))
 (zaq (zce (dIL (dSl zbf (zmI zbf (dSl zbf (zae 0) (zby (dC (.int 1))) (zby (dC (.int 61)))) (dSl zbf (zae 1) (zby (dC (.int 8))) zbA)) zbA (zby (dOp zbP (zaL ixW (zae 1) (dC (.int 4))) (dC (.int 61)))))) (gN 8) (zot fu))
 (za7 (zaH 3 (d_t fu) (zac (zae 7) (zac (zae 4) (zac (zae 6) zan))))))))))))
def top(i:Nat):Stmt:=PySem.Challenge.pw_stonebreath_k25_whole_the_difference.main.body.getD i (.Pass ⟨0,0,0,0⟩)
def zem(s:Stmt)(j:Nat):Stmt:=match s with
 | .ClassDef _ _ _ b _ _ _ _ _ _ _=>b.getD j (.Pass ⟨0,0,0,0⟩)
 | _=>.Pass ⟨0,0,0,0⟩
abbrev zen:Stmt:=top 2
abbrev zcV:Stmt:=top 3
abbrev zeo:Stmt:=top 4
abbrev zfA:Stmt:=top 5
abbrev zdb:Stmt:=top 7
abbrev ziq:Stmt:=top 8
abbrev zi8:Stmt:=top 9
abbrev zgP:Stmt:=top 10
abbrev zd2:Stmt:=top 11
abbrev zfB:Stmt:=top 12
abbrev zbL:Stmt:=top 13
abbrev zdc:Stmt:=top 14
abbrev zcq:Stmt:=top 16
abbrev zd3:Stmt:=top 17
abbrev zd4:Stmt:=top 18
abbrev zlv:Stmt:=top 27
abbrev zgQ:Stmt:=top 28
abbrev zcW:Stmt:=top 29
abbrev zcr:Stmt:=top 34
abbrev zbl:Stmt:=top 35
abbrev za4:Stmt:=top 36
abbrev zep:Stmt:=top 37
abbrev zbZ:Stmt:=top 38
abbrev zcX:Stmt:=top 39
abbrev zbV:Stmt:=top 40
abbrev zdx:Stmt:=top 41
abbrev zbB:Stmt:=top 42
abbrev zcY:Stmt:=top 43
abbrev zjQ:Stmt:=top 44
abbrev zbM:Stmt:=zem (top 32) 0
abbrev zdy:Stmt:=zem (top 32) 1
abbrev zb0:Stmt:=zem (top 32) 2
abbrev zbr:Stmt:=zem (top 32) 3
abbrev zcZ:Stmt:=zem (top 32) 5
abbrev zdz:Stmt:=zem (top 32) 6
abbrev zb1:Stmt:=zem (top 32) 7
abbrev zc0:Stmt:=zem (top 32) 9
abbrev zcs:Stmt:=zem (top 32) 11
abbrev zc1:Stmt:=zem (top 32) 12
abbrev zc2:Stmt:=zem (top 32) 13
abbrev zc3:Stmt:=zem (top 32) 15
theorem zir:FnScope ["thing"] ["thing"] (zal zen):=sc_
theorem zgR:FnScope ["hand"] ["hand"] (zal zcV):=sc_
theorem sc_aa:FnScope ["board", "marks", "start", "found", "waiting", "point", "beside"] ["board", "marks", "start"] (zal zeo):=sc_
theorem sc_ea:FnScope ["board", "marks", "met", "found", "start", "points", "point"] ["board", "marks"] (zal zfA):=sc_
theorem zis:FnScope ["board", "thing"] ["board", "thing"] (zal zdb):=sc_
theorem zno:FnScope ["board", "stand", "point"] ["board", "stand", "point"] (zal ziq):=sc_
theorem zpT:FnScope ["board", "stand"] ["board", "stand"] (zal zi8):=sc_
theorem znp:FnScope ["board", "stand"] ["board", "stand"] (zal zgP):=sc_
theorem sc_c:FnScope ["board", "points", "found", "point", "beside"] ["board", "points"] (zal zbL):=sc_
theorem zjR:FnScope ["board", "stand", "row"] ["board", "stand", "row"] (zal zd2):=sc_
theorem sc_ja:FnScope ["board", "stand", "land", "held"] ["board", "stand", "land"] (zal zfB):=sc_
theorem zit:FnScope ["board", "stand"] ["board", "stand"] (zal zdc):=sc_
theorem zjS:FnScope ["board", "stand", "hand"] ["board", "stand", "hand"] (zal zd4):=sc_
theorem sc_v:FnScope ["board", "stand", "held"] ["board", "stand"] (zal zcq):=sc_
theorem zfC:FnScope ["self", "moment"] ["self", "moment"] (zal zb1):=sc_
theorem zhP:FnScope ["self", "hand"] ["self", "hand"] (zal zcs):=sc_
theorem zgS:FnScope ["self"] ["self"] (zal zc2):=sc_
theorem zgT:FnScope ["self"] ["self"] (zal zcZ):=sc_
theorem sc_ha:FnScope ["game", "held"] ["game"] (zal zd3):=sc_
theorem sc_ia:FnScope ["stand", "points", "what", "changed", "point"] ["stand", "points", "what"] (zal zgQ):=sc_
theorem sc_k:FnScope ["board", "stand", "hand", "found", "row"] ["board", "stand", "hand"] (zal zcW):=sc_
theorem sc_na:FnScope ["board", "stand", "hand", "point", "full", "taken", "behind"] ["board", "stand", "hand", "point"] (zal zlv):=sc_
theorem sc_i:FnScope ["_law_cell", "_law_many", "_law_found", "_law_number", "_law_k"] ["_law_cell", "_law_many"] (zal zcr):=sc_
theorem sc_h:FnScope ["_law_many", "_law_lines_here", "_law_joined_here", "_law_one", "_law_other"] ["_law_many", "_law_lines_here"] (zal zbl):=sc_
theorem sc_n:FnScope ["_law_xs", "_law_wide", "_law_many", "_law_lines_here", "_law_beside", "_law_ys", "_law_one", "_law_other"] ["_law_xs"] (zal za4):=sc_
theorem sc_z:FnScope ["_law_board", "_law_stand", "_law_point", "_law_found", "_law_at", "_law_other"] ["_law_board", "_law_stand", "_law_point"] (zal zep):=sc_
theorem sc_f:FnScope ["_law_board", "_law_stand", "_law_row_here", "_law_found", "_law_point", "_law_other"] ["_law_board", "_law_stand", "_law_row_here"] (zal zbZ):=sc_
theorem sc_s:FnScope ["_law_board", "_law_stand", "_law_hand", "_law_point", "_law_taken", "_law_breath", "_law_other", "_law_row_here", "_law_left", "_law_one", "_law_there"] ["_law_board", "_law_stand", "_law_hand", "_law_point"] (zal zcX):=sc_
theorem sc_o:FnScope ["_law_board", "_law_cells", "_law_stand", "_law_cell", "_law_xs", "_law_k", "_law_point", "_law_found"] ["_law_board", "_law_cells"] (zal zbV):=sc_
theorem zgU:FnScope ["self"] ["self"] (zal zc1):=sc_
theorem zhQ:FnScope ["self"] ["self"] (zal zdz):=sc_
theorem zd5:FnScope ["self", "moment"] ["self", "moment"] (zal zbr):=sc_
theorem sc_g:FnScope ["self", "behind", "moment"] ["self", "behind"] (zal zb0):=sc_
theorem sc_u:FnScope ["self", "what", "behind", "many", "told", "number"] ["self", "what"] (zal zdy):=sc_
theorem sc_w:FnScope ["_law_game", "_law_many", "_law_start", "_law_k", "_law_point", "_law_caught", "error"] ["_law_game", "_law_many", "_law_start"] (zal zdx):=sc_
theorem sc_b:FnScope ["_law_board", "_law_stand", "_law_point", "_law_hands", "_law_one", "_law_other"] ["_law_board", "_law_stand"] (zal zbB):=sc_
theorem zgV:FnScope ["self"] ["self"] (zal zc3):=sc_
theorem zgW:FnScope ["self"] ["self"] (zal zc0):=sc_
theorem sc_t:FnScope ["_law_game", "_law_board", "_law_hand", "_law_stand", "_law_first", "_law_second", "_law_lays", "_law_what", "_law_k", "_law_one"] ["_law_game", "_law_board", "_law_hand"] (zal zcY):=sc_
theorem zeK:FnScope ["self", "board", "rule", "stand", "hand"] ["self", "board", "rule", "stand", "hand"] (zal zbM):=sc_
theorem sc_law:FnScope ["_law_script", "_law_xs", "_law_many", "_law_lines_here", "_law_board", "_law_stand", "_law_hand", "_law_game", "_law_cell"] ["_law_script"] (zal zjQ):=sc_
abbrev zbC:Stmt:=zem (top 24) 0
theorem zeq:FnScope ["self", "number"] ["self", "number"] (zal zbC):=sc_
set_option genInjectivity false in
set_option genInjectivity false in
set_option genSizeOfSpec false in
set_option genInjectivity false in
structure Adr where
 f_ba:Addr
 d_ba:FuncData
 f_r:Addr
 d_r:FuncData
 f_aa:Addr
 d_aa:FuncData
 f_ea:Addr
 d_ea:FuncData
 f_da:Addr
 d_da:FuncData
 f_la:Addr
 d_la:FuncData
 f_ma:Addr
 d_ma:FuncData
 f_ka:Addr
 d_ka:FuncData
 f_fa:Addr
 d_fa:FuncData
 f_ja:Addr
 d_ja:FuncData
 f_c:Addr
 d_c:FuncData
 f_ca:Addr
 d_ca:FuncData
 f_v:Addr
 d_v:FuncData
 f_ha:Addr
 d_ha:FuncData
 f_ga:Addr
 d_ga:FuncData
 f_na:Addr
 d_na:FuncData
 f_ia:Addr
 d_ia:FuncData
 f_k:Addr
 d_k:FuncData
 f_i:Addr
 d_i:FuncData
 f_h:Addr
 d_h:FuncData
 f_n:Addr
 d_n:FuncData
 f_z:Addr
 d_z:FuncData
 f_f:Addr
 d_f:FuncData
 f_s:Addr
 d_s:FuncData
 f_o:Addr
 d_o:FuncData
 f_w:Addr
 d_w:FuncData
 f_b:Addr
 d_b:FuncData
 f_t:Addr
 d_t:FuncData
 f_law:Addr
 d_law:FuncData
 f_d:Addr
 d_d:FuncData
 f_u:Addr
 d_u:FuncData
 f_g:Addr
 d_g:FuncData
 f_a:Addr
 d_a:FuncData
 f_j:Addr
 d_j:FuncData
 f_y:Addr
 d_y:FuncData
 f_e:Addr
 d_e:FuncData
 f_m:Addr
 d_m:FuncData
 f_x:Addr
 d_x:FuncData
 f_l:Addr
 d_l:FuncData
 f_q:Addr
 d_q:FuncData
 f_p:Addr
 d_p:FuncData
 f_Again___init__:Addr
 d_Again___init__:FuncData
structure Txt (K:PySem.W.Frag) (mg:Str->Option Value) (A:Adr):Prop where
 g_ba:mg "is_whole" = some (.ref A.f_ba)
 F_ba:Fun K "is_whole" "is_whole" zen A.f_ba A.d_ba
 b_ba:Binds K A.d_ba ["thing"] []
 g_r:mg "other_hand" = some (.ref A.f_r)
 F_r:Fun K "other_hand" "other_hand" zcV A.f_r A.d_r
 b_r:Binds K A.d_r ["hand"] []
 g_aa:mg "patch_of" = some (.ref A.f_aa)
 F_aa:Fun K "patch_of" "patch_of" zeo A.f_aa A.d_aa
 b_aa:Binds K A.d_aa ["board", "marks", "start"] []
 g_ea:mg "patches" = some (.ref A.f_ea)
 F_ea:Fun K "patches" "patches" zfA A.f_ea A.d_ea
 b_ea:Binds K A.d_ea ["board", "marks"] []
 g_da:mg "is_stand" = some (.ref A.f_da)
 F_da:Fun K "is_stand" "is_stand" zdb A.f_da A.d_da
 b_da:Binds K A.d_da ["board", "thing"] []
 g_la:mg "patch" = some (.ref A.f_la)
 F_la:Fun K "patch" "patch" ziq A.f_la A.d_la
 b_la:Binds K A.d_la ["board", "stand", "point"] []
 g_ma:mg "rows" = some (.ref A.f_ma)
 F_ma:Fun K "rows" "rows" zi8 A.f_ma A.d_ma
 b_ma:Binds K A.d_ma ["board", "stand"] []
 g_ka:mg "lands" = some (.ref A.f_ka)
 F_ka:Fun K "lands" "lands" zgP A.f_ka A.d_ka
 b_ka:Binds K A.d_ka ["board", "stand"] []
 g_fa:mg "breaths" = some (.ref A.f_fa)
 F_fa:Fun K "breaths" "breaths" zd2 A.f_fa A.d_fa
 b_fa:Binds K A.d_fa ["board", "stand", "row"] []
 g_ja:mg "sides" = some (.ref A.f_ja)
 F_ja:Fun K "sides" "sides" zfB A.f_ja A.d_ja
 b_ja:Binds K A.d_ja ["board", "stand", "land"] []
 g_c:mg "points_beside" = some (.ref A.f_c)
 F_c:Fun K "points_beside" "points_beside" zbL A.f_c A.d_c
 b_c:Binds K A.d_c ["board", "points"] []
 g_ca:mg "is_sound" = some (.ref A.f_ca)
 F_ca:Fun K "is_sound" "is_sound" zdc A.f_ca A.d_ca
 b_ca:Binds K A.d_ca ["board", "stand"] []
 g_v:mg "by_stones" = some (.ref A.f_v)
 F_v:Fun K "by_stones" "by_stones" zcq A.f_v A.d_v
 b_v:Binds K A.d_v ["board", "stand"] []
 g_ha:mg "by_land" = some (.ref A.f_ha)
 F_ha:Fun K "by_land" "by_land" zd3 A.f_ha A.d_ha
 b_ha:Binds K A.d_ha ["game"] []
 g_ga:mg "land_of" = some (.ref A.f_ga)
 F_ga:Fun K "land_of" "land_of" zd4 A.f_ga A.d_ga
 b_ga:Binds K A.d_ga ["board", "stand", "hand"] []
 g_na:mg "laid" = some (.ref A.f_na)
 F_na:Fun K "laid" "laid" zlv A.f_na A.d_na
 b_na:Binds K A.d_na ["board", "stand", "hand", "point"] []
 g_ia:mg "filled" = some (.ref A.f_ia)
 F_ia:Fun K "filled" "filled" zgQ A.f_ia A.d_ia
 b_ia:Binds K A.d_ia ["stand", "points", "what"] []
 g_k:mg "breathless" = some (.ref A.f_k)
 F_k:Fun K "breathless" "breathless" zcW A.f_k A.d_k
 b_k:Binds K A.d_k ["board", "stand", "hand"] []
 g_i:mg "_law_stream" = some (.ref A.f_i)
 F_i:Fun K "_law_stream" "_law_stream" zcr A.f_i A.d_i
 b_i:Binds K A.d_i ["_law_cell", "_law_many"] []
 g_h:mg "_law_joined" = some (.ref A.f_h)
 F_h:Fun K "_law_joined" "_law_joined" zbl A.f_h A.d_h
 b_h:Binds K A.d_h ["_law_many", "_law_lines_here"] []
 g_n:mg "_law_lines" = some (.ref A.f_n)
 F_n:Fun K "_law_lines" "_law_lines" za4 A.f_n A.d_n
 b_n:Binds K A.d_n ["_law_xs"] []
 g_z:mg "_law_row" = some (.ref A.f_z)
 F_z:Fun K "_law_row" "_law_row" zep A.f_z A.d_z
 b_z:Binds K A.d_z ["_law_board", "_law_stand", "_law_point"] []
 g_f:mg "_law_breaths" = some (.ref A.f_f)
 F_f:Fun K "_law_breaths" "_law_breaths" zbZ A.f_f A.d_f
 b_f:Binds K A.d_f ["_law_board", "_law_stand", "_law_row_here"] []
 g_s:mg "_law_tried" = some (.ref A.f_s)
 F_s:Fun K "_law_tried" "_law_tried" zcX A.f_s A.d_s
 b_s:Binds K A.d_s ["_law_board", "_law_stand", "_law_hand", "_law_point"] []
 g_o:mg "_law_sound" = some (.ref A.f_o)
 F_o:Fun K "_law_sound" "_law_sound" zbV A.f_o A.d_o
 b_o:Binds K A.d_o ["_law_board", "_law_cells"] []
 g_w:mg "_law_laid" = some (.ref A.f_w)
 F_w:Fun K "_law_laid" "_law_laid" zdx A.f_w A.d_w
 b_w:Binds K A.d_w ["_law_game", "_law_many", "_law_start"] []
 g_b:mg "_law_open_land" = some (.ref A.f_b)
 F_b:Fun K "_law_open_land" "_law_open_land" zbB A.f_b A.d_b
 b_b:Binds K A.d_b ["_law_board", "_law_stand"] []
 g_t:mg "_law_right" = some (.ref A.f_t)
 F_t:Fun K "_law_right" "_law_right" zcY A.f_t A.d_t
 b_t:Binds K A.d_t ["_law_game", "_law_board", "_law_hand"] []
 g_law:mg "law" = some (.ref A.f_law)
 F_law:Fun K "law" "law" zjQ A.f_law A.d_law
 b_law:Binds K A.d_law ["_law_script"] []
 mt_d:L2.Meth K (clOf K "Game") "__init__" A.f_d
 F_d:Fun K "__init__" "Game.__init__" zbM A.f_d A.d_d
 b_d:Binds K A.d_d ["self", "board", "rule", "stand", "hand"] []
 mt_u:L2.Meth K (clOf K "Game") "deed" A.f_u
 F_u:Fun K "deed" "Game.deed" zdy A.f_u A.d_u
 b_u:Binds K A.d_u ["self", "what"] []
 mt_g:L2.Meth K (clOf K "Game") "came_at" A.f_g
 F_g:Fun K "came_at" "Game.came_at" zb0 A.f_g A.d_g
 b_g:Binds K A.d_g ["self", "behind"] []
 mt_a:L2.Meth K (clOf K "Game") "is_barring" A.f_a
 F_a:Fun K "is_barring" "Game.is_barring" zbr A.f_a A.d_a
 b_a:Binds K A.d_a ["self", "moment"] []
 mt_j:L2.Meth K (clOf K "Game") "stand" A.f_j
 F_j:Fun K "stand" "Game.stand" zcZ A.f_j A.d_j
 b_j:Binds K A.d_j ["self"] []
 mt_y:L2.Meth K (clOf K "Game") "hand" A.f_y
 F_y:Fun K "hand" "Game.hand" zdz A.f_y A.d_y
 b_y:Binds K A.d_y ["self"] []
 mt_e:L2.Meth K (clOf K "Game") "hand_at" A.f_e
 F_e:Fun K "hand_at" "Game.hand_at" zb1 A.f_e A.d_e
 b_e:Binds K A.d_e ["self", "moment"] []
 mt_m:L2.Meth K (clOf K "Game") "deeds" A.f_m
 F_m:Fun K "deeds" "Game.deeds" zc0 A.f_m A.d_m
 b_m:Binds K A.d_m ["self"] []
 mt_x:L2.Meth K (clOf K "Game") "lost" A.f_x
 F_x:Fun K "lost" "Game.lost" zcs A.f_x A.d_x
 b_x:Binds K A.d_x ["self", "hand"] []
 mt_l:L2.Meth K (clOf K "Game") "ended" A.f_l
 F_l:Fun K "ended" "Game.ended" zc1 A.f_l A.d_l
 b_l:Binds K A.d_l ["self"] []
 mt_q:L2.Meth K (clOf K "Game") "board" A.f_q
 F_q:Fun K "board" "Game.board" zc2 A.f_q A.d_q
 b_q:Binds K A.d_q ["self"] []
 mt_p:L2.Meth K (clOf K "Game") "begin" A.f_p
 F_p:Fun K "begin" "Game.begin" zc3 A.f_p A.d_p
 b_p:Binds K A.d_p ["self"] []
 xn_Again:XN K (clOf K "Again") (clOf K "StoneError") A.f_Again___init__ "number"
 F_Again___init__:Fun K "__init__" "Again.__init__" zbC A.f_Again___init__ A.d_Again___init__
 b_Again___init__:Binds K A.d_Again___init__ ["self", "number"] []
 cls_Game:L2.Cls K (clOf K "Game")
 mk_Game:L2.Mk K (clOf K "Game") A.f_d
 gc_Game:mg "Game" = some (.ref (clOf K "Game"))
 na_Game_barring:L2.NoAttr K (clOf K "Game") "barring"
 na_Game_done:L2.NoAttr K (clOf K "Game") "done"
 na_Game_first:L2.NoAttr K (clOf K "Game") "first"
 na_Game_joined:L2.NoAttr K (clOf K "Game") "joined"
 na_Game_past:L2.NoAttr K (clOf K "Game") "past"
 na_Game_takings:L2.NoAttr K (clOf K "Game") "takings"
 c_MOST_DEEDS:∃t,mg "MOST_DEEDS" = some (.int 300 t)
 n_all:mg "all" = none
 n_bool:mg "bool" = none
 n_enumerate:mg "enumerate" = none
 n_int:mg "int" = none
 n_isinstance:mg "isinstance" = none
 n_len:mg "len" = none
 n_list:mg "list" = none
 n_range:mg "range" = none
 n_sorted:mg "sorted" = none
 n_sum:mg "sum" = none
 n_tuple:mg "tuple" = none
 xt:XT K mg XTB
 nl:noL K=true
section
seal L2.PSs L2.PS L2.PE L2.PT L2.PW L2.PA L2.PI L2.PG L2.PGs L2.PO L2.PIfs
variable {P:Program} {w:World} {K:PySem.W.Frag} {mg:Str->Option Value} {base:Heap} {A:Adr}
abbrev Gx(K:PySem.W.Frag):Ga:=Gy K
abbrev spD(K:PySem.W.Frag)(n:Nat)(d:List W->M W):Sp:=spV (Gx K) (fun E=>E) n d
theorem zer(T:Txt K mg A):FnOk P w K mg base (CXx P w) 1 A.f_Again___init__ A.d_Again___init__ ["self", "number"] (spI (clOf K "Again")):=by
 refine T.F_Again___init__.okX (k:=0) zeq (fun vs H Q E h=>by obtain⟨a,n,rfl,_⟩:=h;rfl) (fun cdv Ar outer s H vs Q E hr h=>?_)
 obtain⟨a,n,rfl,hn,ha,q⟩:=h
 refine⟨_,zpP (x := "StoneError") (SA:=clOf K "StoneError") (C:=clOf K "Again") rfl (T.xt.at rfl) T.xn_Again.hga T.xn_Again.hr T.xn_Again.hf T.xn_Again.xi.exc T.xn_Again.hsa T.xn_Again.hd T.xn_Again.ht (zin (zbU zhK (zbU (zll 1) zim))),?_⟩
 exact⟨a,n,rfl,rfl,ha,⟨trivial,⟨n,rfl,hn⟩,trivial⟩,q⟩
set_option maxHeartbeats 0 in
theorem ziu(fu:Nat)(T:Txt K mg A):FnOk P w K mg base (CXx P w) 1 A.f_ba A.d_ba ["thing"] (spD K 1 (d_ba fu)):=by
 refine T.F_ba.okX (k:=0) zir (fun vs H Q E h=>h.1) (fun cdv Ar outer s H vs Q E hr h=>?_)
 obtain⟨_,F,as,ws,ce,S,rs,Pf⟩:=h
 refine⟨toTS (Gx K) E _,(zah (zaA (zkO (zas (zsu K) (zmN K) rfl T.n_isinstance PyProof.Rows.boot_isinstance (zab (zaa 0) (zab (zmP rfl T.n_int PyProof.Rows.boot_int) zaf))) (ziU (zrk (zas (zsu K) (zmN K) rfl T.n_isinstance PyProof.Rows.boot_isinstance (zab (zaa 0) (zab (zmP rfl T.n_bool PyProof.Rows.boot_bool) zaf)))))))),?_⟩
 exact zav (G:=Gx K) (E:=E) zbe ["thing"] S rs Pf
set_option maxHeartbeats 0 in
theorem zbF(fu:Nat)(T:Txt K mg A):FnOk P w K mg base (CXx P w) 1 A.f_r A.d_r ["hand"] (spD K 1 (d_r fu)):=by
 refine T.F_r.okX (k:=0) zgR (fun vs H Q E h=>h.1) (fun cdv Ar outer s H vs Q E hr h=>?_)
 obtain⟨_,F,as,ws,ce,S,rs,Pf⟩:=h
 refine⟨toTS (Gx K) E _,(zah (zaA (zdj zai (zaa 0)))),?_⟩
 exact zav (G:=Gx K) (E:=E) zbe ["hand"] S rs Pf
set_option maxHeartbeats 0 in
theorem zfD(fu:Nat)(T:Txt K mg A):FnOk P w K mg base (CXx P w) 1 A.f_aa A.d_aa ["board", "marks", "start"] (spD K 3 (d_aa fu)):=by
 refine T.F_aa.okX (k:=0) sc_aa (fun vs H Q E h=>h.1) (fun cdv Ar outer s H vs Q E hr h=>?_)
 obtain⟨_,F,as,ws,ce,S,rs,Pf⟩:=h
 refine⟨toTS (Gx K) E _,(zad (zat (i:=3) sc_aa.nd rfl (Or.inl rfl) (zmQ (zaa 2) zcH))
   (zad (zat (i:=4) sc_aa.nd rfl (Or.inl rfl) (zbK (zab (zaa 2) zaf)))
   (zad (ziV fu PassesOwn.leaving (zkG (zaa 4)) (zad (zat (i:=5) sc_aa.nd rfl (Or.inl rfl) (zrw PySem.F.slot_list_pop PySem.F.type_list_pop zq6 ztw (zaa 4)))
   (zah (zaV PassesOwn.leaving rfl (zj4 (zaE (zaa 0) (zaa 5) (fun _ _=>rfl))) (zaI (i:=6) sc_aa.nd rfl (Or.inl rfl))
   (zah (za0 (PW.pt (ze9 (zht (hr.cmp 1) (zaa 6) (zaa 3) (by with_unfolding_all rfl)) (zef (zfO (hr.cmp 8) (zaE (zaa 1) (zaa 6) (fun _ _=>rfl)) (zaE (zaa 1) (zaa 2) (fun _ _=>rfl)))))) (zad (zew (hr.cmp 1) (zaa 3) (zaa 6) zcH)
   (zah (zbg (zej PySem.F.slot_list_append PySem.F.type_list_append za2 zfg (zaa 4) (zab (zaa 6) zaf))))) zaF))))))
   (zah (zaA (zas (zjK rfl rfl) (zjL K zl5) rfl T.n_sorted PyProof.Rows.boot_sorted (zab (zaa 3) zaf))))))),?_⟩
 exact zav (G:=Gx K) (E:=E) zgA ["board", "marks", "start", "found", "waiting", "point", "beside"] S rs Pf
set_option maxHeartbeats 0 in
theorem zge(fu:Nat)(T:Txt K mg A):FnOk P w K mg base (CXx P w) 2 A.f_ea A.d_ea ["board", "marks"] (spD K 2 (d_ea fu)):=by
 have G_aa:=zfD (P:=P) (w:=w) (base:=base) fu T
 refine T.F_ea.okX (k:=1) sc_ea (fun vs H Q E h=>h.1) (fun cdv Ar outer s H vs Q E hr h=>?_)
 obtain⟨_,F,as,ws,ce,S,rs,Pf⟩:=h
 refine⟨toTS (Gx K) E _,(zad (zat (i:=2) sc_ea.nd rfl (Or.inl rfl) zeg)
   (zad (zat (i:=3) sc_ea.nd rfl (Or.inl rfl) (zbK zaf))
   (zad (zaV PassesOwn.leaving rfl (zeh rfl T.n_range (zab (zas (zcE rfl) (zcF K) rfl T.n_len PySem.boot_len (zab (zaa 0) zaf)) zaf)) (zaI (i:=4) sc_ea.nd rfl (Or.inl rfl))
   (zah (za0 (zht (hr.cmp 1) (zaa 4) (zaa 2) (by with_unfolding_all rfl)) (zad (zat (i:=5) sc_ea.nd rfl (Or.inl rfl) (zar (zb7 G_aa) (hr.mono (by decide)) rfl T.g_aa T.F_aa.kp T.b_aa (flies_cxOf.passes rfl) (zab (zaa 0) (zab (zaa 1) (zab (zaa 4) zaf)))))
   (zad (zbg (zej PySem.F.slot_list_append PySem.F.type_list_append za2 zfg (zaa 3) (zab (zaa 5) zaf)))
   (zah (zaV PassesOwn.leaving rfl (zgy (zaa 5)) (zaI (i:=6) sc_ea.nd rfl (Or.inl rfl))
   (zah (zew (hr.cmp 1) (zaa 2) (zaa 6) zcH)))))) zaF)))
   (zah (zaA (zaa 3)))))),?_⟩
 exact zav (G:=Gx K) (E:=E) zgA ["board", "marks", "met", "found", "start", "points", "point"] S rs Pf
set_option maxHeartbeats 0 in
theorem ziv(fu:Nat)(T:Txt K mg A):FnOk P w K mg base (CXx P w) 2 A.f_da A.d_da ["board", "thing"] (spD K 2 (d_da fu)):=by
 have G_ba:=ziu (P:=P) (w:=w) (base:=base) fu T
 refine T.F_da.okX (k:=1) zis (fun vs H Q E h=>h.1) (fun cdv Ar outer s H vs Q E hr h=>?_)
 obtain⟨_,F,as,ws,ce,S,rs,Pf⟩:=h
 refine⟨toTS (Gx K) E _,(zad (za0 (PW.pt (zpe (zfa (ze6 (zas (zsu K) (zmN K) rfl T.n_isinstance PyProof.Rows.boot_isinstance (zab (zaa 1) (zab (zmP rfl T.n_tuple PyProof.Rows.boot_tuple) zaf))))) (zkP (zmE (hr.cmp 8) (zas (zcE rfl) (zcF K) rfl T.n_len PySem.boot_len (zab (zaa 1) zaf)) (zas (zcE rfl) (zcF K) rfl T.n_len PySem.boot_len (zab (zaa 0) zaf)))))) (zah (zaA zcH)) zaF)
   (zah (zaA (zas (zua K) (zrt K) rfl T.n_all PyProof.Rows.boot_all (zab (zeI zec (zbm (N:=["board", "thing"]) (psc:=zal zdb) (js:=[]) (N':=["what"]) (by decide +kernel)) rfl rfl (zj4 (zaa 1)) (fun _ _ _ _=>zbh) (fun _ _ _ _=>(zi6 (zkO (zar G_ba (hr.mono (by decide)) rfl T.g_ba T.F_ba.kp T.b_ba zbY (zab (zaa 0) zaf)) (ziU (zmG zqW zqW (ze8 (f:=fLe) (zgq fun _ _=>rfl)) (ze8 (f:=fLe) (zgq fun _ _=>rfl)) zai (zaa 0) zai)))))) zaf))))),?_⟩
 exact zav (G:=Gx K) (E:=E) zbe ["board", "thing"] S rs Pf
set_option maxHeartbeats 0 in
theorem znq(fu:Nat)(T:Txt K mg A):FnOk P w K mg base (CXx P w) 2 A.f_la A.d_la ["board", "stand", "point"] (spD K 3 (d_la fu)):=by
 have G_aa:=zfD (P:=P) (w:=w) (base:=base) fu T
 refine T.F_la.okX (k:=1) zno (fun vs H Q E h=>h.1) (fun cdv Ar outer s H vs Q E hr h=>?_)
 obtain⟨_,F,as,ws,ce,S,rs,Pf⟩:=h
 refine⟨toTS (Gx K) E _,(zah (zaA (zar G_aa (hr.mono (by decide)) rfl T.g_aa T.F_aa.kp T.b_aa (flies_cxOf.passes rfl) (zab (zaa 0) (zab (zaa 1) (zab (zaa 2) zaf)))))),?_⟩
 exact zav (G:=Gx K) (E:=E) zgA ["board", "stand", "point"] S rs Pf
set_option maxHeartbeats 0 in
theorem zlw(fu:Nat)(T:Txt K mg A):FnOk P w K mg base (CXx P w) 3 A.f_ma A.d_ma ["board", "stand"] (spD K 2 (d_ma fu)):=by
 have G_ea:=zge (P:=P) (w:=w) (base:=base) fu T
 refine T.F_ma.okX (k:=2) zpT (fun vs H Q E h=>h.1) (fun cdv Ar outer s H vs Q E hr h=>?_)
 obtain⟨_,F,as,ws,ce,S,rs,Pf⟩:=h
 refine⟨toTS (Gx K) E _,(zah (zaA (zeI zec (zbm (N:=["board", "stand"]) (psc:=zal zi8) (js:=[1]) (N':=["points", "stand"]) (by decide +kernel)) rfl rfl (zgy (zar (zb7 G_ea) (hr.mono (by decide)) rfl T.g_ea T.F_ea.kp T.b_ea (flies_cxOf.passes rfl) (zab (zaa 0) (zab (zaa 1) zaf)))) (fun _ _ _ _=>(zcf (zmE (hr.cmp 8) (zaE (zaa 1) (zaE (zaa 0) zai (fun _ _=>rfl)) (fun _ _=>rfl)) zai))) (fun _ _ _ _=>(zaa 0))))),?_⟩
 exact zav (G:=Gx K) (E:=E) zbe ["board", "stand"] S rs Pf
set_option maxHeartbeats 0 in
theorem znr(fu:Nat)(T:Txt K mg A):FnOk P w K mg base (CXx P w) 3 A.f_ka A.d_ka ["board", "stand"] (spD K 2 (d_ka fu)):=by
 have G_ea:=zge (P:=P) (w:=w) (base:=base) fu T
 refine T.F_ka.okX (k:=2) znp (fun vs H Q E h=>h.1) (fun cdv Ar outer s H vs Q E hr h=>?_)
 obtain⟨_,F,as,ws,ce,S,rs,Pf⟩:=h
 refine⟨toTS (Gx K) E _,(zah (zaA (zeI zec (zbm (N:=["board", "stand"]) (psc:=zal zgP) (js:=[1]) (N':=["points", "stand"]) (by decide +kernel)) rfl rfl (zgy (zar (zb7 G_ea) (hr.mono (by decide)) rfl T.g_ea T.F_ea.kp T.b_ea (flies_cxOf.passes rfl) (zab (zaa 0) (zab (zaa 1) zaf)))) (fun _ _ _ _=>(zcf (zfO (hr.cmp 8) (zaE (zaa 1) (zaE (zaa 0) zai (fun _ _=>rfl)) (fun _ _=>rfl)) zai))) (fun _ _ _ _=>(zaa 0))))),?_⟩
 exact zav (G:=Gx K) (E:=E) zbe ["board", "stand"] S rs Pf
set_option maxHeartbeats 0 in
theorem zcC(fu:Nat)(T:Txt K mg A):FnOk P w K mg base (CXx P w) 1 A.f_c A.d_c ["board", "points"] (spD K 2 (d_c fu)):=by
 refine T.F_c.okX (k:=0) sc_c (fun vs H Q E h=>h.1) (fun cdv Ar outer s H vs Q E hr h=>?_)
 obtain⟨_,F,as,ws,ce,S,rs,Pf⟩:=h
 refine⟨toTS (Gx K) E _,(zad (zat (i:=2) sc_c.nd rfl (Or.inl rfl) zeg)
   (zad (zaV PassesOwn.leaving rfl (zgy (zaa 1)) (zaI (i:=3) sc_c.nd rfl (Or.inl rfl))
   (zah (zaV PassesOwn.leaving rfl (zj4 (zaE (zaa 0) (zaa 3) (fun _ _=>rfl))) (zaI (i:=4) sc_c.nd rfl (Or.inl rfl))
   (zah (zew (hr.cmp 1) (zaa 2) (zaa 4) zcH)))))
   (zah (zaA (zas (zjK rfl rfl) (zjL K zl5) rfl T.n_sorted PyProof.Rows.boot_sorted (zab (zaa 2) zaf)))))),?_⟩
 exact zav (G:=Gx K) (E:=E) zgA ["board", "points", "found", "point", "beside"] S rs Pf
set_option maxHeartbeats 0 in
theorem zes(fu:Nat)(T:Txt K mg A):FnOk P w K mg base (CXx P w) 2 A.f_fa A.d_fa ["board", "stand", "row"] (spD K 3 (d_fa fu)):=by
 have G_c:=zcC (P:=P) (w:=w) (base:=base) fu T
 refine T.F_fa.okX (k:=1) zjR (fun vs H Q E h=>h.1) (fun cdv Ar outer s H vs Q E hr h=>?_)
 obtain⟨_,F,as,ws,ce,S,rs,Pf⟩:=h
 refine⟨toTS (Gx K) E _,(zah (zaA (zeI zl5 (zbm (N:=["board", "stand", "row"]) (psc:=zal zd2) (js:=[1]) (N':=["point", "stand"]) (by decide +kernel)) rfl rfl (zgy (zar (zb7 G_c) (hr.mono (by decide)) rfl T.g_c T.F_c.kp T.b_c (flies_cxOf.passes rfl) (zab (zaa 0) (zab (zaa 2) zaf)))) (fun _ _ _ _=>(zcf (zfO (hr.cmp 8) (zaE (zaa 1) (zaa 0) (fun _ _=>rfl)) zai))) (fun _ _ _ _=>(zaa 0))))),?_⟩
 exact zav (G:=Gx K) (E:=E) zgA ["board", "stand", "row"] S rs Pf
set_option maxHeartbeats 0 in
theorem zns(fu:Nat)(T:Txt K mg A):FnOk P w K mg base (CXx P w) 2 A.f_ja A.d_ja ["board", "stand", "land"] (spD K 3 (d_ja fu)):=by
 have G_c:=zcC (P:=P) (w:=w) (base:=base) fu T
 refine T.F_ja.okX (k:=1) sc_ja (fun vs H Q E h=>h.1) (fun cdv Ar outer s H vs Q E hr h=>?_)
 obtain⟨_,F,as,ws,ce,S,rs,Pf⟩:=h
 refine⟨toTS (Gx K) E _,(zad (zat (i:=3) sc_ja.nd rfl (Or.inr rfl) (zeI zec (zbm (N:=["board", "stand", "land", "held"]) (psc:=zal zfB) (js:=[1]) (N':=["point", "stand"]) (by decide +kernel)) rfl rfl (zgy (zar (zb7 G_c) (hr.mono (by decide)) rfl T.g_c T.F_c.kp T.b_c (flies_cxOf.passes rfl) (zab (zaa 0) (zab (zaa 2) zaf)))) (fun _ _ _ _=>zbh) (fun _ _ _ _=>(zaE (zaa 1) (zaa 0) (fun _ _=>rfl)))))
   (zah (zaA (zeI zl5 (zbm (N:=["board", "stand", "land", "held"]) (psc:=zal zfB) (js:=[3]) (N':=["hand", "held"]) (by decide +kernel)) rfl rfl (zj4 (zb6 (zab zai (zab zai zaf)))) (fun _ _ _ _=>(zcf (zto (hr.cmp 9) (zaa 0) (zaa 1) (by with_unfolding_all rfl)))) (fun _ _ _ _=>(zaa 0)))))),?_⟩
 exact zav (G:=Gx K) (E:=E) zgA ["board", "stand", "land", "held"] S rs Pf
set_option maxHeartbeats 0 in
theorem ziw(fu:Nat)(T:Txt K mg A):FnOk P w K mg base (CXx P w) 4 A.f_ca A.d_ca ["board", "stand"] (spD K 2 (d_ca fu)):=by
 have G_ma:=zlw (P:=P) (w:=w) (base:=base) fu T
 have G_fa:=zes (P:=P) (w:=w) (base:=base) fu T
 refine T.F_ca.okX (k:=3) zit (fun vs H Q E h=>h.1) (fun cdv Ar outer s H vs Q E hr h=>?_)
 obtain⟨_,F,as,ws,ce,S,rs,Pf⟩:=h
 refine⟨toTS (Gx K) E _,(zah (zaA (zas (zua K) (zrt K) rfl T.n_all PyProof.Rows.boot_all (zab (zeI zec (zbm (N:=["board", "stand"]) (psc:=zal zdc) (js:=[0,1]) (N':=["row", "board", "stand"]) (by decide +kernel)) rfl rfl (zgy (zar G_ma (hr.mono (by decide)) rfl T.g_ma T.F_ma.kp T.b_ma (flies_cxOf.passes rfl) (zab (zaa 0) (zab (zaa 1) zaf)))) (fun _ _ _ _=>zbh) (fun _ _ _ _=>(zi6 (ztk (zas (zcE rfl) (zcF K) rfl T.n_len PySem.boot_len (zab (zar (zb7 G_fa) (hr.mono (by decide)) rfl T.g_fa T.F_fa.kp T.b_fa zbY (zab (zaa 1) (zab (zaa 2) (zab (zaa 0) zaf)))) zaf)) zai)))) zaf)))),?_⟩
 exact zav (G:=Gx K) (E:=E) zbe ["board", "stand"] S rs Pf
set_option maxHeartbeats 0 in
theorem zgf(fu:Nat)(T:Txt K mg A):FnOk P w K mg base (CXx P w) 4 A.f_ga A.d_ga ["board", "stand", "hand"] (spD K 3 (d_ga fu)):=by
 have G_ka:=znr (P:=P) (w:=w) (base:=base) fu T
 have G_ja:=zns (P:=P) (w:=w) (base:=base) fu T
 refine T.F_ga.okX (k:=3) zjS (fun vs H Q E h=>h.1) (fun cdv Ar outer s H vs Q E hr h=>?_)
 obtain⟨_,F,as,ws,ce,S,rs,Pf⟩:=h
 refine⟨toTS (Gx K) E _,(zah (zaA (zas zi7 (zsd K) rfl T.n_sum PyProof.Rows.boot_sum (zab (zeI zec (zbm (N:=["board", "stand", "hand"]) (psc:=zal zd4) (js:=[0,1,2]) (N':=["land", "board", "stand", "hand"]) (by decide +kernel)) rfl rfl (zgy (zar G_ka (hr.mono (by decide)) rfl T.g_ka T.F_ka.kp T.b_ka (flies_cxOf.passes rfl) (zab (zaa 0) (zab (zaa 1) zaf)))) (fun _ _ _ _=>(zcf (zoq (zfO (hr.cmp 8) (zar (zb7 G_ja) (hr.mono (by decide)) rfl T.g_ja T.F_ja.kp T.b_ja zbY (zab (zaa 1) (zab (zaa 2) (zab (zaa 0) zaf)))) (zev (zab (zaa 3) zaf)))))) (fun _ _ _ _=>(zas (zcE rfl) (zcF K) rfl T.n_len PySem.boot_len (zab (zaa 0) zaf)))) zaf)))),?_⟩
 exact zav (G:=Gx K) (E:=E) zbe ["board", "stand", "hand"] S rs Pf
set_option maxHeartbeats 0 in
theorem zhR(fu:Nat)(T:Txt K mg A):FnOk P w K mg base (CXx P w) 5 A.f_v A.d_v ["board", "stand"] (spD K 2 (d_v fu)):=by
 have G_ga:=zgf (P:=P) (w:=w) (base:=base) fu T
 refine T.F_v.okX (k:=4) sc_v (fun vs H Q E h=>h.1) (fun cdv Ar outer s H vs Q E hr h=>?_)
 obtain⟨_,F,as,ws,ce,S,rs,Pf⟩:=h
 refine⟨toTS (Gx K) E _,(zad (zjJ (k:=2) zec (zbm (N:=["board", "stand", "held"]) (psc:=zal zcq) (js:=[0,1]) (N':=["hand", "board", "stand"]) (by decide +kernel)) rfl rfl (zj4 (zb6 (zab zai (zab zai zaf)))) (fun _ _ _ _=>zbh) (fun _ _ _ _=>(zi6 (zaY (zr4 PySem.F.slot_tuple_count PySem.F.type_tuple_count zpA (zr5 K) (zaa 2) (zab (zaa 0) zaf)) (zar G_ga (hr.mono (by decide)) rfl T.g_ga T.F_ga.kp T.b_ga zbY (zab (zaa 1) (zab (zaa 2) (zab (zaa 0) zaf))))))) sc_v.nd rfl rfl (by with_unfolding_all rfl))
   (zah (zaA (zaZ (ze2 K) (zdt K) rfl T.n_tuple PyProof.Rows.boot_tuple (zab (zaa 2) zaf))))),?_⟩
 exact zav (G:=Gx K) (E:=E) zbe ["board", "stand", "held"] S rs Pf
set_option maxHeartbeats 0 in
theorem zbN(fu:Nat)(T:Txt K mg A):FnOk P w K mg base (CXx P w) 2 A.f_e A.d_e ["self", "moment"] (spD K 2 (d_e fu)):=by
 have G_r:=zbF (P:=P) (w:=w) (base:=base) fu T
 refine T.F_e.okX (k:=1) zfC (fun vs H Q E h=>h.1) (fun cdv Ar outer s H vs Q E hr h=>?_)
 obtain⟨_,F,as,ws,ce,S,rs,Pf⟩:=h
 refine⟨toTS (Gx K) E _,(zah (zaA (zrl (zfO (hr.cmp 8) (zaX (zaa 1) zai) zai) (zbk T.cls_Game T.na_Game_first (zaa 0)) (zar G_r (hr.mono (by decide)) rfl T.g_r T.F_r.kp T.b_r (flies_cxOf.passes rfl) (zab (zbk T.cls_Game T.na_Game_first (zaa 0)) zaf))))),?_⟩
 exact zav (G:=Gx K) (E:=E) zbe ["self", "moment"] S rs Pf
set_option maxHeartbeats 0 in
theorem zeD(fu:Nat)(T:Txt K mg A):FnOk P w K mg base (CXx P w) 3 A.f_x A.d_x ["self", "hand"] (spD K 2 (d_x fu)):=by
 have G_e:=zbN (P:=P) (w:=w) (base:=base) fu T
 refine T.F_x.okX (k:=2) zhP (fun vs H Q E h=>h.1) (fun cdv Ar outer s H vs Q E hr h=>?_)
 obtain⟨_,F,as,ws,ce,S,rs,Pf⟩:=h
 refine⟨toTS (Gx K) E _,(zah (zaA (zas zi7 (zsd K) rfl T.n_sum PyProof.Rows.boot_sum (zab (zeI zec (zbm (N:=["self", "hand"]) (psc:=zal zcs) (js:=[0,1]) (N':=["moment", "self", "hand"]) (by decide +kernel)) rfl rfl (zeh rfl T.n_range (zab (zas (zcE rfl) (zcF K) rfl T.n_len PySem.boot_len (zab (zbk T.cls_Game T.na_Game_done (zaa 0)) zaf)) zaf)) (fun _ _ _ _=>(zcf (zoq (zmE (hr.cmp 8) (zcp T.cls_Game T.mt_e G_e (hr.mono (by decide)) T.b_e zbY (zaa 1) (zab (zaa 0) zaf)) (zaa 2))))) (fun _ _ _ _=>(zaE (zbk T.cls_Game T.na_Game_takings (zaa 1)) (zaa 0) (fun _ _=>rfl)))) zaf)))),?_⟩
 exact zav (G:=Gx K) (E:=E) zbe ["self", "hand"] S rs Pf
set_option maxHeartbeats 0 in
theorem zgX(fu:Nat)(T:Txt K mg A):FnOk P w K mg base (CXx P w) 1 A.f_q A.d_q ["self"] (spD K 1 (d_q fu)):=by
 refine T.F_q.okX (k:=0) zgS (fun vs H Q E h=>h.1) (fun cdv Ar outer s H vs Q E hr h=>?_)
 obtain⟨_,F,as,ws,ce,S,rs,Pf⟩:=h
 refine⟨toTS (Gx K) E _,(zah (zaA (zbk T.cls_Game T.na_Game_joined (zaa 0)))),?_⟩
 exact zav (G:=Gx K) (E:=E) zbe ["self"] S rs Pf
set_option maxHeartbeats 0 in
theorem zct(fu:Nat)(T:Txt K mg A):FnOk P w K mg base (CXx P w) 1 A.f_j A.d_j ["self"] (spD K 1 (d_j fu)):=by
 refine T.F_j.okX (k:=0) zgT (fun vs H Q E h=>h.1) (fun cdv Ar outer s H vs Q E hr h=>?_)
 obtain⟨_,F,as,ws,ce,S,rs,Pf⟩:=h
 refine⟨toTS (Gx K) E _,(zah (zaA (zaE (zbk T.cls_Game T.na_Game_past (zaa 0)) (zn1 zai) (fun _ _=>rfl)))),?_⟩
 exact zav (G:=Gx K) (E:=E) zbe ["self"] S rs Pf
set_option maxHeartbeats 0 in
theorem zjT(fu:Nat)(T:Txt K mg A):FnOk P w K mg base (CXx P w) 5 A.f_ha A.d_ha ["game"] (spD K 1 (d_ha fu)):=by
 have G_ga:=zgf (P:=P) (w:=w) (base:=base) fu T
 have G_x:=zeD (P:=P) (w:=w) (base:=base) fu T
 have G_q:=zgX (P:=P) (w:=w) (base:=base) fu T
 have G_j:=zct (P:=P) (w:=w) (base:=base) fu T
 have G_r:=zbF (P:=P) (w:=w) (base:=base) fu T
 refine T.F_ha.okX (k:=4) sc_ha (fun vs H Q E h=>h.1) (fun cdv Ar outer s H vs Q E hr h=>?_)
 obtain⟨_,F,as,ws,ce,S,rs,Pf⟩:=h
 refine⟨toTS (Gx K) E _,(zad (zjJ (k:=1) zec (zbm (N:=["game", "held"]) (psc:=zal zd3) (js:=[0]) (N':=["hand", "game"]) (by decide +kernel)) rfl rfl (zj4 (zb6 (zab zai (zab zai zaf)))) (fun _ _ _ _=>zbh) (fun _ _ _ _=>(zi6 (zaY (zar G_ga (hr.mono (by decide)) rfl T.g_ga T.F_ga.kp T.b_ga zbY (zab (zbw T.cls_Game T.mt_q G_q (hr.mono (by decide)) T.b_q zbY (zaa 1)) (zab (zbw T.cls_Game T.mt_j G_j (hr.mono (by decide)) T.b_j zbY (zaa 1)) (zab (zaa 0) zaf)))) (zcp T.cls_Game T.mt_x G_x (hr.mono (by decide)) T.b_x zbY (zaa 1) (zab (zar G_r (hr.mono (by decide)) rfl T.g_r T.F_r.kp T.b_r zbY (zab (zaa 0) zaf)) zaf))))) sc_ha.nd rfl rfl (by with_unfolding_all rfl))
   (zah (zaA (zaZ (ze2 K) (zdt K) rfl T.n_tuple PyProof.Rows.boot_tuple (zab (zaa 1) zaf))))),?_⟩
 exact zav (G:=Gx K) (E:=E) zbe ["game", "held"] S rs Pf
set_option maxHeartbeats 0 in
theorem zlx(fu:Nat)(T:Txt K mg A):FnOk P w K mg base (CXx P w) 1 A.f_ia A.d_ia ["stand", "points", "what"] (spD K 3 (d_ia fu)):=by
 refine T.F_ia.okX (k:=0) sc_ia (fun vs H Q E h=>h.1) (fun cdv Ar outer s H vs Q E hr h=>?_)
 obtain⟨_,F,as,ws,ce,S,rs,Pf⟩:=h
 refine⟨toTS (Gx K) E _,(zad (zat (i:=3) sc_ia.nd rfl (Or.inl rfl) (zaZ (zhx rfl rfl) (zhy K zl5) rfl T.n_list PyProof.Rows.boot_list (zab (zaa 0) zaf)))
   (zad (zaV PassesOwn.leaving rfl (zgy (zaa 1)) (zaI (i:=4) sc_ia.nd rfl (Or.inl rfl))
   (zah (zf5 (zaa 2) (zfd (E:=E0) (zaa 3) (zaa 4)))))
   (zah (zaA (zaZ (ze2 K) (zdt K) rfl T.n_tuple PyProof.Rows.boot_tuple (zab (zaa 3) zaf)))))),?_⟩
 exact zav (G:=Gx K) (E:=E) zbe ["stand", "points", "what", "changed", "point"] S rs Pf
set_option maxHeartbeats 0 in
theorem zgY(fu:Nat)(T:Txt K mg A):FnOk P w K mg base (CXx P w) 4 A.f_k A.d_k ["board", "stand", "hand"] (spD K 3 (d_k fu)):=by
 have G_ma:=zlw (P:=P) (w:=w) (base:=base) fu T
 have G_fa:=zes (P:=P) (w:=w) (base:=base) fu T
 refine T.F_k.okX (k:=3) sc_k (fun vs H Q E h=>h.1) (fun cdv Ar outer s H vs Q E hr h=>?_)
 obtain⟨_,F,as,ws,ce,S,rs,Pf⟩:=h
 refine⟨toTS (Gx K) E _,(zad (zat (i:=3) sc_k.nd rfl (Or.inl rfl) (zbK zaf))
   (zad (zaV PassesOwn.leaving rfl (zgy (zar G_ma (hr.mono (by decide)) rfl T.g_ma T.F_ma.kp T.b_ma (flies_cxOf.passes rfl) (zab (zaa 0) (zab (zaa 1) zaf)))) (zaI (i:=4) sc_k.nd rfl (Or.inl rfl))
   (zah (za0 (PW.pt (ze9 (zfO (hr.cmp 8) (zaE (zaa 1) (zaE (zaa 4) zai (fun _ _=>rfl)) (fun _ _=>rfl)) (zaa 2)) (zef (zfa (zkG (zar (zb7 G_fa) (hr.mono (by decide)) rfl T.g_fa T.F_fa.kp T.b_fa (flies_cxOf.passes rfl) (zab (zaa 0) (zab (zaa 1) (zab (zaa 4) zaf))))))))) (zah (zbg (zej PySem.F.slot_list_extend PySem.F.type_list_extend zpk ztx (zaa 3) (zab (zaa 4) zaf)))) zaF)))
   (zah (zaA (zas (zjK rfl rfl) (zjL K zl5) rfl T.n_sorted PyProof.Rows.boot_sorted (zab (zaa 3) zaf)))))),?_⟩
 exact zav (G:=Gx K) (E:=E) zgA ["board", "stand", "hand", "found", "row"] S rs Pf
set_option maxHeartbeats 0 in
theorem zpU(fu:Nat)(T:Txt K mg A):FnOk P w K mg base (CXx P w) 5 A.f_na A.d_na ["board", "stand", "hand", "point"] (spD K 4 (d_na fu)):=by
 have G_ia:=zlx (P:=P) (w:=w) (base:=base) fu T
 have G_k:=zgY (P:=P) (w:=w) (base:=base) fu T
 have G_r:=zbF (P:=P) (w:=w) (base:=base) fu T
 have G_fa:=zes (P:=P) (w:=w) (base:=base) fu T
 have G_la:=znq (P:=P) (w:=w) (base:=base) fu T
 refine T.F_na.okX (k:=4) sc_na (fun vs H Q E h=>h.1) (fun cdv Ar outer s H vs Q E hr h=>?_)
 obtain⟨_,F,as,ws,ce,S,rs,Pf⟩:=h
 refine⟨toTS (Gx K) E _,(zad (za0 (zmE (hr.cmp 8) (zaE (zaa 1) (zaa 3) (fun _ _=>rfl)) zai) (zah (zdN (l:=[3]) flies_cxOf rfl T.xt rfl rfl rfl hr.hd (zin (zbU zhK (zbU (zll 3) (zbU zhK zim)))) (fun _ h=>⟨trivial,h 3 (by decide),trivial,trivial⟩))) zaF)
   (zad (zat (i:=4) sc_na.nd rfl (Or.inl rfl) (zar G_ia (hr.mono (by decide)) rfl T.g_ia T.F_ia.kp T.b_ia (flies_cxOf.passes rfl) (zab (zaa 1) (zab (zev (zab (zaa 3) zaf)) (zab (zaa 2) zaf)))))
   (zad (zat (i:=5) sc_na.nd rfl (Or.inl rfl) (zar (zb7 G_k) (hr.mono (by decide)) rfl T.g_k T.F_k.kp T.b_k (flies_cxOf.passes rfl) (zab (zaa 0) (zab (zaa 4) (zab (zar G_r (hr.mono (by decide)) rfl T.g_r T.F_r.kp T.b_r (flies_cxOf.passes rfl) (zab (zaa 2) zaf)) zaf)))))
   (zad (zat (i:=6) sc_na.nd rfl (Or.inl rfl) (zar G_ia (hr.mono (by decide)) rfl T.g_ia T.F_ia.kp T.b_ia (flies_cxOf.passes rfl) (zab (zaa 4) (zab (zaa 5) (zab zai zaf)))))
   (zad (za0 (zfa (zkG (zar (zb7 G_fa) (hr.mono (by decide)) rfl T.g_fa T.F_fa.kp T.b_fa (flies_cxOf.passes rfl) (zab (zaa 0) (zab (zaa 6) (zab (zar (zb7 G_la) (hr.mono (by decide)) rfl T.g_la T.F_la.kp T.b_la (flies_cxOf.passes rfl) (zab (zaa 0) (zab (zaa 6) (zab (zaa 3) zaf)))) zaf)))))) (zah (zdN (l:=[3]) flies_cxOf rfl T.xt rfl rfl rfl hr.hd (zin (zbU zhK (zbU (zll 3) (zbU zhK zim)))) (fun _ h=>⟨trivial,h 3 (by decide),trivial,trivial⟩))) zaF)
   (zah (zaA (zb6 (zab (zaa 6) (zab (zaa 5) zaf)))))))))),?_⟩
 exact zav (G:=Gx K) (E:=E) zbe ["board", "stand", "hand", "point", "full", "taken", "behind"] S rs Pf
set_option maxHeartbeats 0 in
theorem zb2(fu:Nat)(T:Txt K mg A):FnOk P w K mg base (CXx P w) 1 A.f_i A.d_i ["_law_cell", "_law_many"] (spD K 2 (d_i fu)):=by
 refine T.F_i.okX (k:=0) sc_i (fun vs H Q E h=>h.1) (fun cdv Ar outer s H vs Q E hr h=>?_)
 obtain⟨_,F,as,ws,ce,S,rs,Pf⟩:=h
 refine⟨toTS (Gx K) E _,(zad (zat (i:=2) sc_i.nd rfl (Or.inl rfl) (zbK zaf))
   (zad (zat (i:=3) sc_i.nd rfl (Or.inl rfl) (zaY (zaX (zaa 0) zai) zai))
   (zad (zaV PassesOwn.leaving rfl (zeh rfl T.n_range (zab (zaY (zaa 1) zai) zaf)) (zaI (i:=4) sc_i.nd rfl (Or.inl rfl))
   (zad (zat (i:=3) sc_i.nd rfl (Or.inl rfl) (zaX (zaY (zaY (ze5 (zaa 3) (zaa 3)) (ze5 zai (zaa 3))) (zaa 4)) zai))
   (zah (zbg (zej PySem.F.slot_list_append PySem.F.type_list_append za2 zfg (zaa 2) (zab (zaa 3) zaf))))))
   (zah (zaA (zjG zec (zaa 2) (zcI zai) zgw)))))),?_⟩
 exact zav (G:=Gx K) (E:=E) zbe ["_law_cell", "_law_many", "_law_found", "_law_number", "_law_k"] S rs Pf
set_option maxHeartbeats 0 in
theorem zfU(fu:Nat)(T:Txt K mg A):FnOk P w K mg base (CXx P w) 1 A.f_h A.d_h ["_law_many", "_law_lines_here"] (spD K 2 (d_h fu)):=by
 refine T.F_h.okX (k:=0) sc_h (fun vs H Q E h=>h.1) (fun cdv Ar outer s H vs Q E hr h=>?_)
 obtain⟨_,F,as,ws,ce,S,rs,Pf⟩:=h
 refine⟨toTS (Gx K) E _,(zad (zjJ (k:=2) zec (zbm (N:=["_law_many", "_law_lines_here", "_law_joined_here", "_law_one", "_law_other"]) (psc:=zal zbl) (js:=[]) (N':=["_law_k"]) (by decide +kernel)) rfl rfl (zeh rfl T.n_range (zab (zaa 0) zaf)) (fun _ _ _ _=>zbh) (fun _ _ _ _=>(zbK zaf)) sc_h.nd rfl rfl (by with_unfolding_all rfl))
   (zad (zaV PassesOwn.leaving rfl (zgy (zaa 1)) (zkX rfl (zc7 (zaI (i:=3) sc_h.nd rfl (Or.inl rfl)) (zc7 (zaI (i:=4) sc_h.nd rfl (Or.inl rfl)) zia)))
   (zad (zbg (zej PySem.F.slot_list_append PySem.F.type_list_append za2 zfg (zaE (zaa 2) (zaa 3) (fun _ _=>rfl)) (zab (zaa 4) zaf)))
   (zah (zbg (zej PySem.F.slot_list_append PySem.F.type_list_append za2 zfg (zaE (zaa 2) (zaa 4) (fun _ _=>rfl)) (zab (zaa 3) zaf))))))
   (zah (zaA (zaZ (ze2 K) (zdt K) rfl T.n_tuple PyProof.Rows.boot_tuple (zab (zeI zec (zbm (N:=["_law_many", "_law_lines_here", "_law_joined_here", "_law_one", "_law_other"]) (psc:=zal zbl) (js:=[]) (N':=["_law_some"]) (by decide +kernel)) rfl rfl (zgy (zaa 2)) (fun _ _ _ _=>zbh) (fun _ _ _ _=>(zaZ (ze2 K) (zdt K) rfl T.n_tuple PyProof.Rows.boot_tuple (zab (zas (zjK rfl rfl) (zjL K zec) rfl T.n_sorted PyProof.Rows.boot_sorted (zab (zaa 0) zaf)) zaf)))) zaf)))))),?_⟩
 exact zav (G:=Gx K) (E:=E) zbe ["_law_many", "_law_lines_here", "_law_joined_here", "_law_one", "_law_other"] S rs Pf
set_option maxHeartbeats 0 in
theorem zgZ(fu:Nat)(T:Txt K mg A):FnOk P w K mg base (CXx P w) 2 A.f_n A.d_n ["_law_xs"] (spD K 1 (d_n fu)):=by
 have G_i:=zb2 (P:=P) (w:=w) (base:=base) fu T
 refine T.F_n.okX (k:=1) sc_n (fun vs H Q E h=>h.1) (fun cdv Ar outer s H vs Q E hr h=>?_)
 obtain⟨_,F,as,ws,ce,S,rs,Pf⟩:=h
 refine⟨toTS (Gx K) E _,(zad (za0 (zcy (zaX (zaE (zaa 0) zai (fun _ _=>rfl)) zai) zai) (zad (zat (i:=1) sc_n.nd rfl (Or.inr rfl) (zaY zai (zaX (zaE (zaa 0) zai (fun _ _=>rfl)) zai)))
   (zad (zat (i:=2) sc_n.nd rfl (Or.inl rfl) (ze5 (zaa 1) (zaY zai (zaX (zaE (zaa 0) zai (fun _ _=>rfl)) zai))))
   (zad (za0 (zcy (zaX (zn0 (zaE (zaa 0) zai (fun _ _=>rfl)) zai) zai) zai) (zad (zat (i:=1) sc_n.nd rfl (Or.inr rfl) (zaY zai (zaX (zaE (zaa 0) zai (fun _ _=>rfl)) zai)))
   (zah (zat (i:=2) sc_n.nd rfl (Or.inl rfl) (ze5 zai (zaa 1))))) zaF)
   (zad (zjJ (k:=3) zl5 (zbm (N:=["_law_xs", "_law_wide", "_law_many", "_law_lines_here", "_law_beside", "_law_ys", "_law_one", "_law_other"]) (psc:=zal za4) (js:=[1]) (N':=["_law_k", "_law_wide"]) (by decide +kernel)) rfl rfl (zeh rfl T.n_range (zab (zdj (zaa 2) (zaa 1)) zaf)) (fun _ _ _ _=>zbh) (fun _ _ _ _=>(zb6 (zab (zaa 0) (zab (zaY (zaa 0) (zaa 1)) zaf)))) sc_n.nd rfl rfl (by with_unfolding_all rfl))
   (zad (zjJ (k:=4) zec (zbm (N:=["_law_xs", "_law_wide", "_law_many", "_law_lines_here", "_law_beside", "_law_ys", "_law_one", "_law_other"]) (psc:=zal za4) (js:=[1]) (N':=["_law_k", "_law_wide"]) (by decide +kernel)) rfl rfl (zeh rfl T.n_range (zab (zdj (zaa 2) zai) zaf)) (fun _ _ _ _=>(zcf (zkN (zaX (zaY (zaa 0) zai) (zaa 1)) zai))) (fun _ _ _ _=>(zaa 0)) sc_n.nd rfl rfl (by with_unfolding_all rfl))
   (zah (zaA (zb6 (zab (zaa 2) (zab (zkV zec (zaa 3) (zeI zec (zbm (N:=["_law_xs", "_law_wide", "_law_many", "_law_lines_here", "_law_beside", "_law_ys", "_law_one", "_law_other"]) (psc:=zal za4) (js:=[]) (N':=["_law_k"]) (by decide +kernel)) rfl rfl (zgy (zaa 4)) (fun _ _ _ _=>zbh) (fun _ _ _ _=>(zb6 (zab (zaa 0) (zab (zaY (zaa 0) zai) zaf)))))) zaf)))))))))) zaF)
   (zad (zat (i:=2) sc_n.nd rfl (Or.inl rfl) (zaY zai (zaX (zaE (zaa 0) zai (fun _ _=>rfl)) (zaE (zev (zab zai (zab zai (zab zai (zab zai zaf))))) (zaX (zaE (zaa 0) zai (fun _ _=>rfl)) zai) (fun _ _=>rfl)))))
   (zad (zjJ (k:=3) zl5 (zbm (N:=["_law_xs", "_law_wide", "_law_many", "_law_lines_here", "_law_beside", "_law_ys", "_law_one", "_law_other"]) (psc:=zal za4) (js:=[]) (N':=["_law_k"]) (by decide +kernel)) rfl rfl (zeh rfl T.n_range (zab (zdj (zaa 2) zai) zaf)) (fun _ _ _ _=>zbh) (fun _ _ _ _=>(zb6 (zab (zaa 0) (zab (zaY (zaa 0) zai) zaf)))) sc_n.nd rfl rfl (by with_unfolding_all rfl))
   (zad (za0 (PW.pt (ze9 (zcy (zaX (zaE (zaa 0) zai (fun _ _=>rfl)) zai) zai) (ze9 (zkN (zaa 2) zai) (zef (zcy (zaX (zaE (zaa 0) zai (fun _ _=>rfl)) zai) zai))))) (zah (zbg (zej PySem.F.slot_list_append PySem.F.type_list_append za2 zfg (zaa 3) (zab (zb6 (zab zai (zab (zdj (zaa 2) zai) zaf))) zaf)))) zaF)
   (zad (za0 (zkN (zaX (zaE (zaa 0) zai (fun _ _=>rfl)) zai) zai) (zad (zat (i:=5) sc_n.nd rfl (Or.inl rfl) (zar G_i (hr.mono (by decide)) rfl T.g_i T.F_i.kp T.b_i (flies_cxOf.passes rfl) (zab (zaE (zaa 0) zai (fun _ _=>rfl)) (zab (ze5 (zaa 2) (zaa 2)) zaf))))
   (zad (zat (i:=3) sc_n.nd rfl (Or.inl rfl) (zbK zaf))
   (zah (zaV PassesOwn.leaving rfl (zeh rfl T.n_range (zab (zaa 2) zaf)) (zaI (i:=6) sc_n.nd rfl (Or.inl rfl))
   (zah (zaV PassesOwn.leaving rfl (zeh rfl T.n_range (zab (zaa 6) zaf)) (zaI (i:=7) sc_n.nd rfl (Or.inl rfl))
   (zah (za0 (zri (zaX (zaE (zaa 5) (zaY (ze5 (zaa 6) (zaa 2)) (zaa 7)) (fun _ _=>rfl)) zai) (zaX (zaE (zaa 0) zai (fun _ _=>rfl)) zai)) (zah (zbg (zej PySem.F.slot_list_append PySem.F.type_list_append za2 zfg (zaa 3) (zab (zb6 (zab (zaa 7) (zab (zaa 6) zaf))) zaf)))) zaF)))))))) zaF)
   (zah (zaA (zb6 (zab (zaa 2) (zab (zaa 3) zaf)))))))))),?_⟩
 exact zav (G:=Gx K) (E:=E) zrq ["_law_xs", "_law_wide", "_law_many", "_law_lines_here", "_law_beside", "_law_ys", "_law_one", "_law_other"] S rs Pf
set_option maxHeartbeats 0 in
theorem zfE(fu:Nat)(T:Txt K mg A):FnOk P w K mg base (CXx P w) 1 A.f_z A.d_z ["_law_board", "_law_stand", "_law_point"] (spD K 3 (d_z fu)):=by
 refine T.F_z.okX (k:=0) sc_z (fun vs H Q E h=>h.1) (fun cdv Ar outer s H vs Q E hr h=>?_)
 obtain⟨_,F,as,ws,ce,S,rs,Pf⟩:=h
 refine⟨toTS (Gx K) E _,(zad (zat (i:=3) sc_z.nd rfl (Or.inl rfl) (zbK (zab (zaa 2) zaf)))
   (zad (zat (i:=4) sc_z.nd rfl (Or.inl rfl) zai)
   (zad (ziV fu PassesOwn.leaving (zri (zaa 4) (zas (zcE rfl) (zcF K) rfl T.n_len PySem.boot_len (zab (zaa 3) zaf))) (zad (zaV PassesOwn.leaving rfl (zj4 (zaE (zaa 0) (zaE (zaa 3) (zaa 4) (fun _ _=>rfl)) (fun _ _=>rfl))) (zaI (i:=5) sc_z.nd rfl (Or.inl rfl))
   (zah (za0 (PW.pt (ze9 (zcy (zaE (zaa 1) (zaa 5) (fun _ _=>rfl)) (zaE (zaa 1) (zaa 2) (fun _ _=>rfl))) (zef (zmF (hr.cmp 9) (zaa 5) (zaa 3) (by with_unfolding_all rfl))))) (zah (zbg (zej PySem.F.slot_list_append PySem.F.type_list_append za2 zfg (zaa 3) (zab (zaa 5) zaf)))) zaF)))
   (zah (zat (i:=4) sc_z.nd rfl (Or.inl rfl) (zaY (zaa 4) zai)))))
   (zah (zaA (zaa 3)))))),?_⟩
 exact zav (G:=Gx K) (E:=E) zgA ["_law_board", "_law_stand", "_law_point", "_law_found", "_law_at", "_law_other"] S rs Pf
set_option maxHeartbeats 0 in
theorem zfF(fu:Nat)(T:Txt K mg A):FnOk P w K mg base (CXx P w) 1 A.f_f A.d_f ["_law_board", "_law_stand", "_law_row_here"] (spD K 3 (d_f fu)):=by
 refine T.F_f.okX (k:=0) sc_f (fun vs H Q E h=>h.1) (fun cdv Ar outer s H vs Q E hr h=>?_)
 obtain⟨_,F,as,ws,ce,S,rs,Pf⟩:=h
 refine⟨toTS (Gx K) E _,(zad (zat (i:=3) sc_f.nd rfl (Or.inl rfl) zeg)
   (zad (zaV PassesOwn.leaving rfl (zgy (zaa 2)) (zaI (i:=4) sc_f.nd rfl (Or.inl rfl))
   (zah (zaV PassesOwn.leaving rfl (zj4 (zaE (zaa 0) (zaa 4) (fun _ _=>rfl))) (zaI (i:=5) sc_f.nd rfl (Or.inl rfl))
   (zah (za0 (zcy (zaE (zaa 1) (zaa 5) (fun _ _=>rfl)) zai) (zah (zew (hr.cmp 1) (zaa 3) (zaa 5) zcH)) zaF)))))
   (zah (zaA (zas (zjK rfl rfl) (zjL K zl5) rfl T.n_sorted PyProof.Rows.boot_sorted (zab (zaZ (zhx rfl rfl) (zhy K zec) rfl T.n_list PyProof.Rows.boot_list (zab (zaa 3) zaf)) zaf)))))),?_⟩
 exact zav (G:=Gx K) (E:=E) zgA ["_law_board", "_law_stand", "_law_row_here", "_law_found", "_law_point", "_law_other"] S rs Pf
set_option maxHeartbeats 0 in
theorem zg0(fu:Nat)(T:Txt K mg A):FnOk P w K mg base (CXx P w) 2 A.f_s A.d_s ["_law_board", "_law_stand", "_law_hand", "_law_point"] (spD K 4 (d_s fu)):=by
 have G_z:=zfE (P:=P) (w:=w) (base:=base) fu T
 have G_f:=zfF (P:=P) (w:=w) (base:=base) fu T
 refine T.F_s.okX (k:=1) sc_s (fun vs H Q E h=>h.1) (fun cdv Ar outer s H vs Q E hr h=>?_)
 obtain⟨_,F,as,ws,ce,S,rs,Pf⟩:=h
 refine⟨toTS (Gx K) E _,(zad (za0 (zk1 (zaE (zaa 1) (zaa 3) (fun _ _=>rfl)) zai) (zah (zaA ze4)) zaF)
   (zad (zat (i:=4) sc_s.nd rfl (Or.inl rfl) zeg)
   (zad (zat (i:=5) sc_s.nd rfl (Or.inl rfl) zeg)
   (zad (zaV PassesOwn.leaving rfl (zj4 (zaE (zaa 0) (zaa 3) (fun _ _=>rfl))) (zaI (i:=6) sc_s.nd rfl (Or.inl rfl))
   (zah (za0 (zcy (zaE (zaa 1) (zaa 6) (fun _ _=>rfl)) zai) (zah (zew (hr.cmp 1) (zaa 5) (zaa 6) zcH)) (zad (zat (i:=7) sc_s.nd rfl (Or.inl rfl) (zar (zb7 G_z) (hr.mono (by decide)) rfl T.g_z T.F_z.kp T.b_z (flies_cxOf.passes rfl) (zab (zaa 0) (zab (zaa 1) (zab (zaa 6) zaf)))))
   (zad (zat (i:=8) sc_s.nd rfl (Or.inl rfl) (zar G_f (hr.mono (by decide)) rfl T.g_f T.F_f.kp T.b_f (flies_cxOf.passes rfl) (zab (zaa 0) (zab (zaa 1) (zab (zaa 7) zaf)))))
   (zad (zbg (zej PySem.F.slot_list_remove PySem.F.type_list_remove zsa ztS (zaa 8) (zab (zaa 3) zaf)))
   (zah (za0 (zcy (zaE (zaa 1) (zaa 6) (fun _ _=>rfl)) (zaa 2)) (zah (zaV PassesOwn.leaving rfl (zgy (zaa 8)) (zaI (i:=9) sc_s.nd rfl (Or.inl rfl))
   (zah (zew (hr.cmp 1) (zaa 5) (zaa 9) zcH)))) (zah (za0 (zfO (hr.cmp 8) (zaa 8) (zev zaf)) (zah (zaV PassesOwn.leaving rfl (zgy (zaa 7)) (zaI (i:=9) sc_s.nd rfl (Or.inl rfl))
   (zah (zew (hr.cmp 1) (zaa 4) (zaa 9) zcH)))) zaF))))))))))
   (zad (za0 (PW.pt (ze9 (zcy (zas (zcE rfl) (zcF K) rfl T.n_len PySem.boot_len (zab (zaa 5) zaf)) zai) (zef (zcy (zas (zcE rfl) (zcF K) rfl T.n_len PySem.boot_len (zab (zaa 4) zaf)) zai)))) (zah (zaA ze4)) zaF)
   (zad (zat (i:=10) sc_s.nd rfl (Or.inl rfl) (zaZ (zhx rfl rfl) (zhy K zl5) rfl T.n_list PyProof.Rows.boot_list (zab (zaa 1) zaf)))
   (zad (zaV PassesOwn.leaving rfl (zu0 (zaa 4)) (zaI (i:=9) sc_s.nd rfl (Or.inl rfl))
   (zah (zf5 zai (zfd (E:=E0) (zaa 10) (zaa 9)))))
   (zad (zf5 (zaa 2) (zfd (E:=E0) (zaa 10) (zaa 3)))
   (zah (zaA (zb6 (zab (zaZ (ze2 K) (zdt K) rfl T.n_tuple PyProof.Rows.boot_tuple (zab (zaa 10) zaf)) (zab (zas (zjK rfl rfl) (zjL K zec) rfl T.n_sorted PyProof.Rows.boot_sorted (zab (zaZ (zhx rfl rfl) (zhy K zec) rfl T.n_list PyProof.Rows.boot_list (zab (zaa 4) zaf)) zaf)) zaf))))))))))))),?_⟩
 exact zav (G:=Gx K) (E:=E) zbe ["_law_board", "_law_stand", "_law_hand", "_law_point", "_law_taken", "_law_breath", "_law_other", "_law_row_here", "_law_left", "_law_one", "_law_there"] S rs Pf
set_option maxHeartbeats 0 in
theorem zg1(fu:Nat)(T:Txt K mg A):FnOk P w K mg base (CXx P w) 3 A.f_o A.d_o ["_law_board", "_law_cells"] (spD K 2 (d_o fu)):=by
 have G_i:=zb2 (P:=P) (w:=w) (base:=base) fu T
 have G_s:=zg0 (P:=P) (w:=w) (base:=base) fu T
 refine T.F_o.okX (k:=2) sc_o (fun vs H Q E h=>h.1) (fun cdv Ar outer s H vs Q E hr h=>?_)
 obtain⟨_,F,as,ws,ce,S,rs,Pf⟩:=h
 refine⟨toTS (Gx K) E _,(zad (zat (i:=2) sc_o.nd rfl (Or.inl rfl) (zaZ (ze2 K) (zdt K) rfl T.n_tuple PyProof.Rows.boot_tuple (zab (zeI zec (zbm (N:=["_law_board", "_law_cells", "_law_stand", "_law_cell", "_law_xs", "_law_k", "_law_point", "_law_found"]) (psc:=zal zbV) (js:=[]) (N':=["_law_point"]) (by decide +kernel)) rfl rfl (zj4 (zaa 0)) (fun _ _ _ _=>zbh) (fun _ _ _ _=>zai)) zaf)))
   (zad (zaV PassesOwn.leaving rfl (zgy (zaa 1)) (zaI (i:=3) sc_o.nd rfl (Or.inl rfl))
   (zad (zat (i:=4) sc_o.nd rfl (Or.inl rfl) (zar G_i (hr.mono (by decide)) rfl T.g_i T.F_i.kp T.b_i (flies_cxOf.passes rfl) (zab (zaa 3) (zab zai zaf))))
   (zah (zaV PassesOwn.leaving rfl (zeh rfl T.n_range (zab (zaY zai (zaX (zaE (zaa 4) zai (fun _ _=>rfl)) zai)) zaf)) (zaI (i:=5) sc_o.nd rfl (Or.inl rfl))
   (zad (zat (i:=6) sc_o.nd rfl (Or.inl rfl) (zaX (zaY (zaE (zaa 4) zai (fun _ _=>rfl)) (ze5 zai (zaa 5))) (zas (zcE rfl) (zcF K) rfl T.n_len PySem.boot_len (zab (zaa 0) zaf))))
   (zad (zat (i:=7) sc_o.nd rfl (Or.inl rfl) (zar G_s (hr.mono (by decide)) rfl T.g_s T.F_s.kp T.b_s (flies_cxOf.passes rfl) (zab (zaa 0) (zab (zaa 2) (zab (zaY zai (zaX (zaY (zaE (zaa 4) zai (fun _ _=>rfl)) (zaa 5)) zai)) (zab (zaa 6) zaf))))))
   (zah (za0 (ze6 (zas (zsu K) (zmN K) rfl T.n_isinstance PyProof.Rows.boot_isinstance (zab (zaa 7) (zab (zmP rfl T.n_tuple PyProof.Rows.boot_tuple) zaf)))) (zah (zat (i:=2) sc_o.nd rfl (Or.inl rfl) (zaE (zaa 7) zai (fun _ _=>rfl)))) zaF))))))))
   (zah (zaA (zaa 2))))),?_⟩
 exact zav (G:=Gx K) (E:=E) zbe ["_law_board", "_law_cells", "_law_stand", "_law_cell", "_law_xs", "_law_k", "_law_point", "_law_found"] S rs Pf
set_option maxHeartbeats 0 in
theorem zd6(fu:Nat)(T:Txt K mg A):FnOk P w K mg base (CXx P w) 1 A.f_l A.d_l ["self"] (spD K 1 (d_l fu)):=by
 refine T.F_l.okX (k:=0) zgU (fun vs H Q E h=>h.1) (fun cdv Ar outer s H vs Q E hr h=>?_)
 obtain⟨_,F,as,ws,ce,S,rs,Pf⟩:=h
 refine⟨toTS (Gx K) E _,(zad (za0 (zfO (hr.cmp 8) (zjG zec (zbk T.cls_Game T.na_Game_done (zaa 0)) (zcI (zn1 zai)) zgw) (zev (zab zf4 (zab zf4 zaf)))) (zah (zaA ze4)) zaF)
   (zad (za0 (ztp (zas (zcE rfl) (zcF K) rfl T.n_len PySem.boot_len (zab (zbk T.cls_Game T.na_Game_done (zaa 0)) zaf)) (zmO rfl T.c_MOST_DEEDS)) (zah (zaA ze4)) zaF)
   (zah (zaA zf4)))),?_⟩
 exact zav (G:=Gx K) (E:=E) zbe ["self"] S rs Pf
set_option maxHeartbeats 0 in
theorem zeE(fu:Nat)(T:Txt K mg A):FnOk P w K mg base (CXx P w) 3 A.f_y A.d_y ["self"] (spD K 1 (d_y fu)):=by
 have G_e:=zbN (P:=P) (w:=w) (base:=base) fu T
 refine T.F_y.okX (k:=2) zhQ (fun vs H Q E h=>h.1) (fun cdv Ar outer s H vs Q E hr h=>?_)
 obtain⟨_,F,as,ws,ce,S,rs,Pf⟩:=h
 refine⟨toTS (Gx K) E _,(zah (zaA (zcp T.cls_Game T.mt_e G_e (hr.mono (by decide)) T.b_e (flies_cxOf.passes rfl) (zaa 0) (zab (zas (zcE rfl) (zcF K) rfl T.n_len PySem.boot_len (zab (zbk T.cls_Game T.na_Game_done (zaa 0)) zaf)) zaf)))),?_⟩
 exact zav (G:=Gx K) (E:=E) zbe ["self"] S rs Pf
set_option maxHeartbeats 0 in
theorem zd7(fu:Nat)(T:Txt K mg A):FnOk P w K mg base (CXx P w) 4 A.f_a A.d_a ["self", "moment"] (spD K 2 (d_a fu)):=by
 have G_e:=zbN (P:=P) (w:=w) (base:=base) fu T
 have G_r:=zbF (P:=P) (w:=w) (base:=base) fu T
 have G_y:=zeE (P:=P) (w:=w) (base:=base) fu T
 refine T.F_a.okX (k:=3) zd5 (fun vs H Q E h=>h.1) (fun cdv Ar outer s H vs Q E hr h=>?_)
 obtain⟨_,F,as,ws,ce,S,rs,Pf⟩:=h
 refine⟨toTS (Gx K) E _,(zah (zaA (ztq (zrh (hr.cmp 8) (zbk T.cls_Game T.na_Game_barring (zaa 0)) ze4) (ziU (zrh (hr.cmp 8) (zcp T.cls_Game T.mt_e G_e (hr.mono (by decide)) T.b_e (flies_cxOf.passes rfl) (zaa 0) (zab (zaa 1) zaf)) (zar G_r (hr.mono (by decide)) rfl T.g_r T.F_r.kp T.b_r (flies_cxOf.passes rfl) (zab (zbw T.cls_Game T.mt_y G_y (hr.mono (by decide)) T.b_y (flies_cxOf.passes rfl) (zaa 0)) zaf))))))),?_⟩
 exact zav (G:=Gx K) (E:=E) zbe ["self", "moment"] S rs Pf
set_option maxHeartbeats 0 in
theorem zfG(fu:Nat)(T:Txt K mg A):FnOk P w K mg base (CXx P w) 5 A.f_g A.d_g ["self", "behind"] (spD K 2 (d_g fu)):=by
 have G_a:=zd7 (P:=P) (w:=w) (base:=base) fu T
 refine T.F_g.okX (k:=4) sc_g (fun vs H Q E h=>h.1) (fun cdv Ar outer s H vs Q E hr h=>?_)
 obtain⟨_,F,as,ws,ce,S,rs,Pf⟩:=h
 refine⟨toTS (Gx K) E _,(zad (zaV PassesOwn.leaving rfl (zeh rfl T.n_range (zab (zas (zcE rfl) (zcF K) rfl T.n_len PySem.boot_len (zab (zbk T.cls_Game T.na_Game_past (zaa 0)) zaf)) zaf)) (zaI (i:=2) sc_g.nd rfl (Or.inl rfl))
   (zah (za0 (PW.pt (ze9 (zfO (hr.cmp 8) (zaE (zbk T.cls_Game T.na_Game_past (zaa 0)) (zaa 2) (fun _ _=>rfl)) (zaa 1)) (zef (ze6 (zcp T.cls_Game T.mt_a G_a (hr.mono (by decide)) T.b_a (flies_cxOf.passes rfl) (zaa 0) (zab (zaa 2) zaf)))))) (zah (zaA (zaa 2))) zaF)))
   (zah (zaA zf4))),?_⟩
 exact zav (G:=Gx K) (E:=E) zbe ["self", "behind", "moment"] S rs Pf
set_option maxHeartbeats 0 in
theorem zeF(fu:Nat)(T:Txt K mg A):FnOk P w K mg base (CXx P w) 6 A.f_u A.d_u ["self", "what"] (spD K 2 (d_u fu)):=by
 have G_j:=zct (P:=P) (w:=w) (base:=base) fu T
 have G_l:=zd6 (P:=P) (w:=w) (base:=base) fu T
 have G_na:=zpU (P:=P) (w:=w) (base:=base) fu T
 have G_g:=zfG (P:=P) (w:=w) (base:=base) fu T
 have G_y:=zeE (P:=P) (w:=w) (base:=base) fu T
 have G_Again___init__:=zer (P:=P) (w:=w) (base:=base) T
 refine T.F_u.okX (k:=5) sc_u (fun vs H Q E h=>h.1) (fun cdv Ar outer s H vs Q E hr h=>?_)
 obtain⟨_,F,as,ws,ce,S,rs,Pf⟩:=h
 refine⟨toTS (Gx K) E _,(zad (za0 (zgv (zbw T.cls_Game T.mt_l G_l (hr.mono (by decide)) T.b_l (flies_cxOf.passes rfl) (zaa 0))) (zah (zdN (l:=[]) flies_cxOf rfl T.xt rfl rfl rfl hr.hd zlm (fun _ _=>trivial))) zaF)
   (zad (zat (i:=2) sc_u.nd rfl (Or.inl rfl) (zbw T.cls_Game T.mt_j G_j (hr.mono (by decide)) T.b_j (flies_cxOf.passes rfl) (zaa 0)))
   (zad (zat (i:=3) sc_u.nd rfl (Or.inl rfl) zai)
   (zad (za0 (zgv (zaa 1)) (zad (zat (i:=4) sc_u.nd rfl (Or.inl rfl) (zar G_na (hr.mono (by decide)) rfl T.g_na T.F_na.kp T.b_na (flies_cxOf.passes rfl) (zab (zbk T.cls_Game T.na_Game_joined (zaa 0)) (zab (zaa 2) (zab (zbw T.cls_Game T.mt_y G_y (hr.mono (by decide)) T.b_y (flies_cxOf.passes rfl) (zaa 0)) (zab (zaa 1) zaf))))))
   (zad (zat (i:=2) sc_u.nd rfl (Or.inl rfl) (zaE (zaa 4) zai (fun _ _=>rfl)))
   (zad (zat (i:=3) sc_u.nd rfl (Or.inl rfl) (zas (zcE rfl) (zcF K) rfl T.n_len PySem.boot_len (zab (zaE (zaa 4) zai (fun _ _=>rfl)) zaf)))
   (zad (zat (i:=5) sc_u.nd rfl (Or.inl rfl) (zcp T.cls_Game T.mt_g G_g (hr.mono (by decide)) T.b_g (flies_cxOf.passes rfl) (zaa 0) (zab (zaa 2) zaf)))
   (zah (za0 (zgv (zaa 5)) (zah (zlt flies_cxOf (flies_cxOf.passes rfl) rfl T.xn_Again.xi G_Again___init__ (hr.mono (by decide)) T.b_Again___init__ (T.xt.at rfl) rfl rfl hr.hd (i:=5) rfl (Or.inl rfl))) zaF)))))) zaF)
   (zad (zbg (zej PySem.F.slot_list_append PySem.F.type_list_append za2 zfg (zbk T.cls_Game T.na_Game_past (zaa 0)) (zab (zaa 2) zaf)))
   (zad (zbg (zej PySem.F.slot_list_append PySem.F.type_list_append za2 zfg (zbk T.cls_Game T.na_Game_done (zaa 0)) (zab (zaa 1) zaf)))
   (zah (zbg (zej PySem.F.slot_list_append PySem.F.type_list_append za2 zfg (zbk T.cls_Game T.na_Game_takings (zaa 0)) (zab (zaa 3) zaf)))))))))),?_⟩
 exact zav (G:=Gx K) (E:=E) zbe ["self", "what", "behind", "many", "told", "number"] S rs Pf
set_option maxHeartbeats 0 in
theorem zhS(fu:Nat)(T:Txt K mg A):FnOk P w K mg base (CXx P w) 7 A.f_w A.d_w ["_law_game", "_law_many", "_law_start"] (spD K 3 (d_w fu)):=by
 have G_u:=zeF (P:=P) (w:=w) (base:=base) fu T
 refine T.F_w.okX (k:=6) sc_w (fun vs H Q E h=>h.1) (fun cdv Ar outer s H vs Q E hr h=>?_)
 obtain⟨_,F,as,ws,ce,S,rs,Pf⟩:=h
 refine⟨toTS (Gx K) E _,(zad (zaV PassesOwn.leaving rfl (zeh rfl T.n_range (zab (zaa 1) zaf)) (zaI (i:=3) sc_w.nd rfl (Or.inl rfl))
   (zad (zat (i:=4) sc_w.nd rfl (Or.inl rfl) (zaX (zaY (zaa 2) (zaa 3)) (zaa 1)))
   (zad (zat (i:=5) sc_w.nd rfl (Or.inl rfl) zf4)
   (zad (zni rfl rfl rfl T.cls_Game T.mt_u G_u (hr.mono (by decide)) T.b_u (zaa 0) (zab (zaa 4) zaf) (ztR (i:=6) rfl T.xt rfl sc_w.nd rfl rfl rfl (fun _=>(zah (zat (i:=5) sc_w.nd rfl (Or.inl rfl) (zaa 6))))))
   (zah (za0 (zn4 (zaa 5)) (zah (zaA zcH)) zaF))))))
   (zah (zaA zcH))),?_⟩
 exact zav (G:=Gx K) (E:=E) zbe ["_law_game", "_law_many", "_law_start", "_law_k", "_law_point", "_law_caught", "error"] S rs Pf
set_option maxHeartbeats 0 in
theorem zet(fu:Nat)(T:Txt K mg A):FnOk P w K mg base (CXx P w) 2 A.f_b A.d_b ["_law_board", "_law_stand"] (spD K 2 (d_b fu)):=by
 have G_z:=zfE (P:=P) (w:=w) (base:=base) fu T
 refine T.F_b.okX (k:=1) sc_b (fun vs H Q E h=>h.1) (fun cdv Ar outer s H vs Q E hr h=>?_)
 obtain⟨_,F,as,ws,ce,S,rs,Pf⟩:=h
 refine⟨toTS (Gx K) E _,(zad (zaV PassesOwn.leaving rfl (zeh rfl T.n_range (zab (zas (zcE rfl) (zcF K) rfl T.n_len PySem.boot_len (zab (zaa 1) zaf)) zaf)) (zaI (i:=2) sc_b.nd rfl (Or.inl rfl))
   (zah (za0 (zcy (zaE (zaa 1) (zaa 2) (fun _ _=>rfl)) zai) (zad (zat (i:=3) sc_b.nd rfl (Or.inl rfl) zeg)
   (zad (zaV PassesOwn.leaving rfl (zgy (zar (zb7 G_z) (hr.mono (by decide)) rfl T.g_z T.F_z.kp T.b_z (flies_cxOf.passes rfl) (zab (zaa 0) (zab (zaa 1) (zab (zaa 2) zaf))))) (zaI (i:=4) sc_b.nd rfl (Or.inl rfl))
   (zah (zaV PassesOwn.leaving rfl (zj4 (zaE (zaa 0) (zaa 4) (fun _ _=>rfl))) (zaI (i:=5) sc_b.nd rfl (Or.inl rfl))
   (zah (za0 (zkN (zaE (zaa 1) (zaa 5) (fun _ _=>rfl)) zai) (zah (zew (hr.cmp 1) (zaa 3) (zaE (zaa 1) (zaa 5) (fun _ _=>rfl)) zcH)) zaF)))))
   (zah (za0 (zk1 (zas (zcE rfl) (zcF K) rfl T.n_len PySem.boot_len (zab (zaa 3) zaf)) zai) (zah (zaA zcH)) zaF)))) zaF)))
   (zah (zaA zcH))),?_⟩
 exact zav (G:=Gx K) (E:=E) zbe ["_law_board", "_law_stand", "_law_point", "_law_hands", "_law_one", "_law_other"] S rs Pf
set_option maxHeartbeats 0 in
theorem zg2(fu:Nat)(T:Txt K mg A):FnOk P w K mg base (CXx P w) 1 A.f_p A.d_p ["self"] (spD K 1 (d_p fu)):=by
 refine T.F_p.okX (k:=0) zgV (fun vs H Q E h=>h.1) (fun cdv Ar outer s H vs Q E hr h=>?_)
 obtain⟨_,F,as,ws,ce,S,rs,Pf⟩:=h
 refine⟨toTS (Gx K) E _,(zah (zaA (zb6 (zab (zaE (zbk T.cls_Game T.na_Game_past (zaa 0)) zai (fun _ _=>rfl)) (zab (zbk T.cls_Game T.na_Game_first (zaa 0)) zaf))))),?_⟩
 exact zav (G:=Gx K) (E:=E) zbe ["self"] S rs Pf
set_option maxHeartbeats 0 in
theorem zg3(fu:Nat)(T:Txt K mg A):FnOk P w K mg base (CXx P w) 1 A.f_m A.d_m ["self"] (spD K 1 (d_m fu)):=by
 refine T.F_m.okX (k:=0) zgW (fun vs H Q E h=>h.1) (fun cdv Ar outer s H vs Q E hr h=>?_)
 obtain⟨_,F,as,ws,ce,S,rs,Pf⟩:=h
 refine⟨toTS (Gx K) E _,(zah (zaA (zaZ (zhx rfl rfl) (zhy K zec) rfl T.n_list PyProof.Rows.boot_list (zab (zbk T.cls_Game T.na_Game_done (zaa 0)) zaf)))),?_⟩
 exact zav (G:=Gx K) (E:=E) zbe ["self"] S rs Pf
set_option maxHeartbeats 0 in
theorem zg4(fu:Nat)(T:Txt K mg A):FnOk P w K mg base (CXx P w) 6 A.f_t A.d_t ["_law_game", "_law_board", "_law_hand"] (spD K 3 (d_t fu)):=by
 have G_j:=zct (P:=P) (w:=w) (base:=base) fu T
 have G_v:=zhR (P:=P) (w:=w) (base:=base) fu T
 have G_ha:=zjT (P:=P) (w:=w) (base:=base) fu T
 have G_p:=zg2 (P:=P) (w:=w) (base:=base) fu T
 have G_m:=zg3 (P:=P) (w:=w) (base:=base) fu T
 have G_b:=zet (P:=P) (w:=w) (base:=base) fu T
 have G_x:=zeD (P:=P) (w:=w) (base:=base) fu T
 refine T.F_t.okX (k:=5) sc_t (fun vs H Q E h=>h.1) (fun cdv Ar outer s H vs Q E hr h=>?_)
 obtain⟨_,F,as,ws,ce,S,rs,Pf⟩:=h
 refine⟨toTS (Gx K) E _,(zad (zat (i:=3) sc_t.nd rfl (Or.inl rfl) (zbw T.cls_Game T.mt_j G_j (hr.mono (by decide)) T.b_j (flies_cxOf.passes rfl) (zaa 0)))
   (zad (zat (i:=4) sc_t.nd rfl (Or.inl rfl) (zar G_v (hr.mono (by decide)) rfl T.g_v T.F_v.kp T.b_v (flies_cxOf.passes rfl) (zab (zaa 1) (zab (zaa 3) zaf))))
   (zad (zat (i:=5) sc_t.nd rfl (Or.inl rfl) (zar G_ha (hr.mono (by decide)) rfl T.g_ha T.F_ha.kp T.b_ha (flies_cxOf.passes rfl) (zab (zaa 0) zaf)))
   (zad (zat (i:=6) sc_t.nd rfl (Or.inl rfl) (zbK (zab zai (zab zai (zab zai zaf)))))
   (zad (zaV PassesOwn.leaving rfl (zj4 (zaE (zbw T.cls_Game T.mt_p G_p (hr.mono (by decide)) T.b_p (flies_cxOf.passes rfl) (zaa 0)) zai (fun _ _=>rfl))) (zaI (i:=7) sc_t.nd rfl (Or.inl rfl))
   (zah (zf5 (zaY (zaE (zaa 6) (zaa 7) (fun _ _=>rfl)) zai) (zfd (E:=E0) (zaa 6) (zaa 7)))))
   (zad (zpR PassesOwn.leaving rfl rfl T.n_enumerate (zab (zbw T.cls_Game T.mt_m G_m (hr.mono (by decide)) T.b_m (flies_cxOf.passes rfl) (zaa 0)) zaf) (zkX rfl (zc7 (zaI (i:=8) sc_t.nd rfl (Or.inl rfl)) (zc7 (zaI (i:=7) sc_t.nd rfl (Or.inl rfl)) zia)))
   (zah (za0 (zgv (zaa 7)) (zad (zat (i:=9) sc_t.nd rfl (Or.inl rfl) (zaE (zev (zab (zaa 2) (zab (zdj zai (zaa 2)) zaf))) (zaX (zaa 8) zai) (fun _ _=>rfl)))
   (zah (zf5 (zaY (zaE (zaa 6) (zaa 9) (fun _ _=>rfl)) zai) (zfd (E:=E0) (zaa 6) (zaa 9))))) zaF)))
   (zad (za0 (zk1 (zdj (zdj (zaE (zaa 4) zai (fun _ _=>rfl)) (zaE (zaa 4) zai (fun _ _=>rfl))) (zdj (zaE (zaa 5) zai (fun _ _=>rfl)) (zaE (zaa 5) zai (fun _ _=>rfl)))) (zdj (zaE (zaa 6) zai (fun _ _=>rfl)) (zaE (zaa 6) zai (fun _ _=>rfl)))) (zah (zaA zcH)) zaF)
   (zad (za0 (PW.pt (zpe (zfO (hr.cmp 8) (zrB (zas zhM (zos K) rfl T.n_sum PyProof.Rows.boot_sum (zab (zaa 4) zaf)) (zas (zcE rfl) (zcF K) rfl T.n_len PySem.boot_len (zab (zaa 1) zaf))) (zar G_b (hr.mono (by decide)) rfl T.g_b T.F_b.kp T.b_b (flies_cxOf.passes rfl) (zab (zaa 1) (zab (zaa 3) zaf)))) (zkP (zkN (zas zhM (zos K) rfl T.n_sum PyProof.Rows.boot_sum (zab (zaa 4) zaf)) (zas (zcE rfl) (zcF K) rfl T.n_len PySem.boot_len (zab (zaa 1) zaf)))))) (zah (zaA zcH)) zaF)
   (zah (zaA (zkO (zrd (zaE (zaa 5) zai (fun _ _=>rfl)) (zcp T.cls_Game T.mt_x G_x (hr.mono (by decide)) T.b_x (flies_cxOf.passes rfl) (zaa 0) (zab zai zaf))) (ziU (zrd (zaE (zaa 5) zai (fun _ _=>rfl)) (zcp T.cls_Game T.mt_x G_x (hr.mono (by decide)) T.b_x (flies_cxOf.passes rfl) (zaa 0) (zab zai zaf))))))))))))))),?_⟩
 exact zav (G:=Gx K) (E:=E) zbe ["_law_game", "_law_board", "_law_hand", "_law_stand", "_law_first", "_law_second", "_law_lays", "_law_what", "_law_k", "_law_one"] S rs Pf
set_option maxHeartbeats 0 in
theorem zeL(fu:Nat)(T:Txt K mg A):FnOk P w K mg base (CXx P w) 5 A.f_d A.d_d ["self", "board", "rule", "stand", "hand"] (spD K 5 (d_d fu)):=by
 have G_da:=ziv (P:=P) (w:=w) (base:=base) fu T
 have G_ca:=ziw (P:=P) (w:=w) (base:=base) fu T
 refine T.F_d.okX (k:=4) zeK (fun vs H Q E h=>h.1) (fun cdv Ar outer s H vs Q E hr h=>?_)
 obtain⟨_,F,as,ws,ce,S,rs,Pf⟩:=h
 refine⟨toTS (Gx K) E _,(zad (za0 (zfa (ze6 (zar G_da (hr.mono (by decide)) rfl T.g_da T.F_da.kp T.b_da (flies_cxOf.passes rfl) (zab (zaa 1) (zab (zaa 3) zaf))))) (zah (zdN (l:=[]) flies_cxOf rfl T.xt rfl rfl rfl hr.hd zlm (fun _ _=>trivial))) zaF)
   (zad (za0 (zfa (ze6 (zar G_ca (hr.mono (by decide)) rfl T.g_ca T.F_ca.kp T.b_ca (flies_cxOf.passes rfl) (zab (zaa 1) (zab (zaa 3) zaf))))) (zah (zdN (l:=[]) flies_cxOf rfl T.xt rfl rfl rfl hr.hd zlm (fun _ _=>trivial))) zaF)
   (zad (zga T.cls_Game T.na_Game_joined (zaa 0) (zaa 1))
   (zad (zga T.cls_Game T.na_Game_barring (zaa 0) (zaa 2))
   (zad (zga T.cls_Game T.na_Game_first (zaa 0) (zaa 4))
   (zad (zga T.cls_Game T.na_Game_past (zaa 0) (zbK (zab (zaa 3) zaf)))
   (zad (zga T.cls_Game T.na_Game_done (zaa 0) (zbK zaf))
   (zah (zga T.cls_Game T.na_Game_takings (zaa 0) (zbK zaf)))))))))),?_⟩
 exact zav (G:=Gx K) (E:=E) zrq ["self", "board", "rule", "stand", "hand"] S rs Pf
set_option maxHeartbeats 0 in
theorem zsg(fu:Nat)(T:Txt K mg A):FnOk P w K mg base (CXx P w) 8 A.f_law A.d_law ["_law_script"] (spD K 1 (d_law fu)):=by
 have G_i:=zb2 (P:=P) (w:=w) (base:=base) fu T
 have G_n:=zgZ (P:=P) (w:=w) (base:=base) fu T
 have G_h:=zfU (P:=P) (w:=w) (base:=base) fu T
 have G_o:=zg1 (P:=P) (w:=w) (base:=base) fu T
 have G_d:=zeL (P:=P) (w:=w) (base:=base) fu T
 have G_t:=zg4 (P:=P) (w:=w) (base:=base) fu T
 have G_l:=zd6 (P:=P) (w:=w) (base:=base) fu T
 have G_u:=zeF (P:=P) (w:=w) (base:=base) fu T
 have G_w:=zhS (P:=P) (w:=w) (base:=base) fu T
 refine T.F_law.okX (k:=7) sc_law (fun vs H Q E h=>h.1) (fun cdv Ar outer s H vs Q E hr h=>?_)
 obtain⟨_,F,as,ws,ce,S,rs,Pf⟩:=h
 refine⟨toTS (Gx K) E _,(zad (zat (i:=1) sc_law.nd rfl (Or.inl rfl) (zar G_i (hr.mono (by decide)) rfl T.g_i T.F_i.kp T.b_i (flies_cxOf.passes rfl) (zab (zaE (zkV zec (zaa 0) (zev (zab zai zaf))) zai (fun _ _=>rfl)) (zab zai zaf))))
   (zad (zf5 (zar (zpy G_n) (hr.mono (by decide)) rfl T.g_n T.F_n.kp T.b_n (flies_cxOf.passes rfl) (zab (zaa 1) zaf)) (zkX rfl (zc7 (zaI (i:=2) sc_law.nd rfl (Or.inl rfl)) (zc7 (zaI (i:=3) sc_law.nd rfl (Or.inl rfl)) zia))))
   (zad (zat (i:=4) sc_law.nd rfl (Or.inl rfl) (zar G_h (hr.mono (by decide)) rfl T.g_h T.F_h.kp T.b_h (flies_cxOf.passes rfl) (zab (zaa 2) (zab (zaa 3) zaf))))
   (zad (zat (i:=5) sc_law.nd rfl (Or.inl rfl) (zar G_o (hr.mono (by decide)) rfl T.g_o T.F_o.kp T.b_o (flies_cxOf.passes rfl) (zab (zaa 4) (zab (zjG zec (zaa 1) (zcI zai) (zcI (zaY zai (zaX (zaE (zaa 1) zai (fun _ _=>rfl)) zai)))) zaf))))
   (zad (zat (i:=6) sc_law.nd rfl (Or.inl rfl) (zaY zai (zaX (zaE (zaa 1) zai (fun _ _=>rfl)) zai)))
   (zad (zat (i:=7) sc_law.nd rfl (Or.inl rfl) (zpG T.mk_Game G_d (hr.mono (by decide)) rfl T.gc_Game T.b_d (flies_cxOf.passes rfl) (zab (zaa 4) (zab (zaE (zev (zab ze4 (zab ze4 zaf))) (zaX (zaE (zaa 1) zai (fun _ _=>rfl)) zai) (fun _ _=>rfl)) (zab (zaa 5) (zab (zaa 6) zaf))))))
   (zad (zaV PassesOwn.leaving rfl (zgy (zjG zec (zkV zec (zjG zec (zaa 0) (zcI zai) (zcI zai)) (zjG zec (zaa 1) (zcI zai) zgw)) zgw (zcI (zaX (zaE (zaa 1) zai (fun _ _=>rfl)) zai)))) (zaI (i:=8) sc_law.nd rfl (Or.inl rfl))
   (zah (za0 (zn4 (zbw T.cls_Game T.mt_l G_l (hr.mono (by decide)) T.b_l (flies_cxOf.passes rfl) (zaa 7))) (zad (za0 (PW.pt (zpe (zcy (zaX (zaa 8) zai) zai) (zkP (zfa (ze6 (zar G_w (hr.mono (by decide)) rfl T.g_w T.F_w.kp T.b_w (flies_cxOf.passes rfl) (zab (zaa 7) (zab (zaa 2) (zab (zn0 (zaa 8) zai) zaf))))))))) (zah (zbg (zcp T.cls_Game T.mt_u G_u (hr.mono (by decide)) T.b_u (flies_cxOf.passes rfl) (zaa 7) (zab zf4 zaf)))) zaF)
   (zah (za0 (zfa (ze6 (zar G_t (hr.mono (by decide)) rfl T.g_t T.F_t.kp T.b_t (flies_cxOf.passes rfl) (zab (zaa 7) (zab (zaa 4) (zab (zaa 6) zaf)))))) (zah (zaA zcH)) zaF))) zaF)))
   (zah (zaA (zar G_t (hr.mono (by decide)) rfl T.g_t T.F_t.kp T.b_t (flies_cxOf.passes rfl) (zab (zaa 7) (zab (zaa 4) (zab (zaa 6) zaf))))))))))))),?_⟩
 exact zav (G:=Gx K) (E:=E) zbe ["_law_script", "_law_xs", "_law_many", "_law_lines_here", "_law_board", "_law_stand", "_law_hand", "_law_game", "_law_cell"] S rs Pf
end
set_option maxHeartbeats 0 in
theorem all_mk{K:PySem.W.Frag}{h:Heap}{mg:Str->Option Value}{fa:Addr}(X:K.In h)(G:h.Ns mainGlobals mg)(hfa:mg "law" = some (.ref fa)){f0:Addr}{f1:Addr}{f2:Addr}{f3:Addr}{f4:Addr}{f5:Addr}{f6:Addr}{f7:Addr}{f8:Addr}{f9:Addr}{f10:Addr}{f11:Addr}{f12:Addr}{f13:Addr}{f14:Addr}{f15:Addr}{f16:Addr}{f17:Addr}{f18:Addr}{f19:Addr}{f20:Addr}{f21:Addr}{f22:Addr}{f23:Addr}{f24:Addr}{f25:Addr}{f26:Addr}{f27:Addr}{f28:Addr}{od28 an28:Option Addr}{sl28:Array (Option Value)}{oc28 kV28 dc28 pm28 cd28 ct28:Value}{f29:Addr}{f30:Addr}{f31:Addr}{f32:Addr}{f33:Addr}{f34:Addr}{f35:Addr}{f36:Addr}{f37:Addr}{f38:Addr}{f39:Addr}{f40:Addr}{C_Game:Addr}(ac_Game:PySem.W.nsIn K mainGlobals "Game" = some (some (.ref C_Game)))(pg_Game:PySem.W.plainGet K C_Game Str.empty=true)(hd_Game:PySem.W.hasDictIn K C_Game=true)(po_Game:PySem.W.plainOver K C_Game=true)(sa_Game:PySem.W.findIn K (.ref C_Game) "__setattr__" = some (some (.builtin "object.__setattr__")))(mi_Game:PySem.W.makesIn K C_Game=true)(kc_Game:PySem.W.keepIn K (.ref C_Game)=true)(na_Game_barring:PySem.W.findIn K (.ref C_Game) "barring" = some none)(na_Game_done:PySem.W.findIn K (.ref C_Game) "done" = some none)(na_Game_first:PySem.W.findIn K (.ref C_Game) "first" = some none)(na_Game_joined:PySem.W.findIn K (.ref C_Game) "joined" = some none)(na_Game_past:PySem.W.findIn K (.ref C_Game) "past" = some none)(na_Game_takings:PySem.W.findIn K (.ref C_Game) "takings" = some none)(a0:PySem.W.nsIn K mainGlobals "is_whole" = some (some (.ref f0)))(l0:FnK K "is_whole" "is_whole" zen f0)(a1:PySem.W.nsIn K mainGlobals "other_hand" = some (some (.ref f1)))(l1:FnK K "other_hand" "other_hand" zcV f1)(a2:PySem.W.nsIn K mainGlobals "patch_of" = some (some (.ref f2)))(l2:FnK K "patch_of" "patch_of" zeo f2)(a3:PySem.W.nsIn K mainGlobals "patches" = some (some (.ref f3)))(l3:FnK K "patches" "patches" zfA f3)(a4:PySem.W.nsIn K mainGlobals "is_stand" = some (some (.ref f4)))(l4:FnK K "is_stand" "is_stand" zdb f4)(a5:PySem.W.nsIn K mainGlobals "patch" = some (some (.ref f5)))(l5:FnK K "patch" "patch" ziq f5)(a6:PySem.W.nsIn K mainGlobals "rows" = some (some (.ref f6)))(l6:FnK K "rows" "rows" zi8 f6)(a7:PySem.W.nsIn K mainGlobals "lands" = some (some (.ref f7)))(l7:FnK K "lands" "lands" zgP f7)(a8:PySem.W.nsIn K mainGlobals "breaths" = some (some (.ref f8)))(l8:FnK K "breaths" "breaths" zd2 f8)(a9:PySem.W.nsIn K mainGlobals "sides" = some (some (.ref f9)))(l9:FnK K "sides" "sides" zfB f9)(a10:PySem.W.nsIn K mainGlobals "points_beside" = some (some (.ref f10)))(l10:FnK K "points_beside" "points_beside" zbL f10)(a11:PySem.W.nsIn K mainGlobals "is_sound" = some (some (.ref f11)))(l11:FnK K "is_sound" "is_sound" zdc f11)(a12:PySem.W.nsIn K mainGlobals "by_stones" = some (some (.ref f12)))(l12:FnK K "by_stones" "by_stones" zcq f12)(a13:PySem.W.nsIn K mainGlobals "by_land" = some (some (.ref f13)))(l13:FnK K "by_land" "by_land" zd3 f13)(a14:PySem.W.nsIn K mainGlobals "land_of" = some (some (.ref f14)))(l14:FnK K "land_of" "land_of" zd4 f14)(a15:PySem.W.nsIn K mainGlobals "laid" = some (some (.ref f15)))(l15:FnK K "laid" "laid" zlv f15)(a16:PySem.W.nsIn K mainGlobals "filled" = some (some (.ref f16)))(l16:FnK K "filled" "filled" zgQ f16)(a17:PySem.W.nsIn K mainGlobals "breathless" = some (some (.ref f17)))(l17:FnK K "breathless" "breathless" zcW f17)(a18:PySem.W.nsIn K mainGlobals "_law_stream" = some (some (.ref f18)))(l18:FnK K "_law_stream" "_law_stream" zcr f18)(a19:PySem.W.nsIn K mainGlobals "_law_joined" = some (some (.ref f19)))(l19:FnK K "_law_joined" "_law_joined" zbl f19)(a20:PySem.W.nsIn K mainGlobals "_law_lines" = some (some (.ref f20)))(l20:FnK K "_law_lines" "_law_lines" za4 f20)(a21:PySem.W.nsIn K mainGlobals "_law_row" = some (some (.ref f21)))(l21:FnK K "_law_row" "_law_row" zep f21)(a22:PySem.W.nsIn K mainGlobals "_law_breaths" = some (some (.ref f22)))(l22:FnK K "_law_breaths" "_law_breaths" zbZ f22)(a23:PySem.W.nsIn K mainGlobals "_law_tried" = some (some (.ref f23)))(l23:FnK K "_law_tried" "_law_tried" zcX f23)(a24:PySem.W.nsIn K mainGlobals "_law_sound" = some (some (.ref f24)))(l24:FnK K "_law_sound" "_law_sound" zbV f24)(a25:PySem.W.nsIn K mainGlobals "_law_laid" = some (some (.ref f25)))(l25:FnK K "_law_laid" "_law_laid" zdx f25)(a26:PySem.W.nsIn K mainGlobals "_law_open_land" = some (some (.ref f26)))(l26:FnK K "_law_open_land" "_law_open_land" zbB f26)(a27:PySem.W.nsIn K mainGlobals "_law_right" = some (some (.ref f27)))(l27:FnK K "_law_right" "_law_right" zcY f27)(a28:PySem.W.nsIn K mainGlobals "law" = some (some (.ref f28)))(l28:K.lookup f28=some ⟨oc28,od28,.func (PySem.W.fnOf "law" "law" (zee zjQ) (zdr zjQ) (zal zjQ) .none kV28 dc28 pm28 an28 cd28 ct28),sl28⟩)(c28:PySem.W.codeIn K cd28 "law" = true)(k28:PySem.W.keepIn K (.ref f28)=true)(a29:PySem.W.findIn K (.ref C_Game) "__init__" = some (some (.ref f29)))(fn29:PySem.W.isFn K (.ref f29)=true)(l29:FnK K "__init__" "Game.__init__" zbM f29)(a30:PySem.W.findIn K (.ref C_Game) "deed" = some (some (.ref f30)))(fn30:PySem.W.isFn K (.ref f30)=true)(l30:FnK K "deed" "Game.deed" zdy f30)(a31:PySem.W.findIn K (.ref C_Game) "came_at" = some (some (.ref f31)))(fn31:PySem.W.isFn K (.ref f31)=true)(l31:FnK K "came_at" "Game.came_at" zb0 f31)(a32:PySem.W.findIn K (.ref C_Game) "is_barring" = some (some (.ref f32)))(fn32:PySem.W.isFn K (.ref f32)=true)(l32:FnK K "is_barring" "Game.is_barring" zbr f32)(a33:PySem.W.findIn K (.ref C_Game) "stand" = some (some (.ref f33)))(fn33:PySem.W.isFn K (.ref f33)=true)(l33:FnK K "stand" "Game.stand" zcZ f33)(a34:PySem.W.findIn K (.ref C_Game) "hand" = some (some (.ref f34)))(fn34:PySem.W.isFn K (.ref f34)=true)(l34:FnK K "hand" "Game.hand" zdz f34)(a35:PySem.W.findIn K (.ref C_Game) "hand_at" = some (some (.ref f35)))(fn35:PySem.W.isFn K (.ref f35)=true)(l35:FnK K "hand_at" "Game.hand_at" zb1 f35)(a36:PySem.W.findIn K (.ref C_Game) "deeds" = some (some (.ref f36)))(fn36:PySem.W.isFn K (.ref f36)=true)(l36:FnK K "deeds" "Game.deeds" zc0 f36)(a37:PySem.W.findIn K (.ref C_Game) "lost" = some (some (.ref f37)))(fn37:PySem.W.isFn K (.ref f37)=true)(l37:FnK K "lost" "Game.lost" zcs f37)(a38:PySem.W.findIn K (.ref C_Game) "ended" = some (some (.ref f38)))(fn38:PySem.W.isFn K (.ref f38)=true)(l38:FnK K "ended" "Game.ended" zc1 f38)(a39:PySem.W.findIn K (.ref C_Game) "board" = some (some (.ref f39)))(fn39:PySem.W.isFn K (.ref f39)=true)(l39:FnK K "board" "Game.board" zc2 f39)(a40:PySem.W.findIn K (.ref C_Game) "begin" = some (some (.ref f40)))(fn40:PySem.W.isFn K (.ref f40)=true)(l40:FnK K "begin" "Game.begin" zc3 f40){fX0:Addr}{C_Again:Addr}(ac_Again:PySem.W.nsIn K mainGlobals "Again" = some (some (.ref C_Again)))(ex_Again:exI K (clOf K "Again") (clOf K "StoneError") "number" = true)(aX0:PySem.W.findIn K (.ref C_Again) "__init__" = some (some (.ref fX0)))(fnX0:PySem.W.isFn K (.ref fX0)=true)(lX0:FnK K "__init__" "Again.__init__" zbC fX0){t0:Tok}(q0:PySem.W.nsIn K mainGlobals "MOST_DEEDS" = some (some (.int 300 t0)))(z_all:PySem.W.nsIn K mainGlobals "all" = some none)(z_bool:PySem.W.nsIn K mainGlobals "bool" = some none)(z_enumerate:PySem.W.nsIn K mainGlobals "enumerate" = some none)(z_int:PySem.W.nsIn K mainGlobals "int" = some none)(z_isinstance:PySem.W.nsIn K mainGlobals "isinstance" = some none)(z_len:PySem.W.nsIn K mainGlobals "len" = some none)(z_list:PySem.W.nsIn K mainGlobals "list" = some none)(z_range:PySem.W.nsIn K mainGlobals "range" = some none)(z_sorted:PySem.W.nsIn K mainGlobals "sorted" = some none)(z_sum:PySem.W.nsIn K mainGlobals "sum" = some none)(z_tuple:PySem.W.nsIn K mainGlobals "tuple" = some none)(xt:ztO K XTB=true)(nl:noL K=true)
  : ∃A:Adr,Txt K mg A/\fa=A.f_law/\∀(s:Shared) (v:Value),BindsTo s A.d_law ⟨[v],[]⟩ [("_law_script",v)]:=by
 have e:=hfa.symm.trans (PySem.W.mg_of X G a28)
 cases e
 have ec_Game:C_Game=clOf K "Game" := by unfold VS.clOf;rw[ac_Game]
 subst ec_Game
 obtain⟨d0,F0⟩:=l0
 have b0:=F0.binds (ps:=["thing"]) fun _ _ _ _ _ _ us hl=>VS.us1 (fun _=>rfl) us hl
 obtain⟨d1,F1⟩:=l1
 have b1:=F1.binds (ps:=["hand"]) fun _ _ _ _ _ _ us hl=>VS.us1 (fun _=>rfl) us hl
 obtain⟨d2,F2⟩:=l2
 have b2:=F2.binds (ps:=["board", "marks", "start"]) fun _ _ _ _ _ _ us hl=>VS.us3 (fun _ _ _=>rfl) us hl
 obtain⟨d3,F3⟩:=l3
 have b3:=F3.binds (ps:=["board", "marks"]) fun _ _ _ _ _ _ us hl=>VS.us2 (fun _ _=>rfl) us hl
 obtain⟨d4,F4⟩:=l4
 have b4:=F4.binds (ps:=["board", "thing"]) fun _ _ _ _ _ _ us hl=>VS.us2 (fun _ _=>rfl) us hl
 obtain⟨d5,F5⟩:=l5
 have b5:=F5.binds (ps:=["board", "stand", "point"]) fun _ _ _ _ _ _ us hl=>VS.us3 (fun _ _ _=>rfl) us hl
 obtain⟨d6,F6⟩:=l6
 have b6:=F6.binds (ps:=["board", "stand"]) fun _ _ _ _ _ _ us hl=>VS.us2 (fun _ _=>rfl) us hl
 obtain⟨d7,F7⟩:=l7
 have b7:=F7.binds (ps:=["board", "stand"]) fun _ _ _ _ _ _ us hl=>VS.us2 (fun _ _=>rfl) us hl
 obtain⟨d8,F8⟩:=l8
 have b8:=F8.binds (ps:=["board", "stand", "row"]) fun _ _ _ _ _ _ us hl=>VS.us3 (fun _ _ _=>rfl) us hl
 obtain⟨d9,F9⟩:=l9
 have b9:=F9.binds (ps:=["board", "stand", "land"]) fun _ _ _ _ _ _ us hl=>VS.us3 (fun _ _ _=>rfl) us hl
 obtain⟨d10,F10⟩:=l10
 have b10:=F10.binds (ps:=["board", "points"]) fun _ _ _ _ _ _ us hl=>VS.us2 (fun _ _=>rfl) us hl
 obtain⟨d11,F11⟩:=l11
 have b11:=F11.binds (ps:=["board", "stand"]) fun _ _ _ _ _ _ us hl=>VS.us2 (fun _ _=>rfl) us hl
 obtain⟨d12,F12⟩:=l12
 have b12:=F12.binds (ps:=["board", "stand"]) fun _ _ _ _ _ _ us hl=>VS.us2 (fun _ _=>rfl) us hl
 obtain⟨d13,F13⟩:=l13
 have b13:=F13.binds (ps:=["game"]) fun _ _ _ _ _ _ us hl=>VS.us1 (fun _=>rfl) us hl
 obtain⟨d14,F14⟩:=l14
 have b14:=F14.binds (ps:=["board", "stand", "hand"]) fun _ _ _ _ _ _ us hl=>VS.us3 (fun _ _ _=>rfl) us hl
 obtain⟨d15,F15⟩:=l15
 have b15:=F15.binds (ps:=["board", "stand", "hand", "point"]) fun _ _ _ _ _ _ us hl=>VS.us4 (fun _ _ _ _=>rfl) us hl
 obtain⟨d16,F16⟩:=l16
 have b16:=F16.binds (ps:=["stand", "points", "what"]) fun _ _ _ _ _ _ us hl=>VS.us3 (fun _ _ _=>rfl) us hl
 obtain⟨d17,F17⟩:=l17
 have b17:=F17.binds (ps:=["board", "stand", "hand"]) fun _ _ _ _ _ _ us hl=>VS.us3 (fun _ _ _=>rfl) us hl
 obtain⟨d18,F18⟩:=l18
 have b18:=F18.binds (ps:=["_law_cell", "_law_many"]) fun _ _ _ _ _ _ us hl=>VS.us2 (fun _ _=>rfl) us hl
 obtain⟨d19,F19⟩:=l19
 have b19:=F19.binds (ps:=["_law_many", "_law_lines_here"]) fun _ _ _ _ _ _ us hl=>VS.us2 (fun _ _=>rfl) us hl
 obtain⟨d20,F20⟩:=l20
 have b20:=F20.binds (ps:=["_law_xs"]) fun _ _ _ _ _ _ us hl=>VS.us1 (fun _=>rfl) us hl
 obtain⟨d21,F21⟩:=l21
 have b21:=F21.binds (ps:=["_law_board", "_law_stand", "_law_point"]) fun _ _ _ _ _ _ us hl=>VS.us3 (fun _ _ _=>rfl) us hl
 obtain⟨d22,F22⟩:=l22
 have b22:=F22.binds (ps:=["_law_board", "_law_stand", "_law_row_here"]) fun _ _ _ _ _ _ us hl=>VS.us3 (fun _ _ _=>rfl) us hl
 obtain⟨d23,F23⟩:=l23
 have b23:=F23.binds (ps:=["_law_board", "_law_stand", "_law_hand", "_law_point"]) fun _ _ _ _ _ _ us hl=>VS.us4 (fun _ _ _ _=>rfl) us hl
 obtain⟨d24,F24⟩:=l24
 have b24:=F24.binds (ps:=["_law_board", "_law_cells"]) fun _ _ _ _ _ _ us hl=>VS.us2 (fun _ _=>rfl) us hl
 obtain⟨d25,F25⟩:=l25
 have b25:=F25.binds (ps:=["_law_game", "_law_many", "_law_start"]) fun _ _ _ _ _ _ us hl=>VS.us3 (fun _ _ _=>rfl) us hl
 obtain⟨d26,F26⟩:=l26
 have b26:=F26.binds (ps:=["_law_board", "_law_stand"]) fun _ _ _ _ _ _ us hl=>VS.us2 (fun _ _=>rfl) us hl
 obtain⟨d27,F27⟩:=l27
 have b27:=F27.binds (ps:=["_law_game", "_law_board", "_law_hand"]) fun _ _ _ _ _ _ us hl=>VS.us3 (fun _ _ _=>rfl) us hl
 have F28:=znW (st:=zjQ) l28 c28 k28
 have b28:=F28.binds (ps:=["_law_script"]) fun _ _ _ _ _ _ us hl=>VS.us1 (fun _=>rfl) us hl
 obtain⟨d29,F29⟩:=l29
 have b29:=F29.binds (ps:=["self", "board", "rule", "stand", "hand"]) fun _ _ _ _ _ _ us hl=>VS.us5 (fun _ _ _ _ _=>rfl) us hl
 obtain⟨d30,F30⟩:=l30
 have b30:=F30.binds (ps:=["self", "what"]) fun _ _ _ _ _ _ us hl=>VS.us2 (fun _ _=>rfl) us hl
 obtain⟨d31,F31⟩:=l31
 have b31:=F31.binds (ps:=["self", "behind"]) fun _ _ _ _ _ _ us hl=>VS.us2 (fun _ _=>rfl) us hl
 obtain⟨d32,F32⟩:=l32
 have b32:=F32.binds (ps:=["self", "moment"]) fun _ _ _ _ _ _ us hl=>VS.us2 (fun _ _=>rfl) us hl
 obtain⟨d33,F33⟩:=l33
 have b33:=F33.binds (ps:=["self"]) fun _ _ _ _ _ _ us hl=>VS.us1 (fun _=>rfl) us hl
 obtain⟨d34,F34⟩:=l34
 have b34:=F34.binds (ps:=["self"]) fun _ _ _ _ _ _ us hl=>VS.us1 (fun _=>rfl) us hl
 obtain⟨d35,F35⟩:=l35
 have b35:=F35.binds (ps:=["self", "moment"]) fun _ _ _ _ _ _ us hl=>VS.us2 (fun _ _=>rfl) us hl
 obtain⟨d36,F36⟩:=l36
 have b36:=F36.binds (ps:=["self"]) fun _ _ _ _ _ _ us hl=>VS.us1 (fun _=>rfl) us hl
 obtain⟨d37,F37⟩:=l37
 have b37:=F37.binds (ps:=["self", "hand"]) fun _ _ _ _ _ _ us hl=>VS.us2 (fun _ _=>rfl) us hl
 obtain⟨d38,F38⟩:=l38
 have b38:=F38.binds (ps:=["self"]) fun _ _ _ _ _ _ us hl=>VS.us1 (fun _=>rfl) us hl
 obtain⟨d39,F39⟩:=l39
 have b39:=F39.binds (ps:=["self"]) fun _ _ _ _ _ _ us hl=>VS.us1 (fun _=>rfl) us hl
 obtain⟨d40,F40⟩:=l40
 have b40:=F40.binds (ps:=["self"]) fun _ _ _ _ _ _ us hl=>VS.us1 (fun _=>rfl) us hl
 have ec_Again:C_Again=clOf K "Again" := by unfold VS.clOf;rw[ac_Again]
 subst ec_Again
 obtain⟨dX0,FX0⟩:=lX0
 have bX0:=FX0.binds (ps:=["self", "number"]) fun _ _ _ _ _ _ us hl=>VS.us2 (fun _ _=>rfl) us hl
 refine⟨⟨_,_,_,_,_,_,_,_,_,_,_,_,_,_,_,_,_,_,_,_,_,_,_,_,_,_,_,_,_,_,_,_,_,_,_,_,_,_,_,_,_,_,_,_,_,_,_,_,_,_,_,_,_,_,_,_,_,_,_,_,_,_,_,_,_,_,_,_,_,_,_,_,_,_,_,_,_,_,_,_,_,_,_,_⟩,⟨PySem.W.mg_of X G a0,F0,b0,PySem.W.mg_of X G a1,F1,b1,PySem.W.mg_of X G a2,F2,b2,PySem.W.mg_of X G a3,F3,b3,PySem.W.mg_of X G a4,F4,b4,PySem.W.mg_of X G a5,F5,b5,PySem.W.mg_of X G a6,F6,b6,PySem.W.mg_of X G a7,F7,b7,PySem.W.mg_of X G a8,F8,b8,PySem.W.mg_of X G a9,F9,b9,PySem.W.mg_of X G a10,F10,b10,PySem.W.mg_of X G a11,F11,b11,PySem.W.mg_of X G a12,F12,b12,PySem.W.mg_of X G a13,F13,b13,PySem.W.mg_of X G a14,F14,b14,PySem.W.mg_of X G a15,F15,b15,PySem.W.mg_of X G a16,F16,b16,PySem.W.mg_of X G a17,F17,b17,PySem.W.mg_of X G a18,F18,b18,PySem.W.mg_of X G a19,F19,b19,PySem.W.mg_of X G a20,F20,b20,PySem.W.mg_of X G a21,F21,b21,PySem.W.mg_of X G a22,F22,b22,PySem.W.mg_of X G a23,F23,b23,PySem.W.mg_of X G a24,F24,b24,PySem.W.mg_of X G a25,F25,b25,PySem.W.mg_of X G a26,F26,b26,PySem.W.mg_of X G a27,F27,b27,PySem.W.mg_of X G a28,F28,b28,⟨a29,fn29,F29.kp⟩,F29,b29,⟨a30,fn30,F30.kp⟩,F30,b30,⟨a31,fn31,F31.kp⟩,F31,b31,⟨a32,fn32,F32.kp⟩,F32,b32,⟨a33,fn33,F33.kp⟩,F33,b33,⟨a34,fn34,F34.kp⟩,F34,b34,⟨a35,fn35,F35.kp⟩,F35,b35,⟨a36,fn36,F36.kp⟩,F36,b36,⟨a37,fn37,F37.kp⟩,F37,b37,⟨a38,fn38,F38.kp⟩,F38,b38,⟨a39,fn39,F39.kp⟩,F39,b39,⟨a40,fn40,F40.kp⟩,F40,b40,ztT ex_Again aX0 fnX0,FX0,bX0,⟨pg_Game,hd_Game,po_Game,sa_Game⟩,⟨mi_Game,a29,fn29,kc_Game⟩,PySem.W.mg_of X G ac_Game,na_Game_barring,na_Game_done,na_Game_first,na_Game_joined,na_Game_past,na_Game_takings,⟨_,PySem.W.mg_of X G q0⟩,PySem.W.mg_none_of X G z_all,PySem.W.mg_none_of X G z_bool,PySem.W.mg_none_of X G z_enumerate,PySem.W.mg_none_of X G z_int,PySem.W.mg_none_of X G z_isinstance,PySem.W.mg_none_of X G z_len,PySem.W.mg_none_of X G z_list,PySem.W.mg_none_of X G z_range,PySem.W.mg_none_of X G z_sorted,PySem.W.mg_none_of X G z_sum,PySem.W.mg_none_of X G z_tuple,ztP X G xt,nl⟩,rfl,fun s v=>.of_eq rfl⟩
end K25
namespace K25
open L2 VS
def FU:Nat:=1000
theorem zQn{sl sl':Sl}{ce:Ce}{i:Nat}{w:Option W}{b:DS}{Q:O->Prop}(q:Run b sl' ce Q)(h:SetAt sl i w sl':=by repeat (first|exact SetAt.zero|apply SetAt.succ)):Run b (sl.set i w) ce Q:=zaj h q
local macro_rules|`(tactic| trivial)=>`(tactic| repeat' (first
 | with_reducible (refine zaj (by repeat (first|exact SetAt.zero|apply SetAt.succ)) ?_)
 | with_reducible (refine id (α:=_=some (R.ok _ _)) ?_;assumption)
 | (with_reducible apply zag);rfl
 | with_reducible exact za1
 | with_reducible apply zaJ
 | with_reducible apply zdn
 | with_reducible apply zaW
 | with_reducible apply zcj
 | with_reducible apply zaB
 | with_reducible apply zak
 | with_reducible exact zam
 | with_reducible apply za9
 | with_reducible apply zih
 | with_reducible apply zla
 | with_reducible apply zcM
 | with_reducible exact ev_yes
 | with_reducible apply zrT
 | with_reducible apply zlb
 | with_reducible apply zlc
 | with_reducible exact eqI0
 | with_reducible exact eqE0
 | with_reducible exact eqE1
 | with_reducible exact eqEN0
 | with_reducible exact eqEN1
 | with_reducible exact zuv
 | with_reducible exact inS0
 | with_reducible exact inS1
 | with_reducible exact zrX
 | with_reducible exact inSL1
 | with_reducible exact inL0
 | with_reducible exact inL1
 | with_reducible (apply inC0;assumption)
 | with_reducible (apply zvc;assumption)
 | with_reducible (apply dinC0;assumption)
 | with_reducible (apply ztL;assumption)
 | ((with_reducible apply zlg);trivial;done)
 | with_reducible apply zsz
 | with_reducible apply ztK
 | with_reducible apply zsy
 | with_reducible apply lcF
 | with_reducible apply ztJ
 | with_reducible apply lcC
 | with_reducible apply zek
 | with_reducible apply zgH
 | with_reducible apply zfn
 | with_reducible apply zhG
 | with_reducible apply zjN
 | with_reducible apply SrcFix.is
 | with_reducible (refine id (α:=LstOf _ _ _) ?_;first|assumption|exact .fr _|exact .cl (by assumption))
 | with_reducible apply zhF
 | with_reducible apply zrS
 | with_reducible apply zck
 | with_reducible apply zeB
 | with_reducible apply zcN
 | with_reducible apply zm1
 | with_reducible exact lf_isB0
 | with_reducible exact lf_isB1
 | with_reducible exact eqB0
 | with_reducible exact eqB1
 | with_reducible exact isiB
 | with_reducible exact zli
 | with_reducible (apply zpu;assumption)
 | with_reducible exact zfl
 | with_reducible apply zcL
 | with_reducible apply zk9
 | with_reducible apply zoi
 | with_reducible apply zoj
 | with_reducible apply zie
 | with_reducible apply zap
 | with_reducible apply ziX
 | with_reducible apply zaT
 | with_reducible apply za6
 | with_reducible apply zao
 | with_reducible apply zf9
 | with_reducible apply zpo
 | with_reducible apply zaQ
 | with_reducible apply zbi
 | with_reducible apply zaK
 | with_reducible apply zdu
 | with_reducible (refine id (α:=_=_) ?_;assumption)
 | (refine id (α:=(_:Nat)<_) ?_;first|assumption|omega)
 | (refine id (α:=(_:Nat)<=_) ?_;first|assumption|omega|decide|(simp only[length_cons,length_nil];decide))
 | with_reducible (apply zrV;first|assumption|omega)
 | with_reducible (apply zbz;first|assumption|omega)
 | with_reducible (apply zok;first|assumption|omega)
 | with_reducible (apply zol;assumption;first|assumption|omega)
 | with_reducible (apply zcK;assumption)
 | with_reducible (apply ziY;assumption;first|assumption|omega)
 | with_reducible (apply lf_sortCF;assumption;first|assumption|omega)
 | with_reducible (apply tupCN;assumption;first|assumption|omega)
 | with_reducible (apply tupCB;assumption;first|assumption|omega)
 | with_reducible (apply zpt;assumption;first|assumption|omega)
 | with_reducible (apply tupLN;first|assumption|omega)
 | with_reducible (apply zrZ;first|assumption|omega)
 | with_reducible (apply zm0;first|assumption|omega)
 | ((with_reducible apply zps);rfl;rfl;first|assumption|exact mul_small (.inr (by omega))|exact mul_small (.inl (by omega)))
 | with_reducible (apply lf_listL;first|assumption|omega)
 | with_reducible (apply lf_sortS;first|assumption|omega)
 | with_reducible exact eqLL0
 | with_reducible exact eqLL1
 | with_reducible (apply eqLC1;assumption)
 | with_reducible (apply eqSC1;assumption)
 | with_reducible exact zle
 | with_reducible exact zlf
 | with_reducible exact zld
 | with_reducible (apply zpp;assumption)
 | intro _
 | ((with_reducible apply zbX)<;>rfl)
 | ((with_reducible apply zgI)<;>rfl)
 | ((with_reducible apply zlh)<;>rfl)
 | ((with_reducible apply lf_fLe)<;>rfl)
 | ((with_reducible apply zhH)<;>rfl)
 | ((with_reducible apply lf_fGe)<;>rfl)
 | ((with_reducible apply zcP)<;>rfl)
 | ((with_reducible apply zpr)<;>rfl)
 | ((with_reducible apply lf_fNeg);rfl)
 | ((with_reducible apply zrY);rfl)
 | with_reducible exact isiN
 | with_reducible exact isiNB
 | with_reducible exact isiI
 | with_reducible exact isiIB
 | ((with_reducible apply lf_min)<;>rfl)
 | ((with_reducible apply lf_max)<;>rfl)
 | ((with_reducible apply zfp);rfl;rfl;omega)
 | ((with_reducible apply zgJ);rfl;rfl;omega)
 | (refine id (α:=(_:Nat)=_) ?_;rfl)
 | with_reducible rfl))
def rC(r:List Nat):C:=.lst (r.map nW)
def upR(rows:List (List Nat))(p q:Nat):List (List Nat):=rows.set p (rows.getD p []++[q])
def zsh(rows:List (List Nat))(p q:Nat):List (List Nat):=upR (upR rows p q) q p
theorem zix(rows:List (List Nat))(p q:Nat):(upR rows p q).length=rows.length:=by simp[upR]
theorem zi9(rows:List (List Nat))(p q:Nat):(zsh rows p q).length=rows.length:=by simp[zsh,zix]
theorem zg5{rows:List (List Nat)}{p:Nat}(hp:p<rows.length)(q i:Nat):(upR rows p q).getD i []=if i=p then rows.getD p []++[q] else rows.getD i []:=by
 unfold upR
 simp only[getD_eq_getElem?_getD]
 by_cases h:i=p
 ·subst h;simp[hp]
 ·rw[getElem?_set_ne (Ne.symm h)];simp[h]
structure Rows (n:Nat) (rows:List (List Nat)):Prop where
 len:rows.length=n
 bd:∀i j,j∈rows.getD i []->j<n
 sym:∀i j,j∈rows.getD i []->i∈rows.getD j []
section
variable {ce:Ce} {n mS:Nat} {rows:List (List Nat)} {gs:Ce}
abbrev zl8(ce:Ce)(n:Nat):W:=.lst ((List.range n).map fun i=>W.cel (ce.length+i))
abbrev bC(ce:Ce)(rows:List (List Nat))(gs:Ce):Ce:=ce++(rows.map rC++gs)
theorem zou{p:Nat}(hp:p<rows.length):(bC ce rows gs)[ce.length+p]?=some (rC (rows.getD p [])):=by
 rw[zsx,getElem?_append_left (by simpa using hp),getElem?_map,getD_eq_getElem?_getD]
 simp[hp]
theorem zsi{p q:Nat}(hp:p<rows.length):(bC ce rows gs).set (ce.length+p) (.lst ((rows.getD p []).map nW++[nW q]))=bC ce (upR rows p q) gs:=by
 rw[zud,set_append_left _ _ (by simpa using hp)]
 show _=ce++((rows.set p (rows.getD p []++[q])).map rC++gs)
 rw[map_set]
 have e:C.lst ((rows.getD p []).map nW++[nW q])=rC (rows.getD p []++[q]):=by simp only[rC,map_append,map_cons,map_nil]
 rw[e]
theorem zsj(c:Ce){p:Nat}(hp:p<n):ixW c (zl8 ce n) (nW p)=some (W.cel (ce.length+p)):=by
 rw[zfQ (xs:=(List.range n).map fun i=>W.cel (ce.length+i)) rfl,getElem?_map]
 simp[hp]
theorem ap1{sl:Sl}{a b p q:Nat}(h4:sl[mS]?=some (some (zl8 ce n)))(ha:sl[a]?=some (some (nW p)))(hb:sl[b]?=some (some (nW q)))(hr:rows.length=n)(hp:p<n)(hz:(rows.getD p []).length<PySem.sizeLine) :
  dEx (dMt zex (zaL ixW (zae mS) (zae a)) (zac (zae b) zan)) sl (bC ce rows gs)=some (.go .nx sl (bC ce (upR rows p q) gs)):=by
 have hp':p<rows.length:=by omega
 have g:=zou (ce:=ce) (gs:=gs) hp'
 have e1:zaL ixW (zae mS) (zae a) sl (bC ce rows gs)=some (.ok (W.cel (ce.length+p)) (bC ce rows gs)):=by
  simp only[zrF,zmS,ziW,h4,ha,zob,zsj _ hp,map_some]
 have e2:zac (zae b) zan sl (bC ce rows gs)=some (.ok [nW q] (bC ce rows gs)):=by
  simp only[zk3,zmS,ziW,hb,zoc,zrE]
 have lq:zl7 (bC ce rows gs) (W.cel (ce.length+p))=some ():=by
  unfold zl7
  rw[zcK (xs:=(rows.getD p []).map nW) g]
  rfl
 have ap:zex (W.cel (ce.length+p)) [nW q] (bC ce rows gs)=some (.ok .non (bC ce (upR rows p q) gs)):=by
  rw[zmT (zez (xs:=(rows.getD p []).map nW) g) (by rw[length_map];exact hz),zsi hp']
 generalize bC ce rows gs=c1 at *
 generalize bC ce (upR rows p q) gs=c2 at *
 simp only[ztD,ztI,zmS,ztz,zob,e1,e2,lq,ap,map_some]
theorem ap2{sl:Sl}{a b p q:Nat}(h4:sl[mS]?=some (some (zl8 ce n)))(ha:sl[a]?=some (some (nW p)))(hb:sl[b]?=some (some (nW q)))(hr:rows.length=n)(hp:p<n)(hq:q<n)(hz:∀i,(rows.getD i []).length<1000) :
  zaq (dEx (dMt zex (zaL ixW (zae mS) (zae a)) (zac (zae b) zan))) (dEx (dMt zex (zaL ixW (zae mS) (zae b)) (zac (zae a) zan))) sl (bC ce rows gs)=some (.go .nx sl (bC ce (zsh rows p q) gs)):=by
 have z:(1001:Nat)<PySem.sizeLine:=by decide
 rw[zk2 (ap1 h4 ha hb hr hp (by have:=hz p;omega))]
 refine ap1 h4 hb ha (by rw[zix];exact hr) hq ?_
 rw[zg5 (by omega)]
 split
 ·have:=hz p;rw[length_append,length_singleton];omega
 ·have:=hz q;omega
theorem zjU{p:Nat}(hp:p<rows.length)(h:(rows.getD p []).length<=60)(cs:Sl):dBi zbn (zac (dBi (zaS zbf) (zac (zae 0) zan)) zan) (some (W.cel (ce.length+p))::cs) (bC ce rows gs)=some (.ok (wT (zcz (rows.getD p []))) (bC ce rows gs)):=by
 have g:=zou (ce:=ce) (gs:=gs) hp
 have hz:(61:Nat)<PySem.sizeLine:=by decide
 have l1:(srt (toI (rows.getD p []))).length=(rows.getD p []).length:=by rw[(zbu _).length_eq,zbG]
 have so:zaS zbf [W.cel (ce.length+p)] (bC ce rows gs)=some (.ok (.lst ((zcz (rows.getD p [])).map nW)) (bC ce rows gs)):=by
  simp only[zaS,zcK (xs:=(rows.getD p []).map nW) g,zeP,zbG]
  rw[if_pos (by omega),zk4 _ (by rw[length_map,l1];omega),zdK]
 have tu:zbn [.lst ((zcz (rows.getD p [])).map nW)] (bC ce rows gs)=some (.ok (wT (zcz (rows.getD p []))) (bC ce rows gs)):=by
  have e:((zcz (rows.getD p [])).map nW).length=(rows.getD p []).length:=by rw[<- zdK,length_map,l1]
  show ztr _ _=_
  rw[zrG _ (by rw[e];omega)]
  rfl
 generalize bC ce rows gs=c1 at *
 simp only[ztE,zmS,zk3,ziW,getElem?_cons_zero,zoc,zrE,so,tu]
theorem zhT(hr:rows.length=n)(h36:n<=36)(h:∀i,(rows.getD i []).length<=60){sl:Sl}(h4:sl[mS]?=some (some (zl8 ce n))) :
  dLC zbf [] (dIL (zae mS)) zdH (dBi zbn (zac (dBi (zaS zbf) (zac (zae 0) zan)) zan)) sl (bC ce rows gs)=some (.ok (.lst (((List.range n).map fun i=>zcz (rows.getD i [])).map wT)) (bC ce rows gs)):=by
 have hz:=zfj
 have hi:dIL (zae mS) sl (bC ce rows gs)=some (.ok (.lst ((List.range n).map fun i=>W.cel (ce.length+i))) (bC ce rows gs)):=by
  show bnd (zae mS sl) (fun w=>look fun ce=>zib ce w) (bC ce rows gs)=_
  rw[zbR (a:=zl8 ce n) (ce':=bC ce rows gs) (by simp only[ziW,h4])]
  rfl
 obtain⟨zs,e,pz⟩:=zrM (mk:=zbf) (js:=[]) (s:=.lst ((List.range n).map fun i=>W.cel (ce.length+i))) (e:=dBi zbn (zac (dBi (zaS zbf) (zac (zae 0) zan)) zan)) hi trivial (fun x y=>∃i,i<n/\x=W.cel (ce.length+i)/\y=wT (zcz (rows.getD i []))) (fun x hx=>by
  simp only[Src.items,mem_map,mem_range] at hx
  obtain⟨i,hi,rfl⟩:=hx
  exact⟨_,⟨i,hi,rfl,rfl⟩,zjU (by omega) (h i) _⟩) (by simp only[Src.items,length_map,length_range];omega)
 rw[e]
 obtain⟨hl,hn⟩:=VS.Paired.nth pz
 simp only[Src.items,length_map,length_range] at hl
 have ez:zs=((List.range n).map fun i=>zcz (rows.getD i [])).map wT:=by
  apply ext_getElem?
  intro i
  by_cases hi:i<n
  ·have h1:((List.range n).map fun i=>W.cel (ce.length+i))[i]?=some (W.cel (ce.length+i)):=by simp[hi]
   have h2:zs[i]?=some (zs[i]'(by omega)):=getElem?_eq_getElem _
   obtain⟨j,_,q1,q2⟩:=hn i _ _ h1 h2
   have hij:i=j:=by
    injection q1 with q1
    omega
   subst hij
   rw[h2,q2]
   simp[hi]
  ·rw[getElem?_eq_none (by omega),getElem?_eq_none (by simp;omega)]
 rw[zk4 _ (by rw[<- hl];omega),ez]
theorem znt{di:Sl->M Src}{sl:Sl}(hi:di sl ce=some (.ok (.rng 0 n) ce))(h36:n<=36):dLC zbf [] di zdH (zbW zan) sl ce=some (.ok (zl8 ce n) (bC ce (List.replicate n []) [])):=by
 have hz:=zfj
 show bnd (di sl) (fun s=>bnd (lcL s (zdG [] sl) zdH (zbW zan) s.items []) zbf) ce=_
 have al:=zhD (s:=.rng 0 n) (cs:=zdG [] sl) (fun _=>trivial) (Src.rng 0 n).items [] ce (by rw[zfk];simp;omega)
 rw[zbR hi,zbR al,zfk,zk4 _ (by simp;omega)]
 simp[bC,rC,zl8]
end
theorem ziy{fin:Ce->Ce->W->Option (R W)}{n:Nat}{body:DS}{ws:List W}{ce:Ce}{P:W->Ce->Prop}(sl:Sl)(e:ws.map some++List.replicate (n-ws.length) none=sl)(h:Run body sl ce (Rt fun v ce'=>∃w c',fin ce ce' v=some (.ok w c')/\P w c')):∃w c',dFn fin n body ws ce=some (.ok w c')/\P w c':=by
 subst e
 obtain⟨o,e,q⟩:=h
 cases o with
 | ex x c=>exact q.elim
 | go f sl c=>cases f with
  | rt w =>
   obtain⟨w',c',h1,h2⟩:=q
   exact⟨w',c',zog e h1,h2⟩
  | nx=>exact q.elim
  | bk=>exact q.elim
  | ct=>exact q.elim
theorem ziz{d r:List Nat}{p n:Nat}(e:d++p::r=List.range n):d=List.range p:=by
 have hl:d.length<n:=by have:=congrArg List.length e;simp at this;omega
 have h1:(List.range n)[d.length]?=some p:=by rw[<- e];simp
 rw[getElem?_range hl] at h1
 cases h1
 have h2:(List.range n).take d.length=d:=by rw[<- e];simp
 rw[<- h2,take_range,min_eq_left (le_of_lt hl)]
 simp
structure LsOk (n:Nat) (ls:List (Nat×Nat)):Prop where
 nd:ls.Nodup
 lt:∀p∈ls,p.1<p.2/\p.2<n
theorem ziA{sl:Sl}{ce c1 c2:Ce}{a b:Sl->M W}{x y:W}{xs ys:List W}(ha:a sl ce=some (.ok x c1))(hb:b sl c1=some (.ok y c2))(hx:zcw c2 x=some xs)(hy:zcw c2 y=some ys)(hz:xs.length+ys.length<=PySem.sizeLine) :
  zmI zbf a b sl ce=some (.ok (.lst (xs++ys)) c2):=by
 simp only[zmI,bnd,ha,hb,zts,hx,hy,if_pos hz]
 exact zcO (by rw[length_append];exact hz)
theorem nodup_map_inj{α β:Type}{f:α->β}{l:List α}(h:l.Nodup)(inj:∀x y,f x=f y->x=y):(l.map f).Nodup:=List.Pairwise.map f (fun a b hab e=>hab (inj a b e)) h
def adj(ls:List (Nat×Nat))(i:Nat):List Nat:=ls.filterMap fun p=>if p.1=i then some p.2 else if p.2=i then some p.1 else none
theorem zg6{ls:List (Nat×Nat)}{n:Nat}(h:LsOk n ls){i j:Nat}:j∈adj ls i↔(i,j)∈ls\/(j,i)∈ls:=by
 unfold adj
 rw[mem_filterMap]
 constructor
 ·rintro⟨⟨a,b⟩,hp,e⟩
  simp only at e
  split at e
  ·cases e;rename_i h1;subst h1;exact .inl hp
  ·split at e
   ·cases e;simp_all
   ·cases e
 ·rintro(hp|hp)
  ·exact⟨(i,j),hp,by simp⟩
  ·have:=(h.lt _ hp).1
   simp only at this
   refine⟨(j,i),hp,?_⟩
   simp only
   rw[if_neg (by omega)]
   simp
theorem zly{ls:List (Nat×Nat)}{n:Nat}(h:LsOk n ls)(i:Nat):(adj ls i).Nodup:=by
 unfold adj
 refine List.Pairwise.filterMap _ ?_ (List.Pairwise.and_mem.mp h.nd)
 rintro⟨a,b⟩ ⟨c,d⟩ ⟨h1,h2,hne⟩ x hx y hy e
 subst e
 have l1:=(h.lt _ h1).1
 have l2:=(h.lt _ h2).1
 simp only at hx hy l1 l2
 apply hne
 split at hx<;>split at hy
 ·cases hx;cases hy;simp_all
 ·split at hy
  ·cases hx;cases hy;simp_all;omega
  ·cases hy
 ·split at hx
  ·cases hx;cases hy;simp_all;omega
  ·cases hx
 ·split at hx
  ·split at hy
   ·cases hx;cases hy;simp_all
   ·cases hy
  ·cases hx
theorem zhU{ls:List (Nat×Nat)}{n:Nat}(h:LsOk n ls){i j:Nat}(hj:j∈adj ls i):j<n/\i<n:=by
 rcases(zg6 h).mp hj with hp|hp<;>(have:=h.lt _ hp;simp only at this;omega)
def ziB(n:Nat)(ls:List (Nat×Nat)):List (List Nat):=(List.range n).map fun i=>zcz (adj ls i)
theorem zeT(n:Nat)(ls:List (Nat×Nat))(i:Nat):(ziB n ls).getD i []=if i<n then zcz (adj ls i) else []:=by
 unfold ziB
 rw[getD_eq_getElem?_getD,getElem?_map]
 by_cases h:i<n
 ·simp[h]
 ·rw[getElem?_eq_none (by simp;omega)];simp[h]
structure Brd (b:List (List Nat)):Prop where
 bd:Bd b
 sym:Sym b
 h36:b.length<=36
 pos:0<b.length
 row:∀i,(b.getD i []).length<=36
 srt:∀i,zcz (b.getD i [])=b.getD i []
theorem zjV{l m:List Nat}(h:l.Perm m):zcz l=zcz m:=by unfold zcz;rw[zk6 h]
theorem zlz(l:List Nat):(zcz l).Perm l:=by
 have h:(zcz l).Perm ((toI l).map Int.toNat):=(zbu (toI l)).map _
 have e:(toI l).map Int.toNat=l:=by
  unfold toI
  rw[map_map]
  conv=>rhs;rw[<- map_id l]
  apply map_congr_left
  intro x _
  simp
 rwa [e] at h
theorem zlA(l:List Nat):zcz (zcz l)=zcz l:=zjV (zlz l)
theorem zpV{n:Nat}{ls:List (Nat×Nat)}(h:LsOk n ls)(h0:0<n)(h36:n<=36):Brd (ziB n ls):=by
 have hl:(ziB n ls).length=n:=by simp[ziB]
 refine⟨fun r hr x hx=>?_,fun i j hj=>?_,by omega,by omega,fun i=>?_,fun i=>?_⟩
 ·obtain⟨i,hi,rfl⟩:=mem_map.mp hr
  rw[hl]
  exact(zhU h ((zeR _ _).mp hx)).1
 ·rw[zeT] at hj ⊢
  split at hj
  ·have hj:=(zeR _ _).mp hj
   rw[if_pos (zhU h hj).1]
   exact(zeR _ _).mpr ((zg6 h).mpr ((zg6 h).mp hj).symm)
  ·simp at hj
 ·rw[zeT]
  split
  ·rw[zcm]
   exact le_trans (zaG (zly h i) fun x hx=>(zhU h hx).1) h36
  ·simp
 ·rw[zeT]
  split
  ·exact zlA _
  ·exact length_eq_zero_iff.mp (zcm [])
theorem zpW(d:List (Nat×Nat))(p q i:Nat)(hpq:p≠q):adj (d++[(p,q)]) i=adj d i++((if i=p then [q] else [])++(if i=q then [p] else [])):=by
 unfold adj
 rw[filterMap_append]
 congr 1
 by_cases h1:i=p
 ·subst h1
  have:¬i=q:=hpq
  simp[this]
 ·by_cases h2:i=q
  ·subst h2
   simp[h1,hpq]
  ·have h1':¬p=i:=fun e=>h1 e.symm
   have h2':¬q=i:=fun e=>h2 e.symm
   simp[h1,h2,h1',h2']
theorem znu(n:Nat)(d:List (Nat×Nat)){p q:Nat}(hp:p<n)(hq:q<n)(hpq:p≠q):zsh ((List.range n).map (adj d)) p q=(List.range n).map (adj (d++[(p,q)])):=by
 have gd:∀(e:List (Nat×Nat)) (i:Nat),i<n->((List.range n).map (adj e)).getD i []=adj e i:=fun e i hi=>by simp[getD_eq_getElem?_getD,hi]
 apply ext_getElem?
 intro i
 by_cases hi:i<n
 ·have e1:∀(l:List (List Nat)),l.length=n->l[i]?=some (l.getD i []):=fun l hl=>by
   rw[getD_eq_getElem?_getD,getElem?_eq_getElem (by omega)];rfl
  rw[e1 _ (by rw[zi9];simp),e1 _ (by simp),gd _ i hi,zpW d p q i hpq]
  unfold zsh
  rw[zg5 (by rw[zix];simpa using hq),zg5 (by simpa using hp),zg5 (by simpa using hp),gd _ _ hp,gd _ _ hq,gd _ _ hi]
  congr 1
  by_cases h1:i=q
  ·subst h1
   rw[if_pos rfl,if_neg (Ne.symm hpq),if_pos rfl,if_neg (Ne.symm hpq)]
   simp
  ·rw[if_neg h1,if_neg h1]
   by_cases h2:i=p
   ·subst h2;simp
   ·simp[h2]
 ·rw[getElem?_eq_none (by rw[zi9];simp;omega),getElem?_eq_none (by simp;omega)]
theorem zsk{sl:Sl}{ce c1:Ce}{a:Sl->M W}{x:W}{xs:List W}{n:Nat}{i:Int}(ha:a sl ce=some (.ok x c1))(hx:zcw c1 x=some xs)(ei:i=(n:Int))(h:n<=xs.length)(hz:xs.length<=PySem.sizeLine):dSl zbf a (zby (dC (.int i))) zbA sl ce=some (.ok (.lst (xs.drop n)) c1):=by
 subst ei
 have e1:HT.sIx xs.length 0 (some (n:Int))=n:=by rw[HT.sIx_nat];omega
 have e2:HT.sIx xs.length xs.length none=xs.length:=rfl
 have hb':zby (dC (.int (n:Int))) sl c1=some (.ok (some (n:Int)) c1):=zcQ za1
 simp only[dSl,bnd,ha,zbA,ret,hb',slW,hx,zmH,e1,e2]
 rw[take_of_length_le (by rw[length_drop];omega)]
 refine zcO ?_
 rw[length_drop];omega
theorem zfH{sl:Sl}{ce c1 c2 c3:Ce}{a:Sl->M W}{x:W}{xs:List W}{dl dh:Sl->M (Option Int)}{lo hi:Option Int}(ha:a sl ce=some (.ok x c1))(hl:dl sl c1=some (.ok lo c2))(hh:dh sl c2=some (.ok hi c3))(hx:zcw c3 x=some xs)(hz:xs.length<=PySem.sizeLine):dSl zbf a dl dh sl ce=some (.ok (.lst (zmH xs lo hi)) c3):=by
 simp only[dSl,bnd,ha,hl,hh,slW,hx]
 refine zcO ?_
 unfold zmH
 rw[length_take,length_drop];omega
theorem zeU(xs:List Int)(lo hi:Option Int):∃ys:List Int,zmH (xs.map W.int) lo hi=ys.map W.int/\ys.length<=xs.length/\∀y∈ys,y∈xs:=by
 unfold zmH
 rw[<- map_drop,<- map_take]
 exact⟨_,rfl,by rw[length_take,length_drop];omega,fun y hy=>mem_of_mem_drop (mem_of_mem_take hy)⟩
section
variable {ce:Ce}
theorem zfI(fu:Nat)(c:Int){m:Nat}(hm:m<=999):∃xs:List Int,d_i fu [.int c,nW m] ce=some (.ok (sW xs) ce)/\xs.length=m/\∀x∈xs,0<=x/\x<2147483647:=by
 have hz:1100<PySem.sizeLine:=by decide
 suffices hs:∃w c',d_i fu [.int c,nW m] ce=some (.ok w c')/\∃xs:List Int,w=sW xs/\c'=ce/\xs.length=m/\∀x∈xs,0<=x/\x<2147483647 by
  obtain⟨w,c',e,xs,rfl,rfl,h⟩:=hs
  exact⟨xs,e,h⟩
 have f1:zb3 (nW m) (.int 1)=some (nW (m+1)):=zbX (i:=m) (j:=1) rfl rfl
 have m1000:m+1<=1000:=by omega
 unfold d_i
 refine ziy [some (.int c),some (nW m),none,none,none] rfl ?_
 refine zao (zck zam (zero_le _)) ?_
 refine zQn ?_
 have O0:=(Own.start ce).alloc (C.lst [])
 generalize hk:ce.length=k2 at O0 ⊢
 generalize ce++[C.lst []]=c0 at O0 ⊢
 refine zao (w:=.int (c % 2147483647+48271)) (ce':=c0) (by trivial) ?_
 refine zQn ?_
 refine za8 (zs:=List.range (m+1)) (en:=nW) (zek (by trivial) m1000)
  (fun d sl c'=>∃xs:List Int,∃u:Int,∃x4,sl=[some (.int c),some (nW m),some (.cel k2),some (.int u),x4]/\Own ce c' [(k2,C.lst (xs.map W.int))]/\0<=u/\u<4294967296/\xs.length=d.length/\∀x∈xs,0<=x/\x<2147483647)
  ⟨[],_,_,rfl,O0,by omega,by omega,rfl,by simp⟩ ?_ ?_
 ·rintro d j r sl c' e hj ⟨xs,u,x4,rfl,O,u0,u1,hl,hx⟩
  have hj:=mem_range.mp hj
  have hdl:d.length<=1000:=by have:=congrArg List.length e;simp at this;omega
  have g2:=O.g0
  have hm2:(xs.map W.int).length<PySem.sizeLine:=by rw[length_map];omega
  have mu:CMul u u:=.inl (by omega)
  have mu2:CMul 48271 u:=.inl (by omega)
  unfold zdo
  trivial
  refine⟨xs++[(u*u+48271*u+(j:Int)) % 2147483647],_,_,rfl,by rw[map_append];exact O.set0 _,by omega,by omega,by simp[hl],fun x hx'=>?_⟩
  rcases mem_append.mp hx' with h|h
  ·exact hx x h
  ·rw[mem_singleton] at h;subst h;omega
 ·rintro sl c' ⟨xs,u,x4,rfl,O,u0,u1,hl,hx⟩
  rw[length_range] at hl
  refine zap (zsk (xs:=xs.map W.int) (n:=1) (zag rfl) (zcK O.g0) rfl (by rw[length_map];omega) (by rw[length_map];omega)) ?_
  rw[<- map_drop]
  subst hk
  refine⟨_,_,O.finC (by simp only[Bel];exact belInts _ _),xs.drop 1,rfl,rfl,by rw[length_drop];omega,fun x hx'=>hx x (mem_of_mem_drop hx')⟩
theorem zlB(fu:Nat){n:Nat}{ls:List (Nat×Nat)}(n0:0<n)(h36:n<=36)(L:LsOk n ls):d_h fu [nW n,.lst (ls.map pW)] ce=some (.ok (wB (ziB n ls)) ce):=by
 have hz:=zfj
 unfold d_h
 refine zba [some (nW n),some (.lst (ls.map pW)),none,none,none] rfl ?_
 refine zao (znt (ce:=ce) (n:=n) (zlc (by trivial) (by omega)) (by omega)) ?_
 refine zQn ?_
 refine zm6 (zs:=ls) (fa:=fun p=>nW p.1) (fb:=fun p=>nW p.2) (c1:=bC ce (List.replicate n []) []) (zgH (by trivial))
  (fun d sl c=>∃x3 x4,sl=[some (nW n),some (.lst (ls.map pW)),some (zl8 ce n),x3,x4]/\c=bC ce ((List.range n).map (adj d)) [])
  ⟨_,_,rfl,by
   congr 2
   apply ext_getElem?
   intro i
   by_cases hi:i<n
   ·simp[hi,adj]
   ·rw[getElem?_eq_none (by simp;omega),getElem?_eq_none (by simp;omega)]⟩ ?_ ?_
 ·rintro d ⟨p,q⟩ r sl c e hp ⟨x3,x4,rfl,rfl⟩
  have lt:=L.lt _ hp
  simp only at lt
  have Ld:LsOk n d:=by
   rw[<- e] at L
   exact⟨(nodup_append.mp L.nd).1,fun x hx=>L.lt x (mem_append_left _ hx)⟩
  have hz2:∀i,(((List.range n).map (adj d)).getD i []).length<1000:=fun i=>by
   by_cases hi:i<n
   ·have:((List.range n).map (adj d)).getD i []=adj d i:=by simp[getD_eq_getElem?_getD,hi]
    rw[this]
    have:=zaG (zly Ld i) fun x hx=>(zhU Ld hx).1
    omega
   ·rw[getD_eq_getElem?_getD,getElem?_eq_none (by simp;omega)];simp
  unfold zdp
  refine zrR (ap2 (ce:=ce) (n:=n) (mS:=2) (rows:=(List.range n).map (adj d)) (gs:=[]) (sl:=[some (nW n),some (.lst (ls.map pW)),some (zl8 ce n),some (nW p),some (nW q)]) (a:=3) (b:=4) (p:=p) (q:=q) rfl rfl rfl (by simp) (by omega) (by omega) hz2) ?_
  exact⟨_,_,rfl,by rw[znu n d (by omega) (by omega) (by omega)]⟩
 ·rintro sl c ⟨x3,x4,rfl,rfl⟩
  have hb60:∀i,(((List.range n).map (adj ls)).getD i []).length<=60:=fun i=>by
   by_cases hi:i<n
   ·have:((List.range n).map (adj ls)).getD i []=adj ls i:=by simp[getD_eq_getElem?_getD,hi]
    rw[this]
    have:=zaG (zly L i) fun x hx=>(zhU L hx).1
    omega
   ·rw[getD_eq_getElem?_getD,getElem?_eq_none (by simp;omega)];simp
  have er:=zhT (ce:=ce) (gs:=[]) (mS:=2) (rows:=(List.range n).map (adj ls)) (n:=n) (by simp) (by omega) hb60 (sl:=[some (nW n),some (.lst (ls.map pW)),some (zl8 ce n),x3,x4]) rfl
  have eb:((List.range n).map fun i=>zcz (((List.range n).map (adj ls)).getD i []))=ziB n ls:=by
   unfold ziB
   apply map_congr_left
   intro i hi
   have hi:=mem_range.mp hi
   simp[getD_eq_getElem?_getD,hi]
  rw[eb] at er
  have hlb:(ziB n ls).length<=PySem.sizeLine:=by simp[ziB];omega
  refine zap (za9 (zak er zam) (zrZ hlb)) ?_
  have Oe:Own ce (bC ce ((List.range n).map (adj ls)) []) []:=⟨⟨_,rfl⟩,by simp,by simp,by simp⟩
  exact Oe.finC (zoh _ _)
end
theorem zcD{ns:List Int}{p:Nat}(h:p<ns.length)(c:Ce){i:Int}(ei:i=(p:Int)):ixW c (sW ns) (.int i)=some (.int (ns.getD p 0)):=by
 subst ei
 show ixW c (.lst (ns.map W.int)) (nW p)=_
 rw[zfQ (xs:=ns.map W.int) rfl,getElem?_map,getD_eq_getElem?_getD,getElem?_eq_getElem h];rfl
theorem ziC{ns:List Int}{p:Nat}(h:p<ns.length):ns.getD p 0∈ns:=by
 rw[getD_eq_getElem?_getD,getElem?_eq_getElem h];exact getElem_mem h
section
variable {ce:Ce}
set_option maxHeartbeats 0 in
theorem znv(fu:Nat){xs:List Int}(hx3:3<=xs.length)(hx:∀x∈xs,0<=x/\x<2147483647) :
  ∃many ls,zqo (d_n fu) [sW xs] ce=some (.ok (.tup [nW many,.lst (ls.map pW)]) ce)/\0<many/\many<=36/\LsOk many ls:=by
 have hz:2000<PySem.sizeLine:=by decide
 have z2:2<=PySem.sizeLine:=by decide
 have z4:4<=PySem.sizeLine:=by decide
 suffices h:∃w c,d_n fu [sW xs] ce=some (.ok w c)/\∃many ls l,Own ce c l/\zij ce.length c 6 w=some (.tup [nW many,.lst (ls.map pW)])/\0<many/\many<=36/\LsOk many ls by
  obtain⟨w,c,e,many,ls,l,O,ht,r⟩:=h
  exact⟨many,ls,Own.frzD' e O (Chg.refl ce) ht,r⟩
 have i0:=fun c=>zcD (ns:=xs) (p:=0) (by omega) c (i:=0) rfl
 have i1:=fun c=>zcD (ns:=xs) (p:=1) (by omega) c (i:=1) rfl
 have i2:=fun c=>zcD (ns:=xs) (p:=2) (by omega) c (i:=2) rfl
 have b0:=hx _ (ziC (ns:=xs) (p:=0) (by omega))
 have b1:=hx _ (ziC (ns:=xs) (p:=1) (by omega))
 have b2:=hx _ (ziC (ns:=xs) (p:=2) (by omega))
 generalize xs.getD 0 0=a0 at i0 b0
 generalize xs.getD 1 0=a1 at i1 b1
 generalize xs.getD 2 0=a2 at i2 b2
 have i0c:=i0 ce
 have i1c:=i1 ce
 have i2c:=i2 ce
 unfold d_n
 refine ziy [some (sW xs),none,none,none,none,none,none,none] rfl ?_
 refine zaQ (p:=decide (a1 % 4=0)) (ce':=ce) (by trivial) (fun q=>?_) (fun q=>?_)
 ·-- a grid
  obtain⟨wd0,hwd0⟩:∃wd:Nat,1+a0 % 4=wd:=⟨(1+a0 % 4).toNat,by omega⟩
  obtain⟨n0,hn0⟩:∃n:Nat,(wd0:Int)*(1+a2 % 4)=n:=⟨wd0*(1+a2 % 4).toNat,by rw[natCast_mul];congr 1;omega⟩
  have mu0:CMul (wd0:Int) (1+a2 % 4):=.inl (by omega)
  have f0:zb3 (.int 1) (.int (a0 % 4))=some (nW wd0):=by rw[zbX rfl rfl,hwd0];rfl
  have f1:zgr (nW wd0) (.int (1+a2 % 4))=some (nW n0):=by
   show zgr (.int wd0) (.int (1+a2 % 4))=some (.int n0)
   rw[zhB mu0,hn0]
  refine zbi ?_
  refine zao (w:=nW wd0) (ce':=ce) (by trivial) ?_
  refine zQn ?_
  refine zbi ?_
  refine zao (w:=nW n0) (ce':=ce) (by trivial) ?_
  refine zQn ?_
  refine zbi ?_
  have last:∀(wd hg n:Nat),0<wd->0<hg->wd*hg=n->n<=36->∀(tail:DS),Run (zaq (zaq (zaU 3 (dLC zgx [1] (zf6 (zac (dOp zhe (zae 2) (zae 1)) zan)) zdH (zfb (zac (zae 0) (zac (dOp zb3 (zae 0) (zae 1)) zan)))))
    (zaq (zaU 4 (dLC zbf [1] (zf6 (zac (dOp zhe (zae 2) (dC (.int 1))) zan)) (dB (dOp fGt (dOp zbP (dOp zb3 (zae 0) (dC (.int 1))) (zae 1)) (dC (.int 0)))) (zae 0)))
    (za7 (zfb (zac (zae 2) (zac (zmI zbf (zae 3) (dLC zbf [] (dIL (zae 4)) zdH (zfb (zac (zae 0) (zac (dOp zb3 (zae 0) (dC (.int 1))) zan))))) zan)))))) tail)
    [some (sW xs),some (nW wd),some (nW n),none,none,none,none,none] ce
    (Rt fun v ce'=>∃w c',zrp ce ce' v=some (.ok w c')/\∃many ls l,Own ce c' l/\zij ce.length c' 6 w=some (.tup [nW many,.lst (ls.map pW)])/\0<many/\many<=36/\LsOk many ls):=by
   intro wd hg n w1 h1 hn n36 tail
   have n0:0<n:=by rw[<- hn];exact mul_pos w1 h1
   have wn:wd<=n:=by rw[<- hn];exact le_mul_of_pos_right wd h1
   have sb:zhe (nW n) (nW wd)=some (nW (n-wd)):=by
    refine(zgI (x:=nW n) (y:=nW wd) (i:=n) (j:=wd) rfl rfl).trans ?_
    have:((n:Int)-(wd:Int))=((n-wd:Nat):Int):=by omega
    rw[this];rfl
   have sb1:zhe (nW n) (.int 1)=some (nW (n-1)):=by
    refine(zgI (x:=nW n) (y:=.int 1) (i:=n) (j:=1) rfl rfl).trans ?_
    have:((n:Int)-1)=((n-1:Nat):Int):=by omega
    rw[this];rfl
   have md:∀p:Nat,zbP (.int ((p:Int)+1)) (nW wd)=some (.int (((p:Int)+1) % (wd:Int))):=fun p=>zfp (i:=(p:Int)+1) (j:=wd) rfl rfl (by omega)
   have nz:(List.range (n-wd)).length<=PySem.sizeLine:=by rw[length_range];omega
   have nz2:(List.range (n-1)).length<=PySem.sizeLine:=by rw[length_range];omega
   have r1:n-wd<=1000:=by omega
   have r2:n-1<=1000:=by omega
   refine zbi ?_
   refine zao (ztJ (zs:=List.range (n-wd)) (en:=nW) (g:=fun p=>pW (p,p+wd)) (zek (by trivial) r1).is nz (fun p hp=>?_)) ?_
   ·have e:pW (p,p+wd)=.tup [nW p,.int ((p:Int)+wd)]:=by simp[pW,nW]
    rw[e]
    trivial
   refine zQn ?_
   have O1:=(Own.start ce).alloc (C.lst ((List.range (n-wd)).map fun p=>pW (p,p+wd)))
   generalize ce.length=k3 at O1 ⊢
   generalize hc1:ce++[C.lst ((List.range (n-wd)).map fun p=>pW (p,p+wd))]=c1 at O1 ⊢
   have g3:=zcK O1.g0
   let t:Nat->Bool:=fun p=>decide ((0:Int)<((p:Int)+1) % (wd:Int))
   refine zbi ?_
   refine zao (w:=wL ((List.range (n-1)).filter t)) (ce':=c1) (zsz (zs:=List.range (n-1)) (en:=nW) (t:=t) (zek (by trivial) r2).is nz2 (fun p hp=>?_)) ?_
   ·have:=md p
    trivial
   refine zQn ?_
   have hl1:((List.range (n-1)).filter t).length<=36:=by have:=length_filter_le t (List.range (n-1));rw[length_range] at this;omega
   refine zdu ?_
   refine zap (zcN (ws:=[nW n,.lst (((List.range (n-wd)).map fun p=>pW (p,p+wd))++((List.range (n-1)).filter t).map fun p=>pW (p,p+1))]) (c1:=c1) (zak (by trivial) (zak (ziA (by trivial) (zsy (zs:=(List.range (n-1)).filter t) (en:=nW) (g:=fun p=>pW (p,p+1)) (zjN (by trivial) (.fr _)) (by omega) (fun p hp=>?_)) g3 rfl ?_) zam)) z2) ?_
   ·have e:pW (p,p+1)=.tup [nW p,.int ((p:Int)+1)]:=by simp[pW,nW]
    rw[e]
    trivial
   ·rw[length_map,length_map,length_range];omega
   ·refine⟨_,_,rfl,n,((List.range (n-wd)).map fun p=>(p,p+wd))++(((List.range (n-1)).filter t).map fun p=>(p,p+1)),_,O1,?_,n0,n36,?_⟩
    ·have e:((List.range (n-wd)).map fun p=>pW (p,p+wd))++(((List.range (n-1)).filter t).map fun p=>pW (p,p+1))=(((List.range (n-wd)).map fun p=>(p,p+wd))++(((List.range (n-1)).filter t).map fun p=>(p,p+1))).map pW:=by rw[map_append,map_map,map_map];rfl
     rw[e]
     simp only[zij,zel,zil,zgL,map_some]
    ·constructor
     ·rw[nodup_append]
      refine⟨nodup_map_inj nodup_range (fun x y h=>by simpa using congrArg Prod.fst h),nodup_map_inj (List.Pairwise.filter _ nodup_range) (fun x y h=>by simpa using congrArg Prod.fst h),?_⟩
      intro a ha c hc e
      subst e
      obtain⟨x,hx,e⟩:=mem_map.mp ha
      obtain⟨y,hy,rfl⟩:=mem_map.mp hc
      have hy':=of_decide_eq_true (mem_filter.mp hy).2
      injection e with e1 e2
      subst e1
      have:wd=1:=by omega
      subst this
      omega
     ·intro p hp
      rcases mem_append.mp hp with hp|hp
      ·obtain⟨x,hx,rfl⟩:=mem_map.mp hp
       have hx:=mem_range.mp hx
       exact⟨by show x<x+wd;omega,by show x+wd<n;omega⟩
      ·obtain⟨x,hx,rfl⟩:=mem_map.mp hp
       have hx:=mem_range.mp (mem_filter.mp hx).1
       exact⟨by show x<x+1;omega,by show x+1<n;omega⟩
  have dv:zo7 (.int a2) (.int 4)=some (.int (a2 / 4)):=zgJ (i:=a2) (j:=4) rfl rfl (by omega)
  refine zaQ (p:=decide (a2 / 4 % 9=0)) (ce':=ce) (by trivial) (fun _=>?_) (fun _=>?_)
  ·obtain⟨wd,hwd⟩:∃wd:Nat,3+a0 % 4=wd:=⟨(3+a0 % 4).toNat,by omega⟩
   have f2:zb3 (.int 3) (.int (a0 % 4))=some (nW wd):=by rw[zbX rfl rfl,hwd];rfl
   have f3:zgr (.int 6) (nW wd)=some (nW (wd*6)):=by
    show zgr (.int 6) (.int wd)=some (.int ((wd*6:Nat):Int))
    rw[zhB (.inl (by omega))]
    congr 2
    omega
   refine zbi ?_
   refine zao (w:=nW wd) (ce':=ce) (by trivial) ?_
   refine zQn ?_
   refine zao (w:=nW (wd*6)) (ce':=ce) (by trivial) ?_
   refine zQn ?_
   exact last wd 6 _ (by omega) (by omega) rfl (by omega) _
  ·refine zaK ?_
   obtain⟨hg,hhg⟩:∃hg:Nat,1+a2 % 4=hg:=⟨(1+a2 % 4).toNat,by omega⟩
   have en:wd0*hg=n0:=by
    rw[hhg,<- natCast_mul] at hn0
    exact Int.ofNat.inj hn0
   have:n0<=36:=by
    rw[<- en]
    exact le_trans (mul_le_mul (by omega:wd0<=4) (by omega:hg<=4)) (by omega)
   exact last wd0 hg _ (by omega) (by omega) en this _
 ·-- a row,a ring,drawn lines
  refine zaK ?_
  have q':=of_decide_eq_false q
  obtain⟨way,hway⟩:∃way:Nat,a1 % 4=way:=⟨(a1 % 4).toNat,by omega⟩
  have hway4:way<4:=by omega
  have m0:zbP (.int a1) (.int 4)=some (nW way):=by rw[zfp (i:=a1) (j:=4) rfl rfl (by omega),hway];rfl
  obtain⟨md,hmd,hmd1,hmd2⟩:∃md:Nat,ixW ce (.lst [.int 0,.int 7,.int 9,.int 5]) (nW way)=some (nW md)/\0<md/\md<=9:=by
   have:way=1\/way=2\/way=3:=by omega
   rcases this with rfl|rfl|rfl
   ·exact⟨7,rfl,by omega,by omega⟩
   ·exact⟨9,rfl,by omega,by omega⟩
   ·exact⟨5,rfl,by omega,by omega⟩
  obtain⟨r,hr,er⟩:=zid a0 (n:=md) hmd1
  have m1:zbP (.int a0) (nW md)=some (nW r):=zhE hmd1 er
  obtain⟨n,hn⟩:∃n:Nat,1+r=n:=⟨_,rfl⟩
  have f1:zb3 (.int 1) (nW r)=some (nW n):=by
   refine(zbX (x:=.int 1) (y:=nW r) (i:=1) (j:=r) rfl rfl).trans ?_
   have:(1:Int)+(r:Int)=((n:Nat):Int):=by omega
   rw[this];rfl
  have n9:0<n/\n<=9:=by omega
  refine zao (w:=nW n) (ce':=ce) (zaW (by trivial) (zaW (by trivial) (zaJ (x:=.lst [.int 0,.int 7,.int 9,.int 5]) (y:=nW way) (zeB (ws:=[.int 0,.int 7,.int 9,.int 5]) (by trivial) z4) (by trivial) hmd) m1) f1) ?_
  refine zQn ?_
  have sb1:zhe (nW n) (.int 1)=some (nW (n-1)):=by
   refine(zgI (x:=nW n) (y:=.int 1) (i:=n) (j:=1) rfl rfl).trans ?_
   have:((n:Int)-1)=((n-1:Nat):Int):=by omega
   rw[this];rfl
  have nz2:(List.range (n-1)).length<=PySem.sizeLine:=by rw[length_range];omega
  have r2:n-1<=1000:=by omega
  refine zao (ztJ (zs:=List.range (n-1)) (en:=nW) (g:=fun p=>pW (p,p+1)) (zek (by trivial) r2).is nz2 (fun p hp=>?_)) ?_
  ·have e:pW (p,p+1)=.tup [nW p,.int ((p:Int)+1)]:=by simp[pW,nW]
   rw[e]
   trivial
  refine zQn ?_
  have el:(List.range (n-1)).map (fun p=>pW (p,p+1))=((List.range (n-1)).map fun p=>(p,p+1)).map pW:=by rw[map_map];rfl
  rw[el]
  have L0:LsOk n ((List.range (n-1)).map fun p=>(p,p+1)):=⟨nodup_map_inj nodup_range (fun x y h=>by simpa using congrArg Prod.fst h),fun p hp=>by
   obtain⟨x,hx,rfl⟩:=mem_map.mp hp
   have hx:=mem_range.mp hx
   exact⟨by show x<x+1;omega,by show x+1<n;omega⟩⟩
  have ll0:((List.range (n-1)).map fun p=>(p,p+1)).length<=36:=by rw[length_map,length_range];omega
  have hno:2<n->(0,n-1)∉(List.range (n-1)).map fun p=>(p,p+1):=fun h2 hm=>by
   obtain⟨x,_,e⟩:=mem_map.mp hm
   injection e with e1 e2
   omega
  generalize (List.range (n-1)).map (fun p=>(p,p+1))=ls0 at L0 ll0 hno ⊢
  have O1:=(Own.start ce).alloc (C.lst (ls0.map pW))
  generalize hk3:ce.length=k3 at O1 ⊢
  generalize ce++[C.lst (ls0.map pW)]=c1 at O1 ⊢
  have fin:∀(ls:List (Nat×Nat)) (c:Ce) (l:List (Nat×C)) (k:Nat) (x5 x6 x7:Option W),LsOk n ls->Own ce c ((k,C.lst (ls.map pW))::l)->Run (za7 (zfb (zac (zae 2) (zac (zae 3) zan)))) [some (sW xs),none,some (nW n),some (.cel k),none,x5,x6,x7] c
    (Rt fun v ce'=>∃w c',zrp ce ce' v=some (.ok w c')/\∃many ls l,Own ce c' l/\zij k3 c' 6 w=some (.tup [nW many,.lst (ls.map pW)])/\0<many/\many<=36/\LsOk many ls):=by
   intro ls c l k x5 x6 x7 L O
   refine zap (zcN (ws:=[nW n,.cel k]) (c1:=c) (by trivial) z2) ?_
   refine⟨_,_,rfl,n,ls,_,O,?_,n9.1,by omega,L⟩
   have hk:¬k<k3:=by have:=O.ge _ mem_cons_self;rw[<- hk3];omega
   have g:=O.g0
   simp only[zij,zel,zil,if_neg hk,g,zgL,map_some]
  have i1c1:=i1 c1
  have i2c1:=i2 c1
  have m2:zbP (.int a2) (.int 2)=some (.int (a2 % 2)):=zfp (i:=a2) (j:=2) rfl rfl (by omega)
  have gt2:fGt (nW n) (.int 2)=some (.bl (decide (2<(n:Int)))):=zhH (i:=n) (j:=2) rfl rfl
  have hm3:(ls0.map pW).length<PySem.sizeLine:=by rw[length_map];omega
  have way1:zfh (nW way) (.int 1)=some (.bl (decide ((way:Int)=1))):=zcP (i:=way) (j:=1) rfl rfl
  have wgt:∀c:Ce,dB (dOp fGt (dOp zbP (zaL ixW (zae 0) (dC (.int 1))) (dC (.int 4))) (dC (.int 1))) [some (sW xs),none,some (nW n),some (.cel k3),none,none,none,none] c=some (.ok (decide (1<(way:Int))) c):=fun c=>by
   have i1':=i1 c
   have w2:fGt (nW way) (.int 1)=some (.bl (decide (1<(way:Int)))):=zhH (i:=way) (j:=1) rfl rfl
   trivial
  refine zaQ (p:=decide ((way:Int)=1)&&(decide (2<(n:Int))&&decide (a2 % 2=0))) (ce':=c1) (by trivial) (fun q2=>?_) (fun q2=>?_)
  ·simp only[and_eq_true,decide_eq_true_eq] at q2
   have hn2:2<n:=by omega
   refine zf9 (w:=.non) (ce':=c1.set k3 (C.lst (ls0.map pW++[pW (0,n-1)]))) (zhF (ws:=[pW (0,n-1)]) (by trivial) (zcK O1.g0) (zak (zcN (ws:=[.int 0,nW (n-1)]) (by trivial) z2) zam) (by rw[zmT (zez O1.g0) hm3])) ?_
   have O2:=O1.set0 (C.lst (ls0.map pW++[pW (0,n-1)]))
   have e2:ls0.map pW++[pW (0,n-1)]=(ls0++[(0,n-1)]).map pW:=by simp
   rw[e2] at O2 ⊢
   generalize c1.set k3 (C.lst ((ls0++[(0,n-1)]).map pW))=c2 at O2 ⊢
   refine zaQ (p:=decide (1<(way:Int))) (ce':=c2) (wgt c2) (fun q3=>absurd (of_decide_eq_true q3) (by omega)) (fun _=>?_)
   refine zaK ?_
   refine fin _ c2 _ k3 _ _ _ ⟨?_,fun p hp=>?_⟩ O2
   ·rw[nodup_append]
    exact⟨L0.nd,by simp,fun a ha b hb=>by rw[mem_singleton] at hb;subst hb;intro e;subst e;exact hno hn2 ha⟩
   ·rcases mem_append.mp hp with hp|hp
    ·exact L0.lt p hp
    ·rw[mem_singleton] at hp;subst hp;exact⟨by show 0<n-1;omega,by show n-1<n;omega⟩
  ·refine zaK ?_
   refine zaQ (p:=decide (1<(way:Int))) (ce':=c1) (wgt c1) (fun q3=>?_) (fun _=>?_)
   ·obtain⟨nn,hnn⟩:∃nn:Nat,n*n=nn:=⟨_,rfl⟩
    have nn81:nn<=81:=by rw[<- hnn];exact mul_le_mul n9.2 n9.2
    have fm:zgr (nW n) (nW n)=some (nW nn):=by
     show zgr (.int n) (.int n)=some (.int (nn:Int))
     rw[zhB (.inl (by omega)),<- hnn,natCast_mul]
    obtain⟨ys,e5,hyl,hy⟩:=zfI (ce:=c1) fu a2 (m:=nn) (by omega)
    refine zbi ?_
    refine zao (w:=sW ys) (ce':=c1) (zaB (ws:=[.int a2,nW nn]) (by trivial) rfl e5) ?_
    refine zQn ?_
    refine zbi ?_
    refine zao (zck zam (zero_le _)) ?_
    refine zQn ?_
    have O2:=(O1.alloc (C.lst [])).perm (.swap _ _ _) |>.drop
    have O2:=O1.drop.alloc (C.lst [])
    generalize c1.length=k4 at O2 ⊢
    generalize c1++[C.lst []]=c2 at O2 ⊢
    have n1000:n<=1000:=by omega
    refine za8 (zs:=List.range n) (en:=nW) (zek (by trivial) n1000)
     (fun d sl c=>∃ls x6 x7,sl=[some (sW xs),none,some (nW n),some (.cel k4),none,some (sW ys),x6,x7]/\Own ce c [(k4,C.lst (ls.map pW))]/\ls.Nodup/\ls.length<=40*d.length/\∀p∈ls,p.1<p.2/\p.2<d.length)
     ⟨[],_,_,rfl,O2,by simp,by simp,by simp⟩ ?_ ?_
    ·rintro d p r' sl c e hp ⟨ls,x6,x7,rfl,O,nd,hl,lt⟩
     have hp':p<n:=mem_range.mp hp
     have hd:=ziz e
     have hdl:d.length=p:=by rw[hd,length_range]
     have p1000:p<=1000:=by omega
     unfold zdT
     refine zbS (zs:=List.range p) (en:=nW) (zek (by trivial) p1000)
      (fun d' sl c=>∃ls x7,sl=[some (sW xs),none,some (nW n),some (.cel k4),none,some (sW ys),some (nW p),x7]/\Own ce c [(k4,C.lst (ls.map pW))]/\ls.Nodup/\ls.length<=40*p+d'.length/\∀q∈ls,q.1<q.2/\(q.2<p\/(q.2=p/\q.1<d'.length)))
      ⟨ls,x7,rfl,O,nd,by simpa[hdl] using hl,fun q hq=>⟨(lt q hq).1,.inl (by have:=(lt q hq).2;omega)⟩⟩ ?_ ?_
     ·rintro d' q r'' sl c e' hq ⟨ls,x7,rfl,O,nd,hl,lt⟩
      have hq':q<p:=mem_range.mp hq
      have hd':=ziz e'
      have hdl':d'.length=q:=by rw[hd',length_range]
      have g5:=O.g0
      have hm:(ls.map pW).length<PySem.sizeLine:=by rw[length_map];omega
      obtain⟨ix,hix⟩:∃ix:Nat,p*n+q=ix:=⟨_,rfl⟩
      have hixl:ix<ys.length:=by
       rw[hyl,<- hnn,<- hix]
       have:(p+1)*n<=n*n:=mul_le_mul_right n hp'
       rw[add_mul] at this
       omega
      have fm2:zgr (nW p) (nW n)=some (nW (p*n)):=by
       show zgr (.int p) (.int n)=some (.int ((p*n:Nat):Int))
       rw[zhB (.inl (by omega)),natCast_mul]
      have fa:zb3 (nW (p*n)) (nW q)=some (nW ix):=by
       refine(zbX (x:=nW (p*n)) (y:=nW q) (i:=((p*n:Nat):Int)) (j:=q) rfl rfl).trans ?_
       have:((p*n:Nat):Int)+(q:Int)=((ix:Nat):Int):=by omega
       rw[this];rfl
      have iy:ixW c (sW ys) (nW ix)=some (.int (ys.getD ix 0)):=zcD hixl c (i:=(ix:Int)) rfl
      have i1':=i1 c
      unfold zdS
      refine zQn ?_
      have lw:fLt (.int (ys.getD ix 0 % 5)) (nW way)=some (.bl (decide (ys.getD ix 0 % 5<(way:Int)))):=zlh (i:=ys.getD ix 0 % 5) (j:=way) rfl rfl
      have m5:zbP (.int (ys.getD ix 0)) (.int 5)=some (.int (ys.getD ix 0 % 5)):=zfp (i:=ys.getD ix 0) (j:=5) rfl rfl (by omega)
      refine za6 (p:=decide (ys.getD ix 0 % 5<(way:Int))) (ce':=c) (by trivial) (fun _=>?_) (fun _=>?_)
      ·refine ziX (w:=.non) (ce':=c.set k4 (C.lst (ls.map pW++[pW (q,p)]))) (zhF (ws:=[pW (q,p)]) (by trivial) (zcK O.g0) (zak (zcN (ws:=[nW q,nW p]) (by trivial) z2) zam) (by rw[zmT (zez O.g0) hm])) ?_
       refine⟨ls++[(q,p)],_,rfl,?_,?_,?_,fun x hx=>?_⟩
       ·rw[map_append];exact O.set0 _
       ·rw[nodup_append]
        refine⟨nd,by simp,fun a ha b hb=>?_⟩
        rw[mem_singleton] at hb
        subst hb
        intro e;subst e
        have:=(lt _ ha).2
        simp only at this
        omega
       ·simp only[length_append,length_cons,length_nil];omega
       ·rcases mem_append.mp hx with hx|hx
        ·refine⟨(lt x hx).1,?_⟩
         rcases(lt x hx).2 with h|h
         ·exact .inl h
         ·exact .inr ⟨h.1,by rw[length_append,length_cons,length_nil];omega⟩
        ·rw[mem_singleton] at hx
         subst hx
         exact⟨hq',.inr ⟨rfl,by show q<_;rw[length_append,length_cons,length_nil];omega⟩⟩
      ·refine zaT ?_
       refine⟨ls,_,rfl,O,nd,by simp only[length_append,length_cons,length_nil];omega,fun x hx=>⟨(lt x hx).1,?_⟩⟩
       rcases(lt x hx).2 with h|h
       ·exact .inl h
       ·exact .inr ⟨h.1,by rw[length_append,length_cons,length_nil];omega⟩
     ·rintro sl c ⟨ls,x7,rfl,O,nd,hl,lt⟩
      rw[length_range] at hl
      refine⟨ls,_,_,rfl,O,nd,by simp only[length_append,length_cons,length_nil];omega,fun x hx=>⟨(lt x hx).1,?_⟩⟩
      simp only[length_append,length_cons,length_nil]
      rcases(lt x hx).2 with h|h
      ·omega
      ·omega
    ·rintro sl c ⟨ls,x6,x7,rfl,O,nd,hl,lt⟩
     exact fin ls c [] k4 _ _ _ ⟨nd,fun p hp=>by have:=lt p hp;rw[length_range] at this;exact this⟩ O
   ·refine zaK ?_
    exact fin ls0 c1 [] k3 _ _ _ L0 O1
end
section
variable {b:List (List Nat)} {mk:W} {vl:Nat->Int} {s:Nat} {ce:Ce}
def Mk(b:List (List Nat))(mk:W)(vl:Nat->Int):Prop:=∀(ce:Ce) (x y:Nat),x<b.length->y<b.length->∃wx wy,ixW ce mk (nW x)=some wx/\ixW ce mk (nW y)=some wy/\eqW false ce wx wy=some (.bl (decide (vl x=vl y)))
theorem ztV{is:List Int}(h:is.length=b.length):Mk b (wS is) (fun x=>is.getD x 0):=fun ce x y hx hy=>⟨_,_,zbz (by omega),zbz (by omega),eqI0⟩
theorem zfJ(fu:Nat)(hfu:200<=fu)(hm:Mk b mk vl)(hb:Bd b)(h36:b.length<=36)(hs:s<b.length) :
  d_aa fu [wB b,mk,nW s] ce=some (.ok (.cel ce.length) (ce++[.lst ((cpt b vl s).map nW)])):=by
 have hz:=zfj
 unfold d_aa
 refine zba [some (wB b),some mk,some (nW s),none,none,none,none] rfl ?_
 trivial
 have O0:=((Own.start ce).alloc (C.dct (kvs [s]))).alloc (C.lst ([s].map nW))
 refine(?_:Run _ _ ((ce++[C.dct (kvs [s])])++[C.lst ([s].map nW)]) _)
 generalize h4:(ce++[C.dct (kvs [s])]).length=k4 at O0
 have h4':∀x:Key×W,(ce++[C.dct [x]]).length=k4:=fun x=>by rw[<- h4];simp
 rw[h4']
 generalize h3:ce.length=k3 at O0 ⊢
 generalize (ce++[C.dct (kvs [s])])++[C.lst ([s].map nW)]=c0 at O0 ⊢
 refine zhI (σ:=List Nat×List Nat) (fun st sl c=>∃x5 x6,sl=[some (wB b),some mk,some (nW s),some (.cel k3),some (.cel k4),x5,x6]/\Own ce c [(k4,C.lst (st.2.map nW)),(k3,C.dct (kvs st.1))]/\st.1.Nodup/\s∈st.1/\(∀x∈st.1,x<b.length)/\(∀x∈st.2,x∈st.1)/\st.2.length<=st.1.length/\(∀x∈st.1,Reach b (okV vl s) s x)/\∀x∈st.1,x∉st.2->∀y∈b.getD x [],okV vl s y->y∈st.1)
  (fun st=>st.2.length+2*(36-st.1.length)) ([s],[s]) ⟨_,_,rfl,O0,by simp,by simp,by simpa using hs,by simp,by simp,by simpa using Reach.refl,by simp⟩ (by show [s].length+2*(36-[s].length)<fu;simp;omega) ?_
 rintro⟨F,Wt⟩ sl c ⟨x5,x6,rfl,O,nd,hsF,lt,sub,hW,re,cl⟩
 have g4:=O.g0
 have g3:=O.g1
 dsimp only at g4 g3 O nd hsF lt sub hW re cl
 have hF36:F.length<=36:=le_trans (zaG nd lt) h36
 refine⟨!(Wt.map nW).isEmpty,by trivial,fun q=>?_,fun q=>?_⟩
 ·rcases eq_nil_or_concat Wt with rfl|⟨W0,p,hWt⟩
  ·simp at q
  ·rw[concat_eq_append] at hWt
   subst hWt
   have hpF:p∈F:=sub p (by simp)
   have hp:=lt p hpF
   have pp:=zr0 (ys:=W0.map nW) (y:=nW p) g4 (by simp)
   have O1:=O.set0 (C.lst (W0.map nW))
   generalize c.set k4 (C.lst (W0.map nW))=c1 at O1 pp
   unfold zfx
   trivial
   refine zbS (zs:=b.getD p []) (en:=nW) (zfn (by trivial)) (fun d sl c=>∃new x6,sl=[some (wB b),some mk,some (nW s),some (.cel k3),some (.cel k4),some (nW p),x6]/\Own ce c [(k4,C.lst ((W0++new).map nW)),(k3,C.dct (kvs (F++new)))]/\(F++new).Nodup/\(∀x∈new,x∈b.getD p []/\okV vl s x)/\∀x∈d,okV vl s x->x∈F++new)
    ⟨[],x6,rfl,by simpa using O1,by simpa using nd,by simp,by simp⟩ ?_ ?_
   ·rintro d y r sl c e hy ⟨new,x6,rfl,O,nd2,hnew,hd⟩
    have g4:=O.g0
    have g3:=O.g1
    have gd:=zeA g3
    have hy':=hb.get hy
    obtain⟨wx,wy,i1,i2,q1⟩:=hm c y s hy' hs
    have lt2:∀x∈F++new,x<b.length:=fun x hx=>by
     rcases mem_append.mp hx with hx|hx
     ·exact lt x hx
     ·exact hb.get (hnew x hx).1
    have hl2:=zaG nd2 lt2
    have hk:(kvs (F++new)).length<PySem.sizeLine:=by rw[za5];omega
    have hw:((W0++new).map nW).length<PySem.sizeLine:=by
     rw[length_map,length_append]
     rw[length_append] at hl2
     simp only[length_append,length_cons,length_nil] at hW
     omega
    unfold zfw
    refine za6 (p:=!decide (y∈F++new)&&decide (vl y=vl s)) (ce':=c) (by trivial) (fun q=>?_) (fun q=>?_)
    ·simp only[and_eq_true,not_eq_true',decide_eq_false_iff_not,decide_eq_true_eq] at q
     have O2:=O.set1 (C.dct (zjF (kvs (F++new)) (.inl (y:Int)) (.bl true)))
     rw[zic _ _ q.1] at O2
     have g4:=O2.g0
     have e1:C.dct (kvs (F++new++[y]))=C.dct (zjF (kvs (F++new)) (.inl (y:Int)) (.bl true)):=by rw[zic _ _ q.1]
     rw[e1] at g4
     trivial
     refine⟨new++[y],_,rfl,?_,?_,fun x hx=>?_,fun x hx o=>?_⟩
     ·have e2:(W0++(new++[y])).map nW=(W0++new).map nW++[nW y]:=by simp
      rw[<- e1,e2,<- append_assoc]
      exact O2.set0 _
     ·rw[<- append_assoc,nodup_append]
      exact⟨nd2,by simp,fun a ha c hc=>by rw[mem_singleton] at hc;subst hc;intro e;subst e;exact q.1 ha⟩
     ·rcases mem_append.mp hx with hx|hx
      ·exact hnew x hx
      ·rw[mem_singleton] at hx;subst hx;exact⟨hy,q.2⟩
     ·rw[<- append_assoc]
      rcases mem_append.mp hx with hx|hx
      ·exact mem_append_left _ (hd x hx o)
      ·rw[mem_singleton] at hx;subst hx;simp
    ·trivial
     refine⟨new,_,rfl,O,nd2,hnew,fun x hx o=>?_⟩
     rcases mem_append.mp hx with hx|hx
     ·exact hd x hx o
     ·rw[mem_singleton] at hx
      subst hx
      have o':vl x=vl s:=o
      simp only[o',decide_true,Bool.and_true,not_eq_false',decide_eq_true_eq] at q
      exact q
   ·rintro sl c ⟨new,x6,rfl,O,nd2,hnew,hd⟩
    have lt2:∀x∈F++new,x<b.length:=fun x hx=>by
     rcases mem_append.mp hx with hx|hx
     ·exact lt x hx
     ·exact hb.get (hnew x hx).1
    have hl2:=zaG nd2 lt2
    simp only[length_append] at hl2
    simp only[length_append,length_cons,length_nil] at hW
    refine⟨(F++new,W0++new),?_,_,_,rfl,O,nd2,mem_append_left _ hsF,lt2,fun x hx=>?_,?_,fun x hx=>?_,fun x hx hn y hy o=>?_⟩
    ·show(W0++new).length+2*(36-(F++new).length)<(W0++[p]).length+2*(36-F.length)
     simp only[length_append,length_cons,length_nil]
     omega
    ·rcases mem_append.mp hx with hx|hx
     ·exact mem_append_left _ (sub x (by simp[hx]))
     ·exact mem_append_right _ hx
    ·show(W0++new).length<=(F++new).length
     simp only[length_append]
     omega
    ·rcases mem_append.mp hx with hx|hx
     ·exact re x hx
     ·exact(re p hpF).step (hnew x hx).1 (hnew x hx).2
    ·rcases mem_append.mp hx with hx|hx
     ·by_cases hxp:x=p
      ·subst hxp;exact hd y hy o
      ·exact mem_append_left _ (cl x hx (fun q=>by rcases mem_append.mp q with q|q;exact hn (mem_append_left _ q);exact hxp (by simpa using q)) y hy o)
     ·exact absurd (mem_append_right _ hx) hn
 ·have hW0:Wt=[]:=by simpa using q
  subst hW0
  have comp:Comp b (okV vl s) s F:=⟨nd,hsF,lt,fun x hx y hy o=>cl x hx (by simp) y hy o,re⟩
  trivial
  ·rw[ziZ g3 (by omega),zdv (by rw[length_map,zcm];omega)]
  ·rw[zpx comp]
   subst h3
   exact(O.alloc _).finO (by simp only[zf7];exact bels_nW _ _)
theorem zsl(fu:Nat)(hfu:200<=fu)(hm:Mk b mk vl)(hb:Bd b)(h36:b.length<=36)(hs:s<b.length):zdg (d_aa fu) [wB b,mk,nW s] ce=some (.ok (wL (cpt b vl s)) ce) :=
 zci (zfJ fu hfu hm hb h36 hs) (bels_nW _ _)
end
section
variable {b:List (List Nat)} {mk:W} {vl:Nat->Int} {s:Nat} {ce:Ce}
theorem zjW(fu:Nat)(hfu:200<=fu)(hm:Mk b mk vl)(hb:Bd b)(sym:Sym b)(h36:b.length<=36) :
  d_ea fu [wB b,mk] ce=some (.ok (.cel ce.length) (ce++[.lst ((ptc b vl).map wL)])):=by
 have hz:=zfj
 unfold d_ea
 refine zba [some (wB b),some mk,none,none,none,none,none] rfl ?_
 trivial
 have O0:=((Own.start ce).alloc (C.dct (kvs []))).alloc (C.lst [])
 refine(?_:Run _ _ ((ce++[C.dct (kvs [])])++[C.lst []]) _)
 generalize h3:(ce++[C.dct []]).length=k3
 have h3':(ce++[C.dct (kvs [])]).length=k3:=h3
 rw[h3'] at O0
 generalize h2:ce.length=k2 at O0 ⊢
 generalize (ce++[C.dct (kvs [])])++[C.lst []]=c0 at O0 ⊢
 have hl':b.length<=1000:=by omega
 refine za8 (zs:=List.range b.length) (en:=nW) (zek (by trivial) hl')
  (fun d sl c=>∃S x4 x5 x6,sl=[some (wB b),some mk,some (.cel k2),some (.cel k3),x4,x5,x6]/\Own ce c [(k3,C.lst (((d.filter (zbE b vl)).map (cpt b vl)).map wL)),(k2,C.dct (kvs S))]/\S.Nodup/\(∀x∈S,x<b.length)/\∀x,x∈S↔∃y∈d,x∈cpt b vl y)
  ⟨[],_,_,_,rfl,O0,by simp,by simp,by simp⟩ ?_ ?_
 ·rintro d p r sl c e hp ⟨S,x4,x5,x6,rfl,O,nd,lt,mem⟩
  have hp':p<b.length:=mem_range.mp hp
  have hd:=ziz e
  have g3:=O.g0
  have g2:=O.g1
  have key:p∈S↔¬zbE b vl p=true:=by
   rw[mem]
   constructor
   ·rintro⟨y,hy,hpy⟩ hl
    rw[hd] at hy
    have hy':=mem_range.mp hy
    unfold zbE at hl
    rw[all_eq_true] at hl
    have:=of_decide_eq_true (hl y (zi3 hb sym (by omega) hpy))
    omega
   ·intro hl
    unfold zbE at hl
    rw[all_eq_true] at hl
    obtain⟨y,hy⟩:=Classical.not_forall.mp hl
    obtain⟨hy,hn⟩:=Classical.not_imp.mp hy
    have hn':¬p<=y:=fun q=>hn (decide_eq_true q)
    exact⟨y,by rw[hd];exact mem_range.mpr (by omega),zi3 hb sym hp' hy⟩
  unfold zgd
  have hdl:d.length<b.length:=by have:=congrArg List.length e;simp at this;omega
  have hm3:(((d.filter (zbE b vl)).map (cpt b vl)).map wL).length<PySem.sizeLine:=by simp only[length_map];have:=length_filter_le (zbE b vl) d;omega
  have e1:=fun c=>zsl (ce:=c) fu hfu hm hb h36 hp'
  have e1c:=e1 c
  trivial
  ·rename_i q
   have q':p∉S:=by simpa using q
   have hl:zbE b vl p=true:=Classical.byContradiction fun h=>q' (key.mpr h)
   have O1:=O.set0 (C.lst (((d.filter (zbE b vl)).map (cpt b vl)).map wL++[wL (cpt b vl p)]))
   generalize c.set k3 (C.lst (((d.filter (zbE b vl)).map (cpt b vl)).map wL++[wL (cpt b vl p)]))=c1 at O1 ⊢
   have ef:((d++[p]).filter (zbE b vl)).map (cpt b vl)=(d.filter (zbE b vl)).map (cpt b vl)++[cpt b vl p]:=by rw[filter_append,filter_cons_of_pos hl];simp
   refine zbS (zs:=cpt b vl p) (en:=nW) (zgH (by trivial)) (fun d' sl c=>∃S' x6,sl=[some (wB b),some mk,some (.cel k2),some (.cel k3),some (nW p),some (wL (cpt b vl p)),x6]/\Own ce c [(k3,C.lst ((((d++[p]).filter (zbE b vl)).map (cpt b vl)).map wL)),(k2,C.dct (kvs S'))]/\S'.Nodup/\(∀x∈S',x<b.length)/\∀x,x∈S'↔x∈S\/x∈d')
    ⟨S,x6,rfl,by rw[ef,map_append];exact O1,nd,lt,by simp⟩ ?_ ?_
   ·rintro d' y r' sl c e' hy ⟨S',x6,rfl,O,nd',lt',mem'⟩
    have gd:=zeA O.g1
    have hS:=zaG nd' lt'
    have hk:(kvs S').length<PySem.sizeLine:=by rw[za5];omega
    unfold zgc
    trivial
    refine⟨ins S' y,_,rfl,by rw[zdw];exact O.set1 _,zfm nd',fun x hx=>?_,fun x=>?_⟩
    ·rcases ins_mem.mp hx with hx|rfl
     ·exact lt' x hx
     ·exact cpt_lt hy
    ·rw[ins_mem,mem',mem_append,mem_singleton,or_assoc]
   ·rintro sl c ⟨S',x6,rfl,O,nd',lt',mem'⟩
    refine⟨S',_,_,_,rfl,O,nd',lt',fun x=>?_⟩
    rw[mem',mem]
    constructor
    ·rintro(⟨y,hy,h⟩|h)
     ·exact⟨y,mem_append_left _ hy,h⟩
     ·exact⟨p,by simp,h⟩
    ·rintro⟨y,hy,h⟩
     rcases mem_append.mp hy with hy|hy
     ·exact .inl ⟨y,hy,h⟩
     ·rw[mem_singleton] at hy;subst hy;exact .inr h
  ·rename_i q
   have q':p∈S:=by simpa using q
   have hl:¬zbE b vl p=true:=key.mp q'
   refine⟨S,_,_,_,rfl,?_,nd,lt,fun x=>?_⟩
   ·rw[filter_append,filter_cons_of_neg hl,filter_nil,append_nil];exact O
   ·rw[mem]
    constructor
    ·rintro⟨y,hy,h⟩
     exact⟨y,mem_append_left _ hy,h⟩
    ·rintro⟨y,hy,h⟩
     rcases mem_append.mp hy with hy|hy
     ·exact⟨y,hy,h⟩
     ·rw[mem_singleton] at hy
      subst hy
      obtain⟨z,hz,hyz⟩:=(mem y).mp q'
      have hz':z<b.length:=by rw[hd] at hz;have:=mem_range.mp hz;omega
      exact⟨z,hz,by rw[<- zdm hb sym hz' hyz];exact h⟩
 ·rintro sl c ⟨S,x4,x5,x6,rfl,O,nd,lt,mem⟩
  trivial
  subst h2
  exact O.finO (by simp only[zf7];exact zfq _ _)
theorem zov(fu:Nat)(hfu:200<=fu)(hm:Mk b mk vl)(hb:Bd b)(sym:Sym b)(h36:b.length<=36):zdg (d_ea fu) [wB b,mk] ce=some (.ok (.lst ((ptc b vl).map wL)) ce) :=
 zci (zjW fu hfu hm hb sym h36) (zfq _ _)
end
def zau(b:List (List Nat))(row:List Nat):List Nat:=(List.range b.length).filter fun y=>row.any fun p=>decide (y∈b.getD p [])
section
variable {b:List (List Nat)} {b0 ce:Ce} {row:List Nat}
theorem zeM(fu:Nat)(hb:Bd b)(h36:b.length<=36){w1:W}(hw:LstOf ce w1 (row.map nW))(hr:∀p∈row,p<b.length) :
  d_c fu [wB b,w1] ce=some (.ok (.cel ce.length) (ce++[.lst ((zau b row).map nW)])):=by
 unfold d_c
 have hz:=zfj
 refine zfY ?_
 simp only[map_cons,map_nil,cons_append,nil_append,length_cons,length_nil,List.replicate,Nat.reduceAdd,Nat.reduceSub]
 trivial
 have O0:=(Own.start ce).alloc (C.dct [])
 obtain⟨s,hs,hsi,_⟩:=hw.src
 have hst:∀{c1:Ce} {l:List (Nat×C)},Own ce c1 l->s.Stays c1:=by
  intro c1 l h
  obtain⟨t,rfl⟩:=h.cut
  cases hw with
  | fr=>simp only[zib] at hs;cases hs;exact True.intro
  | cl g =>
   simp only[zib,g] at hs
   cases hs
   show(ce++t)[_]?=_
   rw[getElem?_append_left (List.getElem?_eq_some_iff.mp g).1]
   exact g
 have hs':∀{c1:Ce} {l:List (Nat×C)},Own ce c1 l->zib c1 w1=some s:=by
  intro c1 l h
  obtain⟨t,rfl⟩:=h.cut
  cases hw with
  | fr=>exact hs
  | cl g =>
   simp only[zib,g] at hs ⊢
   rw[getElem?_append_left (List.getElem?_eq_some_iff.mp g).1,g]
   exact hs
 refine zig (xs:=row) (en:=nW) (src:=s) (ce0:=ce++[C.dct []]) (by trivial;exact hs' O0) hsi
  (fun d sl c=>∃F x3 x4,sl=[some (wB b),some w1,some (.cel ce.length),x3,x4]/\Own ce c [(ce.length,C.dct (kvs F))]/\F.Nodup/\(∀x∈F,x<b.length)/\∀x,x∈F↔∃p∈d,x∈b.getD p [])
  ⟨[],none,none,rfl,O0,by simp,by simp,by simp⟩ ?_ (fun sl c h=>by obtain⟨_,_,_,_,O,_⟩:=h;exact hst O) ?_
 ·rintro d p r sl c e hp ⟨F,x3,x4,rfl,O,nd,lt,mem⟩
  refine⟨hst O,?_⟩
  have hp':=hr p hp
  unfold zcB
  refine zbS (zs:=b.getD p []) (en:=nW) (zfn (by trivial))
   (fun d' sl c=>∃F x4,sl=[some (wB b),some w1,some (.cel ce.length),some (nW p),x4]/\Own ce c [(ce.length,C.dct (kvs F))]/\F.Nodup/\(∀x∈F,x<b.length)/\∀x,x∈F↔(∃p∈d,x∈b.getD p [])\/x∈d')
   ⟨F,x4,rfl,O,nd,lt,by simpa using mem⟩ ?_ ?_
  ·rintro d' y r' sl c e' hy ⟨F,x4,rfl,O,nd,lt,mem⟩
   unfold zcA
   have g:=zeA O.g0
   have hl:(kvs F).length<PySem.sizeLine:=by rw[za5];have:=zaG nd lt;omega
   trivial
   refine⟨ins F y,some (nW y),rfl,?_,zfm nd,fun x hx=>?_,fun x=>?_⟩
   ·rw[zdw];exact O.set0 _
   ·rcases ins_mem.mp hx with hx|rfl
    ·exact lt x hx
    ·exact hb.get hy
   ·rw[ins_mem,mem,mem_append,mem_singleton,or_assoc]
  ·rintro sl c ⟨F,x4,rfl,O,nd,lt,mem⟩
   refine⟨F,some (nW p),x4,rfl,O,nd,lt,fun x=>?_⟩
   rw[mem]
   constructor
   ·rintro(⟨q,hq,h⟩|h)
    ·exact⟨q,mem_append_left _ hq,h⟩
    ·exact⟨p,by simp,h⟩
   ·rintro⟨q,hq,h⟩
    rcases mem_append.mp hq with hq|hq
    ·exact .inl ⟨q,hq,h⟩
    ·rw[mem_singleton] at hq;subst hq;exact .inr h
 ·rintro sl c ⟨F,x3,x4,rfl,O,nd,lt,mem⟩
  have hl:=zaG nd lt
  have es:zcz F=zau b row:=by
   rw[zda nd lt]
   unfold zau
   apply filter_congr
   intro x _
   rw[Bool.eq_iff_iff]
   simp[mem]
  trivial
  ·rw[ziZ O.g0 (by omega),zdv (by rw[es,length_map];unfold zau;have:=length_filter_le (fun y=>row.any fun p=>decide (y∈b.getD p [])) (List.range b.length);rw[length_range] at this;omega)]
  ·rw[es]
   exact((O.alloc _).finO (by simp only[zf7];exact bels_nW _ _))
end
def brs(b:List (List Nat))(is:List Int)(row:List Nat):List Nat:=(zau b row).filter fun p=>decide (is.getD p 0=0)
section
variable {b:List (List Nat)} {ce:Ce} {row:List Nat} {is:List Int}
theorem zgg{y:Nat}(h:y∈zau b row):y<b.length:=mem_range.mp (mem_filter.mp h).1
theorem zfK:(zau b row).length<=b.length:=by
 have:=length_filter_le (fun y=>row.any fun p=>decide (y∈b.getD p [])) (List.range b.length)
 rw[length_range] at this
 exact this
theorem zow(fu:Nat)(hb:Bd b)(h36:b.length<=36){w1:W}(hw:LstOf ce w1 (row.map nW))(hr:∀p∈row,p<b.length):zdg (d_c fu) [wB b,w1] ce=some (.ok (wL (zau b row)) ce) :=
 zci (zeM fu hb h36 hw hr) (bels_nW _ _)
theorem zgh(fu:Nat)(hb:Bd b)(h36:b.length<=36)(hl:is.length=b.length){w1:W}(hw:LstOf ce w1 (row.map nW))(hr:∀p∈row,p<b.length) :
  d_fa fu [wB b,wS is,w1] ce=some (.ok (.cel ce.length) (ce++[.lst ((brs b is row).map nW)])):=by
 unfold d_fa
 have hz:=zfj
 have e1:=zow fu hb h36 hw hr
 have h2:=zfK (b:=b) (row:=row)
 refine zba [some (wB b),some (wS is),some w1] rfl ?_
 refine zap (ztK (zs:=zau b row) (en:=nW) (t:=fun p=>decide (is.getD p 0=0)) (by trivial) (by omega) (fun p hp=>?_)) ?_
 ·have:=zgg hp
  have hp':p<is.length:=by omega
  trivial
 ·exact(((Own.start ce).alloc _).finO (by simp only[zf7];exact bels_nW _ _))
end
open Classical in
def vT(T:List Nat):Nat->Int:=fun x=>if x∈T then 0 else 1
theorem zsm{T:List Nat}{x:Nat}(h:x∈T):vT T x=0:=if_pos h
theorem zlC{T:List Nat}{s y:Nat}(hs:s∈T):okV (vT T) s y↔y∈T:=by
 unfold okV
 rw[zsm hs]
 constructor
 ·intro h
  by_cases hy:y∈T
  ·exact hy
  ·unfold vT at h;rw[if_neg hy] at h;omega
 ·exact zsm
def thr(is H:List Int):List Nat:=(List.range is.length).filter fun p=>decide (is.getD p 0∈H)
def lpt(b:List (List Nat))(T:List Nat):List (List Nat):=(T.filter (zbE b (vT T))).map (cpt b (vT T))
theorem zcu(is:List Int)(p q:Nat)(v:Int):(is.set p v).getD q 0=if p=q/\p<is.length then v else is.getD q 0:=by
 simp only[getD_eq_getElem?_getD,getElem?_set]
 by_cases h:p=q
 ·subst h
  by_cases h2:p<is.length
  ·simp[h2]
  ·simp[h2]
 ·simp[h]
abbrev vS(is:List Int):Nat->Int:=fun x=>is.getD x 0
abbrev vH(is:List Int)(h:Int):Nat->Int:=fun x=>if is.getD x 0=h then 1 else 0
theorem zbO{b:List (List Nat)}{ok ok':Nat->Prop}{s:Nat}(h:∀x y,Reach b ok s x->Reach b ok' s x->y∈b.getD x []->ok y->ok' y){x:Nat}(r:Reach b ok s x):Reach b ok' s x:=by
 induction r with
 | refl=>exact .refl
 | step r hy o ih=>exact ih.step hy (h _ _ r ih hy o)
open Classical in
theorem zlD{b:List (List Nat)}{vl vl':Nat->Int}{s:Nat}(e:∀y,Reach b (okV vl s) s y↔Reach b (okV vl' s) s y):cpt b vl s=cpt b vl' s:=by
 unfold cpt
 apply filter_congr
 intro y _
 rw[Bool.eq_iff_iff,decide_eq_true_eq,decide_eq_true_eq]
 exact e y
theorem zja{b:List (List Nat)}{vl:Nat->Int}(hb:Bd b)(sym:Sym b){s t q:Nat}(hs:s<b.length)(ht:t<b.length)(h1:q∈cpt b vl s)(h2:q∈cpt b vl t):cpt b vl s=cpt b vl t:=by
 rw[<- zdm hb sym hs h1,<- zdm hb sym ht h2]
def zl9(b:List (List Nat))(is:List Int)(h:Int):Prop:=∀s,s<b.length->is.getD s 0=h->∃x y,Reach b (okV (vS is) s) s x/\y∈b.getD x []/\is.getD y 0=0
theorem zbc{b:List (List Nat)}{is:List Int}{r:List Nat}(hb:Bd b){y:Nat}:y∈brs b is r↔(∃x∈r,y∈b.getD x [])/\is.getD y 0=0:=by
 unfold brs zau
 rw[mem_filter,mem_filter,mem_range,any_eq_true,decide_eq_true_eq]
 constructor
 ·rintro⟨⟨_,x,hx,q⟩,h0⟩
  exact⟨⟨x,hx,of_decide_eq_true q⟩,h0⟩
 ·rintro⟨⟨x,hx,q⟩,h0⟩
  exact⟨⟨hb.get q,x,hx,decide_eq_true q⟩,h0⟩
theorem zlE{b:List (List Nat)}{r:List Nat}(hb:Bd b){y:Nat}:y∈zau b r↔∃x∈r,y∈b.getD x []:=by
 unfold zau
 rw[mem_filter,mem_range,any_eq_true]
 constructor
 ·rintro⟨_,x,hx,q⟩
  exact⟨x,hx,of_decide_eq_true q⟩
 ·rintro⟨x,hx,q⟩
  exact⟨hb.get q,x,hx,decide_eq_true q⟩
theorem zlF{b:List (List Nat)}{is:List Int}{r:List Nat}(hb:Bd b):brs b is r=[]↔∀x∈r,∀y∈b.getD x [],is.getD y 0≠0:=by
 rw[eq_nil_iff_forall_not_mem]
 constructor
 ·intro h x hx y hy h0
  exact h y ((zbc hb).mpr ⟨⟨x,hx,hy⟩,h0⟩)
 ·intro h y hy
  obtain⟨⟨x,hx,hy⟩,h0⟩:=(zbc hb).mp hy
  exact h x hx y hy h0
structure Swp (b:List (List Nat)) (is:List Int) (h:Int) (d:List (List Nat)) (is':List Int) (D:List (List Nat)):Prop where
 len:is'.length=is.length
 sub:∀r∈D,r∈d
 zp:∀r∈D,∀q∈r,is'.getD q 0=0
 was:∀q,is'.getD q 0=is.getD q 0\/(is'.getD q 0=0/\∃r∈D,q∈r)
 fre:∀r∈d,r∈D\/∃x∈r,∃y∈b.getD x [],is'.getD y 0=0
 no:∀r∈D,∀x∈r,∀y∈b.getD x [],is.getD y 0≠0
theorem thr_mem{is:List Int}{h:Int}{p:Nat}:p∈thr is [h]↔p<is.length/\is.getD p 0=h:=by
 unfold thr
 rw[mem_filter,mem_range,decide_eq_true_eq,mem_singleton]
theorem zlG{b:List (List Nat)}{T:List Nat}(hb:Bd b)(sym:Sym b)(hT:∀x∈T,x<b.length){s:Nat}(hs:s∈T):cpt b (vT T) s∈lpt b T:=by
 obtain⟨m,h1,h2,h3⟩:=zcR (vl:=vT T) hb sym (hT s hs)
 have hm:m∈T:=(zlC hs).mp (cpt_val hb (hT s hs) h1)
 exact mem_map.mpr ⟨m,mem_filter.mpr ⟨hm,h2⟩,h3⟩
theorem zlH{b:List (List Nat)}{T:List Nat}{c:List Nat}(h:c∈lpt b T):∃s∈T,c=cpt b (vT T) s:=by
 obtain⟨s,hs,rfl⟩:=mem_map.mp h
 exact⟨s,(mem_filter.mp hs).1,rfl⟩
theorem ziD{b:List (List Nat)}{is:List Int}(hb:Bd b)(hl:is.length=b.length){s:Nat}(hs:s<b.length):cpt b (vT (thr is [is.getD s 0])) s=cpt b (vS is) s:=by
 have hT:s∈thr is [is.getD s 0]:=thr_mem.mpr ⟨by omega,rfl⟩
 refine zlD fun y=>⟨fun r=>zbO (fun x y _ _ _ o=>?_) r,fun r=>zbO (fun x y _ _ hy o=>?_) r⟩
 ·exact(thr_mem.mp ((zlC hT).mp o)).2
 ·exact(zlC hT).mpr (thr_mem.mpr ⟨by rw[hl];exact hb.get hy,o⟩)
section
variable {b:List (List Nat)} {is is':List Int} {h o:Int} {D:List (List Nat)}
theorem Swp.hand{d:List (List Nat)}(S:Swp b is h d is' D)(hb:Bd b)(hl:is.length=b.length)(hd:∀r∈d,r∈lpt b (thr is [h])){r:List Nat}(hr:r∈D){q:Nat}(hq:q∈r):is.getD q 0=h/\r=cpt b (vS is) q\/¬Sym b:=by
 by_cases sym:Sym b
 ·left
  obtain⟨s,hs,rfl⟩:=zlH (hd r (S.sub r hr))
  have hs':=thr_mem.mp hs
  have hsb:s<b.length:=by omega
  have e:=hs'.2
  subst e
  rw[ziD hb hl hsb] at hq ⊢
  exact⟨cpt_val hb hsb hq,(zdm hb sym hsb hq).symm⟩
 ·exact .inr sym
theorem Swp.hand'{d:List (List Nat)}(S:Swp b is h d is' D)(hb:Bd b)(sym:Sym b)(hl:is.length=b.length)(hd:∀r∈d,r∈lpt b (thr is [h])){r:List Nat}(hr:r∈D){q:Nat}(hq:q∈r):is.getD q 0=h/\r=cpt b (vS is) q:=(S.hand hb hl hd hr hq).resolve_right (fun n=>n sym)
theorem Swp.snd(S:Swp b is h (lpt b (thr is [h])) is' D)(hb:Bd b)(sym:Sym b)(hl:is.length=b.length)(h0:h≠0):zl9 b is' h:=by
 intro s hs e
 have es:is.getD s 0=h:=by
  rcases S.was s with q|q
  ·rw[<- q];exact e
  ·exact absurd (e.symm.trans q.1) h0
 have hr:cpt b (vS is) s∈lpt b (thr is [h]):=by
  have:=zlG (T:=thr is [is.getD s 0]) hb sym (fun x hx=>by have:=(thr_mem.mp hx).1;omega) (thr_mem.mpr ⟨by omega,rfl⟩:s∈_)
  rwa [ziD hb hl hs,es] at this
 have nD:cpt b (vS is) s∉D:=fun hD=>h0 (by rw[<- e];exact S.zp _ hD s (zbv hb hs))
 rcases S.fre _ hr with q|⟨x,hx,y,hy,hy0⟩
 ·exact absurd q nD
 ·refine⟨x,y,?_,hy,hy0⟩
  refine zbO (fun u z ru _ hz oz=>?_) ((zbj hb hs).mp hx)
  have hzr:z∈cpt b (vS is) s:=(zbj hb hs).mpr (ru.step hz oz)
  show is'.getD z 0=is'.getD s 0
  rw[e]
  rcases S.was z with q|⟨_,r,hrD,hzr2⟩
  ·rw[q];exact oz.trans es
  ·obtain⟨_,er⟩:=S.hand' hb sym hl (fun r hr=>hr) hrD hzr2
   rw[er,zdm hb sym hs hzr] at hrD
   exact absurd hrD nD
structure Pap (b:List (List Nat)) (is:List Int) (h:Int) (R C:List (List Nat)):Prop where
 row:∀r∈R,∃s,s<b.length/\is.getD s 0=h/\r=cpt b (vS is) s
 cl:∀c∈C,∃s,s<b.length/\is.getD s 0≠h/\c=cpt b (vH is h) s
 firm:∀r∈R,∃c1∈C,∃c2∈C,c1≠c2/\(∀p∈c1,is.getD p 0=0->p∈brs b is r)/\∀p∈c2,is.getD p 0=0->p∈brs b is r
 wall:∀c∈C,∀x∈c,∀y∈b.getD x [],is.getD y 0=h->∃r∈R,y∈r
structure LaidOk (b:List (List Nat)) (is:List Int) (h o:Int) (p:Nat) (is':List Int) (D:List (List Nat)):Prop where
 hl:is.length=b.length
 hp:p<b.length
 p0:is.getD p 0=0
 sw:Swp b (is.set p o) h (lpt b (thr (is.set p o) [h])) is' D
 br:∃x y,Reach b (okV (vS is') p) p x/\y∈b.getD x []/\is'.getD y 0=0
structure Hands (h o:Int):Prop where
 h0:h≠0
 o0:o≠0
 ho:o≠h
theorem LaidOk.set1{p:Nat}(L:LaidOk b is h o p is' D)(q:Nat):(is.set p o).getD q 0=if q=p then o else is.getD q 0:=by
 rw[zcu]
 by_cases e:q=p
 ·subst e;rw[if_pos ⟨rfl,by rw[L.hl];exact L.hp⟩,if_pos rfl]
 ·rw[if_neg (fun x=>e x.1.symm),if_neg e]
theorem LaidOk.val{p:Nat}(L:LaidOk b is h o p is' D)(hb:Bd b)(sym:Sym b)(H:Hands h o)(q:Nat):is'.getD q 0=(if q=p then o else is.getD q 0)\/(is'.getD q 0=0/\is.getD q 0=h/\q≠p/\∃r∈D,q∈r):=by
 rcases L.sw.was q with e|⟨e,r,hr,hq⟩
 ·left;rw[e,L.set1]
 ·obtain⟨e1,_⟩:=L.sw.hand' hb sym (by rw[length_set];exact L.hl) (fun r hr=>hr) hr hq
  rw[L.set1] at e1
  by_cases hqp:q=p
  ·rw[if_pos hqp] at e1;exact absurd e1 H.ho
  ·rw[if_neg hqp] at e1;exact .inr ⟨e,e1,hqp,r,hr,hq⟩
theorem LaidOk.isO{p:Nat}(L:LaidOk b is h o p is' D)(hb:Bd b)(sym:Sym b)(H:Hands h o){q:Nat}(e:is.getD q 0=o):is'.getD q 0=o:=by
 rcases L.val hb sym H q with v|v
 ·rw[v];split
  ·rfl
  ·exact e
 ·exact absurd (e.symm.trans v.2.1) H.ho
theorem LaidOk.isP{p:Nat}(L:LaidOk b is h o p is' D)(hb:Bd b)(sym:Sym b)(H:Hands h o):is'.getD p 0=o:=by
 rcases L.val hb sym H p with v|v
 ·rw[v,if_pos rfl]
 ·exact absurd rfl v.2.2.1
theorem LaidOk.is0{p:Nat}(L:LaidOk b is h o p is' D)(hb:Bd b)(sym:Sym b)(H:Hands h o){q:Nat}(e:is.getD q 0=0)(hq:q≠p):is'.getD q 0=0:=by
 rcases L.val hb sym H q with v|v
 ·rw[v,if_neg hq];exact e
 ·exact v.1
theorem LaidOk.snd{p:Nat}(L:LaidOk b is h o p is' D)(hb:Bd b)(sym:Sym b)(H:Hands h o)(N:zl9 b is o):zl9 b is' o:=by
 intro s hs e
 have eP:=L.isP hb sym H
 by_cases hsp:Reach b (okV (vS is') s) s p
 ·obtain⟨x,y,r,hy,h0⟩:=L.br
  refine⟨x,y,hsp.trans ?_,hy,h0⟩
  have:okV (vS is') s=okV (vS is') p:=zon (vl:=vS is') (x:=s) (s:=p) (e.trans eP.symm)
  rw[this];exact r
 ·have hne:s≠p:=fun q=>hsp (by subst q;exact .refl)
  have es:is.getD s 0=o:=by
   rcases L.val hb sym H s with v|v
   ·rw[if_neg hne] at v;exact v.symm.trans e
   ·exact absurd (e.symm.trans v.1) H.o0
  obtain⟨x,y,r,hy,h0⟩:=N s hs es
  have r':Reach b (okV (vS is') s) s x:=zbO (fun u z _ _ _ oz=>by
   show is'.getD z 0=is'.getD s 0
   rw[e];exact L.isO hb sym H (oz.trans es)) r
  refine⟨x,y,r',hy,L.is0 hb sym H h0 fun q=>hsp ?_⟩
  subst q
  exact r'.step hy (eP.trans e.symm)
end
theorem zd8{n:Nat}{t:Nat->Bool}{x:Nat}:x∈(List.range n).filter t↔x<n/\t x=true:=by rw[mem_filter,mem_range]
def lD(b:List (List Nat))(is:List Int)(o:Int)(p:Nat):List (List Nat):=(lpt b (thr (is.set p o) [3-o])).filter fun r=>decide (brs b (is.set p o) r=[])
def lT(b:List (List Nat))(is:List Int)(o:Int)(p:Nat):List Nat:=(List.range b.length).filter fun q=>(lD b is o p).any fun r=>decide (q∈r)
def lS(b:List (List Nat))(is:List Int)(o:Int)(p:Nat):List Int:=(List.range is.length).map fun q=>if q=p then o else if q∈lT b is o p then 0 else is.getD q 0
structure LyA (b:List (List Nat)) (is:List Int) (o:Int) (p:Nat):Prop where
 bd:Bd b
 sym:Sym b
 nl:∀i,i∉b.getD i []
 hl:is.length=b.length
 hp:p<b.length
 p0:is.getD p 0=0
 H:Hands (3-o) o
 v:∀q,q<b.length->is.getD q 0=0\/is.getD q 0=3-o\/is.getD q 0=o
 nh:zl9 b is (3-o)
 no:zl9 b is o
section
variable {b:List (List Nat)} {is:List Int} {o:Int} {p:Nat}
theorem zfL:(lS b is o p).length=is.length:=by simp[lS]
theorem LyA.s1(A:LyA b is o p)(q:Nat):(is.set p o).getD q 0=if q=p then o else is.getD q 0:=by
 rw[zcu]
 by_cases e:q=p
 ·subst e;rw[if_pos ⟨rfl,by rw[A.hl];exact A.hp⟩,if_pos rfl]
 ·rw[if_neg (fun x=>e x.1.symm),if_neg e]
theorem LyA.l1(A:LyA b is o p):(is.set p o).length=b.length:=by rw[length_set];exact A.hl
theorem LyA.get(A:LyA b is o p){q:Nat}(hq:q<b.length):(lS b is o p).getD q 0=if q=p then o else if q∈lT b is o p then 0 else is.getD q 0:=by
 unfold lS
 rw[getD_eq_getElem?_getD,getElem?_map,getElem?_range (by rw[A.hl];exact hq)]
 rfl
theorem LyA.far(A:LyA b is o p){q:Nat}(hq:¬q<b.length):(lS b is o p).getD q 0=0/\is.getD q 0=0:=by
 have h1:=A.hl
 constructor
 ·rw[getD_eq_getElem?_getD,getElem?_eq_none (by rw[zfL];omega)];rfl
 ·rw[getD_eq_getElem?_getD,getElem?_eq_none (by omega)];rfl
theorem LyA.dead(A:LyA b is o p){r:List Nat}:r∈lD b is o p↔∃s,s<b.length/\is.getD s 0=3-o/\r=cpt b (vS is) s/\∀x∈r,∀y∈b.getD x [],is.getD y 0=0->y=p:=by
 have hT:∀{s},s∈thr (is.set p o) [3-o]↔s<b.length/\is.getD s 0=3-o:=fun {s}=>by
  rw[thr_mem,A.l1,A.s1]
  constructor
  ·rintro⟨h1,h2⟩
   by_cases e:s=p
   ·rw[if_pos e] at h2;exact absurd h2 A.H.ho
   ·rw[if_neg e] at h2;exact⟨h1,h2⟩
  ·rintro⟨h1,h2⟩
   have e:s≠p:=fun e=>by subst e;exact A.H.h0 (h2.symm.trans A.p0)
   exact⟨h1,by rw[if_neg e];exact h2⟩
 have hc:∀{s},s<b.length->is.getD s 0=3-o->cpt b (vT (thr (is.set p o) [3-o])) s=cpt b (vS is) s:=fun {s} hs es=>by
  have hsT:=hT.mpr ⟨hs,es⟩
  refine zlD fun y=>⟨fun r=>zbO (fun u z _ _ hz oz=>?_) r,fun r=>zbO (fun u z _ _ hz oz=>?_) r⟩
  ·exact(hT.mp ((zlC hsT).mp oz)).2.trans es.symm
  ·exact(zlC hsT).mpr (hT.mpr ⟨A.bd.get hz,Eq.trans oz es⟩)
 have hb1:∀{r:List Nat},brs b (is.set p o) r=[]↔∀x∈r,∀y∈b.getD x [],is.getD y 0=0->y=p:=fun {r}=>by
  rw[zlF A.bd]
  constructor
  ·intro h x hx y hy y0
   apply Classical.byContradiction
   intro hne
   exact h x hx y hy (by rw[A.s1,if_neg hne];exact y0)
  ·intro h x hx y hy
   rw[A.s1]
   by_cases e:y=p
   ·rw[if_pos e];exact A.H.o0
   ·rw[if_neg e];exact fun y0=>e (h x hx y hy y0)
 unfold lD
 rw[mem_filter,decide_eq_true_eq,hb1]
 constructor
 ·rintro⟨h1,h2⟩
  obtain⟨s,hs,rfl⟩:=zlH h1
  obtain⟨q1,q2⟩:=hT.mp hs
  rw[hc q1 q2] at h2 ⊢
  exact⟨s,q1,q2,rfl,h2⟩
 ·rintro⟨s,q1,q2,rfl,h2⟩
  refine⟨?_,h2⟩
  have:=zlG (T:=thr (is.set p o) [3-o]) A.bd A.sym (fun x hx=>(hT.mp hx).1) (hT.mpr ⟨q1,q2⟩)
  rwa [hc q1 q2] at this
theorem LyA.tk(A:LyA b is o p){q:Nat}:q∈lT b is o p↔∃r∈lD b is o p,q∈r:=by
 unfold lT
 rw[zd8,any_eq_true]
 constructor
 ·rintro⟨_,r,hr,hq⟩;exact⟨r,hr,of_decide_eq_true hq⟩
 ·rintro⟨r,hr,hq⟩
  obtain⟨s,hs,_,rfl,_⟩:=A.dead.mp hr
  exact⟨cpt_lt hq,_,hr,decide_eq_true hq⟩
theorem LyA.tkh(A:LyA b is o p){q:Nat}(h:q∈lT b is o p):q<b.length/\is.getD q 0=3-o/\q≠p:=by
 obtain⟨r,hr,hq⟩:=A.tk.mp h
 obtain⟨s,hs,es,rfl,_⟩:=A.dead.mp hr
 have e:is.getD q 0=3-o:=(cpt_val A.bd hs hq).trans es
 exact⟨cpt_lt hq,e,fun e'=>by subst e';exact A.H.h0 (e.symm.trans A.p0)⟩
theorem LyA.near(A:LyA b is o p){q:Nat}:q∈lT b is o p↔∃y∈b.getD p [],is.getD y 0=3-o/\(brs b is (cpt b (vS is) y)).erase p=[]/\q∈cpt b (vS is) y:=by
 have nd:∀r,(brs b is r).Nodup:=fun r=>List.Pairwise.filter _ (List.Pairwise.filter _ nodup_range)
 have er:∀y,y<b.length->((brs b is (cpt b (vS is) y)).erase p=[]↔∀x∈cpt b (vS is) y,∀z∈b.getD x [],is.getD z 0=0->z=p):=fun y hy=>by
  rw[eq_nil_iff_forall_not_mem]
  constructor
  ·intro h x hx z hz z0
   apply Classical.byContradiction
   intro hne
   exact h z (((nd _).mem_erase_iff).mpr ⟨hne,(zbc A.bd).mpr ⟨⟨x,hx,hz⟩,z0⟩⟩)
  ·intro h z hz
   obtain⟨h1,h2⟩:=((nd _).mem_erase_iff).mp hz
   obtain⟨⟨x,hx,hz⟩,z0⟩:=(zbc A.bd).mp h2
   exact h1 (h x hx z hz z0)
 rw[A.tk]
 constructor
 ·rintro⟨r,hr,hq⟩
  obtain⟨s,hs,es,rfl,hd⟩:=A.dead.mp hr
  obtain⟨u,w,ru,hw,w0⟩:=A.nh s hs es
  have hu:u∈cpt b (vS is) s:=(zbj A.bd hs).mpr ru
  have e:=hd u hu w hw w0
  subst e
  have hub:=cpt_lt hu
  refine⟨u,A.sym _ _ hw,(cpt_val A.bd hs hu).trans es,?_,?_⟩
  ·rw[er u hub,zdm A.bd A.sym hs hu];exact hd
  ·rw[zdm A.bd A.sym hs hu];exact hq
 ·rintro⟨y,hy,ey,h1,hq⟩
  have hyb:=A.bd.get hy
  exact⟨_,A.dead.mpr ⟨y,hyb,ey,rfl,(er y hyb).mp h1⟩,hq⟩
theorem LyA.swp(A:LyA b is o p):Swp b (is.set p o) (3-o) (lpt b (thr (is.set p o) [3-o])) (lS b is o p) (lD b is o p):=by
 have low:∀y,(is.set p o).getD y 0=0->(lS b is o p).getD y 0=0:=fun y h0=>by
  by_cases hy:y<b.length
  ·rw[A.s1] at h0
   rw[A.get hy]
   by_cases e:y=p
   ·rw[if_pos e] at h0;exact absurd h0 A.H.o0
   ·rw[if_neg e] at h0 ⊢
    split
    ·rfl
    ·exact h0
  ·exact(A.far hy).1
 refine⟨by rw[zfL,length_set],fun r hr=>(mem_filter.mp hr).1,fun r hr q hq=>?_,fun q=>?_,fun r hr=>?_,fun r hr=>?_⟩
 ·have ht:=A.tk.mpr ⟨r,hr,hq⟩
  obtain⟨h1,_,h3⟩:=A.tkh ht
  rw[A.get h1,if_neg h3,if_pos ht]
 ·by_cases hq:q<b.length
  ·rw[A.get hq,A.s1]
   by_cases e:q=p
   ·rw[if_pos e,if_pos e];exact .inl rfl
   ·rw[if_neg e,if_neg e]
    by_cases ht:q∈lT b is o p
    ·rw[if_pos ht];exact .inr ⟨rfl,A.tk.mp ht⟩
    ·rw[if_neg ht];exact .inl rfl
  ·left
   rw[(A.far hq).1,A.s1,if_neg (fun e=>hq (by rw[e];exact A.hp)),(A.far hq).2]
 ·by_cases e:brs b (is.set p o) r=[]
  ·exact .inl (mem_filter.mpr ⟨hr,decide_eq_true e⟩)
  ·obtain⟨y,hy⟩:=exists_mem_of_ne_nil _ e
   obtain⟨⟨x,hx,hy⟩,h0⟩:=(zbc A.bd).mp hy
   exact .inr ⟨x,hx,y,hy,low y h0⟩
 ·exact(zlF A.bd).mp (of_decide_eq_true (mem_filter.mp hr).2)
def Frb(b:List (List Nat))(is:List Int)(o:Int)(p:Nat):Prop:=brs b (lS b is o p) (cpt b (vS (lS b is o p)) p)≠[]
theorem LyA.laid(A:LyA b is o p)(h:Frb b is o p):LaidOk b is (3-o) o p (lS b is o p) (lD b is o p):=by
 refine⟨A.hl,A.hp,A.p0,A.swp,?_⟩
 obtain⟨y,hy⟩:=exists_mem_of_ne_nil _ h
 obtain⟨⟨x,hx,hy⟩,h0⟩:=(zbc A.bd).mp hy
 exact⟨x,y,(zbj A.bd A.hp).mp hx,hy,h0⟩
theorem LyA.atP(A:LyA b is o p):(lS b is o p).getD p 0=o:=by rw[A.get A.hp,if_pos rfl]
theorem LyA.brth(A:LyA b is o p):Frb b is o p↔((∃y∈b.getD p [],is.getD y 0=0)\/∃y∈b.getD p [],is.getD y 0=o/\(brs b is (cpt b (vS is) y)).erase p≠[])\/lT b is o p≠[]:=by
 have nd:∀r,(brs b is r).Nodup:=fun r=>List.Pairwise.filter _ (List.Pairwise.filter _ nodup_range)
 have free:∀y,y<b.length->is.getD y 0=0->y≠p->(lS b is o p).getD y 0=0:=fun y hy y0 hne=>by
  rw[A.get hy,if_neg hne];split
  ·rfl
  ·exact y0
 have own:∀y,y<b.length->is.getD y 0=o->(lS b is o p).getD y 0=o:=fun y hy e=>by
  rw[A.get hy];split
  ·rfl
  ·rw[if_neg (fun h=>A.H.ho (e.symm.trans (A.tkh h).2.1))];exact e
 have selfP:=zbv (vl:=vS (lS b is o p)) A.bd A.hp
 constructor
 ·intro h
  by_cases ht:lT b is o p=[]
  ·left
   obtain⟨w,hw⟩:=exists_mem_of_ne_nil _ h
   obtain⟨⟨u,hu,hv⟩,w0⟩:=(zbc A.bd).mp hw
   have hwb:=A.bd.get hv
   have e1:∀q,q<b.length->(lS b is o p).getD q 0=if q=p then o else is.getD q 0:=fun q hq=>by rw[A.get hq,ht];simp
   rw[e1 w hwb] at w0
   have hwp:w≠p:=fun e=>by rw[if_pos e] at w0;exact A.H.o0 w0
   rw[if_neg hwp] at w0
   have key:∀u,Reach b (okV (vS (lS b is o p)) p) p u->u=p\/∃y∈b.getD p [],is.getD y 0=o/\Reach b (okV (vS is) y) y u:=by
    intro u r
    induction r with
    | refl=>exact .inl rfl
    | @step x z r hz oz ih =>
     by_cases ezp:z=p
     ·exact .inl ezp
     ·right
      have hzb:=A.bd.get hz
      have oz':(lS b is o p).getD z 0=o:=Eq.trans oz A.atP
      rw[e1 z hzb,if_neg ezp] at oz'
      rcases ih with rfl|⟨y,hy,ey,ry⟩
      ·exact⟨z,hz,oz',.refl⟩
      ·exact⟨y,hy,ey,ry.step hz (oz'.trans ey.symm)⟩
   rcases key u ((zbj A.bd A.hp).mp hu) with rfl|⟨y,hy,ey,ry⟩
   ·exact .inl ⟨w,hv,w0⟩
   ·refine .inr ⟨y,hy,ey,fun e=>?_⟩
    have:w∈(brs b is (cpt b (vS is) y)).erase p:=((nd _).mem_erase_iff).mpr ⟨hwp,(zbc A.bd).mpr ⟨⟨u,(zbj A.bd (A.bd.get hy)).mpr ry,hv⟩,w0⟩⟩
    rw[e] at this
    simp at this
  ·exact .inr ht
 ·rintro((⟨y,hy,y0⟩|⟨y,hy,ey,hne⟩)|ht)
  ·have hyb:=A.bd.get hy
   have hyp:y≠p:=fun e=>A.nl p (by rw[e] at hy;exact hy)
   exact ne_nil_of_mem ((zbc A.bd).mpr ⟨⟨p,selfP,hy⟩,free y hyb y0 hyp⟩)
  ·obtain⟨w,hw⟩:=exists_mem_of_ne_nil _ hne
   obtain⟨hwp,hw⟩:=((nd _).mem_erase_iff).mp hw
   obtain⟨⟨u,hu,hw⟩,w0⟩:=(zbc A.bd).mp hw
   have hyb:=A.bd.get hy
   have r1:Reach b (okV (vS (lS b is o p)) p) p y:=Reach.refl.step hy ((own y hyb ey).trans A.atP.symm)
   have r2:Reach b (okV (vS (lS b is o p)) p) y u:=zbO (fun x z _ _ hz oz=>(own z (A.bd.get hz) (Eq.trans oz ey)).trans A.atP.symm) ((zbj A.bd hyb).mp hu)
   exact ne_nil_of_mem ((zbc A.bd).mpr ⟨⟨u,(zbj A.bd A.hp).mpr (r1.trans r2),hw⟩,free w (A.bd.get hw) w0 hwp⟩)
  ·obtain⟨q,hq⟩:=exists_mem_of_ne_nil _ ht
   obtain⟨y,hy,ey,h1,_⟩:=A.near.mp hq
   have hyb:=A.bd.get hy
   have ty:y∈lT b is o p:=A.near.mpr ⟨y,hy,ey,h1,zbv A.bd hyb⟩
   refine ne_nil_of_mem ((zbc A.bd).mpr ⟨⟨p,selfP,hy⟩,?_⟩)
   rw[A.get hyb,if_neg (A.tkh ty).2.2,if_pos ty]
theorem LyA.snd(A:LyA b is o p)(h:Frb b is o p):zl9 b (lS b is o p) o/\zl9 b (lS b is o p) (3-o) :=
 ⟨(A.laid h).snd A.bd A.sym A.H A.no,A.swp.snd A.bd A.sym A.l1 A.H.h0⟩
theorem LyA.vals(A:LyA b is o p):∀q,q<b.length->(lS b is o p).getD q 0=0\/(lS b is o p).getD q 0=3-o\/(lS b is o p).getD q 0=o:=fun q hq=>by
 rw[A.get hq]
 split
 ·exact .inr (.inr rfl)
 ·split
  ·exact .inl rfl
  ·exact A.v q hq
end
theorem zlI{b:List (List Nat)}{is:List Int}{r r':List Nat}(h:∀x,x∈r↔x∈r'):brs b is r=brs b is r':=by
 unfold brs zau
 congr 1
 apply filter_congr
 intro y _
 rw[Bool.eq_iff_iff,any_eq_true,any_eq_true]
 exact⟨fun⟨x,hx,q⟩=>⟨x,(h x).mp hx,q⟩,fun⟨x,hx,q⟩=>⟨x,(h x).mpr hx,q⟩⟩
theorem ziE{ce:Ce}{k:Nat}{F:List Nat}(g:ce[k]?=some (.dct (kvs F))):zbQ [.cel k] ce=some (.ok (nW F.length) ce):=by
 have l:ze7 ce (.cel k)=none:=by simp only[ze7,zcw,g]
 simp only[zbQ,l,zoe g,za5];rfl
section
variable {b:List (List Nat)} {is:List Int} {ce:Ce} {row:List Nat}
theorem zpX(fu:Nat)(hfu:200<=fu)(B:Brd b)(hl:is.length=b.length){s:Nat}(hs:s<b.length):∃F,d_z fu [wB b,wS is,nW s] ce=some (.ok (.cel ce.length) (ce++[.lst (F.map nW)]))/\Comp b (okV (vS is) s) s F:=by
 have hz:=zfj
 have h36:=B.h36
 have hb:=B.bd
 suffices h:∃w c,d_z fu [wB b,wS is,nW s] ce=some (.ok w c)/\∃F,w=.cel ce.length/\c=ce++[.lst (F.map nW)]/\Comp b (okV (vS is) s) s F by
  obtain⟨w,c,e,F,rfl,rfl,q⟩:=h
  exact⟨F,e,q⟩
 unfold d_z
 refine ziy [some (wB b),some (wS is),some (nW s),none,none,none] rfl ?_
 refine zao (zck (ws:=[nW s]) (by trivial) (by show 1<=PySem.sizeLine;omega)) ?_
 refine zQn ?_
 have O0:=(Own.start ce).alloc (C.lst ([s].map nW))
 refine(?_:Run _ _ (ce++[C.lst ([s].map nW)]) _)
 generalize hk:ce.length=k3 at O0 ⊢
 generalize ce++[C.lst ([s].map nW)]=c0 at O0 ⊢
 refine zao (w:=nW 0) (ce':=c0) za1 ?_
 refine zQn ?_
 refine zhI (σ:=List Nat×Nat) (fun st sl c=>∃x5,sl=[some (wB b),some (wS is),some (nW s),some (.cel k3),some (nW st.2),x5]/\Own ce c [(k3,C.lst (st.1.map nW))]/\st.1.Nodup/\s∈st.1/\(∀x∈st.1,x<b.length)/\st.2<=st.1.length/\(∀x∈st.1,Reach b (okV (vS is) s) s x)/\∀x∈st.1.take st.2,∀y∈b.getD x [],okV (vS is) s y->y∈st.1)
  (fun st=>36-st.2) ([s],0) ⟨_,rfl,O0,by simp,by simp,by simpa using hs,by simp,by simpa using Reach.refl,by simp⟩ (by show 36-0<fu;omega) ?_
 rintro⟨F,at'⟩ sl c ⟨x5,rfl,O,nd,hsF,lt,hat,re,cl⟩
 dsimp only at O nd hsF lt hat re cl
 have g3:=O.g0
 have hF36:F.length<=36:=le_trans (zaG nd lt) h36
 have cmp:fLt (nW at') (nW F.length)=some (.bl (decide ((at':Int)<(F.length:Int)))):=zlh (i:=at') (j:=F.length) rfl rfl
 refine⟨decide ((at':Int)<(F.length:Int)),by trivial,fun q=>?_,fun q=>?_⟩
 ·have hlt:at'<F.length:=by have:=of_decide_eq_true q;omega
  have hpF:F.getD at' 0∈F:=by rw[getD_eq_getElem?_getD,getElem?_eq_getElem hlt];exact getElem_mem hlt
  have ix:=zol (p:=at') g3 hlt
  have etk:F.take (at'+1)=F.take at'++[F.getD at' 0]:=by
   rw[take_add_one,getElem?_eq_getElem hlt,getD_eq_getElem?_getD,getElem?_eq_getElem hlt];rfl
  generalize F.getD at' 0=p at hpF ix etk
  have hp:=lt p hpF
  unfold zfz
  refine za8 (zs:=b.getD p []) (en:=nW) (c1:=c) (zfn (by trivial))
   (fun d sl c=>∃new x5,sl=[some (wB b),some (wS is),some (nW s),some (.cel k3),some (nW at'),x5]/\Own ce c [(k3,C.lst ((F++new).map nW))]/\(F++new).Nodup/\(∀x∈new,x∈b.getD p []/\okV (vS is) s x)/\∀x∈d,okV (vS is) s x->x∈F++new)
   ⟨[],x5,rfl,by simpa using O,by simpa using nd,by simp,by simp⟩ ?_ ?_
  ·rintro d y r sl c e hy ⟨new,x5,rfl,O,nd2,hnew,hd⟩
   have g3:=O.g0
   have hy':=hb.get hy
   have lt2:∀x∈F++new,x<b.length:=fun x hx=>by
    rcases mem_append.mp hx with hx|hx
    ·exact lt x hx
    ·exact hb.get (hnew x hx).1
   have hl2:=zaG nd2 lt2
   have hw:((F++new).map nW).length<PySem.sizeLine:=by rw[length_map];omega
   have j1:=zbz (ce:=c) (is:=is) (p:=y) (by omega)
   have j2:=zbz (ce:=c) (is:=is) (p:=s) (by omega)
   unfold zfy
   refine zQn ?_
   refine za6 (p:=decide (is.getD y 0=is.getD s 0)&&!decide (y∈F++new)) (ce':=c) (by trivial) (fun q=>?_) (fun q=>?_)
   ·simp only[and_eq_true,not_eq_true',decide_eq_false_iff_not,decide_eq_true_eq] at q
    trivial
    refine⟨new++[y],_,rfl,?_,?_,fun x hx=>?_,fun x hx o=>?_⟩
    ·have e2:(F++(new++[y])).map nW=(F++new).map nW++[nW y]:=by simp
     rw[e2]
     exact O.set0 _
    ·rw[<- append_assoc,nodup_append]
     exact⟨nd2,by simp,fun a ha c hc=>by rw[mem_singleton] at hc;subst hc;intro e;subst e;exact q.2 ha⟩
    ·rcases mem_append.mp hx with hx|hx
     ·exact hnew x hx
     ·rw[mem_singleton] at hx;subst hx;exact⟨hy,q.1⟩
    ·rw[<- append_assoc]
     rcases mem_append.mp hx with hx|hx
     ·exact mem_append_left _ (hd x hx o)
     ·rw[mem_singleton] at hx;subst hx;simp
   ·refine zaT ?_
    refine⟨new,_,rfl,O,nd2,hnew,fun x hx o=>?_⟩
    rcases mem_append.mp hx with hx|hx
    ·exact hd x hx o
    ·rw[mem_singleton] at hx
     subst hx
     have o':is.getD x 0=is.getD s 0:=o
     rw[decide_eq_true o',Bool.true_and,not_eq_false',decide_eq_true_eq] at q
     exact q
  ·rintro sl c ⟨new,x5,rfl,O,nd2,hnew,hd⟩
   have lt2:∀x∈F++new,x<b.length:=fun x hx=>by
    rcases mem_append.mp hx with hx|hx
    ·exact lt x hx
    ·exact hb.get (hnew x hx).1
   have fa:zb3 (nW at') (.int 1)=some (nW (at'+1)):=zbX (i:=at') (j:=1) rfl rfl
   refine zie (w:=nW (at'+1)) (ce':=c) (by trivial) ?_
   refine⟨(F++new,at'+1),(by show 36-(at'+1)<36-at';omega),x5,rfl,O,nd2,mem_append_left _ hsF,lt2,by show at'+1<=(F++new).length;rw[length_append];omega,fun x hx=>?_,fun x hx y hy o=>?_⟩
   ·rcases mem_append.mp hx with hx|hx
    ·exact re x hx
    ·exact(re p hpF).step (hnew x hx).1 (hnew x hx).2
   ·rw[take_append_of_le_length (by omega),etk] at hx
    rcases mem_append.mp hx with hx|hx
    ·exact mem_append_left _ (cl x hx y hy o)
    ·rw[mem_singleton] at hx;subst hx;exact hd y hy o
 ·have q':=of_decide_eq_false q
  have eat:at'=F.length:=by omega
  subst eat
  rw[take_length] at cl
  refine zap (w:=.cel k3) (ce':=c) (by trivial) ?_
  subst hk
  exact⟨_,_,O.finO (by simp only[zf7];exact bels_nW _ _),F,rfl,rfl,⟨nd,hsF,lt,cl,re⟩⟩
theorem zjb(fu:Nat)(hfu:200<=fu)(B:Brd b)(hl:is.length=b.length){s:Nat}(hs:s<b.length):∃F,zdg (d_z fu) [wB b,wS is,nW s] ce=some (.ok (wL F) ce)/\Comp b (okV (vS is) s) s F:=by
 obtain⟨F,e,h⟩:=zpX (ce:=ce) fu hfu B hl hs
 exact⟨F,zci e (bels_nW _ _),h⟩
theorem zsn(fu:Nat)(B:Brd b)(hl:is.length=b.length)(hr:∀p∈row,p<b.length):d_f fu [wB b,wS is,wL row] ce=some (.ok (.cel ce.length) (ce++[.lst ((brs b is row).map nW)])):=by
 have hz:=zfj
 have h36:=B.h36
 have hb:=B.bd
 unfold d_f
 refine zba [some (wB b),some (wS is),some (wL row),none,none,none] rfl ?_
 refine zao zfl ?_
 refine zQn ?_
 have O0:=(Own.start ce).alloc (C.dct (kvs []))
 refine(?_:Run _ _ (ce++[C.dct (kvs [])]) _)
 generalize hk:ce.length=k3 at O0 ⊢
 generalize ce++[C.dct (kvs [])]=c0 at O0 ⊢
 refine za8 (zs:=row) (en:=nW) (zgH (by trivial))
  (fun d sl c=>∃F x4 x5,sl=[some (wB b),some (wS is),some (wL row),some (.cel k3),x4,x5]/\Own ce c [(k3,C.dct (kvs F))]/\F.Nodup/\(∀x∈F,x<b.length)/\∀x,x∈F↔(∃p∈d,x∈b.getD p [])/\is.getD x 0=0)
  ⟨[],none,none,rfl,O0,by simp,by simp,by simp⟩ ?_ ?_
 ·rintro d p r sl c e hp ⟨F,x4,x5,rfl,O,nd,lt,mem⟩
  have hp':=hr p hp
  unfold zcT
  refine zQn ?_
  refine zbS (zs:=b.getD p []) (en:=nW) (zfn (by trivial))
   (fun d' sl c=>∃F x5,sl=[some (wB b),some (wS is),some (wL row),some (.cel k3),some (nW p),x5]/\Own ce c [(k3,C.dct (kvs F))]/\F.Nodup/\(∀x∈F,x<b.length)/\∀x,x∈F↔((∃p∈d,x∈b.getD p [])\/x∈d')/\is.getD x 0=0)
   ⟨F,x5,rfl,O,nd,lt,by simpa using mem⟩ ?_ ?_
  ·rintro d' y r' sl c e' hy ⟨F,x5,rfl,O,nd,lt,mem⟩
   have g:=zeA O.g0
   have hl':(kvs F).length<PySem.sizeLine:=by rw[za5];have:=zaG nd lt;omega
   have hy':=hb.get hy
   have j1:=zbz (ce:=c) (is:=is) (p:=y) (by omega)
   unfold zcS
   refine zQn ?_
   refine za6 (p:=decide (is.getD y 0=0)) (ce':=c) (by trivial) (fun q=>?_) (fun q=>?_)
   ·have q':=of_decide_eq_true q
    trivial
    refine⟨ins F y,some (nW y),rfl,?_,zfm nd,fun x hx=>?_,fun x=>?_⟩
    ·rw[zdw];exact O.set0 _
    ·rcases ins_mem.mp hx with hx|rfl
     ·exact lt x hx
     ·exact hy'
    ·rw[ins_mem,mem,mem_append,mem_singleton]
     constructor
     ·rintro(⟨h1,h2⟩|rfl)
      ·exact⟨h1.imp id .inl,h2⟩
      ·exact⟨.inr (.inr rfl),q'⟩
     ·rintro⟨h1|h1|rfl,h2⟩
      ·exact .inl ⟨.inl h1,h2⟩
      ·exact .inl ⟨.inr h1,h2⟩
      ·exact .inr rfl
   ·have q':=of_decide_eq_false q
    refine zaT ?_
    refine⟨F,some (nW y),rfl,O,nd,lt,fun x=>?_⟩
    rw[mem,mem_append,mem_singleton]
    constructor
    ·rintro⟨h1,h2⟩;exact⟨h1.imp id .inl,h2⟩
    ·rintro⟨h1|h1|rfl,h2⟩
     ·exact⟨.inl h1,h2⟩
     ·exact⟨.inr h1,h2⟩
     ·exact absurd h2 q'
  ·rintro sl c ⟨F,x5,rfl,O,nd,lt,mem⟩
   refine⟨F,some (nW p),x5,rfl,O,nd,lt,fun x=>?_⟩
   rw[mem]
   refine and_congr_left fun _=>?_
   constructor
   ·rintro(⟨q,hq,h⟩|h)
    ·exact⟨q,mem_append_left _ hq,h⟩
    ·exact⟨p,by simp,h⟩
   ·rintro⟨q,hq,h⟩
    rcases mem_append.mp hq with hq|hq
    ·exact .inl ⟨q,hq,h⟩
    ·rw[mem_singleton] at hq;subst hq;exact .inr h
 ·rintro sl c ⟨F,x4,x5,rfl,O,nd,lt,mem⟩
  have hl':=zaG nd lt
  have es:zcz F=brs b is row:=by
   rw[zda nd lt]
   unfold brs zau
   rw[filter_filter]
   apply filter_congr
   intro x _
   rw[Bool.eq_iff_iff]
   simp only[decide_eq_true_eq,mem,and_eq_true,any_eq_true]
   exact and_comm
  refine zap (w:=.cel c.length) (ce':=c++[.lst ((brs b is row).map nW)]) (za9 (zak (za9 (zak (by trivial) zam) ((zi0 (.cl O.g0)).trans (zcO (by rw[length_map];omega)))) zam) ?_) ?_
  ·show zaS zgx [wL F] c=_
   rw[zi2 (by omega),es]
   exact zdv (by rw[length_map,<- es,zcm];omega)
  ·subst hk
   exact(O.alloc _).finO (by simp only[zf7];exact bels_nW _ _)
end
structure StdOk (b:List (List Nat)) (is:List Int):Prop where
 hl:is.length=b.length
 v:∀q,q<b.length->0<=is.getD q 0/\is.getD q 0<=2
 s1:zl9 b is 1
 s2:zl9 b is 2
structure BrdN (b:List (List Nat)):Prop where
 B:Brd b
 nl:∀i,i∉b.getD i []
section
variable {b:List (List Nat)} {is:List Int} {o:Int} {p:Nat} {ce:Ce}
theorem StdOk.ly(S:StdOk b is)(N:BrdN b)(ho:o=1\/o=2)(hp:p<b.length)(p0:is.getD p 0=0):LyA b is o p:=by
 refine⟨N.B.bd,N.B.sym,N.nl,S.hl,hp,p0,⟨by omega,by omega,by omega⟩,fun q hq=>by have:=S.v q hq;omega,?_,?_⟩
 ·rcases ho with rfl|rfl
  ·exact S.s2
  ·exact S.s1
 ·rcases ho with rfl|rfl
  ·exact S.s1
  ·exact S.s2
theorem LyA.std(A:LyA b is o p)(ho:o=1\/o=2)(h:Frb b is o p):StdOk b (lS b is o p):=by
 obtain⟨n1,n2⟩:=A.snd h
 refine⟨by rw[zfL];exact A.hl,fun q hq=>by have:=A.vals q hq;omega,?_,?_⟩
 ·rcases ho with rfl|rfl
  ·exact n1
  ·exact n2
 ·rcases ho with rfl|rfl
  ·exact n2
  ·exact n1
theorem zlJ{F:List Nat}{n y:Nat}(h:∀x∈F,x<n)(hy:y<n):∀x∈ins F y,x<n:=fun x hx=>by
 rcases ins_mem.mp hx with hx|rfl
 ·exact h x hx
 ·exact hy
open Classical in
def zox(b:List (List Nat))(is:List Int)(o:Int)(p:Nat):W:=if is.getD p 0=0 then (if Frb b is o p then .tup [wS (lS b is o p),wL (lT b is o p)] else .str "breath") else .str "lay"
theorem zg7{l m:List Int}(hl:l.length=m.length)(h:∀q,q<l.length->l.getD q 0=m.getD q 0):l=m:=by
 apply ext_getElem hl
 intro i h1 h2
 have:=h i h1
 rw[getD_eq_getElem?_getD,getD_eq_getElem?_getD,getElem?_eq_getElem h1,getElem?_eq_getElem h2] at this
 exact this
theorem ztW{sl:Sl}{a:Sl->M W}{k:Nat}{F:List Nat}{c1:Ce}(h:a sl ce=some (.ok (.cel k) c1))(g:c1[k]?=some (.dct (kvs F))):SrcFix (dID a) sl ce (c1.set k (.fzd (kvs F))) (F.map nW):=by
 refine⟨.dky ((kvs F).map fun p=>kW p.1),by simp only[dID,bnd,h,g],?_,fun _=>trivial⟩
 simp only[Src.items,kvs,map_map]
 rfl
set_option maxHeartbeats 0 in
theorem znw(fu:Nat)(hfu:200<=fu)(N:BrdN b)(S:StdOk b is)(ho:o=1\/o=2)(hp:p<b.length):d_s fu [wB b,wS is,.int o,nW p] ce=some (.ok (zox b is o p) ce):=by
 have hz:=zfj
 have B:=N.B
 have h36:=B.h36
 have hb:=B.bd
 have hl:=S.hl
 have jp:=fun c=>zbz (ce:=c) (is:=is) (p:=p) (by omega)
 have jpc:=jp ce
 unfold d_s
 refine zba [some (wB b),some (wS is),some (.int o),some (nW p),none,none,none,none,none,none,none] rfl ?_
 refine zaQ (p:=!decide (is.getD p 0=0)) (ce':=ce) (by trivial) (fun q=>?_) (fun q=>?_)
 ·have q':¬is.getD p 0=0:=by simpa using q
  refine zdu (zap (w:=.str "lay") (ce':=ce) za1 ?_)
  refine zcl ?_
  unfold zox
  rw[if_neg q']
  exact zaz (by simp only[Bel])
 have p0:is.getD p 0=0:=by simpa using q
 have A:=S.ly N ho hp p0
 refine zaK ?_
 refine zao zfl ?_
 refine zQn ?_
 refine(?_:Run _ _ (ce++[C.dct (kvs [])]) _)
 have O0:=(Own.start ce).alloc (C.dct (kvs []))
 generalize hk4:ce.length=k4 at O0 ⊢
 generalize ce++[C.dct (kvs [])]=c0 at O0 ⊢
 refine zao zfl ?_
 refine zQn ?_
 refine(?_:Run _ _ (c0++[C.dct (kvs [])]) _)
 have O1:=O0.alloc (C.dct (kvs []))
 generalize c0.length=k5 at O1 ⊢
 generalize c0++[C.dct (kvs [])]=c1 at O1 ⊢
 refine za8 (zs:=b.getD p []) (en:=nW) (zfn (by trivial))
  (fun d sl c=>∃F4 F5 x6 x7 x8 x9,sl=[some (wB b),some (wS is),some (.int o),some (nW p),some (.cel k4),some (.cel k5),x6,x7,x8,x9,none]/\Own ce c [(k5,C.dct (kvs F5)),(k4,C.dct (kvs F4))]/\F4.Nodup/\F5.Nodup/\(∀x∈F4,x<b.length)/\(∀x∈F5,x<b.length)
   /\ (∀x,x∈F4↔∃y∈d,is.getD y 0=3-o/\(brs b is (cpt b (vS is) y)).erase p=[]/\x∈cpt b (vS is) y)
   /\ ∀x,x∈F5↔(x∈d/\is.getD x 0=0)\/∃y∈d,is.getD y 0=o/\x∈(brs b is (cpt b (vS is) y)).erase p)
  ⟨[],[],_,_,_,_,rfl,O1,by simp,by simp,by simp,by simp,by simp,by simp⟩ ?_ ?_
 ·rintro d y r sl c e hy ⟨F4,F5,x6,x7,x8,x9,rfl,O,nd4,nd5,lt4,lt5,m4,m5⟩
  have hyb:=hb.get hy
  have vy:=S.v y hyb
  have jy:=fun c=>zbz (ce:=c) (is:=is) (p:=y) (by omega)
  have jyc:=jy c
  have g5:=O.g0
  have gd5:=zeA O.g0
  have hs5:(kvs F5).length<PySem.sizeLine:=by rw[za5];have:=zaG nd5 lt5;omega
  unfold zdX
  refine zQn ?_
  refine za6 (p:=decide (is.getD y 0=0)) (ce':=c) (by trivial) (fun q=>?_) (fun q=>?_)
  ·have y0:=of_decide_eq_true q
   trivial
   refine⟨F4,ins F5 y,_,_,_,_,rfl,by rw[zdw];exact O.set0 _,nd4,zfm nd5,lt4,zlJ lt5 hyb,fun x=>?_,fun x=>?_⟩
   ·rw[m4]
    constructor
    ·rintro⟨z,hz,h⟩;exact⟨z,mem_append_left _ hz,h⟩
    ·rintro⟨z,hz,h⟩
     rcases mem_append.mp hz with hz|hz
     ·exact⟨z,hz,h⟩
     ·rw[mem_singleton] at hz;subst hz;exact absurd (h.1.symm.trans y0) (by omega)
   ·rw[ins_mem,m5]
    constructor
    ·rintro((⟨h1,h2⟩|⟨z,hz,h⟩)|rfl)
     ·exact .inl ⟨mem_append_left _ h1,h2⟩
     ·exact .inr ⟨z,mem_append_left _ hz,h⟩
     ·exact .inl ⟨by simp,y0⟩
    ·rintro(⟨h1,h2⟩|⟨z,hz,h⟩)
     ·rcases mem_append.mp h1 with h1|h1
      ·exact .inl (.inl ⟨h1,h2⟩)
      ·rw[mem_singleton] at h1;exact .inr h1
     ·rcases mem_append.mp hz with hz|hz
      ·exact .inl (.inr ⟨z,hz,h⟩)
      ·rw[mem_singleton] at hz;subst hz;exact absurd (h.1.symm.trans y0) (by omega)
  ·have y0:=of_decide_eq_false q
   obtain⟨Fy,e7,cm⟩:=zjb (ce:=c) fu hfu B hl hyb
   have mF:∀x,x∈Fy↔x∈cpt b (vS is) y:=fun x=>(cm.mem x).trans (zbj hb hyb).symm
   have eB:brs b is Fy=brs b is (cpt b (vS is) y):=zlI mF
   have e8:=zsn (ce:=c) (is:=is) fu B hl cm.lt
   rw[eB] at e8
   have hpb:p∈brs b is (cpt b (vS is) y):=(zbc hb).mpr ⟨⟨y,zbv hb hyb,A.sym _ _ hy⟩,p0⟩
   have hlen:(brs b is (cpt b (vS is) y)).length<=36:=by
    have h1:(brs b is (cpt b (vS is) y)).Nodup:=List.Pairwise.filter _ (List.Pairwise.filter _ nodup_range)
    have h2:∀x∈brs b is (cpt b (vS is) y),x<b.length:=fun x hx=>by
     obtain⟨⟨u,_,h⟩,_⟩:=(zbc hb).mp hx
     exact hb.get h
    exact le_trans (zaG h1 h2) h36
   have hbl:∀x∈(brs b is (cpt b (vS is) y)).erase p,x<b.length:=fun x hx=>by
    obtain⟨⟨u,_,h⟩,_⟩:=(zbc hb).mp (mem_of_mem_erase hx)
    exact hb.get h
   refine zao (w:=wL Fy) (ce':=c) (by trivial) ?_
   refine zQn ?_
   refine zao (w:=.cel c.length) (ce':=c++[.lst ((brs b is (cpt b (vS is) y)).map nW)]) (by trivial) ?_
   refine zQn ?_
   have O2:=O.alloc (C.lst ((brs b is (cpt b (vS is) y)).map nW))
   generalize c.length=k8 at O2 ⊢
   generalize c++[C.lst ((brs b is (cpt b (vS is) y)).map nW)]=c2 at O2 ⊢
   refine zf9 (w:=.non) (ce':=c2.set k8 (.lst (((brs b is (cpt b (vS is) y)).erase p).map nW))) (zhF (ws:=[nW p]) (by trivial) (zcK O2.g0) (by trivial) (zsc O2.g0 hpb)) ?_
   have O3:=O2.set0 (C.lst (((brs b is (cpt b (vS is) y)).erase p).map nW))
   generalize c2.set k8 (C.lst (((brs b is (cpt b (vS is) y)).erase p).map nW))=c3 at O3 ⊢
   have jy3:=jy c3
   refine za6 (p:=decide (is.getD y 0=o)) (ce':=c3) (by trivial) (fun q2=>?_) (fun q2=>?_)
   ·have yo:=of_decide_eq_true q2
    refine zmZ (zs:=(brs b is (cpt b (vS is) y)).erase p) (en:=nW) (k:=k8) (by trivial) O3.g0
     (fun d' sl c=>∃F5' x9,sl=[some (wB b),some (wS is),some (.int o),some (nW p),some (.cel k4),some (.cel k5),some (nW y),some (wL Fy),some (.cel k8),x9,none]/\Own ce c [(k8,C.lst (((brs b is (cpt b (vS is) y)).erase p).map nW)),(k5,C.dct (kvs F5')),(k4,C.dct (kvs F4))]/\F5'.Nodup/\(∀x∈F5',x<b.length)/\∀x,x∈F5'↔x∈F5\/x∈d')
     ⟨F5,_,rfl,O3,nd5,lt5,by simp⟩ (fun d sl c h=>by obtain⟨_,_,_,O,_⟩:=h;exact O.g0) ?_ ?_
    ·rintro d' u r' sl c e' hu ⟨F5',x9,rfl,O,nd',lt',mem'⟩
     have gd:=zeA O.g1
     have hs:(kvs F5').length<PySem.sizeLine:=by rw[za5];have:=zaG nd' lt';omega
     unfold zdW
     trivial
     refine⟨ins F5' u,_,rfl,by rw[zdw];exact O.set1 _,zfm nd',zlJ lt' (hbl u hu),fun x=>?_⟩
     rw[ins_mem,mem',mem_append,mem_singleton,or_assoc]
    ·rintro sl c ⟨F5',x9,rfl,O,nd',lt',mem'⟩
     refine⟨F4,F5',_,_,_,_,rfl,O.drop,nd4,nd',lt4,lt',fun x=>?_,fun x=>?_⟩
     ·rw[m4]
      constructor
      ·rintro⟨z,hz,h⟩;exact⟨z,mem_append_left _ hz,h⟩
      ·rintro⟨z,hz,h⟩
       rcases mem_append.mp hz with hz|hz
       ·exact⟨z,hz,h⟩
       ·rw[mem_singleton] at hz;subst hz;exact absurd (h.1.symm.trans yo) (by omega)
     ·rw[mem',m5]
      constructor
      ·rintro((⟨h1,h2⟩|⟨z,hz,h⟩)|h)
       ·exact .inl ⟨mem_append_left _ h1,h2⟩
       ·exact .inr ⟨z,mem_append_left _ hz,h⟩
       ·exact .inr ⟨y,by simp,yo,h⟩
      ·rintro(⟨h1,h2⟩|⟨z,hz,h⟩)
       ·rcases mem_append.mp h1 with h1|h1
        ·exact .inl (.inl ⟨h1,h2⟩)
        ·rw[mem_singleton] at h1;subst h1;exact absurd h2 y0
       ·rcases mem_append.mp hz with hz|hz
        ·exact .inl (.inr ⟨z,hz,h⟩)
        ·rw[mem_singleton] at hz;subst hz;exact .inr h.2
   ·have yo:=of_decide_eq_false q2
    have yh:is.getD y 0=3-o:=by omega
    have m5':∀x,((x∈d++[y]/\is.getD x 0=0)\/∃z∈d++[y],is.getD z 0=o/\x∈(brs b is (cpt b (vS is) z)).erase p)↔x∈F5:=fun x=>by
     rw[m5]
     constructor
     ·rintro(⟨h1,h2⟩|⟨z,hz,h⟩)
      ·rcases mem_append.mp h1 with h1|h1
       ·exact .inl ⟨h1,h2⟩
       ·rw[mem_singleton] at h1;subst h1;exact absurd h2 y0
      ·rcases mem_append.mp hz with hz|hz
       ·exact .inr ⟨z,hz,h⟩
       ·rw[mem_singleton] at hz;subst hz;exact absurd h.1 yo
     ·rintro(⟨h1,h2⟩|⟨z,hz,h⟩)
      ·exact .inl ⟨mem_append_left _ h1,h2⟩
      ·exact .inr ⟨z,mem_append_left _ hz,h⟩
    have eqn:eqW false c3 (.cel k8) (.lst [])=some (.bl (decide ((brs b is (cpt b (vS is) y)).erase p=[]))):=(LstOf.cl O3.g0).eqN (m:=[]) (.fr _) false
    refine za6 (p:=decide ((brs b is (cpt b (vS is) y)).erase p=[])) (ce':=c3) (by trivial) (fun q3=>?_) (fun q3=>?_)
    ·have e3:=of_decide_eq_true q3
     refine zbS (zs:=Fy) (en:=nW) (zgH (by trivial))
      (fun d' sl c=>∃F4' x9,sl=[some (wB b),some (wS is),some (.int o),some (nW p),some (.cel k4),some (.cel k5),some (nW y),some (wL Fy),some (.cel k8),x9,none]/\Own ce c [(k8,C.lst (((brs b is (cpt b (vS is) y)).erase p).map nW)),(k5,C.dct (kvs F5)),(k4,C.dct (kvs F4'))]/\F4'.Nodup/\(∀x∈F4',x<b.length)/\∀x,x∈F4'↔x∈F4\/x∈d')
      ⟨F4,_,rfl,O3,nd4,lt4,by simp⟩ ?_ ?_
     ·rintro d' u r' sl c e' hu ⟨F4',x9,rfl,O,nd',lt',mem'⟩
      have gd:=zeA O.g2
      have hs:(kvs F4').length<PySem.sizeLine:=by rw[za5];have:=zaG nd' lt';omega
      unfold zdV
      trivial
      refine⟨ins F4' u,_,rfl,by rw[zdw];exact O.set2 _,zfm nd',zlJ lt' (cm.lt u hu),fun x=>?_⟩
      rw[ins_mem,mem',mem_append,mem_singleton,or_assoc]
     ·rintro sl c ⟨F4',x9,rfl,O,nd',lt',mem'⟩
      refine⟨F4',F5,_,_,_,_,rfl,O.drop,nd',nd5,lt',lt5,fun x=>?_,fun x=>(m5' x).symm⟩
      rw[mem',m4,mF]
      constructor
      ·rintro(⟨z,hz,h⟩|h)
       ·exact⟨z,mem_append_left _ hz,h⟩
       ·exact⟨y,by simp,yh,e3,h⟩
      ·rintro⟨z,hz,h⟩
       rcases mem_append.mp hz with hz|hz
       ·exact .inl ⟨z,hz,h⟩
       ·rw[mem_singleton] at hz;subst hz;exact .inr h.2.2
    ·have e3:=of_decide_eq_false q3
     refine zaT ?_
     refine⟨F4,F5,_,_,_,_,rfl,O3.drop,nd4,nd5,lt4,lt5,fun x=>?_,fun x=>(m5' x).symm⟩
     rw[m4]
     constructor
     ·rintro⟨z,hz,h⟩;exact⟨z,mem_append_left _ hz,h⟩
     ·rintro⟨z,hz,h⟩
      rcases mem_append.mp hz with hz|hz
      ·exact⟨z,hz,h⟩
      ·rw[mem_singleton] at hz;subst hz;exact absurd h.2.1 e3
 ·rintro sl c ⟨F4,F5,x6,x7,x8,x9,rfl,O,nd4,nd5,lt4,lt5,m4,m5⟩
  have eT:∀x,x∈F4↔x∈lT b is o p:=fun x=>(m4 x).trans A.near.symm
  have l5:=ziE O.g0
  have l4:=ziE O.g1
  have eFr:Frb b is o p↔¬(F5.length=0/\F4.length=0):=by
   rw[A.brth]
   constructor
   ·rintro((⟨y,hy,y0⟩|⟨y,hy,ey,hne⟩)|h) ⟨h5,h4⟩
    ·have:y∈F5:=(m5 y).mpr (.inl ⟨hy,y0⟩)
     rw[length_eq_zero_iff.mp h5] at this;simp at this
    ·obtain⟨x,hx⟩:=exists_mem_of_ne_nil _ hne
     have:x∈F5:=(m5 x).mpr (.inr ⟨y,hy,ey,hx⟩)
     rw[length_eq_zero_iff.mp h5] at this;simp at this
    ·obtain⟨x,hx⟩:=exists_mem_of_ne_nil _ h
     have:=(eT x).mpr hx
     rw[length_eq_zero_iff.mp h4] at this;simp at this
   ·intro h
    by_cases h4:F4=[]
    ·have h5:F5≠[]:=fun e=>h ⟨by rw[e];rfl,by rw[h4];rfl⟩
     obtain⟨x,hx⟩:=exists_mem_of_ne_nil _ h5
     left
     rcases(m5 x).mp hx with ⟨h1,h2⟩|⟨y,hy,ey,hx⟩
     ·exact .inl ⟨x,h1,h2⟩
     ·exact .inr ⟨y,hy,ey,ne_nil_of_mem hx⟩
    ·obtain⟨x,hx⟩:=exists_mem_of_ne_nil _ h4
     exact .inr (ne_nil_of_mem ((eT x).mp hx))
  have q5:zfh (nW F5.length) (.int 0)=some (.bl (decide ((F5.length:Int)=0))):=zcP (i:=F5.length) (j:=0) rfl rfl
  have q4:zfh (nW F4.length) (.int 0)=some (.bl (decide ((F4.length:Int)=0))):=zcP (i:=F4.length) (j:=0) rfl rfl
  refine zaQ (p:=decide ((F5.length:Int)=0)&&decide ((F4.length:Int)=0)) (ce':=c) (by trivial) (fun q=>?_) (fun q=>?_)
  ·simp only[and_eq_true,decide_eq_true_eq] at q
   refine zdu (zap (w:=.str "breath") (ce':=c) za1 ?_)
   refine zcl ?_
   unfold zox
   rw[if_pos p0,if_neg (fun h=>eFr.mp h (by omega))]
   subst hk4
   exact O.finC (by simp only[Bel])
  ·have fr:Frb b is o p:=eFr.mpr fun h=>by
    rw[decide_eq_true (by omega),decide_eq_true (by omega)] at q;cases q
   refine zaK ?_
   have hlz:is.length<=PySem.sizeLine:=by omega
   refine zao (w:=.cel c.length) (ce':=c++[.lst (is.map W.int)]) (za9 (zak (by trivial) zam) (by rw[zii (xs:=is.map W.int) rfl,zdv (by rw[length_map];exact hlz)])) ?_
   refine zQn ?_
   have O2:=O.alloc (C.lst (is.map W.int))
   generalize c.length=k10 at O2 ⊢
   generalize c++[C.lst (is.map W.int)]=c2 at O2 ⊢
   have O3:=O2.set2 (C.fzd (kvs F4))
   refine za8 (zs:=F4) (en:=nW) (c1:=c2.set k4 (.fzd (kvs F4))) (ztW (by trivial) O2.g2)
    (fun d sl c=>∃is' x9,sl=[some (wB b),some (wS is),some (.int o),some (nW p),some (.cel k4),some (.cel k5),x6,x7,x8,x9,some (.cel k10)]/\Own ce c [(k10,C.lst (is'.map W.int)),(k5,C.dct (kvs F5)),(k4,C.fzd (kvs F4))]/\is'.length=b.length/\(∀q∈d,is'.getD q 0=0)/\∀q,q∉d->is'.getD q 0=is.getD q 0)
    ⟨is,_,rfl,O3,hl,by simp,fun _ _=>rfl⟩ ?_ ?_
   ·rintro d u r sl c e hu ⟨is',x9,rfl,O,l',z1,z2⟩
    have hul:u<is'.length:=by rw[l'];exact lt4 u hu
    unfold zdU
    refine zQn ?_
    refine zco (w:=.int 0) (k:=k10) (ij:=u) (j:=u) (by trivial) (by trivial) (by trivial) O.g0 (zik (by rw[length_map];exact hul)) ?_
    refine⟨is'.set u 0,_,rfl,by rw[map_set];exact O.set0 _,by rw[length_set];exact l',fun q hq=>?_,fun q hq=>?_⟩
    ·rw[zcu]
     split
     ·rfl
     ·rename_i hn
      rcases mem_append.mp hq with hq|hq
      ·exact z1 q hq
      ·rw[mem_singleton] at hq;exact absurd ⟨hq.symm,hul⟩ hn
    ·rw[zcu,if_neg (fun x=>hq (by rw[<- x.1];simp))]
     exact z2 q fun x=>hq (mem_append_left _ x)
   ·rintro sl c ⟨is',x9,rfl,O,l',z1,z2⟩
    have hpl:p<is'.length:=by omega
    refine zm4 (w:=.int o) (k:=k10) (ij:=p) (j:=p) (by trivial) (by trivial) (by trivial) O.g0 (zik (by rw[length_map];exact hpl)) ?_
    have es:(is'.map W.int).set p (.int o)=(is'.set p o).map W.int:=by rw[map_set]
    have eL:is'.set p o=lS b is o p:=by
     refine zg7 (by rw[length_set,zfL,l',hl]) fun q hq=>?_
     rw[length_set,l'] at hq
     rw[A.get hq,zcu]
     by_cases e:q=p
     ·subst e;rw[if_pos ⟨rfl,hpl⟩,if_pos rfl]
     ·rw[if_neg (fun x=>e x.1.symm),if_neg e]
      by_cases ht:q∈lT b is o p
      ·rw[if_pos ht];exact z1 q ((eT q).mpr ht)
      ·rw[if_neg ht];exact z2 q fun h=>ht ((eT q).mp h)
    rw[es,eL]
    have O4:=O.set0 (C.lst ((lS b is o p).map W.int))
    generalize c.set k10 (C.lst ((lS b is o p).map W.int))=c4 at O4 ⊢
    have lz:(lS b is o p).length<=PySem.sizeLine:=by rw[zfL];omega
    have h4l:=zaG nd4 lt4
    have e4:zcz F4=lT b is o p:=by
     rw[zda nd4 lt4]
     unfold lT
     apply filter_congr
     intro x hx
     rw[Bool.eq_iff_iff,decide_eq_true_eq,eT,any_eq_true,A.tk]
     exact⟨fun⟨r,h1,h2⟩=>⟨r,h1,decide_eq_true h2⟩,fun⟨r,h1,h2⟩=>⟨r,h1,of_decide_eq_true h2⟩⟩
    have eW:zox b is o p=.tup [wS (lS b is o p),wL (lT b is o p)]:=by unfold zox;rw[if_pos p0,if_pos fr]
    have z22:2<=PySem.sizeLine:=by decide
    refine zap (w:=zox b is o p) (ce':=c4) ?_ ?_
    ·rw[eW]
     refine zcN (ws:=[wS (lS b is o p),wL (lT b is o p)]) (zak (za9 (zak (by trivial) zam) (zpt O4.g0 lz)) (zak (za9 (zak (za9 (zak (by trivial) zam) ((zi0 (.fz O4.g2)).trans (zcO (by rw[length_map];omega)))) zam) ?_) zam)) z22
     show zaS zbf [wL F4] c4=_
     rw[zi2 (by omega),e4]
     exact zcO (by rw[length_map,<- e4,zcm];omega)
    ·rw[eW]
     subst hk4
     exact O4.finC (by simp only[Bel,zdl];exact⟨belInts _ _,bels_nW _ _,trivial⟩)
end
section
variable {b:List (List Nat)} {is:List Int} {o:Int} {p:Nat} {ce:Ce}
theorem zvf(b:List (List Nat)):StdOk b (b.map fun _=>0):=by
 have z:∀q,(b.map fun _=>(0:Int)).getD q 0=0:=fun q=>by
  rw[getD_eq_getElem?_getD,getElem?_map]
  cases b[q]?<;>rfl
 exact⟨by simp,fun q _=>by rw[z];omega,fun s _ e=>by rw[z] at e;omega,fun s _ e=>by rw[z] at e;omega⟩
theorem zjc{x:PySem.Str}:zmM [.str x,.ty "tuple"] ce=some (.ok (.bl false) ce):=rfl
theorem znx{xs:List W}:zmM [.tup xs,.ty "tuple"] ce=some (.ok (.bl true) ce):=rfl
theorem zny(fu:Nat)(hfu:200<=fu)(N:BrdN b)(cs:List Int):∃is,d_o fu [wB b,sW cs] ce=some (.ok (wS is) ce)/\StdOk b is:=by
 have hz:=zfj
 have B:=N.B
 have h36:=B.h36
 have pos:=B.pos
 suffices hs:∃w c',d_o fu [wB b,sW cs] ce=some (.ok w c')/\∃is,w=wS is/\c'=ce/\StdOk b is by
  obtain⟨w,c',e,is,rfl,rfl,h⟩:=hs
  exact⟨is,e,h⟩
 have hbz:b.length<=PySem.sizeLine:=by omega
 unfold d_o
 refine ziy [some (wB b),some (sW cs),none,none,none,none,none,none] rfl ?_
 refine zao (w:=wS (b.map fun _=>0)) (ce':=ce) (za9 (zak (zlg (zs:=b) (en:=wT) (f:=fun _=>0) (zhG (by trivial)).is hbz (fun x hx=>za1)) zam) (zm0 (by rw[length_map];exact hbz))) ?_
 refine zQn ?_
 refine za8 (zs:=cs) (en:=W.int) (zgH (xs:=cs.map W.int) (by trivial))
  (fun d sl c=>∃is x3 x4 x5 x6 x7,sl=[some (wB b),some (sW cs),some (wS is),x3,x4,x5,x6,x7]/\c=ce/\StdOk b is)
  ⟨_,_,_,_,_,_,rfl,rfl,zvf b⟩ ?_ ?_
 ·rintro d x r sl c e hx ⟨is,x3,x4,x5,x6,x7,rfl,rfl,S⟩
  obtain⟨xs,e1,xl,hxs⟩:=zfI (ce:=c) fu x (m:=3) (by omega)
  have i0:=zcD (ns:=xs) (p:=0) (by omega) c (i:=0) rfl
  have i1:=zcD (ns:=xs) (p:=1) (by omega) c (i:=1) rfl
  have i2:=zcD (ns:=xs) (p:=2) (by omega) c (i:=2) rfl
  generalize xs.getD 0 0=a0 at i0
  generalize xs.getD 1 0=a1 at i1
  generalize xs.getD 2 0=a2 at i2
  have e1':d_i fu [.int x,.int 3] c=some (.ok (sW xs) c):=e1
  unfold zdZ
  refine zQn ?_
  refine zao (w:=sW xs) (ce':=c) (zaB (ws:=[.int x,.int 3]) (by trivial) rfl e1') ?_
  refine zQn ?_
  obtain⟨n,hn⟩:∃n:Nat,1+a2 % 3=n:=⟨(1+a2 % 3).toNat,by omega⟩
  have fa:zb3 (.int 1) (.int (a2 % 3))=some (nW n):=by rw[zbX rfl rfl,hn];rfl
  have n1000:n<=1000:=by omega
  refine zbS (zs:=List.range n) (en:=nW) (zek (by trivial) n1000)
   (fun d' sl c'=>∃is x5 x6 x7,sl=[some (wB b),some (sW cs),some (wS is),some (.int x),some (sW xs),x5,x6,x7]/\c'=c/\StdOk b is)
   ⟨is,_,_,_,rfl,rfl,S⟩ ?_ ?_
  ·rintro d' k r' sl c' e' hk ⟨is,x5,x6,x7,rfl,rfl,S⟩
   have hk:=mem_range.mp hk
   obtain⟨p,hp,ep⟩:=zid (a0+7*(k:Int)) (n:=b.length) pos
   have e2:zbP (.int (a0+7*(k:Int))) (nW b.length)=some (nW p):=zhE pos ep
   have m7:CMul 7 (k:Int):=.inl (by omega)
   obtain⟨o,ho⟩:∃o:Int,1+(a1+(k:Int)) % 2=o:=⟨_,rfl⟩
   have ho12:o=1\/o=2:=by omega
   have fo:zb3 (.int 1) (.int ((a1+(k:Int)) % 2))=some (.int o):=by rw[zbX rfl rfl,ho]
   have e3:=znw (ce:=c') fu hfu N S ho12 hp
   unfold zdY
   refine zQn ?_
   refine zao (w:=nW p) (ce':=c') (by trivial) ?_
   refine zQn ?_
   refine zao (w:=zox b is o p) (ce':=c') (zaB (ws:=[wB b,wS is,.int o,nW p]) (by trivial) rfl e3) ?_
   refine zQn ?_
   unfold zox
   split
   ·rename_i p0
    split
    ·rename_i fr
     refine za6 (p:=true) (ce':=c') (zcj (za9 (ws:=[.tup [wS (lS b is o p),wL (lT b is o p)],.ty "tuple"]) (by trivial) znx)) (fun _=>?_) (fun q=>by cases q)
     have i3:ixW c' (.tup [wS (lS b is o p),wL (lT b is o p)]) (.int 0)=some (wS (lS b is o p)):=zh0 (xs:=[wS (lS b is o p),wL (lT b is o p)]) (j:=0) rfl rfl
     refine zie (w:=wS (lS b is o p)) (ce':=c') (by trivial) ?_
     exact⟨lS b is o p,_,_,_,rfl,rfl,(S.ly N ho12 hp p0).std ho12 fr⟩
    ·refine za6 (p:=false) (ce':=c') (zcj (za9 (ws:=[.str "breath",.ty "tuple"]) (by trivial) zjc)) (fun q=>by cases q) (fun _=>?_)
     refine zaT ?_
     exact⟨is,_,_,_,rfl,rfl,S⟩
   ·refine za6 (p:=false) (ce':=c') (zcj (za9 (ws:=[.str "lay",.ty "tuple"]) (by trivial) zjc)) (fun q=>by cases q) (fun _=>?_)
    refine zaT ?_
    exact⟨is,_,_,_,rfl,rfl,S⟩
  ·rintro sl c' ⟨is,x5,x6,x7,rfl,rfl,S⟩
   exact⟨is,_,_,_,_,_,rfl,rfl,S⟩
 ·rintro sl c ⟨is,x3,x4,x5,x6,x7,rfl,rfl,S⟩
  refine zap (w:=wS is) (ce':=c) (by trivial) ?_
  exact⟨_,_,zaz (by simp only[Bel];exact belInts _ _),is,rfl,rfl,S⟩
theorem zeV(fu:Nat)(h:Int):d_r fu [.int h] ce=some (.ok (.int (3-h)) ce):=by
 unfold d_r
 refine zba [some (.int h)] rfl ?_
 refine zap (w:=.int (3-h)) (ce':=ce) (by trivial) (zaz (by simp only[Bel]))
theorem zjX(fu:Nat){pts:List Nat}{v:Int}{w1:W}(hw:LstOf ce w1 (pts.map nW))(hl:is.length<=36)(hp:∀q∈pts,q<is.length):∃is',d_ia fu [wS is,w1,.int v] ce=some (.ok (wS is') ce)/\is'.length=is.length/\(∀q∈pts,is'.getD q 0=v)/\∀q,q∉pts->is'.getD q 0=is.getD q 0:=by
 have hz:=zfj
 suffices hs:∃w c',d_ia fu [wS is,w1,.int v] ce=some (.ok w c')/\∃is',w=wS is'/\c'=ce/\is'.length=is.length/\(∀q∈pts,is'.getD q 0=v)/\∀q,q∉pts->is'.getD q 0=is.getD q 0 by
  obtain⟨w,c',e,is',rfl,rfl,h⟩:=hs
  exact⟨is',e,h⟩
 obtain⟨s,hs,hsi,_⟩:=hw.src
 have hst:∀{c1:Ce} {l:List (Nat×C)},Own ce c1 l->s.Stays c1:=by
  intro c1 l h
  obtain⟨t,rfl⟩:=h.cut
  cases hw with
  | fr=>simp only[zib] at hs;cases hs;exact True.intro
  | cl g =>
   simp only[zib,g] at hs
   cases hs
   show(ce++t)[_]?=_
   rw[getElem?_append_left (List.getElem?_eq_some_iff.mp g).1]
   exact g
 have hs':∀{c1:Ce} {l:List (Nat×C)},Own ce c1 l->zib c1 w1=some s:=by
  intro c1 l h
  obtain⟨t,rfl⟩:=h.cut
  cases hw with
  | fr=>exact hs
  | cl g =>
   simp only[zib,g] at hs ⊢
   rw[getElem?_append_left (List.getElem?_eq_some_iff.mp g).1,g]
   exact hs
 unfold d_ia
 refine ziy [some (wS is),some w1,some (.int v),none,none] rfl ?_
 refine zao (w:=.cel ce.length) (ce':=ce++[.lst (is.map W.int)]) (za9 (zak (by trivial) zam) (by rw[zii (xs:=is.map W.int) rfl,zdv (by rw[length_map];omega)])) ?_
 refine zQn ?_
 have O0:=(Own.start ce).alloc (C.lst (is.map W.int))
 generalize hk:ce.length=k3 at O0 ⊢
 generalize ce++[C.lst (is.map W.int)]=c0 at O0 ⊢
 refine zig (xs:=pts) (en:=nW) (src:=s) (ce0:=c0) (zlb (zag rfl) (hs' O0)) hsi
  (fun d sl c=>∃is' x4,sl=[some (wS is),some w1,some (.int v),some (.cel k3),x4]/\Own ce c [(k3,C.lst (is'.map W.int))]/\is'.length=is.length/\(∀q∈d,is'.getD q 0=v)/\∀q,q∉d->is'.getD q 0=is.getD q 0)
  ⟨is,_,rfl,O0,rfl,by simp,fun _ _=>rfl⟩ ?_ (fun sl c h=>by obtain⟨_,_,_,O,_⟩:=h;exact hst O) ?_
 ·rintro d u r sl c e hu ⟨is',x4,rfl,O,l',z1,z2⟩
  refine⟨hst O,?_⟩
  have hul:u<is'.length:=by rw[l'];exact hp u hu
  unfold zhO
  refine zQn ?_
  refine zco (w:=.int v) (k:=k3) (ij:=u) (j:=u) (by trivial) (by trivial) (by trivial) O.g0 (zik (by rw[length_map];exact hul)) ?_
  refine⟨is'.set u v,_,rfl,by rw[map_set];exact O.set0 _,by rw[length_set];exact l',fun q hq=>?_,fun q hq=>?_⟩
  ·rw[zcu]
   split
   ·rfl
   ·rename_i hn
    rcases mem_append.mp hq with hq|hq
    ·exact z1 q hq
    ·rw[mem_singleton] at hq;exact absurd ⟨hq.symm,hul⟩ hn
  ·rw[zcu,if_neg (fun x=>hq (by rw[<- x.1];simp))]
   exact z2 q fun x=>hq (mem_append_left _ x)
 ·rintro sl c ⟨is',x4,rfl,O,l',z1,z2⟩
  refine zap (w:=wS is') (ce':=c) (za9 (zak (by trivial) zam) (zpt O.g0 (by omega))) ?_
  subst hk
  exact⟨_,_,O.finC (by simp only[Bel];exact belInts _ _),is',rfl,rfl,l',z1,z2⟩
theorem zhV(fu:Nat){pts:List Nat}{v:Int}(hl:is.length<=36)(hp:∀q∈pts,q<is.length):∃is',d_ia fu [wS is,wL pts,.int v] ce=some (.ok (wS is') ce)/\is'.length=is.length/\(∀q∈pts,is'.getD q 0=v)/\∀q,q∉pts->is'.getD q 0=is.getD q 0:=zjX fu (.fr _) hl hp
theorem zoy(hb:Bd b){vl:Nat->Int}:(ptc b vl).Nodup:=by
 unfold ptc
 refine List.Pairwise.map _ ?_ (List.Pairwise.and_mem.mp (List.Pairwise.filter _ nodup_range))
 rintro s t ⟨hs,ht,hne⟩ e
 obtain⟨s1,s2⟩:=mem_filter.mp hs
 obtain⟨t1,t2⟩:=mem_filter.mp ht
 have a:=zbT (vl:=vl) hb (mem_range.mp s1) s2
 rw[e,zbT hb (mem_range.mp t1) t2] at a
 exact hne a.symm
theorem zfM(hb:Bd b){vl:Nat->Int}{c:List Nat}(h:c∈ptc b vl):0<c.length/\c.length<=b.length/\∀p∈c,p<b.length:=by
 obtain⟨s,hs,_,rfl⟩:=(zcn hb).mp h
 exact⟨length_pos_of_mem (zbv hb hs),zpw,fun p hp=>cpt_lt hp⟩
theorem ziF{c:List Nat}{n:Nat}(h0:0<c.length)(h:∀p∈c,p<n):c.getD 0 0<n:=by
 rw[getD_eq_getElem?_getD,getElem?_eq_getElem h0]
 exact h _ (getElem_mem h0)
theorem zlK{c:List Nat}(h0:0<c.length):ixW ce (wL c) (.int 0)=some (nW (c.getD 0 0)):=zok (p:=0) h0
def zdA(b:List (List Nat))(is:List Int):List (List Nat):=(ptc b (vS is)).filter fun c=>!decide (is.getD (c.getD 0 0) 0=0)
theorem zlL(fu:Nat)(hfu:200<=fu)(B:Brd b)(hl:is.length=b.length):d_ma fu [wB b,wS is] ce=some (.ok (.lst ((zdA b is).map wL)) ce):=by
 have hz:=zfj
 have h36:=B.h36
 have e1:=zov (ce:=ce) fu hfu (ztV hl) B.bd B.sym h36
 have hzl:(ptc b (vS is)).length<=PySem.sizeLine:=by have:=zgK (b:=b) (vl:=vS is);omega
 unfold d_ma
 refine zba [some (wB b),some (wS is)] rfl ?_
 refine zap (zsz (zs:=ptc b (vS is)) (en:=wL) (t:=fun c=>!decide (is.getD (c.getD 0 0) 0=0)) (zjN (zaB (ws:=[wB b,wS is]) (by trivial) rfl e1) (.fr _)) hzl (fun c hc=>?_)) ?_
 ·obtain⟨p0,_,p2⟩:=zfM B.bd hc
  have hh:c.getD 0 0<is.length:=by rw[hl];exact ziF p0 p2
  have i1:=zlK (ce:=ce) p0
  have i2:=zbz (ce:=ce) hh
  trivial
 ·exact zaz (by simp only[Bel];exact zfq _ _)
theorem zso(fu:Nat)(B:Brd b)(hl:is.length=b.length){r:List Nat}(hr:∀p∈r,p<b.length):zdg (d_fa fu) [wB b,wS is,wL r] ce=some (.ok (wL (brs b is r)) ce):=zci (zgh fu B.bd B.h36 hl (.fr _) hr) (bels_nW _ _)
theorem zlM{l:List Nat}:zh7 ce (wL l)=some (!decide (l=[])):=by
 show some (!(l.map nW).isEmpty)=_
 cases l<;>simp
theorem zg8(fu:Nat)(hfu:200<=fu)(B:Brd b)(hl:is.length=b.length){h:Int}(h0:h≠0):d_k fu [wB b,wS is,.int h] ce=some (.ok (.cel ce.length) (ce++[.lst (((List.range b.length).filter fun q=>(zdA b is).any fun r=>decide (is.getD (r.getD 0 0) 0=h)&&(decide (brs b is r=[])&&decide (q∈r))).map nW)])):=by
 have hz:=zfj
 have h36:=B.h36
 have e1:=zlL (ce:=ce++[C.lst []]) fu hfu B hl
 have rok:∀r∈zdA b is,0<r.length/\r.length<=b.length/\∀p∈r,p<b.length:=fun r hr=>zfM B.bd (mem_filter.mp hr).1
 have rnd:(zdA b is).Nodup:=List.Pairwise.filter _ (zoy B.bd)
 have rnd1:∀r∈zdA b is,r.Nodup:=fun r hr=>by
  obtain⟨s,hs,_,rfl⟩:=(zcn B.bd).mp (mem_filter.mp hr).1
  exact zom
 have rmeet:∀r∈zdA b is,∀r'∈zdA b is,∀q,q∈r->q∈r'->r=r':=fun r hr r' hr' q h1 h2=>by
  obtain⟨s,hs,_,rfl⟩:=(zcn B.bd).mp (mem_filter.mp hr).1
  obtain⟨t,ht,_,rfl⟩:=(zcn B.bd).mp (mem_filter.mp hr').1
  exact zja B.bd B.sym hs ht h1 h2
 unfold d_k
 refine zba [some (wB b),some (wS is),some (.int h),none,none] rfl ?_
 refine zao (zck zam (zero_le _)) ?_
 refine zQn ?_
 have O0:=(Own.start ce).alloc (C.lst (([]:List Nat).map nW))
 refine(?_:Run _ _ (ce++[C.lst []]) _)
 generalize hk:ce.length=k3 at O0 ⊢
 generalize hc0:ce++[C.lst []]=c0 at e1 ⊢
 have O0:Own ce c0 [(k3,C.lst (([]:List Nat).map nW))]:=by rw[<- hc0];exact O0
 generalize zdA b is=R at *
 refine za8 (zs:=R) (en:=wL) (c1:=c0) (zgH (by trivial))
  (fun d sl c=>∃F x4,sl=[some (wB b),some (wS is),some (.int h),some (.cel k3),x4]/\Own ce c [(k3,C.lst (F.map nW))]/\F.Nodup/\(∀x∈F,x<b.length)/\∀x,x∈F↔∃r∈d,is.getD (r.getD 0 0) 0=h/\brs b is r=[]/\x∈r)
  ⟨[],_,rfl,O0,by simp,by simp,by simp⟩ ?_ ?_
 ·rintro d r rest sl c e hr ⟨F,x4,rfl,O,nd,lt,mem⟩
  obtain⟨r0,r1,r2⟩:=rok r hr
  have hh:r.getD 0 0<is.length:=by rw[hl];exact ziF r0 r2
  have i1:=zlK (ce:=c) r0
  have i2:=zbz (ce:=c) hh
  have e2:=zso (ce:=c) fu B hl r2
  have t2:=zlM (ce:=c) (l:=brs b is r)
  have hdr:∀r'∈d,r'≠r:=fun r' hr' e'=>by
   subst e'
   rw[<- e] at rnd
   exact(nodup_append.mp rnd).2.2 r' hr' r' (by simp) rfl
  have hdR:∀r'∈d,r'∈R:=fun r' hr'=>by rw[<- e];exact mem_append_left _ hr'
  unfold zdR
  refine zQn ?_
  refine za6 (p:=decide (is.getD (r.getD 0 0) 0=h)&&!(!decide (brs b is r=[]))) (ce':=c) (zih (by trivial) (fun _=>zcM (zk9 (zaB (ws:=[wB b,wS is,wL r]) (by trivial) rfl e2) t2))) (fun q=>?_) (fun q=>?_)
  ·simp only[not_not,and_eq_true,decide_eq_true_eq] at q
   have nd2:(F++r).Nodup:=by
    rw[nodup_append]
    refine⟨nd,?_,fun a ha b' hb' e'=>?_⟩
    ·exact rnd1 r hr
    ·subst e'
     obtain⟨r',hr',_,_,h3⟩:=(mem a).mp ha
     exact hdr r' hr' (rmeet r' (hdR r' hr') r hr a h3 hb')
   have lt2:∀x∈F++r,x<b.length:=fun x hx=>by
    rcases mem_append.mp hx with hx|hx
    ·exact lt x hx
    ·exact r2 x hx
   have hl2:=zaG nd2 lt2
   rw[length_append] at hl2
   refine ziX (w:=.non) (ce':=c.set k3 (.lst (F.map nW++r.map nW))) (zhF (ws:=[wL r]) (by trivial) (zcK O.g0) (by trivial) (zpv O.g0 (ys:=r.map nW) rfl (by rw[length_map,length_map];omega))) ?_
   refine⟨F++r,_,rfl,by rw[map_append];exact O.set0 _,nd2,lt2,fun x=>?_⟩
   rw[mem_append,mem]
   constructor
   ·rintro(⟨r',hr',h⟩|hx)
    ·exact⟨r',mem_append_left _ hr',h⟩
    ·exact⟨r,by simp,q.1,q.2,hx⟩
   ·rintro⟨r',hr',h⟩
    rcases mem_append.mp hr' with hr'|hr'
    ·exact .inl ⟨r',hr',h⟩
    ·rw[mem_singleton] at hr';subst hr';exact .inr h.2.2
  ·refine zaT ?_
   refine⟨F,_,rfl,O,nd,lt,fun x=>?_⟩
   rw[mem]
   constructor
   ·rintro⟨r',hr',h⟩;exact⟨r',mem_append_left _ hr',h⟩
   ·rintro⟨r',hr',h⟩
    rcases mem_append.mp hr' with hr'|hr'
    ·exact⟨r',hr',h⟩
    ·rw[mem_singleton] at hr'
     subst hr'
     rw[decide_eq_true h.1,decide_eq_true h.2.1] at q
     cases q
 ·rintro sl c ⟨F,x4,rfl,O,nd,lt,mem⟩
  have hl':=zaG nd lt
  have es:zcz F=(List.range b.length).filter fun q=>R.any fun r=>decide (is.getD (r.getD 0 0) 0=h)&&(decide (brs b is r=[])&&decide (q∈r)):=by
   rw[zda nd lt]
   apply filter_congr
   intro x _
   rw[Bool.eq_iff_iff,any_eq_true,decide_eq_true_eq,mem]
   simp only[and_eq_true,decide_eq_true_eq]
  rw[<- es]
  refine zap (za9 (zak (by trivial) zam) ((zmX (mk:=zgx) O.g0 (by omega)).trans (zdv (by rw[length_map,zcm];omega)))) ?_
  subst hk
  exact(O.alloc _).finO (by simp only[zf7];exact bels_nW _ _)
end
section
variable {b:List (List Nat)} {is:List Int} {o:Int} {p:Nat} {ce:Ce}
theorem znz(fu:Nat)(hfu:200<=fu)(B:Brd b)(hl:is.length=b.length)(hp:p<b.length):zdg (d_la fu) [wB b,wS is,nW p] ce=some (.ok (wL (cpt b (vS is) p)) ce):=by
 refine zci ?_ (bels_nW _ _)
 have e1:=zfJ (ce:=ce) fu hfu (ztV hl) B.bd B.h36 hp
 unfold d_la
 refine zba [some (wB b),some (wS is),some (nW p)] rfl ?_
 refine zap (zaB (ws:=[wB b,wS is,nW p]) (by trivial) rfl e1) ?_
 exact((Own.start ce).alloc _).finO (by simp only[zf7];exact bels_nW _ _)
theorem LyA.rows(A:LyA b is o p){r:List Nat}:(r∈zdA b (is.set p o)/\(is.set p o).getD (r.getD 0 0) 0=3-o)↔r∈lpt b (thr (is.set p o) [3-o]):=by
 have hT:∀{s},s∈thr (is.set p o) [3-o]↔s<b.length/\(is.set p o).getD s 0=3-o:=fun {s}=>by rw[thr_mem,A.l1]
 have hc:∀{s},s<b.length->(is.set p o).getD s 0=3-o->cpt b (vT (thr (is.set p o) [3-o])) s=cpt b (vS (is.set p o)) s:=fun {s} hs es=>by
  have:=ziD (is:=is.set p o) A.bd A.l1 hs
  rwa [es] at this
 unfold zdA
 rw[mem_filter,zcn A.bd]
 constructor
 ·rintro⟨⟨⟨s,hs,hm,rfl⟩,_⟩,q⟩
  rw[zbT A.bd hs hm] at q
  have:=zlG (T:=thr (is.set p o) [3-o]) A.bd A.sym (fun x hx=>(hT.mp hx).1) (hT.mpr ⟨hs,q⟩)
  rwa [hc hs q] at this
 ·intro h
  obtain⟨s,hs,rfl⟩:=zlH h
  obtain⟨q1,q2⟩:=hT.mp hs
  rw[hc q1 q2]
  obtain⟨m,h1,h2,h3⟩:=zcR (vl:=vS (is.set p o)) A.bd A.sym q1
  have hm:=cpt_lt h1
  have em:(is.set p o).getD m 0=3-o:=(cpt_val A.bd q1 h1).trans q2
  rw[<- h3,zbT A.bd hm h2,em]
  have h0:=A.H.h0
  exact⟨⟨⟨m,hm,h2,rfl⟩,by simp[h0]⟩,rfl⟩
theorem LyA.blist(A:LyA b is o p):((List.range b.length).filter fun q=>(zdA b (is.set p o)).any fun r=>decide ((is.set p o).getD (r.getD 0 0) 0=3-o)&&(decide (brs b (is.set p o) r=[])&&decide (q∈r)))=lT b is o p:=by
 unfold lT
 apply filter_congr
 intro q _
 rw[Bool.eq_iff_iff,any_eq_true,any_eq_true]
 simp only[and_eq_true,decide_eq_true_eq]
 constructor
 ·rintro⟨r,h1,h2,h3,h4⟩
  exact⟨r,mem_filter.mpr ⟨A.rows.mp ⟨h1,h2⟩,decide_eq_true h3⟩,h4⟩
 ·rintro⟨r,h1,h4⟩
  obtain⟨h1,h3⟩:=mem_filter.mp h1
  obtain⟨h1,h2⟩:=A.rows.mpr h1
  exact⟨r,h1,h2,of_decide_eq_true h3,h4⟩
theorem zpY{sl:Sl}{i p:Nat}(h:sl[i]?=some (some (nW p)))(hp:p<1000):[i].all (sml sl)=true:=by
 simp only[all_cons,all_nil,Bool.and_true,sml,h,nW]
 exact decide_eq_true (by simpa using hp)
theorem zjd(fu:Nat)(hfu:200<=fu)(N:BrdN b)(S:StdOk b is)(ho:o=1\/o=2)(hp:p<b.length)(p0:is.getD p 0=0){Q:O->Prop}(h:Run (zaq (dIf (zdf (zl2 (zaH 3 (zdg (d_fa fu)) (zac (zae 0) (zac (zae 6) (zac (zaH 3 (zdg (d_la fu)) (zac (zae 0) (zac (zae 6) (zac (zae 3) zan)))) zan)))))) (zbo "NoBreath" [3]) zaP) (za7 (zfb (zac (zae 6) (zac (zae 5) zan)))))
   [some (wB b),some (wS is),some (.int o),some (nW p),some (wS (is.set p o)),some (wL (lT b is o p)),some (wS (lS b is o p))] ce Q) :
  Run (zaq (dIf (dB (zaL (eqW true) (zaL ixW (zae 1) (zae 3)) (dC (.int 0)))) (zbo "NoLay" [3]) zaP)
   (zaq (zaU 4 (zaH 3 (d_ia fu) (zac (zae 1) (zac (zhZ (zac (zae 3) zan)) (zac (zae 2) zan)))))
   (zaq (zaU 5 (zaH 3 (zdg (d_k fu)) (zac (zae 0) (zac (zae 4) (zac (zaH 1 (d_r fu) (zac (zae 2) zan)) zan)))))
   (zaq (zaU 6 (zaH 3 (d_ia fu) (zac (zae 4) (zac (zae 5) (zac (dC (.int 0)) zan)))))
   (zaq (dIf (zdf (zl2 (zaH 3 (zdg (d_fa fu)) (zac (zae 0) (zac (zae 6) (zac (zaH 3 (zdg (d_la fu)) (zac (zae 0) (zac (zae 6) (zac (zae 3) zan)))) zan)))))) (zbo "NoBreath" [3]) zaP)
   (za7 (zfb (zac (zae 6) (zac (zae 5) zan)))))))))
   [some (wB b),some (wS is),some (.int o),some (nW p),none,none,none] ce Q:=by
 have hz:=zfj
 have A:=S.ly N ho hp p0
 have B:=N.B
 have h36:=B.h36
 have hl:=S.hl
 have jp:=zbz (ce:=ce) (is:=is) (p:=p) (by omega)
 refine zaQ (p:=!decide (is.getD p 0=0)) (ce':=ce) (by trivial) (fun q=>by rw[decide_eq_true p0] at q;cases q) (fun _=>?_)
 refine zaK ?_
 obtain⟨is1,e1,l1,a1,b1⟩:=zhV (ce:=ce) (is:=is) fu (pts:=[p]) (v:=o) (by omega) (fun q hq=>by rw[mem_singleton] at hq;subst hq;omega)
 have ei1:is1=is.set p o:=zg7 (by rw[l1,length_set]) fun q _=>by
  rw[A.s1]
  by_cases e:q=p
  ·rw[if_pos e,e];exact a1 p (by simp)
  ·rw[if_neg e];exact b1 q (by simpa using e)
 subst ei1
 have z1:1<=PySem.sizeLine:=by decide
 refine zao (w:=wS (is.set p o)) (ce':=ce) (zaB (ws:=[wS is,wL [p],.int o]) (zak (by trivial) (zak (zeB (ws:=[nW p]) (by trivial) z1) (by trivial))) rfl e1) ?_
 refine zQn ?_
 have e2:=zg8 (ce:=ce) (is:=is.set p o) fu hfu B A.l1 (h:=3-o) A.H.h0
 rw[A.blist] at e2
 have e2f:=zci e2 (bels_nW _ _)
 have e3:=zeV (ce:=ce) fu o
 refine zao (w:=wL (lT b is o p)) (ce':=ce) (zaB (ws:=[wB b,wS (is.set p o),.int (3-o)]) (by trivial) rfl e2f) ?_
 refine zQn ?_
 obtain⟨is2,e4,l2,a2,b2⟩:=zhV (ce:=ce) (is:=is.set p o) fu (pts:=lT b is o p) (v:=0) (by rw[A.l1];omega) (fun q hq=>by rw[A.l1];exact(A.tkh hq).1)
 have ei2:is2=lS b is o p:=zg7 (by rw[l2,length_set,zfL]) fun q hq=>by
  rw[l2,A.l1] at hq
  rw[A.get hq]
  by_cases e:q=p
  ·rw[if_pos e,b2 q (fun h=>(A.tkh h).2.2 e),A.s1,if_pos e]
  ·rw[if_neg e]
   by_cases ht:q∈lT b is o p
   ·rw[if_pos ht];exact a2 q ht
   ·rw[if_neg ht,b2 q ht,A.s1,if_neg e]
 subst ei2
 refine zao (w:=wS (lS b is o p)) (ce':=ce) (zaB (ws:=[wS (is.set p o),wL (lT b is o p),.int 0]) (by trivial) rfl e4) ?_
 refine zQn ?_
 exact h
theorem zlN(fu:Nat)(hfu:200<=fu)(N:BrdN b)(S:StdOk b is)(hp:p<b.length){x1 x2 x4 x5:Option W} :
  zdf (zl2 (zaH 3 (zdg (d_fa fu)) (zac (zae 0) (zac (zae 6) (zac (zaH 3 (zdg (d_la fu)) (zac (zae 0) (zac (zae 6) (zac (zae 3) zan)))) zan))))) [some (wB b),x1,x2,some (nW p),x4,x5,some (wS (lS b is o p))] ce=some (.ok (!(!decide (brs b (lS b is o p) (cpt b (vS (lS b is o p)) p)=[]))) ce):=by
 have hl:(lS b is o p).length=b.length:=by rw[zfL];exact S.hl
 have e1:=znz (ce:=ce) fu hfu N.B hl hp
 have e2:=zso (ce:=ce) (is:=lS b is o p) fu N.B hl (r:=cpt b (vS (lS b is o p)) p) (fun x hx=>cpt_lt hx)
 exact zcM (zk9 (zaB (ws:=[wB b,wS (lS b is o p),wL (cpt b (vS (lS b is o p)) p)]) (zak (by trivial) (zak (by trivial) (zak (zaB (ws:=[wB b,wS (lS b is o p),nW p]) (by trivial) rfl e1) zam))) rfl e2) zlM)
theorem zpZ(fu:Nat)(S:StdOk b is)(h36:b.length<=36)(hp:p<b.length)(p0:¬is.getD p 0=0):d_na fu [wB b,wS is,.int o,nW p] ce=some (.ex ⟨"NoLay",none⟩ ce):=by
 have hl:=S.hl
 have jp:=zbz (ce:=ce) (is:=is) (p:=p) (by omega)
 unfold d_na
 refine zdP [some (wB b),some (wS is),some (.int o),some (nW p),none,none,none] rfl ?_
 refine zaQ (p:=!decide (is.getD p 0=0)) (ce':=ce) (by trivial) (fun _=>zdO (zpY (p:=p) rfl (by omega)) ⟨rfl,[],by simp⟩) (fun q=>by rw[decide_eq_false p0] at q;cases q)
theorem zp0(fu:Nat)(hfu:200<=fu)(N:BrdN b)(S:StdOk b is)(ho:o=1\/o=2)(hp:p<b.length)(p0:is.getD p 0=0)(nf:¬Frb b is o p):d_na fu [wB b,wS is,.int o,nW p] ce=some (.ex ⟨"NoBreath",none⟩ ce):=by
 have h36:=N.B.h36
 have nf':brs b (lS b is o p) (cpt b (vS (lS b is o p)) p)=[]:=Classical.byContradiction nf
 have eb:=zlN (ce:=ce) (o:=o) fu hfu N S hp (x1:=some (wS is)) (x2:=some (.int o)) (x4:=some (wS (is.set p o))) (x5:=some (wL (lT b is o p)))
 rw[decide_eq_true nf'] at eb
 unfold d_na
 refine zdP [some (wB b),some (wS is),some (.int o),some (nW p),none,none,none] rfl ?_
 refine zjd fu hfu N S ho hp p0 ?_
 exact zaQ (p:=!(!true)) (ce':=ce) eb (fun _=>zdO (zpY (p:=p) rfl (by omega)) ⟨rfl,[],by simp⟩) (fun q=>by cases q)
end
section
variable {b:List (List Nat)} {is:List Int} {o:Int} {p:Nat} {ce:Ce}
theorem zlO(fu:Nat)(hfu:200<=fu)(N:BrdN b)(S:StdOk b is)(ho:o=1\/o=2)(hp:p<b.length)(p0:is.getD p 0=0)(fr:Frb b is o p):d_na fu [wB b,wS is,.int o,nW p] ce=some (.ok (.tup [wS (lS b is o p),wL (lT b is o p)]) ce):=by
 have z2:2<=PySem.sizeLine:=by decide
 have eb:=zlN (ce:=ce) (o:=o) fu hfu N S hp (x1:=some (wS is)) (x2:=some (.int o)) (x4:=some (wS (is.set p o))) (x5:=some (wL (lT b is o p)))
 rw[decide_eq_false fr] at eb
 unfold d_na
 refine zba [some (wB b),some (wS is),some (.int o),some (nW p),none,none,none] rfl ?_
 refine zjd fu hfu N S ho hp p0 ?_
 refine zaQ (p:=!(!false)) (ce':=ce) eb (fun q=>by cases q) (fun _=>?_)
 refine zaK ?_
 refine zap (zcN (ws:=[wS (lS b is o p),wL (lT b is o p)]) (by trivial) z2) ?_
 exact zaz (by simp only[Bel,zdl];exact⟨belInts _ _,bels_nW _ _,trivial⟩)
end
theorem zp1{n:Nat}{ls:List (Nat×Nat)}(L:LsOk n ls)(i:Nat):i∉(ziB n ls).getD i []:=by
 rw[zeT]
 split
 ·intro h
  rcases(zg6 L).mp ((zeR _ _).mp h) with h|h<;>(have:=(L.lt _ h).1;simp only at this;omega)
 ·simp
inductive Pl:W->Prop
 | non:Pl .non
 | bl (b:Bool):Pl (.bl b)
 | int (i:Int):Pl (.int i)
 | str (x:PySem.Str):Pl (.str x)
 | lst (xs:List W):Pl (.lst xs)
 | tup (xs:List W):Pl (.tup xs)
def tst:W->Bool
 | .int i=>decide (0<=i)&&decide (i<=2)
 | _=>false
def isI:W->Bool
 | .int _=>true
 | _=>false
section
variable {ce:Ce} {sl:Sl} {c1:Ce} {a b c:Sl->M W}
theorem znA{i j k:Int}(ha:a sl ce=some (.ok (.int i) ce))(hb:b sl ce=some (.ok (.int j) ce))(hc:c sl ce=some (.ok (.int k) ce)):zhs (fun _=>fLe) (fun _=>fLe) a b c sl ce=some (.ok (.bl (decide (i<=j)&&decide (j<=k))) ce):=by
 have h1:fLe (.int i) (.int j)=some (.bl (decide (i<=j))):=rfl
 have h2:fLe (.int j) (.int k)=some (.bl (decide (j<=k))):=rfl
 simp only[zhs,bnd,ha,hb,look,h1,map_some]
 cases decide (i<=j) with
 | true=>simp only[bnd,look,hc,h2,map_some,Bool.true_and]
 | false=>simp only[ret,Bool.false_and]
theorem znB(fu:Nat){w:W}(h:Pl w):d_ba fu [w] ce=some (.ok (.bl (isI w)) ce):=by
 unfold d_ba
 refine zba [some w] rfl ?_
 refine zap (w:=.bl (isI w)) (ce':=ce) ?_ (zaz (by simp only[Bel]))
 cases h<;>first|rfl|(rename_i b;cases b<;>rfl)
theorem zlP{xs:List W}:zbQ [.tup xs] ce=some (.ok (nW xs.length) ce):=by simp[zbQ];rfl
theorem znC(fu:Nat){bs xs:List W}(hx:∀w∈xs,Pl w)(hl:xs.length<=100):d_da fu [.tup bs,.tup xs] ce=some (.ok (.bl (decide (xs.length=bs.length)&&xs.all tst)) ce):=by
 have z:(100:Nat)<PySem.sizeLine:=by decide
 have i0:zmM [.tup xs,.ty "tuple"] ce=some (.ok (.bl true) ce):=rfl
 have l1:=zlP (ce:=ce) (xs:=xs)
 have l2:=zlP (ce:=ce) (xs:=bs)
 have en:eqW true ce (nW xs.length) (nW bs.length)=some (.bl (!decide (xs.length=bs.length))):=by
  have:=zuv (ce:=ce) (i:=(xs.length:Int)) (j:=(bs.length:Int))
  rw[show decide ((xs.length:Int)=(bs.length:Int))=decide (xs.length=bs.length) by rw[Bool.eq_iff_iff,decide_eq_true_eq,decide_eq_true_eq];omega] at this
  exact this
 unfold d_da
 refine zba [some (.tup bs),some (.tup xs)] rfl ?_
 refine zaQ (p:=!true||!decide (xs.length=bs.length)) (ce':=ce) (by trivial) (fun q=>?_) (fun q=>?_)
 ·have q':¬xs.length=bs.length:=by simpa using q
  refine zdu ?_
  trivial
  rw[decide_eq_false q']
  exact zcl (zaz (by simp only[Bel]))
 ·have q':xs.length=bs.length:=by simpa using q
  refine zaK ?_
  refine zap (za9 (zak (zr1 (zs:=xs) (en:=id) (f:=tst) (by rw[map_id];exact(zhG (by trivial)).is) (by omega) (fun w hw=>?_)) zam) zli) ?_
  ·have ew:=znB (ce:=ce) fu (hx w hw)
   have hc:zaH 1 (d_ba fu) (zac (zae 0) zan) (some (id w)::zdG [] [some (.tup bs),some (.tup xs)]) ce=some (.ok (.bl (isI w)) ce):=zaB (ws:=[w]) (by trivial) rfl ew
   cases hx w hw with
   | int i =>
    exact zdn (zoo hc (znA za1 (zag rfl) za1))
   | _=>simp only[zfT,noX,zpd,bnd,hc,isI,ret,tst]
  ·rw[decide_eq_true q',Bool.true_and]
   refine zcl ?_
   have e:(xs.map tst).all id=xs.all tst:=by rw[all_map];rfl
   rw[e]
   exact zaz (by simp only[Bel])
end
def zsp(b:List (List Nat))(is:List Int):Prop:=∀p,p<b.length->is.getD p 0≠0->∃q∈cpt b (vS is) p,∃y∈b.getD q [],is.getD y 0=0
section
variable {b:List (List Nat)} {is:List Int} {ce:Ce}
open Classical in
theorem ziG(fu:Nat)(hfu:200<=fu)(B:Brd b)(hl:is.length=b.length):d_ca fu [wB b,wS is] ce=some (.ok (.bl (decide (zsp b is))) ce):=by
 have hz:=zfj
 have hb:=B.bd
 have sym:=B.sym
 have h36:=B.h36
 have e1:=zlL (ce:=ce) fu hfu B hl
 have hrl:(zdA b is).length<=b.length:=le_trans (length_filter_le _ _) zgK
 unfold d_ca
 refine zba [some (wB b),some (wS is)] rfl ?_
 refine zap (za9 (zak (zr1 (zs:=zdA b is) (en:=wL) (f:=fun c=>decide ((0:Int)<((brs b is c).length:Int))) (by trivial) (by omega) (fun c hc=>?_)) zam) zli) ?_
 ·have hc':=(mem_filter.mp hc).1
  obtain⟨h0,_,h2⟩:=zfM hb hc'
  have e2:=zci (zgh (ce:=ce) fu hb h36 hl (LstOf.fr _) h2) (bels_nW _ _)
  trivial
 ·refine(?_:finC ce ce (W.bl _)=_)
  rw[zaz (by simp only[Bel])]
  have:((zdA b is).map fun c=>decide ((0:Int)<((brs b is c).length:Int))).all id=decide (zsp b is):=by
   rw[Bool.eq_iff_iff,decide_eq_true_eq,all_eq_true]
   simp only[mem_map,forall_exists_index,and_imp,forall_apply_eq_imp_iff₂,id,decide_eq_true_eq]
   have br:∀c:List Nat,(0:Int)<((brs b is c).length:Int)↔∃q∈c,∃y∈b.getD q [],is.getD y 0=0:=by
    intro c
    have:(0:Int)<((brs b is c).length:Int)↔0<(brs b is c).length:=by omega
    rw[this,length_pos_iff_exists_mem]
    unfold brs zau
    simp only[mem_filter,mem_range,any_eq_true,decide_eq_true_eq]
    constructor
    ·rintro⟨y,⟨_,q,hq,hy⟩,h⟩;exact⟨q,hq,y,hy,h⟩
    ·rintro⟨q,hq,y,hy,h⟩;exact⟨y,⟨hb.get hy,q,hq,hy⟩,h⟩
   simp only[br]
   constructor
   ·intro h p hp hv
    obtain⟨m,h1,h2,h3⟩:=zcR (vl:=vS is) hb sym hp
    have hm:=cpt_lt h1
    have hmem:cpt b (vS is) m∈zdA b is:=by
     refine mem_filter.mpr ⟨(zcn hb).mpr ⟨m,hm,h2,rfl⟩,?_⟩
     rw[zbT hb hm h2]
     have:=cpt_val hb hp h1
     simp only[vS] at this
     simp[-getD_eq_getElem?_getD,this,hv]
    have:=h _ hmem
    rwa [h3] at this
   ·intro h c hc
    obtain⟨hc1,hc2⟩:=mem_filter.mp hc
    obtain⟨m,hm,h2,rfl⟩:=(zcn hb).mp hc1
    rw[zbT hb hm h2] at hc2
    exact h m hm (by simpa[-getD_eq_getElem?_getD] using hc2)
  rw[this]
end
theorem zp2(l:List Int):∀x∈l.map W.int,Pl x:=fun x hx=>by
 obtain⟨i,_,rfl⟩:=mem_map.mp hx
 exact .int i
section
variable {b:List (List Nat)} {is:List Int} {ce:Ce}
theorem zsq(fu:Nat){is:List Int}(hl:is.length=b.length)(h36:b.length<=36)(v:∀q,q<b.length->0<=is.getD q 0/\is.getD q 0<=2)(c:Ce):d_da fu [wB b,wS is] c=some (.ok (.bl true) c):=by
 have e:=znC (ce:=c) fu (bs:=b.map wT) (xs:=is.map W.int) (zp2 is) (by rw[length_map];omega)
 have ha:(is.map W.int).all tst=true:=by
  rw[all_eq_true]
  intro w hw
  obtain⟨i,hi,rfl⟩:=mem_map.mp hw
  obtain⟨j,hj,e⟩:=getElem_of_mem hi
  have:=v j (by omega)
  rw[getD_eq_getElem?_getD,getElem?_eq_getElem hj,e] at this
  simp only[getD_some] at this
  simp[tst,this]
 rw[length_map,length_map,ha,decide_eq_true hl] at e
 exact e
open Classical in
theorem zp3(fu:Nat)(hfu:200<=fu)(N:BrdN b)(S:StdOk b is)(c:Ce):d_ca fu [wB b,wS is] c=some (.ok (.bl true) c):=by
 rw[ziG fu hfu N.B S.hl,decide_eq_true]
 intro p hp hv
 have v:=S.v p hp
 have k:∀h:Int,zl9 b is h->is.getD p 0=h->∃q∈cpt b (vS is) p,∃y∈b.getD q [],is.getD y 0=0:=fun h H e=>by
  obtain⟨x,y,r,hy,e0⟩:=H p hp e
  exact⟨x,(zbj N.B.bd hp).mpr r,y,hy,e0⟩
 have:is.getD p 0=1\/is.getD p 0=2:=by omega
 rcases this with h|h
 ·exact k 1 S.s1 h
 ·exact k 2 S.s2 h
end
structure Gm where
 past:List (List Int)
 done:List (Option Nat)
 tk:List Nat
def oW:Option Nat->W
 | none=>.non
 | some p=>nW p
def rl(s:Bool):PySem.Str:=if s then "stones" else "turns"
def gmF(b:List (List Nat))(s:Bool)(h:Int)(k:Nat):List (PySem.Str×W):=[("joined",wB b),("barring",.str (rl s)),("first",.int h),("past",.cel (k+1)),("done",.cel (k+2)),("takings",.cel (k+3))]
structure GC (c:Ce) (k:Nat) (b:List (List Nat)) (s:Bool) (h:Int) (g:Gm):Prop where
 i:c[k]?=some (.ins "Game" (gmF b s h k))
 p:c[k+1]?=some (.lst (g.past.map wS))
 d:c[k+2]?=some (.lst (g.done.map oW))
 t:c[k+3]?=some (.lst (g.tk.map nW))
def zd9(c:Ce)(k:Nat)(g:Gm):Ce:=((c.set (k+1) (.lst (g.past.map wS))).set (k+2) (.lst (g.done.map oW))).set (k+3) (.lst (g.tk.map nW))
theorem zcb{c:Ce}{k:Nat}{o:C}(h:c[k]?=some o):k<c.length:=(List.getElem?_eq_some_iff.mp h).1
section
variable {c l:Ce} {k k':Nat} {b:List (List Nat)} {s s':Bool} {h:Int} {g g':Gm}
theorem zje:(zd9 c k g).length=c.length:=by simp[zd9]
theorem zp4{j:Nat}(h1:j≠k+1)(h2:j≠k+2)(h3:j≠k+3):(zd9 c k g)[j]?=c[j]?:=by
 unfold zd9
 rw[getElem?_set_ne (Ne.symm h3),getElem?_set_ne (Ne.symm h2),getElem?_set_ne (Ne.symm h1)]
theorem GC.put(G:GC c k b s h g)(g':Gm):GC (zd9 c k g') k b s h g':=by
 have l1:=zcb G.p
 have l2:=zcb G.d
 have l3:=zcb G.t
 refine⟨(zp4 (by omega) (by omega) (by omega)).trans G.i,?_,?_,?_⟩
 ·unfold zd9
  rw[getElem?_set_ne (by omega),getElem?_set_ne (by omega),getElem?_set_self l1]
 ·unfold zd9
  rw[getElem?_set_ne (by omega),getElem?_set_self (by simp;exact l2)]
 ·unfold zd9
  rw[getElem?_set_self (by simp;exact l3)]
theorem GC.app(G:GC c k b s h g)(l:Ce):GC (c++l) k b s h g :=
 ⟨by rw[getElem?_append_left (zcb G.i)];exact G.i,by rw[getElem?_append_left (zcb G.p)];exact G.p,by rw[getElem?_append_left (zcb G.d)];exact G.d,by rw[getElem?_append_left (zcb G.t)];exact G.t⟩
theorem znD(G:GC c k b s h g)(l:Ce)(g':Gm):zd9 (c++l) k g'=zd9 c k g'++l:=by
 have l1:=zcb G.p
 have l2:=zcb G.d
 have l3:=zcb G.t
 unfold zd9
 rw[set_append_left _ _ l1,set_append_left _ _ (by simp;exact l2),set_append_left _ _ (by simp;exact l3)]
theorem zjf(n:Nat):∀l:List (List Int),zdl n (l.map wS)
 | []=>by simp only[map_nil,zdl]
 | a::r=>by simp only[map_cons,zdl,Bel];exact⟨belInts _ _,zjf n r⟩
theorem zeW(n:Nat):∀l:List (Option Nat),zdl n (l.map oW)
 | []=>by simp only[map_nil,zdl]
 | none::r=>by simp only[map_cons,zdl,oW,Bel];exact⟨trivial,zeW n r⟩
 | some a::r=>by simp only[map_cons,zdl,oW,nW,Bel];exact⟨trivial,zeW n r⟩
theorem ziH{c c':Ce}{k:Nat}{x:C}(h:zdI c c')(hx:zf7 c.length x):zdI c (c'.set k x):=by
 refine⟨by rw[length_set];exact h.1,fun j y hj e=>?_⟩
 by_cases hk:k=j
 ·subst hk
  have hl:k<c'.length:=by have:=h.1;omega
  rw[getElem?_set_self hl] at e
  cases e
  exact .inr hx
 ·rw[getElem?_set_ne hk] at e
  exact h.2 j y hj e
theorem znE(c:Ce)(k:Nat)(g:Gm):zdI c (zd9 c k g) :=
 ziH (ziH (ziH (by have:=cutOk_app c [];rwa [append_nil] at this) (by simp only[zf7];exact zjf _ _)) (by simp only[zf7];exact zeW _ _)) (by simp only[zf7];exact bels_nW _ _)
theorem cut_app{c c':Ce}(h:zdI c c')(l:Ce):zdI c (c'++l):=by
 refine⟨by rw[length_append];have:=h.1;omega,fun j y hj e=>h.2 j y hj ?_⟩
 rwa [getElem?_append_left (by have:=h.1;omega)] at e
theorem zjg{w:W}(l:Ce)(hb:Bel c.length w):finC c (zd9 c k g++l) w=some (.ok w (zd9 c k g)):=by
 unfold finC
 rw[if_pos ⟨cut_app (znE c k g) l,hb⟩,take_append_of_le_length (by rw[zje];exact le_refl _),take_of_length_le (by rw[zje];exact le_refl _)]
def cur(g:Gm):List Int:=g.past.getD (g.past.length-1) []
def hnd(h:Int)(m:Nat):Int:=if m % 2=0 then h else 3-h
def passed(g:Gm):Bool:=decide (g.done.drop (g.done.length-2)=[none,none])
def ended(g:Gm):Bool:=passed g||decide (300<=g.done.length)
def zjY(g:Gm):W:=if passed g=true then .str "passed" else if 300<=g.done.length then .str "long" else .non
def bar(s:Bool)(h:Int)(n m:Nat):Bool:=s||decide (hnd h m=3-hnd h n)
def ziI(s:Bool)(h:Int)(g:Gm)(is:List Int):Option Nat:=(List.range g.past.length).find? fun m=>decide (g.past.getD m []=is)&&bar s h g.done.length m
def push(g:Gm)(is:List Int)(w:Option Nat)(n:Nat):Gm:=⟨g.past++[is],g.done++[w],g.tk++[n]⟩
structure Gok (b:List (List Nat)) (g:Gm):Prop where
 n1:g.past.length=g.done.length+1
 nt:g.tk.length=g.done.length
 st:∀i,i<g.past.length->StdOk b (g.past.getD i [])
 lim:g.done.length<=300
theorem zg9{h:Int}(h12:h=1\/h=2)(m:Nat):hnd h m=1\/hnd h m=2:=by unfold hnd;split<;>omega
theorem zp5{ce:Ce}{x:W}{xs:List W}(hs:ze7 ce x=some xs)(h0:0<xs.length):ixW ce x (.int (-1))=xs[xs.length-1]?:=by
 simp only[ixW,hs,L2.atI]
 have:ixN xs.length (-1)=some (xs.length-1):=by
  unfold ixN
  simp only[show ¬(0:Int)<=-1 by omega,if_false]
  split
  ·congr 1;omega
  ·omega
 rw[this];rfl
theorem zjh(G:GC c k b s h g){m:Nat}(hm:m<g.past.length):ixW c (.cel (k+1)) (nW m)=some (wS (g.past.getD m [])):=by
 rw[zfQ (zbD G.p),getElem?_map,getD_eq_getElem?_getD,getElem?_eq_getElem hm];rfl
theorem zlQ(G:GC c k b s h g):zbQ [.cel (k+1)] c=some (.ok (nW g.past.length) c):=by simp only[zbQ,zbD G.p,length_map];rfl
theorem zfN(G:GC c k b s h g):zbQ [.cel (k+2)] c=some (.ok (nW g.done.length) c):=by simp only[zbQ,zbD G.d,length_map];rfl
theorem zc4(fu:Nat)(G:GC c k b s h g)(O:Gok b g):d_j fu [.cel k] c=some (.ok (wS (cur g)) c):=by
 have hn:=O.n1
 have e:ixW c (.cel (k+1)) (.int (-1))=some (wS (cur g)):=by
  rw[zp5 (zbD G.p) (by rw[length_map];omega),length_map,getElem?_map,cur,getD_eq_getElem?_getD,getElem?_eq_getElem (by omega)];rfl
 unfold d_j
 refine zba [some (.cel k)] rfl ?_
 exact zap (w:=wS (cur g)) (ce':=c) (zaJ (zbd (zag rfl) G.i rfl) (zcL za1 rfl) e) (zaz (by simp only[Bel];exact belInts _ _))
theorem ztX{l:List (Option Nat)}(hl:l.length<=2):eqW false c (.lst (l.map oW)) (.lst [.non,.non])=some (.bl (decide (l=[none,none]))):=by
 match l,hl with
 | [],_=>rfl
 | [none],_=>rfl
 | [some x],_=>rfl
 | [none,none],_=>rfl
 | [none,some y],_=>rfl
 | [some x,none],_=>rfl
 | [some x,some y],_=>rfl
theorem zc5(fu:Nat)(G:GC c k b s h g)(O:Gok b g):d_l fu [.cel k] c=some (.ok (zjY g) c):=by
 have hz:(1000:Nat)<PySem.sizeLine:=by decide
 have lim:=O.lim
 have s1:dSl zbf (zdh "Game" "done" (zae 0)) (zby (dUn zo8 (dC (.int 2)))) zbA [some (.cel k)] c=some (.ok (.lst ((g.done.drop (g.done.length-2)).map oW)) c):=by
  have:=zfH (sl:=[some (.cel k)]) (ce:=c) (a:=zdh "Game" "done" (zae 0)) (x:=.cel (k+2)) (xs:=g.done.map oW) (dl:=zby (dUn zo8 (dC (.int 2)))) (lo:=some (-2)) (dh:=zbA) (hi:=none) (zbd (zag rfl) G.i rfl) (zcQ (zcL za1 rfl)) rfl (by simp only[zcw,G.d]) (by rw[length_map];omega)
  rw[this]
  have e:HT.sIx (g.done.map oW).length 0 (some (-2))=g.done.length-2:=by simp only[HT.sIx,length_map];rw[if_pos (by omega)];omega
  unfold zmH
  rw[e,show HT.sIx (g.done.map oW).length (g.done.map oW).length none=g.done.length from by simp[HT.sIx],take_of_length_le (by simp),map_drop]
 have e1:=ztX (c:=c) (l:=g.done.drop (g.done.length-2)) (by rw[length_drop];omega)
 unfold d_l
 refine zba [some (.cel k)] rfl ?_
 refine zaQ (p:=passed g) (ce':=c) (zcj (zaJ s1 (zeB (ws:=[.non,.non]) (by trivial) (by decide)) e1)) (fun q=>?_) (fun q=>zaK ?_)
 ·refine zdu (zap (w:=.str "passed") (ce':=c) za1 ?_)
  rw[show zjY g=.str "passed" from if_pos q]
  exact zaz (by simp only[Bel])
 refine zaQ (p:=decide ((g.done.length:Int)≥300)) (ce':=c) (zcj (zaW (x:=nW g.done.length) (za9 (ws:=[.cel (k+2)]) (zak (zbd (zag rfl) G.i rfl) zam) (zfN G)) za1 rfl)) (fun q2=>?_) (fun q2=>zaK ?_)
 ·refine zdu (zap (w:=.str "long") (ce':=c) za1 ?_)
  have:300<=g.done.length:=by have:=of_decide_eq_true q2;omega
  rw[show zjY g=.str "long" by unfold zjY;rw[if_neg (by rw[q];simp),if_pos this]]
  exact zaz (by simp only[Bel])
 ·refine zap (w:=.non) (ce':=c) za1 ?_
  have:¬300<=g.done.length:=by have:=of_decide_eq_false q2;omega
  rw[show zjY g=.non by unfold zjY;rw[if_neg (by rw[q];simp),if_neg this]]
  exact zaz (by simp only[Bel])
theorem zea(g:Gm):isNon (zjY g)=!ended g:=by
 unfold zjY ended
 cases passed g with
 | true=>rfl
 | false =>
  by_cases q:300<=g.done.length
  ·rw[if_neg (by simp),if_pos q,decide_eq_true q];rfl
  ·rw[if_neg (by simp),if_neg q,decide_eq_false q];rfl
theorem zdB(fu:Nat)(G:GC c k b s h g)(m:Nat):d_e fu [.cel k,nW m] c=some (.ok (.int (hnd h m)) c):=by
 have e1:zbP (nW m) (.int 2)=some (nW (m % 2)):=zhE (k:=(m:Int)) (n:=2) (by omega) (by omega)
 have e2:=zfo c (((m % 2:Nat)):Int) 0 false
 have e3:=zeV (ce:=c) fu h
 unfold d_e
 refine zba [some (.cel k),some (nW m)] rfl ?_
 refine zap (zoi (p:=decide ((((m % 2:Nat)):Int)=0)) (c1:=c) (x:=.int h) (y:=.int (3-h)) (zcj (zaJ (zaW (zag rfl) za1 e1) za1 e2)) (fun _=>zbd (zag rfl) G.i rfl) (fun _=>zaB (ws:=[.int h]) (zak (zbd (zag rfl) G.i rfl) zam) rfl e3)) ?_
 have:(if decide ((((m % 2:Nat)):Int)=0)=true then W.int h else .int (3-h))=.int (hnd h m):=by
  unfold hnd
  by_cases q:m % 2=0
  ·rw[if_pos q,if_pos (decide_eq_true (by omega))]
  ·rw[if_neg q,if_neg (by rw[decide_eq_false (by omega)];simp)]
 rw[this]
 exact zaz (by simp only[Bel])
theorem zha(fu:Nat)(G:GC c k b s h g):d_y fu [.cel k] c=some (.ok (.int (hnd h g.done.length)) c):=by
 have e:=zdB fu G g.done.length
 unfold d_y
 refine zba [some (.cel k)] rfl ?_
 exact zap (zaM (ws:=[nW g.done.length]) (zag rfl) G.i rfl (zak (za9 (ws:=[.cel (k+2)]) (zak (zbd (zag rfl) G.i rfl) zam) (zfN G)) zam) rfl e) (zaz (by simp only[Bel]))
theorem ztY{sl:Sl}{ce c1:Ce}{a d:Sl->M W}{p q:Bool}(ha:a sl ce=some (.ok (.bl p) c1))(hb:p=false->d sl c1=some (.ok (.bl q) c1)):dOr a d sl ce=some (.ok (.bl (p||q)) c1):=by
 cases p with
 | true=>simp only[dOr,bnd,ha,ret,Bool.true_or]
 | false=>simp only[dOr,bnd,ha,hb rfl,Bool.false_or]
theorem zp6(fu:Nat)(G:GC c k b s h g)(m:Nat):d_a fu [.cel k,nW m] c=some (.ok (.bl (bar s h g.done.length m)) c):=by
 have e1:=zdB fu G m
 have e2:=zha fu G
 have e3:=zeV (ce:=c) fu (hnd h g.done.length)
 have e4:=zfo c (hnd h m) (3-hnd h g.done.length) false
 have e5:eqW false c (.str (rl s)) (.str "stones")=some (.bl s):=by cases s<;>rfl
 unfold d_a
 refine zba [some (.cel k),some (nW m)] rfl ?_
 exact zap (w:=.bl (bar s h g.done.length m)) (ztY (zaJ (zbd (zag rfl) G.i rfl) za1 e5) (fun _=>zaJ (zaM (ws:=[nW m]) (zag rfl) G.i rfl (zak (zag rfl) zam) rfl e1) (zaB (ws:=[.int (hnd h g.done.length)]) (zak (zaM (ws:=[]) (zag rfl) G.i rfl zam rfl e2) zam) rfl e3) e4)) (zaz (by simp only[Bel]))
theorem zp7(fu:Nat)(G:GC c k b s h g)(O:Gok b g)(is:List Int):d_g fu [.cel k,wS is] c=some (.ok (oW (ziI s h g is)) c):=by
 have hz:(1000:Nat)<PySem.sizeLine:=by decide
 have lim:=O.lim
 have n1:=O.n1
 unfold d_g
 refine zba [some (.cel k),some (wS is),none] rfl ?_
 refine zfr (zs:=List.range g.past.length) (en:=nW) (c1:=c) (zek (n:=g.past.length) (zak (za9 (ws:=[.cel (k+1)]) (zak (zbd (zag rfl) G.i rfl) zam) (zlQ G)) zam) (by omega))
  (fun d sl c'=>∃x2,sl=[some (.cel k),some (wS is),x2]/\c'=c/\∀m∈d,(decide (g.past.getD m []=is)&&bar s h g.done.length m)=false) (fun w c'=>c'=c/\w=oW (ziI s h g is)) ⟨_,rfl,rfl,by simp⟩ ?_ ?_ ?_
 ·rintro d m r sl c' e hm ⟨x2,rfl,rfl,hd⟩
  have hm':=mem_range.mp hm
  have i1:=zjh G hm'
  have q1:=zve (ce:=c') false (g.past.getD m []) is
  have q2:=zp6 fu G m
  unfold zcU
  refine zQn ?_
  refine za6 (p:=decide (g.past.getD m []=is)&&bar s h g.done.length m) (ce':=c') (zih (zcj (zaJ (zaJ (zbd (zag rfl) G.i rfl) (zag rfl) i1) (zag rfl) q1)) (fun _=>zcj (zaM (ws:=[nW m]) (zag rfl) G.i rfl (zak (zag rfl) zam) rfl q2))) (fun q=>?_) (fun q=>?_)
  ·refine zap (w:=nW m) (ce':=c') (zag rfl) ⟨rfl,?_⟩
   have:ziI s h g is=some m:=by
    unfold ziI
    rw[find?_eq_some_iff_append]
    exact⟨q,d,r,e.symm,fun a ha=>by rw[hd a ha];rfl⟩
   rw[this];rfl
  ·refine zaT ⟨_,rfl,rfl,fun x hx=>?_⟩
   rcases mem_append.mp hx with hx|hx
   ·exact hd x hx
   ·rw[mem_singleton.mp hx];exact q
 ·rintro w sl c' ⟨rfl,rfl⟩
  refine zcl (zaz ?_)
  cases ziI s h g is<;>simp only[oW,nW,Bel]
 ·rintro sl c' ⟨x2,rfl,rfl,hd⟩
  refine zap (w:=.non) (ce':=c') za1 ?_
  have:ziI s h g is=none:=by
   unfold ziI
   rw[find?_eq_none]
   exact fun m hm=>by rw[hd m hm];simp
  rw[this]
  exact zaz (by simp only[Bel])
end
section
variable {c l:Ce} {k k':Nat} {b:List (List Nat)} {s s':Bool} {h:Int} {g g':Gm}
def Does(b:List (List Nat))(s:Bool)(h:Int)(g:Gm)(w:Option Nat)(g':Gm):Prop:=ended g=false/\match w with
 | none=>g'=push g (cur g) none 0
 | some p=>p<b.length/\(cur g).getD p 0=0/\Frb b (cur g) (hnd h g.done.length) p/\ziI s h g (lS b (cur g) (hnd h g.done.length) p)=none/\g'=push g (lS b (cur g) (hnd h g.done.length) p) (some p) (lT b (cur g) (hnd h g.done.length) p).length
theorem Gok.cur(O:Gok b g):StdOk b (cur g):=O.st _ (by have:=O.n1;omega)
theorem zji(O:Gok b g)(he:ended g=false){is:List Int}(S:StdOk b is)(w:Option Nat)(n:Nat):Gok b (push g is w n):=by
 have n1:=O.n1
 have nt:=O.nt
 have:¬300<=g.done.length:=by
  unfold ended at he
  rw[or_eq_false_iff] at he
  exact of_decide_eq_false he.2
 refine⟨by simp[push,n1],by simp[push,nt],fun i hi=>?_,by simp[push];omega⟩
 simp only[push,length_append,length_cons,length_nil] at hi
 by_cases q:i<g.past.length
 ·have:=O.st i q
  simp only[push,getD_eq_getElem?_getD,getElem?_append_left q] at this ⊢
  exact this
 ·have:i=g.past.length:=by omega
  subst this
  simp only[push,getD_eq_getElem?_getD,getElem?_append_right (le_refl _),sub_self,getElem?_cons_zero,getD_some]
  exact S
theorem Does.ok(D:Does b s h g w g')(O:Gok b g)(N:BrdN b)(h12:h=1\/h=2):Gok b g':=by
 obtain⟨he,D⟩:=D
 cases w with
 | none=>subst D;exact zji O he O.cur _ _
 | some p =>
  obtain⟨hp,p0,fr,_,rfl⟩:=D
  exact zji O he ((O.cur.ly N (zg9 h12 _) hp p0).std (zg9 h12 _) fr) _ _
theorem zlR(fu:Nat)(G:GC c k b s h g)(O:Gok b g)(w:W)(he:ended g=true):d_u fu [.cel k,w] c=some (.ex ⟨"Over",none⟩ c):=by
 have e1:=zc5 fu G O
 have hn:zde (zjY g)=some (.bl true):=by simp only[zde,zea,he];rfl
 unfold d_u
 refine zdP [some (.cel k),some w,none,none,none,none] rfl ?_
 exact zaQ (p:=true) (ce':=c) (zcj (zcL (zaM (ws:=[]) (zag rfl) G.i rfl zam rfl e1) hn)) (fun _=>zdO rfl ⟨rfl,[],by simp⟩) (fun q=>by cases q)
theorem zjj(G:GC c k b s h g)(O:Gok b g){is:List Int}{w:Option Nat}{n:Nat}{x4 x5:Option W}{Q:VS.O->Prop}(q:Q (.go .nx [some (.cel k),some (oW w),some (wS is),some (nW n),x4,x5] (zd9 c k (push g is w n)))) :
  Run (zaq (dEx (dMt zex (zdh "Game" "past" (zae 0)) (zac (zae 2) zan))) (zaq (dEx (dMt zex (zdh "Game" "done" (zae 0)) (zac (zae 1) zan))) (dEx (dMt zex (zdh "Game" "takings" (zae 0)) (zac (zae 3) zan)))))
   [some (.cel k),some (oW w),some (wS is),some (nW n),x4,x5] c Q:=by
 have hz:(1000:Nat)<PySem.sizeLine:=by decide
 have lim:=O.lim
 have n1:=O.n1
 have nt:=O.nt
 have l1:=zcb G.p
 have l2:=zcb G.d
 have l3:=zcb G.t
 have a1:=ziY (y:=wS is) G.p (by rw[length_map];omega)
 have G1i:(c.set (k+1) (.lst (g.past.map wS++[wS is])))[k]?=some (.ins "Game" (gmF b s h k)):=by rw[getElem?_set_ne (by omega)];exact G.i
 have G1d:(c.set (k+1) (.lst (g.past.map wS++[wS is])))[k+2]?=some (.lst (g.done.map oW)):=by rw[getElem?_set_ne (by omega)];exact G.d
 have a2:=ziY (y:=oW w) G1d (by rw[length_map];omega)
 have G2i:((c.set (k+1) (.lst (g.past.map wS++[wS is]))).set (k+2) (.lst (g.done.map oW++[oW w])))[k]?=some (.ins "Game" (gmF b s h k)):=by rw[getElem?_set_ne (by omega)];exact G1i
 have G2t:((c.set (k+1) (.lst (g.past.map wS++[wS is]))).set (k+2) (.lst (g.done.map oW++[oW w])))[k+3]?=some (.lst (g.tk.map nW)):=by rw[getElem?_set_ne (by omega),getElem?_set_ne (by omega)];exact G.t
 have a3:=ziY (y:=nW n) G2t (by rw[length_map];omega)
 refine zf9 (zhF (ws:=[wS is]) (zbd (zag rfl) G.i rfl) (by simp only[zcw,G.p];rfl) (zak (zag rfl) zam) a1) ?_
 refine zf9 (zhF (ws:=[oW w]) (zbd (zag rfl) G1i rfl) (by simp only[zcw,G1d];rfl) (zak (zag rfl) zam) a2) ?_
 refine ziX (zhF (ws:=[nW n]) (zbd (zag rfl) G2i rfl) (by simp only[zcw,G2t];rfl) (zak (zag rfl) zam) a3) ?_
 have:zd9 c k (push g is w n)=((c.set (k+1) (.lst (g.past.map wS++[wS is]))).set (k+2) (.lst (g.done.map oW++[oW w]))).set (k+3) (.lst (g.tk.map nW++[nW n])):=by
  simp only[zd9,push,map_append,map_cons,map_nil]
 rw[<- this]
 exact q
theorem zjk{sl:Sl}{is:List Int}{w:Option Nat}{n:Nat}:∃sl' c',VS.O.go .nx sl (zd9 c k (push g is w n))=.go .nx sl' c'/\finC c c' .non=some (.ok .non (zd9 c k (push g is w n))) :=
 ⟨_,_,rfl,by have:=zjg (c:=c) (k:=k) (g:=push g is w n) (w:=.non) [] (by simp only[Bel]);rwa [append_nil] at this⟩
theorem zhW(fu:Nat)(G:GC c k b s h g)(O:Gok b g)(he:ended g=false):d_u fu [.cel k,.non] c=some (.ok .non (zd9 c k (push g (cur g) none 0))):=by
 have e1:=zc5 fu G O
 have e2:=zc4 fu G O
 have hn:zde (zjY g)=some (.bl false):=by simp only[zde,zea,he];rfl
 unfold d_u
 refine zpJ [some (.cel k),some .non,none,none,none,none] rfl ?_
 refine zaQ (p:=false) (ce':=c) (zcj (zcL (zaM (ws:=[]) (zag rfl) G.i rfl zam rfl e1) hn)) (fun q=>by cases q) (fun _=>zaK ?_)
 refine zao (w:=wS (cur g)) (ce':=c) (zaM (ws:=[]) (zag rfl) G.i rfl zam rfl e2) ?_
 refine zQn ?_
 refine zao (w:=nW 0) (ce':=c) za1 ?_
 refine zQn ?_
 refine zaQ (p:=false) (ce':=c) (zcj (zcL (zag rfl) rfl)) (fun q=>by cases q) (fun _=>zaK ?_)
 exact zjj (w:=none) G O zjk
theorem znF{sl:Sl}{ce c1:Ce}{i:Nat}{e:Sl->M W}{x:Exn}{a:DS}{Q:VS.O->Prop}(h:e sl ce=some (.ex x c1))(q:Q (.ex x c1)):Run (zaq (zaU i e) a) sl ce Q:=zlp ⟨.ex x c1,by simp only[zaU,lft,h],q⟩
theorem zjl(fu:Nat)(G:GC c k b s h g)(O:Gok b g)(he:ended g=false){p:Nat}{nm:PySem.Str}(hl:d_na fu [wB b,wS (cur g),.int (hnd h g.done.length),nW p] c=some (.ex ⟨nm,none⟩ c)):d_u fu [.cel k,nW p] c=some (.ex ⟨nm,none⟩ c):=by
 have e1:=zc5 fu G O
 have e2:=zc4 fu G O
 have e3:=zha fu G
 have hn:zde (zjY g)=some (.bl false):=by simp only[zde,zea,he];rfl
 unfold d_u
 refine zdP [some (.cel k),some (nW p),none,none,none,none] rfl ?_
 refine zaQ (p:=false) (ce':=c) (zcj (zcL (zaM (ws:=[]) (zag rfl) G.i rfl zam rfl e1) hn)) (fun q=>by cases q) (fun _=>zaK ?_)
 refine zao (w:=wS (cur g)) (ce':=c) (zaM (ws:=[]) (zag rfl) G.i rfl zam rfl e2) ?_
 refine zQn ?_
 refine zao (w:=nW 0) (ce':=c) za1 ?_
 refine zQn ?_
 refine zaQ (p:=true) (ce':=c) (zcj (zcL (zag rfl) rfl)) (fun _=>?_) (fun q=>by cases q)
 refine zbi (znF (zna (ws:=[wB b,wS (cur g),.int (hnd h g.done.length),nW p]) (c1:=c) (zak (zbd (zag rfl) G.i rfl) (zak (zag rfl) (zak (zaM (ws:=[]) (zag rfl) G.i rfl zam rfl e3) (zak (zag rfl) zam)))) rfl hl) ⟨rfl,[],by simp⟩)
theorem zlS(fu:Nat)(G:GC c k b s h g)(O:Gok b g)(he:ended g=false){p:Nat}{is:List Int}{t:List Nat}(hl:d_na fu [wB b,wS (cur g),.int (hnd h g.done.length),nW p] c=some (.ok (.tup [wS is,wL t]) c)){Q:VS.O->Prop}(q1:∀m,ziI s h g is=some m->Q (.ex ⟨"Again",none⟩ c))(q2:ziI s h g is=none->∀sl,Q (.go .nx sl (zd9 c k (push g is (some p) t.length)))) :
  Run (zaq (dIf (dB (dUn zde (za3 "Game" "ended" 1 (d_l fu) (zae 0) zan))) (zbo "Over" []) zaP)
 (zaq (zaU 2 (za3 "Game" "stand" 1 (d_j fu) (zae 0) zan))
 (zaq (zaU 3 (dC (.int 0)))
 (zaq (dIf (dB (dUn zde (zae 1))) (zaq (zaU 4 (zaH 4 (d_na fu) (zac (zdh "Game" "joined" (zae 0)) (zac (zae 2) (zac (za3 "Game" "hand" 1 (d_y fu) (zae 0) zan) (zac (zae 1) zan))))))
 (zaq (zaU 2 (zaL ixW (zae 4) (dC (.int 0))))
 (zaq (zaU 3 (dBi zbQ (zac (zaL ixW (zae 4) (dC (.int 1))) zan)))
 (zaq (zaU 5 (za3 "Game" "came_at" 2 (d_g fu) (zae 0) (zac (zae 2) zan)))
 (dIf (dB (dUn zde (zae 5))) (zbo "Again" [5]) zaP))))) zaP)
 (zaq (dEx (dMt zex (zdh "Game" "past" (zae 0)) (zac (zae 2) zan)))
 (zaq (dEx (dMt zex (zdh "Game" "done" (zae 0)) (zac (zae 1) zan)))
 (dEx (dMt zex (zdh "Game" "takings" (zae 0)) (zac (zae 3) zan))))))))) [some (.cel k),some (nW p),none,none,none,none] c Q:=by
 have lim:=O.lim
 have n1:=O.n1
 have e1:=zc5 fu G O
 have e2:=zc4 fu G O
 have e3:=zha fu G
 have e4:=zp7 fu G O is
 have hn:zde (zjY g)=some (.bl false):=by simp only[zde,zea,he];rfl
 refine zaQ (p:=false) (ce':=c) (zcj (zcL (zaM (ws:=[]) (zag rfl) G.i rfl zam rfl e1) hn)) (fun q=>by cases q) (fun _=>zaK ?_)
 refine zao (w:=wS (cur g)) (ce':=c) (zaM (ws:=[]) (zag rfl) G.i rfl zam rfl e2) ?_
 refine zQn ?_
 refine zao (w:=nW 0) (ce':=c) za1 ?_
 refine zQn ?_
 refine zaQ (p:=true) (ce':=c) (zcj (zcL (zag rfl) rfl)) (fun _=>?_) (fun q=>by cases q)
 refine zbi ?_
 refine zao (w:=.tup [wS is,wL t]) (ce':=c) (zaB (ws:=[wB b,wS (cur g),.int (hnd h g.done.length),nW p]) (zak (zbd (zag rfl) G.i rfl) (zak (zag rfl) (zak (zaM (ws:=[]) (zag rfl) G.i rfl zam rfl e3) (zak (zag rfl) zam)))) rfl hl) ?_
 refine zQn ?_
 have j0:ixW c (.tup [wS is,wL t]) (.int 0)=some (wS is):=zh0 (xs:=[wS is,wL t]) (j:=0) rfl rfl
 have j1:ixW c (.tup [wS is,wL t]) (.int 1)=some (wL t):=zh0 (xs:=[wS is,wL t]) (j:=1) rfl rfl
 have jl:zbQ [wL t] c=some (.ok (nW t.length) c):=by simp[zbQ,ze7,zcw];rfl
 refine zbi (zao (w:=wS is) (ce':=c) (zaJ (zag rfl) za1 j0) ?_)
 refine zQn ?_
 refine zbi (zao (w:=nW t.length) (ce':=c) (za9 (ws:=[wL t]) (zak (zaJ (zag rfl) za1 j1) zam) jl) ?_)
 refine zQn ?_
 refine zbi (zao (w:=oW (ziI s h g is)) (ce':=c) (zaM (ws:=[wS is]) (zag rfl) G.i rfl (zak (zag rfl) zam) rfl e4) ?_)
 refine zQn ?_
 cases hc:ziI s h g is with
 | none =>
  refine zaQ (p:=false) (ce':=c) (zcj (zcL (zag rfl) rfl)) (fun q=>by cases q) (fun _=>zaK ?_)
  exact zjj (w:=some p) G O (q2 hc _)
 | some m =>
  have hm:m<g.past.length:=mem_range.mp (mem_of_find?_eq_some hc)
  refine zaQ (p:=true) (ce':=c) (zcj (zcL (zag rfl) rfl)) (fun _=>?_) (fun q=>by cases q)
  exact zdO (zpY (p:=m) rfl (by omega)) (q1 m hc)
theorem zjZ(fu:Nat)(hfu:200<=fu)(N:BrdN b)(G:GC c k b s h g)(O:Gok b g)(h12:h=1\/h=2)(he:ended g=false){p m:Nat}(hp:p<b.length)(p0:(cur g).getD p 0=0)(fr:Frb b (cur g) (hnd h g.done.length) p)(hm:ziI s h g (lS b (cur g) (hnd h g.done.length) p)=some m):d_u fu [.cel k,nW p] c=some (.ex ⟨"Again",none⟩ c):=by
 have hl:=zlO (ce:=c) fu hfu N O.cur (zg9 h12 g.done.length) hp p0 fr
 unfold d_u
 refine zdP [some (.cel k),some (nW p),none,none,none,none] rfl ?_
 exact zlS fu G O he hl (fun m _=>⟨rfl,[],by simp⟩) (fun q=>by rw[hm] at q;cases q)
theorem znG(fu:Nat)(hfu:200<=fu)(N:BrdN b)(G:GC c k b s h g)(O:Gok b g)(h12:h=1\/h=2)(he:ended g=false){p:Nat}(hp:p<b.length)(p0:(cur g).getD p 0=0)(fr:Frb b (cur g) (hnd h g.done.length) p)(hm:ziI s h g (lS b (cur g) (hnd h g.done.length) p)=none):d_u fu [.cel k,nW p] c=some (.ok .non (zd9 c k (push g (lS b (cur g) (hnd h g.done.length) p) (some p) (lT b (cur g) (hnd h g.done.length) p).length))):=by
 have hl:=zlO (ce:=c) fu hfu N O.cur (zg9 h12 g.done.length) hp p0 fr
 unfold d_u
 refine zpJ [some (.cel k),some (nW p),none,none,none,none] rfl ?_
 exact zlS fu G O he hl (fun m q=>by rw[hm] at q;cases q) (fun _ sl=>zjk)
theorem zp8(fu:Nat)(hfu:200<=fu)(N:BrdN b)(G:GC c k b s h g)(O:Gok b g)(h12:h=1\/h=2){w:Option Nat}(hw:∀p,w=some p->p<b.length) :
  (∃g',Does b s h g w g'/\d_u fu [.cel k,oW w] c=some (.ok .non (zd9 c k g')))\/((∀g',¬Does b s h g w g')/\∃nm:PySem.Str,(nm = "Over" \/ nm = "NoLay" \/ nm = "NoBreath" \/ nm = "Again")/\d_u fu [.cel k,oW w] c=some (.ex ⟨nm,none⟩ c)):=by
 cases he:ended g with
 | true=>exact .inr ⟨fun g' D=>(by rw[D.1] at he;cases he), "Over",.inl rfl,zlR fu G O _ he⟩
 | false =>
  cases w with
  | none=>exact .inl ⟨_,⟨he,rfl⟩,zhW fu G O he⟩
  | some p =>
   have hp:=hw p rfl
   by_cases p0:(cur g).getD p 0=0
   ·by_cases fr:Frb b (cur g) (hnd h g.done.length) p
    ·cases hm:ziI s h g (lS b (cur g) (hnd h g.done.length) p) with
     | none=>exact .inl ⟨_,⟨he,hp,p0,fr,hm,rfl⟩,znG fu hfu N G O h12 he hp p0 fr hm⟩
     | some m=>exact .inr ⟨fun g' D=>(by rw[D.2.2.2.2.1] at hm;cases hm), "Again",.inr (.inr (.inr rfl)),zjZ fu hfu N G O h12 he hp p0 fr hm⟩
    ·exact .inr ⟨fun g' D=>fr D.2.2.2.1, "NoBreath",.inr (.inr (.inl rfl)),zjl fu G O he (zp0 fu hfu N O.cur (zg9 h12 _) hp p0 fr)⟩
   ·exact .inr ⟨fun g' D=>p0 D.2.2.1, "NoLay",.inr (.inl rfl),zjl fu G O he (zpZ fu O.cur N.B.h36 hp p0)⟩
end
section
variable {c l:Ce} {k k':Nat} {b:List (List Nat)} {s s':Bool} {h:Int} {g g':Gm}
theorem zeu(c:Ce)(x y:C)(l:Ce):(c++x::l).set c.length y=c++y::l:=by simp
theorem get_mid(c:Ce)(x:C)(l:Ce):(c++x::l)[c.length]?=some x:=by simp
def gm0(is:List Int):Gm:=⟨[is],[],[]⟩
theorem zvg{is:List Int}(S:StdOk b is):Gok b (gm0 is):=⟨rfl,rfl,fun i hi=>by
 have:i=0:=by simp[gm0] at hi;exact hi
 subst this;exact S,zero_le _⟩
def gcs(b:List (List Nat))(s:Bool)(h:Int)(k:Nat)(is:List Int):Ce:=[.ins "Game" (gmF b s h k),.lst [wS is],.lst [],.lst []]
theorem gc0(c:Ce)(is:List Int):GC (c++gcs b s h c.length is) c.length b s h (gm0 is):=by
 unfold gcs
 refine⟨get_mid _ _ _,?_,?_,?_⟩
 ·rw[getElem?_append_right (by omega),show c.length+1-c.length=1 by omega];rfl
 ·rw[getElem?_append_right (by omega),show c.length+2-c.length=2 by omega];rfl
 ·rw[getElem?_append_right (by omega),show c.length+3-c.length=3 by omega];rfl
theorem zp9(fu:Nat){is:List Int}(hn:∀c,d_da fu [wB b,wS is] c=some (.ok (.bl true) c))(hs:∀c,d_ca fu [wB b,wS is] c=some (.ok (.bl true) c)) :
  d_d fu [.cel c.length,wB b,.str (rl s),wS is,.int h] (c++[C.ins "Game" []])=some (.ok .non (c++gcs b s h c.length is)):=by
 have z1:1<=PySem.sizeLine:=by decide
 unfold d_d
 refine zpJ [some (.cel c.length),some (wB b),some (.str (rl s)),some (wS is),some (.int h)] rfl ?_
 refine zaQ (p:=!true) (ce':=c++[C.ins "Game" []]) (zcM (zcj (zaB (ws:=[wB b,wS is]) (by trivial) rfl (hn _)))) (fun q=>by cases q) (fun _=>zaK ?_)
 refine zaQ (p:=!true) (ce':=c++[C.ins "Game" []]) (zcM (zcj (zaB (ws:=[wB b,wS is]) (by trivial) rfl (hs _)))) (fun q=>by cases q) (fun _=>zaK ?_)
 refine zdQ (w:=wB b) (k:=c.length) (zag rfl) (zag rfl) (zhC _ _) (lt_of_le_of_lt (le_refl 0) (by decide)) ?_
 rw[zeu]
 refine zdQ (w:=.str (rl s)) (k:=c.length) (zag rfl) (zag rfl) (zhC _ _) (lt_of_le_of_lt (zbb (le_refl 0)) (by decide)) ?_
 rw[zeu]
 refine zdQ (w:=.int h) (k:=c.length) (zag rfl) (zag rfl) (zhC _ _) (lt_of_le_of_lt (zbb (zbb (le_refl 0))) (by decide)) ?_
 rw[zeu]
 refine zdQ (k:=c.length) (zck (ws:=[wS is]) (by trivial) z1) (zag rfl) (by rw[append_assoc];exact get_mid _ _ _) (lt_of_le_of_lt (zbb (zbb (zbb (le_refl 0)))) (by decide)) ?_
 rw[append_assoc,cons_append,nil_append,zeu,length_append,length_cons,length_nil]
 refine zdQ (k:=c.length) (zck zam (zero_le _)) (zag rfl) (by rw[append_assoc];exact get_mid _ _ _) (lt_of_le_of_lt (zbb (zbb (zbb (zbb (le_refl 0))))) (by decide)) ?_
 rw[append_assoc,cons_append,cons_append,nil_append,zeu,length_append,length_cons,length_cons,length_nil]
 refine znj (k:=c.length) (zck zam (zero_le _)) (zag rfl) (by rw[append_assoc];exact get_mid _ _ _) (lt_of_le_of_lt (zbb (zbb (zbb (zbb (zbb (le_refl 0)))))) (by decide)) ?_
 rw[append_assoc,cons_append,cons_append,cons_append,nil_append,zeu,length_append,length_cons,length_cons,length_cons,length_nil]
 exact⟨_,_,rfl,rfl⟩
theorem zlT(fu:Nat)(G:GC c k b s h g)(O:Gok b g):d_m fu [.cel k] c=some (.ok (.lst (g.done.map oW)) c):=by
 have hz:(1000:Nat)<PySem.sizeLine:=by decide
 have lim:=O.lim
 unfold d_m
 refine zba [some (.cel k)] rfl ?_
 exact zap (w:=.lst (g.done.map oW)) (ce':=c) (za9 (ws:=[.cel (k+2)]) (zak (zbd (zag rfl) G.i rfl) zam) (by rw[zii (zbD G.d)];exact zcO (by rw[length_map];omega))) (zaz (by simp only[Bel];exact zeW _ _))
theorem znH{nm:PySem.Str}(h:nm = "Over" \/ nm = "NoLay" \/ nm = "NoBreath" \/ nm = "Again"):zft XTB "StoneError" ⟨nm,none⟩=true:=by
 rcases h with rfl|rfl|rfl|rfl<;>decide +kernel
end
def Stp(b:List (List Nat))(is:List Int)(o:Int)(w:Option Nat)(is':List Int):Prop:=match w with
 | none=>is'=is
 | some p=>p<b.length/\is.getD p 0=0/\Frb b is o p/\is'=lS b is o p
theorem zbs{α:Type}{l m:List α}{i:Nat}{d:α}(h:i<l.length):(l++m).getD i d=l.getD i d:=by
 simp only[getD_eq_getElem?_getD,getElem?_append_left h]
theorem zdd{α:Type}{l:List α}{x d:α}{i:Nat}(h:i=l.length):(l++[x]).getD i d=x:=by
 subst h
 simp only[getD_eq_getElem?_getD,getElem?_append_right (le_refl _),sub_self,getElem?_cons_zero,getD_some]
section
variable {c l:Ce} {k k':Nat} {b:List (List Nat)} {s s':Bool} {h:Int} {g g':Gm} {w:Option Nat}
end
def sdl(b:List (List Nat))(is:List Int)(c:List Nat):List Int:=([1,2]:List Int).filter fun g=>decide (g∈(zau b c).map fun y=>is.getD y 0)
def onl(b:List (List Nat))(is:List Int)(c:List Nat)(h:Int):Bool:=((zau b c).any fun y=>decide (is.getD y 0=h))&&!((zau b c).any fun y=>decide (is.getD y 0=3-h))
theorem zqa{b:List (List Nat)}{is:List Int}{c:List Nat}{h:Int}(hh:h=1\/h=2):decide (sdl b is c=[h])=onl b is c h:=by
 have key:∀g:Int,decide (g∈(zau b c).map fun y=>is.getD y 0)=(zau b c).any fun y=>decide (is.getD y 0=g):=fun g=>by
  rw[Bool.eq_iff_iff,decide_eq_true_eq,any_eq_true,mem_map]
  constructor
  ·rintro⟨y,hy,e⟩;exact⟨y,hy,decide_eq_true e⟩
  ·rintro⟨y,hy,e⟩;exact⟨y,hy,of_decide_eq_true e⟩
 unfold sdl onl
 simp only[filter_cons,filter_nil,key]
 rcases hh with rfl|rfl
 ·have e:(3:Int)-1=2:=by decide
  rw[e]
  cases (zau b c).any fun y=>decide (is.getD y 0=1)<;>cases (zau b c).any fun y=>decide (is.getD y 0=2)<;>decide
 ·have e:(3:Int)-2=1:=by decide
  rw[e]
  cases (zau b c).any fun y=>decide (is.getD y 0=1)<;>cases (zau b c).any fun y=>decide (is.getD y 0=2)<;>decide
def zqq(is:List Int)(h:Int)(q:Nat):Bool:=decide (is.getD q 0=h)
def zma(b:List (List Nat))(is:List Int)(h:Int)(q:Nat):Bool:=decide (is.getD q 0=0)&&onl b is (cpt b (vS is) q) h
def hit(b:List (List Nat))(is:List Int)(h:Int)(q:Nat):Bool:=zqq is h q||zma b is h q
def tot(b:List (List Nat))(is:List Int)(h:Int):Nat:=((List.range b.length).filter (hit b is h)).length
theorem zoz{l:List Nat}{s t:Nat->Bool}(h:∀x∈l,¬(s x=true/\t x=true)):(l.filter fun x=>s x||t x).length=(l.filter s).length+(l.filter t).length:=by
 induction l with
 | nil=>rfl
 | cons a l ih =>
  have ih:=ih fun x hx=>h x (mem_cons_of_mem _ hx)
  have ha:=h a mem_cons_self
  simp only[filter_cons]
  cases hs:s a<;>cases ht:t a
  ·simp only[Bool.or_self,false_eq_true,if_false,ih]
  ·simp only[Bool.false_or,false_eq_true,if_false,if_true,length_cons,ih];omega
  ·simp only[Bool.or_false,false_eq_true,if_false,if_true,length_cons,ih];omega
  ·exact absurd ⟨hs,ht⟩ ha
theorem zlU{b:List (List Nat)}{is:List Int}{h:Int}(h0:h≠0):tot b is h=((List.range b.length).filter (zqq is h)).length+((List.range b.length).filter (zma b is h)).length:=by
 unfold tot hit
 refine zoz fun x _ ⟨h1,h2⟩=>?_
 have e1:=of_decide_eq_true h1
 have e2:=of_decide_eq_true (and_eq_true_iff.mp h2).1
 exact h0 (e1.symm.trans e2)
theorem zeb{is:List Int}{h:Int}:is.count h=((List.range is.length).filter (zqq is h)).length:=by
 have e:is=(List.range is.length).map fun q=>is.getD q 0:=by
  apply ext_getElem?
  intro i
  by_cases hi:i<is.length
  ·rw[getElem?_map,getElem?_range hi,map_some,getD_eq_getElem?_getD,getElem?_eq_getElem hi];rfl
  ·rw[getElem?_eq_none (by omega),getElem?_eq_none (by simpa using hi)]
 conv=>lhs;rw[e]
 rw[count_eq_countP,countP_map,countP_eq_length_filter]
 congr 1
theorem zlV:∀{L:List (List Nat)},(∀c∈L,c.Nodup)->L.Pairwise (fun c d=>∀x∈c,x∉d)->L.flatten.Nodup
 | [],_,_=>nodup_nil
 | c::L,h,p=>by
  rw[flatten_cons,nodup_append]
  obtain⟨p1,p2⟩:=pairwise_cons.mp p
  refine⟨h c mem_cons_self,zlV (fun d hd=>h d (mem_cons_of_mem _ hd)) p2,fun a ha d hd e=>?_⟩
  subst e
  obtain⟨m,hm,h2⟩:=mem_flatten.mp hd
  exact p1 m hm a ha h2
section
variable {b:List (List Nat)} {is:List Int} {h:Int}
def znI(b:List (List Nat))(is:List Int):List (List Nat):=(ptc b (vS is)).filter fun c=>decide (is.getD (c.getD 0 0) 0=0)
theorem zqb(hb:Bd b)(sym:Sym b):(((znI b is).filter fun c=>onl b is c h).map List.length).sum=((List.range b.length).filter (zma b is h)).length:=by
 rw[<- length_flatten]
 have rok:∀c∈znI b is,∃s,s<b.length/\is.getD s 0=0/\c=cpt b (vS is) s:=fun c hc=>by
  obtain⟨h1,h2⟩:=mem_filter.mp hc
  obtain⟨s,hs,hm,rfl⟩:=(zcn hb).mp h1
  rw[zbT hb hs hm] at h2
  exact⟨s,hs,of_decide_eq_true h2,rfl⟩
 have pw:((znI b is).filter fun c=>onl b is c h).Pairwise (fun c d=>∀x∈c,x∉d):=by
  refine List.Pairwise.imp_of_mem ?_ (List.Pairwise.filter _ (List.Pairwise.filter _ (zoy (vl:=vS is) hb)))
  intro c d hc hd hne x hx hx2
  obtain⟨s,hs,_,rfl⟩:=rok c (mem_filter.mp hc).1
  obtain⟨t,ht,_,rfl⟩:=rok d (mem_filter.mp hd).1
  exact hne (zja hb sym hs ht hx hx2)
 refine(zdJ (zlV (fun c hc=>?_) pw) (List.Pairwise.filter _ nodup_range) fun x=>?_).length_eq
 ·obtain⟨s,hs,_,rfl⟩:=rok c (mem_filter.mp hc).1
  exact zom
 ·rw[mem_flatten,mem_filter,mem_range]
  unfold zma
  rw[and_eq_true,decide_eq_true_eq]
  constructor
  ·rintro⟨c,hc,hx⟩
   obtain⟨h1,h2⟩:=mem_filter.mp hc
   obtain⟨s,hs,es,rfl⟩:=rok c h1
   refine⟨cpt_lt hx,(cpt_val hb hs hx).trans es,?_⟩
   rw[zdm hb sym hs hx];exact h2
  ·rintro⟨hx,x0,ho⟩
   refine⟨cpt b (vS is) x,mem_filter.mpr ⟨mem_filter.mpr ⟨ptc_of hb sym hx,?_⟩,ho⟩,zbv hb hx⟩
   obtain⟨m,h1,h2,h3⟩:=zcR (vl:=vS is) hb sym hx
   rw[<- h3,zbT hb (cpt_lt h1) h2]
   exact decide_eq_true ((cpt_val hb hx h1).trans x0)
end
section
variable {b:List (List Nat)} {is:List Int} {h:Int} {ce:Ce}
theorem znJ(fu:Nat)(hfu:200<=fu)(B:Brd b)(hl:is.length=b.length):d_ka fu [wB b,wS is] ce=some (.ok (.lst ((znI b is).map wL)) ce):=by
 have hz:=zfj
 have h36:=B.h36
 have e1:=zov (ce:=ce) fu hfu (ztV hl) B.bd B.sym h36
 have hzl:(ptc b (vS is)).length<=PySem.sizeLine:=by have:=zgK (b:=b) (vl:=vS is);omega
 unfold d_ka
 refine zba [some (wB b),some (wS is)] rfl ?_
 refine zap (zsz (zs:=ptc b (vS is)) (en:=wL) (t:=fun c=>decide (is.getD (c.getD 0 0) 0=0)) (zjN (zaB (ws:=[wB b,wS is]) (by trivial) rfl e1) (.fr _)) hzl (fun c hc=>?_)) ?_
 ·obtain⟨p0,_,p2⟩:=zfM B.bd hc
  have hh:c.getD 0 0<is.length:=by rw[hl];exact ziF p0 p2
  have i1:=zlK (ce:=ce) p0
  have i2:=zbz (ce:=ce) hh
  trivial
 ·exact zaz (by simp only[Bel];exact zfq _ _)
theorem znK(fu:Nat)(B:Brd b)(hl:is.length=b.length){c:List Nat}(hc:∀p∈c,p<b.length):zdg (d_ja fu) [wB b,wS is,wL c] ce=some (.ok (sW (sdl b is c)) ce):=by
 have hz:=zfj
 have h36:=B.h36
 have e1:=zow (ce:=ce) fu B.bd h36 (.fr _) hc
 have h2:=zfK (b:=b) (row:=c)
 have z2:2<=PySem.sizeLine:=by decide
 refine zci (xs:=(sdl b is c).map W.int) ?_ (belInts _ _)
 unfold d_ja
 refine zba [some (wB b),some (wS is),some (wL c),none] rfl ?_
 refine zao (w:=sW ((zau b c).map fun y=>is.getD y 0)) (ce':=ce) (zlg (zs:=zau b c) (en:=nW) (f:=fun y=>is.getD y 0) (zjN (zaB (ws:=[wB b,wL c]) (by trivial) rfl e1) (.fr _)) (by omega) (fun p hp=>?_)) ?_
 ·have i1:=zbz (ce:=ce) (is:=is) (p:=p) (by have:=zgg hp;omega)
  trivial
 refine zQn ?_
 refine zap (ztK (zs:=([1,2]:List Int)) (en:=W.int) (t:=fun g=>decide (g∈(zau b c).map fun y=>is.getD y 0)) (zhG (xs:=[.int 1,.int 2]) (zcN (ws:=[.int 1,.int 2]) (by trivial) z2)).is z2 (fun g hg=>?_)) ?_
 ·exact zcj (zaJ (zag rfl) (zag rfl) zrX)
 ·exact((Own.start ce).alloc _).finO (by simp only[zf7];exact belInts _ _)
theorem zqc(L:List (List Nat)):(L.map fun c=>(c.length:Int)).sum=((L.map List.length).sum:Nat):=by
 induction L with
 | nil=>rfl
 | cons a L ih=>simp only[map_cons,sum_cons,ih];omega
theorem zgi(fu:Nat)(hfu:200<=fu)(B:Brd b)(hl:is.length=b.length)(hh:h=1\/h=2):d_ga fu [wB b,wS is,.int h] ce=some (.ok (nW ((List.range b.length).filter (zma b is h)).length) ce):=by
 have hz:=zfj
 have h36:=B.h36
 have z1:1<=PySem.sizeLine:=by decide
 have e1:=znJ (ce:=ce) fu hfu B hl
 have hzl:(znI b is).length<=PySem.sizeLine:=by
  have:=zgK (b:=b) (vl:=vS is)
  have:=length_filter_le (fun c=>decide (is.getD (c.getD 0 0) 0=0)) (ptc b (vS is))
  unfold znI;omega
 unfold d_ga
 refine zba [some (wB b),some (wS is),some (.int h)] rfl ?_
 have eL:=lcF (zs:=znI b is) (en:=wL) (t:=fun c=>onl b is c h) (g:=fun c=>W.int (c.length:Int)) (js:=[0,1,2]) (di:=dIL (zaH 2 (d_ka fu) (zac (zae 0) (zac (zae 1) zan)))) (sl:=[some (wB b),some (wS is),some (.int h)]) (ce:=ce) (c1:=ce)
  (c:=zfT (dB (zaL (eqW false) (zaH 3 (zdg (d_ja fu)) (zac (zae 1) (zac (zae 2) (zac (zae 0) zan)))) (zhZ (zac (zae 3) zan))))) (e:=dBi zbQ (zac (zae 0) zan))
  (zjN (zaB (ws:=[wB b,wS is]) (by trivial) rfl e1) (.fr _)) hzl (fun c hc=>by
   obtain⟨_,_,p2⟩:=zfM B.bd (mem_filter.mp hc).1
   have e2:=znK (ce:=ce) (is:=is) fu B hl p2
   have e3:eqW false ce (sW (sdl b is c)) (.lst [.int h])=some (.bl (onl b is c h)):=by
    rw[<- zqa hh]
    exact(LstOf.fr _).eqI (m:=[h]) (.fr _) false
   exact zdn (zcj (zaJ (zaB (ws:=[wB b,wS is,wL c]) (by trivial) rfl e2) (zeB (ws:=[.int h]) (by trivial) z1) e3))) (fun c hc _=>by
   have l1:zbQ [wL c] ce=some (.ok (.int (c.length:Int)) ce):=zld
   exact za9 (by trivial) l1)
 have em:((znI b is).filter fun c=>onl b is c h).map (fun c=>W.int (c.length:Int))=(((znI b is).filter fun c=>onl b is c h).map fun c=>(c.length:Int)).map W.int:=by rw[map_map];rfl
 rw[em] at eL
 refine zap (za9 (zak eL zam) zlq) ?_
 rw[zqc,zqb B.bd B.sym]
 exact zaz (by simp only[Bel])
theorem ztZ(fu:Nat)(hfu:200<=fu)(B:Brd b)(hl:is.length=b.length):d_v fu [wB b,wS is] ce=some (.ok (wS [(tot b is 1:Int),(tot b is 2:Int)]) ce):=by
 have hz:=zfj
 have z2:2<=PySem.sizeLine:=by decide
 unfold d_v
 refine zba [some (wB b),some (wS is),none] rfl ?_
 refine zao (w:=sW (([1,2]:List Int).map fun h=>(tot b is h:Int))) (ce':=ce) (zlg (zs:=([1,2]:List Int)) (en:=W.int) (f:=fun h=>(tot b is h:Int)) (zhG (xs:=[.int 1,.int 2]) (zcN (ws:=[.int 1,.int 2]) (by trivial) z2)).is z2 (fun h hh=>?_)) ?_
 ·have hh12:h=1\/h=2:=by simpa using hh
  have e1:=zgi (ce:=ce) fu hfu B hl hh12
  have c1:zlk (wS is) [.int h] ce=some (.ok (.int (is.count h:Nat)) ce):=by simp only[zlk,zcJ]
  have f1:zb3 (.int ((is.count h:Nat):Int)) (nW ((List.range b.length).filter (zma b is h)).length)=some (.int (tot b is h:Int)):=by
   refine(zbX (x:=.int ((is.count h:Nat):Int)) (i:=((is.count h:Nat):Int)) (j:=(((List.range b.length).filter (zma b is h)).length:Int)) rfl rfl).trans ?_
   rw[zlU (by omega),zeb,hl]
   simp
  exact zdn (zaW (zr6 (zag rfl) (by trivial) c1) (zaB (ws:=[wB b,wS is,.int h]) (by trivial) rfl e1) f1)
 ·refine zQn ?_
  refine zap (w:=wS [(tot b is 1:Int),(tot b is 2:Int)]) (ce':=ce) (za9 (zak (by trivial) zam) (zm0 (m:=[(tot b is 1:Int),(tot b is 2:Int)]) z2)) ?_
  exact zaz (by simp only[Bel];exact belInts _ _)
end
section
variable {b:List (List Nat)} {is is':List Int} {ce:Ce}
def hns(b:List (List Nat))(is:List Int)(c:List Nat):List Nat:=([1,2]:List Nat).filter fun g=>(zau b c).any fun y=>decide (is.getD y 0=(g:Int))
theorem zqd{q:Nat}(hq:q<is.length)(h0:0<=is.getD q 0):ixW ce (wS is) (nW q)=some (nW (is.getD q 0).toNat):=by
 rw[zbz hq]
 congr 1
 show W.int _=W.int _
 congr 1
 omega
theorem zsr(fu:Nat)(hfu:200<=fu)(B:Brd b)(S:StdOk b is){q k4:Nat}{x5 x6:Option W}(hq:q<b.length){c:Ce}{a:DS}{Q:O->Prop}(O0:Own ce c [(k4,C.dct (kvs []))])(hQ:∀F c' x5 x6,Own ce c' [(k4,C.dct (kvs F))]->F.Nodup->(∀x∈F,x<3)->zcz F=hns b is (cpt b (vS is) q)->Run a [some (wB b),some (wS is),some (nW q),some (.cel k4),x5,x6] c' Q) :
  Run (zaq (zce (dIL (zaH 3 (zdg (d_z fu)) (zac (zae 0) (zac (zae 1) (zac (zae 2) zan))))) (gN 4) (zbq fu)) a) [some (wB b),some (wS is),some (nW q),some (.cel k4),x5,x6] c Q:=by
 have hz:=zfj
 have h36:=B.h36
 have hb:=B.bd
 have hl:=S.hl
 obtain⟨Fq,e7,cm⟩:=zjb (ce:=c) fu hfu B hl hq
 refine za8 (zs:=Fq) (en:=nW) (c1:=c) (zgH (zaB (ws:=[wB b,wS is,nW q]) (by trivial) rfl e7))
  (fun d sl c=>∃F x5 x6,sl=[some (wB b),some (wS is),some (nW q),some (.cel k4),x5,x6]/\Own ce c [(k4,C.dct (kvs F))]/\F.Nodup/\(∀x∈F,x<3)/\∀x,x∈F↔∃u∈d,∃y∈b.getD u [],0<is.getD y 0/\is.getD y 0=(x:Int))
  ⟨[],_,_,rfl,O0,by simp,by simp,by simp⟩ ?_ ?_
 ·rintro d u r sl c e hu ⟨F,x5,x6,rfl,O,nd,lt,mem⟩
  have hub:=cm.lt u hu
  unfold zbq
  refine zQn ?_
  refine zbS (zs:=b.getD u []) (en:=nW) (zfn (by trivial))
   (fun d' sl c=>∃F x6,sl=[some (wB b),some (wS is),some (nW q),some (.cel k4),some (nW u),x6]/\Own ce c [(k4,C.dct (kvs F))]/\F.Nodup/\(∀x∈F,x<3)/\∀x,x∈F↔(∃u∈d,∃y∈b.getD u [],0<is.getD y 0/\is.getD y 0=(x:Int))\/∃y∈d',0<is.getD y 0/\is.getD y 0=(x:Int))
   ⟨F,x6,rfl,O,nd,lt,by simpa using mem⟩ ?_ ?_
  ·rintro d' y r' sl c e' hy ⟨F,x6,rfl,O,nd,lt,mem⟩
   have hyb:=hb.get hy
   have vy:=S.v y hyb
   have g:=zeA O.g0
   have hs:(kvs F).length<PySem.sizeLine:=by rw[za5];have:=zaG nd lt;omega
   have j1:=zbz (ce:=c) (is:=is) (p:=y) (by omega)
   have j2:=zqd (ce:=c) (is:=is) (q:=y) (by omega) vy.1
   obtain⟨n,hn⟩:∃n:Nat,is.getD y 0=(n:Int):=⟨(is.getD y 0).toNat,by omega⟩
   have hn':(is.getD y 0).toNat=n:=by omega
   rw[hn'] at j2
   rw[hn] at j1 vy
   unfold zb9
   refine zQn ?_
   refine za6 (p:=decide ((0:Int)<(n:Int))) (ce':=c) (zcj (zaW (zaJ (zag rfl) (zag rfl) j1) za1 (zhH (i:=n) (j:=0) rfl rfl))) (fun q1=>?_) (fun q1=>?_)
   ·have q1:=of_decide_eq_true q1
    refine zoj (ow:=.cel k4) (iw:=nW n) (w:=.bl true) (key:=.inl (n:Int)) (k:=k4) (kvs:=kvs F) za1 (by trivial) (zaJ (zag rfl) (zag rfl) j2) rfl g hs ?_
    refine⟨ins F n,_,rfl,by rw[zdw];exact O.set0 _,zfm nd,fun x hx=>?_,fun x=>?_⟩
    ·rcases ins_mem.mp hx with hx|rfl
     ·exact lt x hx
     ·omega
    ·rw[ins_mem,mem]
     constructor
     ·rintro((h|⟨z,hz,h⟩)|rfl)
      ·exact .inl h
      ·exact .inr ⟨z,mem_append_left _ hz,h⟩
      ·exact .inr ⟨y,by simp,by omega,hn⟩
     ·rintro(h|⟨z,hz,h⟩)
      ·exact .inl (.inl h)
      ·rcases mem_append.mp hz with hz|hz
       ·exact .inl (.inr ⟨z,hz,h⟩)
       ·rw[mem_singleton] at hz;subst hz;right;have:=h.2;omega
   ·have q1:=of_decide_eq_false q1
    refine zaT ?_
    refine⟨F,_,rfl,O,nd,lt,fun x=>?_⟩
    rw[mem]
    constructor
    ·rintro(h|⟨z,hz,h⟩)
     ·exact .inl h
     ·exact .inr ⟨z,mem_append_left _ hz,h⟩
    ·rintro(h|⟨z,hz,h⟩)
     ·exact .inl h
     ·rcases mem_append.mp hz with hz|hz
      ·exact .inr ⟨z,hz,h⟩
      ·rw[mem_singleton] at hz;subst hz;have:=h.1;omega
  ·rintro sl c ⟨F,x6,rfl,O,nd,lt,mem⟩
   refine⟨F,_,_,rfl,O,nd,lt,fun x=>?_⟩
   rw[mem]
   constructor
   ·rintro(⟨z,hz,h⟩|h)
    ·exact⟨z,mem_append_left _ hz,h⟩
    ·exact⟨u,by simp,h⟩
   ·rintro⟨z,hz,h⟩
    rcases mem_append.mp hz with hz|hz
    ·exact .inl ⟨z,hz,h⟩
    ·rw[mem_singleton] at hz;subst hz;exact .inr h
 ·rintro sl c ⟨F,x5,x6,rfl,O,nd,lt,mem⟩
  have mF:∀x,x∈Fq↔x∈cpt b (vS is) q:=fun x=>(cm.mem x).trans (zbj hb hq).symm
  have key:∀x:Nat,0<x->(decide (x∈F)=(zau b (cpt b (vS is) q)).any fun y=>decide (is.getD y 0=(x:Int))):=fun x hx=>by
   rw[Bool.eq_iff_iff,decide_eq_true_eq,mem,any_eq_true]
   constructor
   ·rintro⟨u,hu,y,hy,_,e⟩
    exact⟨y,(zlE hb).mpr ⟨u,(mF u).mp hu,hy⟩,decide_eq_true e⟩
   ·rintro⟨y,hy,e⟩
    obtain⟨u,hu,hy⟩:=(zlE hb).mp hy
    have e:=of_decide_eq_true e
    exact⟨u,(mF u).mpr hu,y,hy,by omega,e⟩
  have k0:decide (0∈F)=false:=decide_eq_false fun h=>by
   obtain⟨u,_,y,_,h1,h2⟩:=(mem 0).mp h
   omega
  have es:zcz F=hns b is (cpt b (vS is) q):=by
   rw[zda nd lt]
   have r3:List.range 3=[0,1,2]:=rfl
   rw[r3]
   unfold hns
   simp only[filter_cons,filter_nil,k0,key 1 (by omega),key 2 (by omega),false_eq_true,if_false]
  exact hQ F c x5 x6 O nd lt es
def lnd(b:List (List Nat))(is:List Int)(h:Int):Nat:=((List.range b.length).filter (zma b is h)).length
def zqr(is is':List Int)(v:Int)(q:Nat):Bool:=decide (is.getD q 0=v)&&decide (is'.getD q 0=0)
def gon(is is':List Int)(v:Int):Nat:=((List.range is.length).filter (zqr is is' v)).length
def opn(b:List (List Nat))(is:List Int)(q:Nat):Bool:=decide (is.getD q 0=0)&&!decide ((hns b is (cpt b (vS is) q)).length=1)
theorem znL(fu:Nat)(hfu:200<=fu)(B:Brd b)(S:StdOk b is):d_b fu [wB b,wS is] ce=some (.ok (.bl ((List.range b.length).any (opn b is))) ce):=by
 have hz:=zfj
 have h36:=B.h36
 have hl:=S.hl
 unfold d_b
 refine zba [some (wB b),some (wS is),none,none,none,none] rfl ?_
 have ll:zbQ [wS is] ce=some (.ok (nW is.length) ce):=zlf
 refine zfr (zs:=List.range is.length) (en:=nW) (c1:=ce) (zek (by trivial) (by omega))
  (fun d sl c=>∃x2 x3 x4 x5 t,sl=[some (wB b),some (wS is),x2,x3,x4,x5]/\c=ce++t/\∀q∈d,opn b is q=false) (fun w c=>∃t,w=.bl true/\c=ce++t/\(List.range b.length).any (opn b is)=true)
  ⟨_,_,_,_,[],rfl,by simp,by simp⟩ ?_ ?_ ?_
 ·rintro d q r sl c e hq ⟨x2,x3,x4,x5,t,rfl,rfl,hd⟩
  have hq:=mem_range.mp hq
  have hqb:q<b.length:=by omega
  have jq:=zbz (ce:=ce++t) (is:=is) (p:=q) hq
  unfold zca
  refine zQn ?_
  refine za6 (p:=decide (is.getD q 0=0)) (ce':=ce++t) (zcj (zaW (zaJ (zag rfl) (zag rfl) jq) za1 (zcP (i:=is.getD q 0) (j:=0) rfl rfl))) (fun v=>?_) (fun v=>?_)
  ·refine zao zfl ?_
   refine zQn ?_
   refine zsr fu hfu B S hqb ((Own.start (ce++t)).alloc (C.dct (kvs []))) fun F c' x5 x6 O' nd lt es=>?_
   have ld:=ziE O'.g0
   obtain⟨t',rfl⟩:=O'.cut
   have hF:F.length=(hns b is (cpt b (vS is) q)).length:=by rw[<- zcm,es]
   have en:zk0 (nW F.length) (.int 1)=some (.bl (!decide (F.length=1))):=by
    show some (W.bl _)=_
    congr 2
    by_cases z:F.length=1
    ·rw[z];rfl
    ·have:¬(F.length:Int)=1:=by omega
     simp[z,this]
   refine za6 (p:=!decide (F.length=1)) (ce':=ce++t++t') (zcj (zaW (za9 (ws:=[.cel (ce++t).length]) (zak (zag rfl) zam) ld) za1 en)) (fun z=>?_) (fun z=>?_)
   ·refine zap (w:=.bl true) (ce':=ce++t++t') za1 ⟨t++t',rfl,by rw[append_assoc],?_⟩
    rw[any_eq_true]
    refine⟨q,mem_range.mpr hqb,?_⟩
    unfold opn
    rw[v,<- hF,z];rfl
   ·refine zaT ⟨_,_,_,_,t++t',rfl,by rw[append_assoc],fun y hy=>?_⟩
    rcases mem_append.mp hy with hy|hy
    ·exact hd y hy
    ·rw[mem_singleton.mp hy]
     unfold opn
     rw[<- hF,z,Bool.and_false]
  ·refine zaT ⟨_,_,_,_,t,rfl,rfl,fun y hy=>?_⟩
   rcases mem_append.mp hy with hy|hy
   ·exact hd y hy
   ·rw[mem_singleton.mp hy]
    unfold opn
    rw[v,Bool.false_and]
 ·rintro w sl c ⟨t,rfl,rfl,h⟩
  rw[h]
  exact zcl (zch (by simp only[Bel]))
 ·rintro sl c ⟨x2,x3,x4,x5,t,rfl,rfl,hd⟩
  have:(List.range b.length).any (opn b is)=false:=by
   rw[any_eq_false]
   intro q hq
   rw[hd q (by rw[hl];exact hq)]
   simp
  rw[this]
  exact zap (w:=.bl false) (ce':=ce++t) za1 (zcl (zch (by simp only[Bel])))
end
def zsC(b:List (List Nat))(is:List Int)(o:Int)(w:Option Nat):Nat:=match w with
 | none=>0
 | some p=>(lT b is o p).length
structure Hs (b:List (List Nat)) (h:Int) (g:Gm):Prop where
 step:∀i,i<g.done.length->Stp b (g.past.getD i []) (hnd h i) (g.done.getD i none) (g.past.getD (i+1) [])
 tk:∀i,i<g.done.length->g.tk.getD i 0=zsC b (g.past.getD i []) (hnd h i) (g.done.getD i none)
section
variable {c l:Ce} {k k':Nat} {b:List (List Nat)} {s s':Bool} {h:Int} {g g':Gm} {w:Option Nat} {is is':List Int} {o:Int}
theorem hs0(is:List Int):Hs b h (gm0 is):=⟨fun i hi=>by simp[gm0] at hi,fun i hi=>by simp[gm0] at hi⟩
theorem Does.hs(D:Does b s h g w g')(O:Gok b g)(H:Hs b h g):Hs b h g':=by
 have n1:=O.n1
 have nt:=O.nt
 have gen:∀(is:List Int) (w:Option Nat) (n:Nat),Stp b (cur g) (hnd h g.done.length) w is->n=zsC b (cur g) (hnd h g.done.length) w->Hs b h (push g is w n):=by
  intro is w n st tn
  have hc:(push g is w n).past.getD g.done.length []=cur g:=by
   simp only[push,cur]
   rw[zbs (by omega),show g.past.length-1=g.done.length by omega]
  have hl:(push g is w n).past.getD (g.done.length+1) []=is:=by
   simp only[push]
   exact zdd (by omega)
  refine⟨fun i hi=>?_,fun i hi=>?_⟩
  ·simp only[push,length_append,length_cons,length_nil] at hi
   by_cases q:i<g.done.length
   ·have:=H.step i q
    simp only[push]
    rw[zbs (by omega),zbs q,zbs (by omega)]
    exact this
   ·obtain rfl:i=g.done.length:=by omega
    rw[hc,hl]
    simp only[push]
    rw[zdd rfl]
    exact st
  ·simp only[push,length_append,length_cons,length_nil] at hi
   by_cases q:i<g.done.length
   ·have:=H.tk i q
    simp only[push]
    rw[zbs (by omega),zbs (by omega),zbs q]
    exact this
   ·obtain rfl:i=g.done.length:=by omega
    rw[hc]
    simp only[push]
    rw[zdd (by omega),zdd rfl]
    exact tn
 obtain⟨he,D⟩:=D
 cases w with
 | none=>subst D;exact gen _ _ _ rfl rfl
 | some p =>
  obtain⟨hp,p0,fr,hc,rfl⟩:=D
  exact gen _ _ _ ⟨hp,p0,fr,rfl⟩ rfl
theorem zlW(fu:Nat)(G:GC c k b s h g):d_q fu [.cel k] c=some (.ok (wB b) c):=by
 unfold d_q
 refine zba [some (.cel k)] rfl ?_
 exact zap (zbd (zag rfl) G.i rfl) (zaz (zoh _ _))
def zcv(h:Int)(g:Gm)(v:Int):Int:=(((List.range g.done.length).filter fun i=>!decide (hnd h i=v)).map fun i=>(g.tk.getD i 0:Int)).sum
theorem zhb(fu:Nat)(G:GC c k b s h g)(O:Gok b g)(v:Int):d_x fu [.cel k,.int v] c=some (.ok (.int (zcv h g v)) c):=by
 have hz:(1000:Nat)<PySem.sizeLine:=by decide
 have lim:=O.lim
 have nt:=O.nt
 unfold d_x
 refine zba [some (.cel k),some (.int v)] rfl ?_
 have eL:=lcF (zs:=List.range g.done.length) (en:=nW) (t:=fun i=>!decide (hnd h i=v)) (g:=fun i=>W.int (g.tk.getD i 0:Int)) (js:=[0,1]) (di:=zf6 (zac (dBi zbQ (zac (zdh "Game" "done" (zae 0)) zan)) zan)) (sl:=[some (.cel k),some (.int v)]) (ce:=c) (c1:=c)
  (c:=zfT (dB (zaL (eqW true) (za3 "Game" "hand_at" 2 (d_e fu) (zae 1) (zac (zae 0) zan)) (zae 2)))) (e:=zaL ixW (zdh "Game" "takings" (zae 1)) (zae 0))
  (zek (n:=g.done.length) (zak (za9 (ws:=[.cel (k+2)]) (zak (zbd (zag rfl) G.i rfl) zam) (zfN G)) zam) (by omega)).is (by rw[length_range];omega)
  (fun i _=>zdn (zcj (zaJ (zaM (ws:=[nW i]) (zag rfl) G.i rfl (zak (zag rfl) zam) rfl (zdB fu G i)) (zag rfl) (zfo c (hnd h i) v true))))
  (fun i hi _=>zaJ (zbd (zag rfl) G.i rfl) (zag rfl) (by
   have hi:=mem_range.mp hi
   show ixW c (.cel (k+3)) (nW i)=_
   rw[zfQ (zbD G.t),getElem?_map,getD_eq_getElem?_getD,getElem?_eq_getElem (by omega)];rfl))
 have em:((List.range g.done.length).filter fun i=>!decide (hnd h i=v)).map (fun i=>W.int (g.tk.getD i 0:Int))=(((List.range g.done.length).filter fun i=>!decide (hnd h i=v)).map fun i=>(g.tk.getD i 0:Int)).map W.int:=by rw[map_map];rfl
 rw[em] at eL
 exact zap (za9 (zak eL zam) zlq) (zaz (by simp only[Bel]))
theorem zlX(fu:Nat)(hfu:200<=fu)(B:Brd b)(G:GC c k b s h g)(O:Gok b g):d_ha fu [.cel k] c=some (.ok (wS [(lnd b (cur g) 1:Int)+zcv h g 2,(lnd b (cur g) 2:Int)+zcv h g 1]) c):=by
 have z2:2<=PySem.sizeLine:=by decide
 have e1:=zlW fu G
 have e2:=zc4 fu G O
 unfold d_ha
 refine zba [some (.cel k),none] rfl ?_
 refine zao (w:=sW (([1,2]:List Int).map fun v=>(lnd b (cur g) v:Int)+zcv h g (3-v))) (ce':=c) (zlg (zs:=([1,2]:List Int)) (en:=W.int) (f:=fun v=>(lnd b (cur g) v:Int)+zcv h g (3-v)) (zhG (xs:=[.int 1,.int 2]) (zcN (ws:=[.int 1,.int 2]) (by trivial) z2)).is z2 (fun v hv=>?_)) ?_
 ·have hv12:v=1\/v=2:=by simpa using hv
  have e3:=zgi (ce:=c) fu hfu B O.cur.hl hv12
  have e4:=zeV (ce:=c) fu v
  have e5:=zhb fu G O (3-v)
  exact zdn (zaW (x:=.int (lnd b (cur g) v:Int)) (zaB (ws:=[wB b,wS (cur g),.int v]) (zak (zaM (ws:=[]) (zag rfl) G.i rfl zam rfl e1) (zak (zaM (ws:=[]) (zag rfl) G.i rfl zam rfl e2) (zak (zag rfl) zam))) rfl e3) (zaM (ws:=[.int (3-v)]) (zag rfl) G.i rfl (zak (zaB (ws:=[.int v]) (zak (zag rfl) zam) rfl e4) zam) rfl e5) rfl)
 ·refine zQn ?_
  refine zap (za9 (zak (by trivial) zam) (zm0 (m:=[(lnd b (cur g) 1:Int)+zcv h g 2,(lnd b (cur g) 2:Int)+zcv h g 1]) z2)) ?_
  exact zaz (by simp only[Bel];exact belInts _ _)
theorem zqe(t:Nat->Bool)(f:Nat->Int)(l:List Nat):((l.filter t).map f).sum=(l.map fun i=>if t i=true then f i else 0).sum:=by
 induction l with
 | nil=>rfl
 | cons a r ih =>
  by_cases q:t a=true
  ·rw[filter_cons_of_pos q,map_cons,sum_cons,ih,map_cons,sum_cons,if_pos q]
  ·rw[filter_cons_of_neg q,ih,map_cons,sum_cons,if_neg q];omega
theorem gon_pass(v:Int)(h0:v≠0):gon is is v=0:=by
 unfold gon
 rw[length_eq_zero_iff,filter_eq_nil_iff]
 intro q _ z
 unfold zqr at z
 rw[and_eq_true,decide_eq_true_eq,decide_eq_true_eq] at z
 exact h0 (z.1.symm.trans z.2)
theorem zqf(N:BrdN b)(S:StdOk b is)(ho:o=1\/o=2)(T:Stp b is o w is'):gon is is' (3-o)=zsC b is o w/\gon is is' o=0:=by
 cases w with
 | none =>
  have T:is'=is:=T
  subst T
  exact⟨gon_pass _ (by omega),gon_pass _ (by omega)⟩
 | some p =>
  obtain⟨hp,p0,fr,rfl⟩:=T
  have A:=S.ly N ho hp p0
  constructor
  ·unfold gon zsC
   rw[S.hl]
   congr 1
   unfold lT
   apply filter_congr
   intro q hq
   have hq:=mem_range.mp hq
   have hg:=A.get hq
   rw[Bool.eq_iff_iff]
   have hm:q∈lT b is o p↔((lD b is o p).any fun r=>decide (q∈r))=true:=by unfold lT;rw[zd8];exact⟨fun z=>z.2,fun z=>⟨hq,z⟩⟩
   rw[<- hm]
   unfold zqr
   rw[and_eq_true,decide_eq_true_eq,decide_eq_true_eq]
   constructor
   ·rintro⟨z1,z2⟩
    rw[hg] at z2
    by_cases e:q=p
    ·subst e;rw[p0] at z1;omega
    ·rw[if_neg e] at z2
     by_cases ht:q∈lT b is o p
     ·exact ht
     ·rw[if_neg ht] at z2;omega
   ·intro ht
    have:=A.tkh ht
    refine⟨this.2.1,?_⟩
    rw[hg,if_neg this.2.2,if_pos ht]
  ·unfold gon
   rw[length_eq_zero_iff,filter_eq_nil_iff]
   intro q hq z
   have hq:=mem_range.mp hq
   have hg:=A.get (q:=q) (by rw[<- S.hl];exact hq)
   unfold zqr at z
   rw[and_eq_true,decide_eq_true_eq,decide_eq_true_eq] at z
   obtain⟨z1,z2⟩:=z
   rw[hg] at z2
   by_cases e:q=p
   ·rw[if_pos e] at z2;omega
   ·rw[if_neg e] at z2
    by_cases ht:q∈lT b is o p
    ·have:=(A.tkh ht).2.1;omega
    ·rw[if_neg ht] at z2;omega
theorem zjm(N:BrdN b)(O:Gok b g)(H:Hs b h g)(h12:h=1\/h=2){v:Int}(hv:v=1\/v=2):zcv h g v=((List.range g.done.length).map fun i=>(gon (g.past.getD i []) (g.past.getD (i+1) []) v:Int)).sum:=by
 have n1:=O.n1
 unfold zcv
 rw[zqe]
 congr 1
 apply map_congr_left
 intro i hi
 have hi:=mem_range.mp hi
 obtain⟨q1,q2⟩:=zqf N (O.st i (by omega)) (zg9 h12 i) (H.step i hi)
 have ht:=H.tk i hi
 have o12:=zg9 h12 i
 by_cases e:hnd h i=v
 ·rw[if_neg (by rw[decide_eq_true e];simp),<- e,q2];rfl
 ·rw[if_pos (by rw[decide_eq_false e];rfl),ht,<- q1,show 3-hnd h i=v by omega]
end
section
variable {c l:Ce} {k k':Nat} {b:List (List Nat)} {s s':Bool} {h:Int} {g g':Gm} {w:Option Nat} {is is':List Int} {o:Int}
theorem znM(fu:Nat)(hfu:200<=fu)(N:BrdN b)(G:GC c k b s h g)(O:Gok b g)(h12:h=1\/h=2)(x:Int) :
  (d_w fu [.cel k,nW b.length,.int x] c=some (.ok (.bl false) c))\/∃p g',p<b.length/\Does b s h g (some p) g'/\d_w fu [.cel k,nW b.length,.int x] c=some (.ok (.bl true) (zd9 c k g')):=by
 have h36:=N.B.h36
 have pos:=N.B.pos
 suffices hs:∃u c',d_w fu [.cel k,nW b.length,.int x] c=some (.ok u c')/\((u=.bl false/\c'=c)\/∃p g',p<b.length/\Does b s h g (some p) g'/\u=.bl true/\c'=zd9 c k g') by
  obtain⟨u,c',e,⟨rfl,rfl⟩|⟨p,g',hp,D,rfl,rfl⟩⟩:=hs
  ·exact .inl e
  ·exact .inr ⟨p,g',hp,D,e⟩
 unfold d_w
 refine ziy [some (.cel k),some (nW b.length),some (.int x),none,none,none,none] rfl ?_
 refine zfr (zs:=List.range b.length) (en:=nW) (c1:=c) (zek (n:=b.length) (zak (zag rfl) zam) (by omega))
  (fun d sl c'=>∃x3 x4 x5 x6 t,sl=[some (.cel k),some (nW b.length),some (.int x),x3,x4,x5,x6]/\c'=c++t) (fun w c'=>∃p g' t,p<b.length/\w=.bl true/\Does b s h g (some p) g'/\c'=zd9 c k g'++t) ⟨_,_,_,_,[],rfl,by simp⟩ ?_ ?_ ?_
 ·rintro d m r sl c' e hm ⟨x3,x4,x5,x6,t,rfl,rfl⟩
  obtain⟨p,hp,ep⟩:=zid (x+m) pos
  have e1:zbP (.int (x+m)) (nW b.length)=some (nW p):=zhE pos ep
  have G':=G.app t
  unfold zeC
  refine zQn ?_
  refine zao (w:=nW p) (ce':=c++t) (zaW (x:=.int (x+m)) (zaW (zag rfl) (zag rfl) rfl) (zag rfl) e1) ?_
  refine zQn ?_
  refine zao (w:=.non) (ce':=c++t) za1 ?_
  refine zQn ?_
  rcases zp8 fu hfu N G' O h12 (w:=some p) (fun q e=>by cases e;exact hp) with ⟨g',D,e2⟩|⟨D,nm,hn,e2⟩
  ·refine znb (zaM (ws:=[nW p]) (zdn (zag rfl)) G'.i rfl (zdn (zak (zag rfl) zam)) rfl e2) ?_
   refine za6 (p:=true) (ce':=zd9 (c++t) k g') (zcj (zcL (zag rfl) rfl)) (fun _=>?_) (fun q=>by cases q)
   exact zap (w:=.bl true) (ce':=zd9 (c++t) k g') za1 ⟨p,g',t,hp,rfl,D,znD G t g'⟩
  ·have hc:za3 "Game" "deed" 2 (d_u fu) (zfT (zae 0)) (zfT (zac (zae 4) zan)) [some (.cel k),some (nW b.length),some (.int x),some (nW m),some (nW p),some .non,x6] (c++t)=some (.ex ⟨nm,none⟩ (c++t)):=zaM (ws:=[nW p]) (zdn (zag rfl)) G'.i rfl (zdn (zak (zag rfl) zam)) rfl e2
   refine znc (sl':=[some (.cel k),some (nW b.length),some (.int x),some (nW m),some (nW p),some (.cel (c++t).length),none]) (c2:=c++t++[.exn nm]) hc (znH hn) rfl ?_
   refine za6 (p:=false) (ce':=c++t++[.exn nm]) (zcj (zcL (zag rfl) rfl)) (fun q=>by cases q) (fun _=>zaT ?_)
   exact⟨_,_,_,_,t++[.exn nm],rfl,by rw[append_assoc]⟩
 ·rintro w sl c' ⟨p,g',t,hp,rfl,D,rfl⟩
  exact zcl ⟨_,_,zjg t (by simp only[Bel]),.inr ⟨p,g',hp,D,rfl,rfl⟩⟩
 ·rintro sl c' ⟨x3,x4,x5,x6,t,rfl,rfl⟩
  exact zap (w:=.bl false) (ce':=c++t) za1 ⟨_,_,zch (by simp only[Bel]),.inl ⟨rfl,rfl⟩⟩
end
theorem zlY(t:Nat->Bool)(l:List Nat):((l.filter t).length:Int)=(l.map fun q=>if t q=true then (1:Int) else 0).sum:=by
 induction l with
 | nil=>rfl
 | cons a r ih =>
  by_cases q:t a=true
  ·rw[filter_cons_of_pos q,length_cons,map_cons,sum_cons,<- ih,if_pos q];omega
  ·rw[filter_cons_of_neg q,map_cons,sum_cons,<- ih,if_neg q];omega
theorem zjn(f g:Nat->Int)(l:List Nat):(l.map f).sum+(l.map g).sum=(l.map fun q=>f q+g q).sum:=by
 induction l with
 | nil=>rfl
 | cons a r ih=>simp only[map_cons,sum_cons];omega
theorem zqg(p:Nat)(v:Int):∀n,p<n->((List.range n).map fun q=>if q=p then v else 0).sum=v:=by
 have zero:∀n,n<=p->((List.range n).map fun q=>if q=p then v else 0).sum=0:=by
  intro n
  induction n with
  | zero=>intro _;rfl
  | succ n ih =>
   intro h
   rw[range_succ,map_append,sum_append,ih (by omega)]
   have:¬n=p:=by omega
   simp[this]
 intro n
 induction n with
 | zero=>intro h;omega
 | succ n ih =>
  intro h
  rw[range_succ,map_append,sum_append]
  by_cases e:n=p
  ·rw[zero n (by omega)];simp[e]
  ·rw[ih (by omega)];simp[e]
section
variable {c l:Ce} {k k':Nat} {b:List (List Nat)} {s s':Bool} {h:Int} {g g':Gm} {w:Option Nat} {is is':List Int} {o:Int}
theorem zhX(is:List Int)(v:Int):(is.count v:Int)=((List.range is.length).map fun q=>if is.getD q 0=v then (1:Int) else 0).sum:=by
 rw[zeb,zlY]
 congr 1
 apply map_congr_left
 intro q _
 unfold zqq
 by_cases e:is.getD q 0=v
 ·rw[if_pos e,if_pos (decide_eq_true e)]
 ·rw[if_neg e,if_neg (by rw[decide_eq_false e];simp)]
def ziJ(w:Option Nat)(o v:Int):Int:=match w with
 | none=>0
 | some _=>if o=v then 1 else 0
theorem zqh(N:BrdN b)(S:StdOk b is)(ho:o=1\/o=2)(T:Stp b is o w is')(hl':is'.length=b.length){v:Int}(v0:v≠0):(is'.count v:Int)+(gon is is' v:Int)=(is.count v:Int)+ziJ w o v:=by
 have hl:=S.hl
 cases w with
 | none =>
  have T:is'=is:=T
  subst T
  rw[gon_pass v v0]
  simp[ziJ]
 | some p =>
  obtain⟨hp,p0,fr,rfl⟩:=T
  have A:=S.ly N ho hp p0
  rw[zhX,zhX,hl',hl]
  unfold gon
  rw[zlY,hl,zjn]
  have e1:ziJ (some p) o v=((List.range b.length).map fun q=>if q=p then (if o=v then (1:Int) else 0) else 0).sum:=(zqg p _ b.length hp).symm
  rw[e1,zjn]
  congr 1
  apply map_congr_left
  intro q hq
  have hq:=mem_range.mp hq
  have hg:=A.get hq
  have gP:(if zqr is (lS b is o p) v q=true then (1:Int) else 0)=if is.getD q 0=v/\(lS b is o p).getD q 0=0 then 1 else 0:=by
   unfold zqr
   by_cases z:is.getD q 0=v/\(lS b is o p).getD q 0=0
   ·rw[if_pos z,if_pos (by rw[decide_eq_true z.1,decide_eq_true z.2];rfl)]
   ·rw[if_neg z,if_neg]
    intro y
    rw[and_eq_true,decide_eq_true_eq,decide_eq_true_eq] at y
    exact z y
  rw[gP]
  by_cases e:q=p
  ·subst e
   rw[if_pos rfl] at hg
   rw[hg,p0,if_pos rfl]
   have:¬((0:Int)=v/\o=0):=fun z=>v0 z.1.symm
   rw[if_neg this,if_neg (show ¬(0:Int)=v from fun z=>v0 z.symm)]
   omega
  ·rw[if_neg e] at hg
   rw[if_neg e]
   by_cases ht:q∈lT b is o p
   ·rw[if_pos ht] at hg
    rw[hg,if_neg (show ¬(0:Int)=v from fun z=>v0 z.symm)]
    by_cases z:is.getD q 0=v
    ·rw[if_pos ⟨z,rfl⟩,if_pos z];omega
    ·rw[if_neg (fun y=>z y.1),if_neg z]
   ·rw[if_neg ht] at hg
    have nz:¬(is.getD q 0=v/\is.getD q 0=0):=fun z=>v0 (z.1.symm.trans z.2)
    rw[hg,if_neg nz]
theorem zlZ(N:BrdN b)(O:Gok b g)(H:Hs b h g)(h12:h=1\/h=2){v:Int}(v0:v≠0):∀j,j<=g.done.length->((g.past.getD j []).count v:Int)+((List.range j).map fun i=>(gon (g.past.getD i []) (g.past.getD (i+1) []) v:Int)).sum=((g.past.getD 0 []).count v:Int)+((List.range j).map fun i=>ziJ (g.done.getD i none) (hnd h i) v).sum:=by
 have n1:=O.n1
 intro j
 induction j with
 | zero=>intro _;rfl
 | succ j ih =>
  intro hj
  have ih:=ih (by omega)
  have st:=zqh N (O.st j (by omega)) (zg9 h12 j) (H.step j (by omega)) (O.st (j+1) (by omega)).hl v0
  rw[range_succ,map_append,map_append,sum_append,sum_append]
  simp only[map_cons,map_nil,sum_cons,sum_nil]
  omega
theorem zj0(N:BrdN b)(O:Gok b g)(H:Hs b h g)(h12:h=1\/h=2):(tot b (cur g) 1:Int)-tot b (cur g) 2-((lnd b (cur g) 1:Int)+zcv h g 2-((lnd b (cur g) 2:Int)+zcv h g 1)) =
  (((g.past.getD 0 []).count 1:Int)+((List.range g.done.length).map fun i=>ziJ (g.done.getD i none) (hnd h i) 1).sum)-(((g.past.getD 0 []).count 2:Int)+((List.range g.done.length).map fun i=>ziJ (g.done.getD i none) (hnd h i) 2).sum):=by
 have n1:=O.n1
 have c1:=zlZ N O H h12 (v:=1) (by omega) g.done.length (le_refl _)
 have c2:=zlZ N O H h12 (v:=2) (by omega) g.done.length (le_refl _)
 rw[<- zjm N O H h12 (.inl rfl)] at c1
 rw[<- zjm N O H h12 (.inr rfl)] at c2
 have ec:g.past.getD g.done.length []=cur g:=by unfold cur;rw[show g.past.length-1=g.done.length by omega]
 rw[ec] at c1 c2
 have t1:tot b (cur g) 1=(cur g).count 1+lnd b (cur g) 1:=by rw[zlU (by omega),zeb,O.cur.hl];rfl
 have t2:tot b (cur g) 2=(cur g).count 2+lnd b (cur g) 2:=by rw[zlU (by omega),zeb,O.cur.hl];rfl
 rw[t1,t2]
 omega
theorem zqi(b:List (List Nat))(is:List Int)(q:Nat):decide ((hns b is (cpt b (vS is) q)).length=1)=(onl b is (cpt b (vS is) q) 1||onl b is (cpt b (vS is) q) 2):=by
 have o1:onl b is (cpt b (vS is) q) 1=(((zau b (cpt b (vS is) q)).any fun y=>decide (is.getD y 0=1))&&!((zau b (cpt b (vS is) q)).any fun y=>decide (is.getD y 0=2))):=rfl
 have o2:onl b is (cpt b (vS is) q) 2=(((zau b (cpt b (vS is) q)).any fun y=>decide (is.getD y 0=2))&&!((zau b (cpt b (vS is) q)).any fun y=>decide (is.getD y 0=1))):=rfl
 have eh:hns b is (cpt b (vS is) q)=([1,2]:List Nat).filter (fun(g:Nat)=>(zau b (cpt b (vS is) q)).any fun y=>decide (is.getD y 0=(g:Int))):=rfl
 have c1:((1:Nat):Int)=1:=rfl
 have c2:((2:Nat):Int)=2:=rfl
 simp only[filter_cons,filter_nil,c1,c2] at eh
 rw[eh,o1,o2]
 cases ((zau b (cpt b (vS is) q)).any fun y=>decide (is.getD y 0=1))<;>cases ((zau b (cpt b (vS is) q)).any fun y=>decide (is.getD y 0=2))<;>rfl
theorem zqj(b:List (List Nat))(is:List Int)(r:List Nat):¬(onl b is r 1=true/\onl b is r 2=true):=by
 have o1:onl b is r 1=(((zau b r).any fun y=>decide (is.getD y 0=1))&&!((zau b r).any fun y=>decide (is.getD y 0=2))):=rfl
 have o2:onl b is r 2=(((zau b r).any fun y=>decide (is.getD y 0=2))&&!((zau b r).any fun y=>decide (is.getD y 0=1))):=rfl
 rw[o1,o2]
 cases ((zau b r).any fun y=>decide (is.getD y 0=1))<;>cases ((zau b r).any fun y=>decide (is.getD y 0=2))<;>simp
theorem znN(S:StdOk b is):tot b is 1+tot b is 2<=b.length/\(tot b is 1+tot b is 2=b.length↔(List.range b.length).any (opn b is)=false):=by
 have dj:∀x∈List.range b.length,¬(hit b is 1 x=true/\hit b is 2 x=true):=fun x _ ⟨h1,h2⟩=>by
  unfold hit zqq zma at h1 h2
  simp only[or_eq_true,and_eq_true,decide_eq_true_eq] at h1 h2
  rcases h1 with h1|h1<;>rcases h2 with h2|h2
  ·omega
  ·omega
  ·omega
  ·exact zqj _ _ _ ⟨h1.2,h2.2⟩
 have e:tot b is 1+tot b is 2=((List.range b.length).filter fun x=>hit b is 1 x||hit b is 2 x).length:=(zoz dj).symm
 have le:=length_filter_le (fun x=>hit b is 1 x||hit b is 2 x) (List.range b.length)
 rw[length_range] at le
 have pt:∀q,q<b.length->(hit b is 1 q||hit b is 2 q)=!opn b is q:=fun q hq=>by
  have v:=S.v q hq
  unfold opn
  rw[zqi]
  unfold hit zqq zma
  have:is.getD q 0=0\/is.getD q 0=1\/is.getD q 0=2:=by omega
  rcases this with z|z|z
  ·rw[z]
   cases onl b is (cpt b (vS is) q) 1<;>cases onl b is (cpt b (vS is) q) 2<;>rfl
  ·rw[z];simp
  ·rw[z];simp
 refine⟨by rw[e];exact le,?_⟩
 rw[e,any_eq_false]
 constructor
 ·intro q x hx
  have hfe:((List.range b.length).filter fun x=>hit b is 1 x||hit b is 2 x).length=(List.range b.length).length:=by rw[q,length_range]
  have:=(length_filter_eq_length_iff.mp hfe) x hx
  rw[pt x (mem_range.mp hx)] at this
  simpa using this
 ·intro q
  have:((List.range b.length).filter fun x=>hit b is 1 x||hit b is 2 x)=List.range b.length:=by
   rw[filter_eq_self]
   intro x hx
   rw[pt x (mem_range.mp hx)]
   have:=q x hx
   simpa using this
  rw[this,length_range]
end
theorem znO{dr:Sl->M (List W)}{body a:DS}{p q:Nat}{xs:List W}{sl:Sl}{ce c1:Ce}{Q:O->Prop}(hi:dr sl ce=some (.ok [.lst xs] c1))(R:List Nat->Sl->Ce->Prop)(h0:R [] sl c1)(step:∀d i r sl ce,d++i::r=List.range xs.length->i<xs.length->R d sl ce->Run body ((sl.set p (some (.int (i:Int)))).set q (some (xs.getD i .non))) ce (Nx (R (d++[i]))))(fin:∀sl ce,R (List.range xs.length) sl ce->Run a sl ce Q):Run (zaq (znn dr (g2 p q) body) a) sl ce Q:=by
 obtain⟨o,e,q'⟩:=zdL (g:=g2 p q) (body:=body) (en:=fun(i:Nat)=>W.tup [.int (i:Int),xs.getD i .non]) (src:=.tup (zio xs)) (List.range xs.length) R (fun _ _=>False) (fun d x r sl ce e h=>⟨trivial,_,zpz,(step d x r sl ce e (mem_range.mp (by rw[<- e];simp)) h).mono fun o q=>by
   cases o with
   | ex x c=>exact q.elim
   | go f sl2 ce2=>cases f<;>first|exact q|exact q.elim⟩) (fun _ _ _=>trivial) (List.range xs.length) [] sl c1 rfl h0
 rcases q' with ⟨sl',ce',rfl,h⟩|⟨w,sl',ce',rfl,h⟩
 ·exact zb8 (by simp only[znn,lft,hi];exact e) (fin _ _ h)
 ·exact h.elim
section
variable {c l:Ce} {k k':Nat} {b:List (List Nat)} {s s':Bool} {h:Int} {g g':Gm} {w:Option Nat} {is is':List Int} {o:Int}
theorem zl0(fu:Nat)(G:GC c k b s h g)(O:Gok b g):d_p fu [.cel k] c=some (.ok (.tup [wS (g.past.getD 0 []),.int h]) c):=by
 have z2:2<=PySem.sizeLine:=by decide
 have n1:=O.n1
 have i0:=zjh G (m:=0) (by omega)
 unfold d_p
 refine zba [some (.cel k)] rfl ?_
 exact zap (zcN (ws:=[wS (g.past.getD 0 []),.int h]) (zak (zaJ (zbd (zag rfl) G.i rfl) za1 i0) (zak (zbd (zag rfl) G.i rfl) zam)) z2) (zaz (by simp only[Bel,zdl];exact⟨belInts _ _,trivial,trivial⟩))
theorem ziK(d:List Int)(x v:Int):((d++[x]).count v:Int)=(d.count v:Int)+(if x=v then 1 else 0):=by
 rw[count_append]
 by_cases e:x=v
 ·subst e;simp
 ·simp[e]
theorem zhY(fu:Nat)(hfu:200<=fu)(N:BrdN b)(G:GC c k b s h g)(O:Gok b g)(H:Hs b h g)(h12:h=1\/h=2):d_t fu [.cel k,wB b,.int h] c=some (.ok (.bl true) c):=by
 have z2:2<=PySem.sizeLine:=by decide
 have z3:3<=PySem.sizeLine:=by decide
 have hz:(1000:Nat)<PySem.sizeLine:=by decide
 have lim:=O.lim
 have n1:=O.n1
 have h36:=N.B.h36
 have S:=O.cur
 have S0:=O.st 0 (by omega)
 have e1:=zc4 fu G O
 have e2:=ztZ (ce:=c) fu hfu N.B S.hl
 have e3:=zlX fu hfu N.B G O
 have dr:=zj0 N O H h12
 obtain⟨ol,oi⟩:=znN S
 unfold d_t
 refine zba [some (.cel k),some (wB b),some (.int h),none,none,none,none,none,none,none] rfl ?_
 refine zao (w:=wS (cur g)) (ce':=c) (zaM (ws:=[]) (zag rfl) G.i rfl zam rfl e1) ?_
 refine zQn ?_
 refine zao (w:=wS [(tot b (cur g) 1:Int),(tot b (cur g) 2:Int)]) (ce':=c) (zaB (ws:=[wB b,wS (cur g)]) (by trivial) rfl e2) ?_
 refine zQn ?_
 refine zao (ce':=c) (zaB (ws:=[.cel k]) (by trivial) rfl e3) ?_
 refine zQn ?_
 have ge1:zcv h g 2<=(lnd b (cur g) 1:Int)+zcv h g 2:=by omega
 have ge2:zcv h g 1<=(lnd b (cur g) 2:Int)+zcv h g 1:=by omega
 generalize hA1:(lnd b (cur g) 1:Int)+zcv h g 2=A1 at dr ge1
 generalize hA2:(lnd b (cur g) 2:Int)+zcv h g 1=A2 at dr ge2
 generalize hT1:tot b (cur g) 1=T1 at dr ol oi
 generalize hT2:tot b (cur g) 2=T2 at dr ol oi
 refine zao (zck (ws:=[.int 0,.int 0,.int 0]) (by trivial) z3) ?_
 refine zQn ?_
 have O0:=(Own.start c).alloc (C.lst [.int 0,.int 0,.int 0])
 have G0:=G.app [C.lst [.int 0,.int 0,.int 0]]
 generalize hk:c.length=k6 at O0 ⊢
 generalize c++[C.lst [.int 0,.int 0,.int 0]]=c0 at O0 G0 ⊢
 have f1:=zl0 fu G0 O
 have i0:ixW c0 (.tup [wS (g.past.getD 0 []),.int h]) (.int 0)=some (wS (g.past.getD 0 [])):=zh0 (xs:=[wS (g.past.getD 0 []),.int h]) (j:=0) rfl rfl
 refine za8 (zs:=g.past.getD 0 []) (en:=W.int) (c1:=c0) (zhG (xs:=(g.past.getD 0 []).map W.int) (zaJ (zaM (ws:=[]) (zag rfl) G0.i rfl zam rfl f1) za1 i0))
  (fun d sl c'=>∃x7,sl=[some (.cel k),some (wB b),some (.int h),some (wS (cur g)),some (wS [(T1:Int),(T2:Int)]),some (wS [A1,A2]),some (.cel k6),x7,none,none]/\Own c c' [(k6,C.lst [.int (d.count 0:Int),.int (d.count 1:Int),.int (d.count 2:Int)])])
  ⟨_,rfl,O0⟩ ?_ ?_
 ·rintro d x r sl c' _ hx ⟨x7,rfl,Ow⟩
  have vx:x=0\/x=1\/x=2:=by
   obtain⟨j,hj,e⟩:=getElem_of_mem hx
   have:=S0.v j (by rw[<- S0.hl];exact hj)
   rw[getD_eq_getElem?_getD,getElem?_eq_getElem hj,e,getD_some] at this
   omega
  rw[ziK,ziK,ziK]
  generalize (d.count 0:Int)=a0 at Ow ⊢
  generalize (d.count 1:Int)=a1 at Ow ⊢
  generalize (d.count 2:Int)=a2 at Ow ⊢
  unfold zd1
  refine zQn ?_
  rcases vx with rfl|rfl|rfl
  ·have i1:ixW c' (.cel k6) (.int 0)=some (.int a0):=zh0 (xs:=[.int a0,.int a1,.int a2]) (j:=0) (zbD Ow.g0) rfl
   refine zco (w:=.int (a0+1)) (k:=k6) (ij:=0) (j:=0) (zaW (zaJ (zag rfl) (zag rfl) i1) za1 rfl) (zag rfl) (zag rfl) Ow.g0 rfl ?_
   refine⟨_,rfl,?_⟩
   have:=Ow.set0 (C.lst [.int (a0+1),.int a1,.int a2])
   simpa using this
  ·have i1:ixW c' (.cel k6) (.int 1)=some (.int a1):=zh0 (xs:=[.int a0,.int a1,.int a2]) (j:=1) (zbD Ow.g0) rfl
   refine zco (w:=.int (a1+1)) (k:=k6) (ij:=1) (j:=1) (zaW (zaJ (zag rfl) (zag rfl) i1) za1 rfl) (zag rfl) (zag rfl) Ow.g0 rfl ?_
   refine⟨_,rfl,?_⟩
   have:=Ow.set0 (C.lst [.int a0,.int (a1+1),.int a2])
   simpa using this
  ·have i1:ixW c' (.cel k6) (.int 2)=some (.int a2):=zh0 (xs:=[.int a0,.int a1,.int a2]) (j:=2) (zbD Ow.g0) rfl
   refine zco (w:=.int (a2+1)) (k:=k6) (ij:=2) (j:=2) (zaW (zaJ (zag rfl) (zag rfl) i1) za1 rfl) (zag rfl) (zag rfl) Ow.g0 rfl ?_
   refine⟨_,rfl,?_⟩
   have:=Ow.set0 (C.lst [.int a0,.int a1,.int (a2+1)])
   simpa using this
 ·rintro sl c1 ⟨x7,rfl,Ow⟩
  obtain⟨t1,ht1⟩:=id Ow.cut
  have G1:GC c1 k b s h g:=by rw[ht1];exact G.app t1
  generalize ((g.past.getD 0 []).count 0:Int)=a0 at Ow
  generalize ((g.past.getD 0 []).count 1:Int)=a1 at Ow dr
  generalize ((g.past.getD 0 []).count 2:Int)=a2 at Ow dr
  have ld:(g.done.map oW).length=g.done.length:=length_map _
  refine znO (xs:=g.done.map oW) (c1:=c1) (zak (zaM (ws:=[]) (zag rfl) G1.i rfl zam rfl (zlT fu G1 O)) zam)
   (fun d sl c'=>∃x7 x8 x9,sl=[some (.cel k),some (wB b),some (.int h),some (wS (cur g)),some (wS [(T1:Int),(T2:Int)]),some (wS [A1,A2]),some (.cel k6),x7,x8,x9]/\Own c c' [(k6,C.lst [.int a0,.int (a1+(d.map fun i=>ziJ (g.done.getD i none) (hnd h i) 1).sum),.int (a2+(d.map fun i=>ziJ (g.done.getD i none) (hnd h i) 2).sum)])])
   ⟨_,_,_,rfl,by simpa using Ow⟩ ?_ ?_
  ·rintro d i r sl c' _ hi ⟨x7,x8,x9,rfl,Ow⟩
   rw[ld] at hi
   have ew:(g.done.map oW).getD i .non=oW (g.done.getD i none):=by
    rw[getD_eq_getElem?_getD,getElem?_map,getD_eq_getElem?_getD,getElem?_eq_getElem hi];rfl
   rw[ew]
   simp only[map_append,sum_append,map_cons,map_nil,sum_cons,sum_nil,Int.add_zero,<- add_assoc]
   generalize a1+(d.map fun i=>ziJ (g.done.getD i none) (hnd h i) 1).sum=b1 at Ow ⊢
   generalize a2+(d.map fun i=>ziJ (g.done.getD i none) (hnd h i) 2).sum=b2 at Ow ⊢
   have em:zbP (.int (i:Int)) (.int 2)=some (nW (i % 2)):=zhE (k:=(i:Int)) (n:=2) (by omega) (by omega)
   have j3:ixW c' (.lst [.int h,.int (3-h)]) (nW (i % 2))=some (.int (hnd h i)):=by
    unfold hnd
    have:i % 2=0\/i % 2=1:=by omega
    rcases this with q|q
    ·rw[q,if_pos rfl];exact zfQ (xs:=[.int h,.int (3-h)]) (j:=0) rfl
    ·rw[q,if_neg (by omega)];exact zfQ (xs:=[.int h,.int (3-h)]) (j:=1) rfl
   unfold zd0
   refine(?_:Run _ [some (.cel k),some (wB b),some (.int h),some (wS (cur g)),some (wS [(T1:Int),(T2:Int)]),some (wS [A1,A2]),some (.cel k6),some (oW (g.done.getD i none)),some (.int (i:Int)),x9] c' _)
   cases g.done.getD i none with
   | none =>
    refine za6 (p:=false) (ce':=c') (zcj (zcL (zag rfl) rfl)) (fun z=>by cases z) (fun _=>zaT ⟨_,_,_,rfl,?_⟩)
    simpa[ziJ] using Ow
   | some p =>
    refine za6 (p:=true) (ce':=c') (zcj (zcL (zag rfl) rfl)) (fun _=>?_) (fun z=>by cases z)
    refine zao (w:=.int (hnd h i)) (ce':=c') (zaJ (zeB (ws:=[.int h,.int (3-h)]) (zak (zag rfl) (zak (zaW (x:=.int 3) za1 (zag rfl) rfl) zam)) z2) (zaW (zag rfl) za1 em) j3) ?_
    refine zQn ?_
    rcases zg9 h12 i with o1|o1
    ·rw[o1]
     have i1:ixW c' (.cel k6) (.int 1)=some (.int b1):=zh0 (xs:=[.int a0,.int b1,.int b2]) (j:=1) (zbD Ow.g0) rfl
     refine zco (w:=.int (b1+1)) (k:=k6) (ij:=1) (j:=1) (zaW (zaJ (zag rfl) (zag rfl) i1) za1 rfl) (zag rfl) (zag rfl) Ow.g0 rfl ?_
     refine⟨_,_,_,rfl,?_⟩
     have:=Ow.set0 (C.lst [.int a0,.int (b1+1),.int b2])
     simpa[ziJ] using this
    ·rw[o1]
     have i1:ixW c' (.cel k6) (.int 2)=some (.int b2):=zh0 (xs:=[.int a0,.int b1,.int b2]) (j:=2) (zbD Ow.g0) rfl
     refine zco (w:=.int (b2+1)) (k:=k6) (ij:=2) (j:=2) (zaW (zaJ (zag rfl) (zag rfl) i1) za1 rfl) (zag rfl) (zag rfl) Ow.g0 rfl ?_
     refine⟨_,_,_,rfl,?_⟩
     have:=Ow.set0 (C.lst [.int a0,.int b1,.int (b2+1)])
     simpa[ziJ] using this
  ·rintro sl c2 ⟨x7,x8,x9,rfl,Ow⟩
   rw[ld] at Ow
   obtain⟨t2,ht2⟩:=id Ow.cut
   have G2:GC c2 k b s h g:=by rw[ht2];exact G.app t2
   generalize a1+((List.range g.done.length).map fun i=>ziJ (g.done.getD i none) (hnd h i) 1).sum=b1 at Ow dr
   generalize a2+((List.range g.done.length).map fun i=>ziJ (g.done.getD i none) (hnd h i) 2).sum=b2 at Ow dr
   have i1:ixW c2 (.cel k6) (.int 1)=some (.int b1):=zh0 (xs:=[.int a0,.int b1,.int b2]) (j:=1) (zbD Ow.g0) rfl
   have i2:ixW c2 (.cel k6) (.int 2)=some (.int b2):=zh0 (xs:=[.int a0,.int b1,.int b2]) (j:=2) (zbD Ow.g0) rfl
   have p1:∀x y:Int,ixW c2 (wS [x,y]) (.int 0)=some (.int x):=fun x y=>zh0 (xs:=[.int x,.int y]) (j:=0) rfl rfl
   have p2:∀x y:Int,ixW c2 (wS [x,y]) (.int 1)=some (.int y):=fun x y=>zh0 (xs:=[.int x,.int y]) (j:=1) rfl rfl
   have en:zk0 (.int ((T1:Int)-(T2:Int)-(A1-A2))) (.int (b1-b2))=some (.bl false):=by
    rw[dr];simp[zk0,VS.i2]
   refine zaQ (p:=false) (ce':=c2) (zcj (zaW (x:=.int ((T1:Int)-(T2:Int)-(A1-A2))) (y:=.int (b1-b2)) (zaW (x:=.int ((T1:Int)-(T2:Int))) (zaW (x:=.int (T1:Int)) (zaJ (zag rfl) za1 (p1 _ _)) (zaJ (zag rfl) za1 (p2 _ _)) rfl) (zaW (x:=.int A1) (zaJ (zag rfl) za1 (p1 _ _)) (zaJ (zag rfl) za1 (p2 _ _)) rfl) rfl) (zaW (x:=.int b1) (zaJ (zag rfl) za1 i1) (zaJ (zag rfl) za1 i2) rfl) en)) (fun z=>by cases z) (fun _=>zaK ?_)
   have sm:zhN [wS [(T1:Int),(T2:Int)]] c2=some (.ok (.int ((T1:Int)+(T2:Int))) c2):=by
    rw[zpS];simp
   have lb:zbQ [wB b] c2=some (.ok (nW b.length) c2):=zle
   have ol':=znL (ce:=c2) fu hfu N.B S
   have qq:decide (((T1:Int)+(T2:Int))=(b.length:Int))=!((List.range b.length).any (opn b (cur g))):=by
    cases q:(List.range b.length).any (opn b (cur g)) with
    | false =>
     have:=oi.mpr q
     exact decide_eq_true (by omega)
    | true =>
     refine decide_eq_false fun z=>?_
     have:=oi.mp (by omega)
     rw[q] at this;cases this
   have ee:eqW false c2 (.bl (decide (((T1:Int)+(T2:Int))=(b.length:Int)))) (.bl ((List.range b.length).any (opn b (cur g))))=some (.bl false):=by
    rw[qq]
    cases (List.range b.length).any (opn b (cur g))<;>rfl
   have gt:fGt (.int ((T1:Int)+(T2:Int))) (nW b.length)=some (.bl false):=by
    refine(zhH (i:=(T1:Int)+(T2:Int)) (j:=(b.length:Int)) rfl rfl).trans ?_
    rw[decide_eq_false (by omega)]
   have sm':dBi zhN (zac (zae 4) zan) [some (.cel k),some (wB b),some (.int h),some (wS (cur g)),some (wS [(T1:Int),(T2:Int)]),some (wS [A1,A2]),some (.cel k6),x7,x8,x9] c2=some (.ok (.int ((T1:Int)+(T2:Int))) c2):=za9 (ws:=[wS [(T1:Int),(T2:Int)]]) (zak (zag rfl) zam) sm
   have lb':dBi zbQ (zac (zae 1) zan) [some (.cel k),some (wB b),some (.int h),some (wS (cur g)),some (wS [(T1:Int),(T2:Int)]),some (wS [A1,A2]),some (.cel k6),x7,x8,x9] c2=some (.ok (nW b.length) c2):=za9 (ws:=[wB b]) (zak (zag rfl) zam) lb
   refine zaQ (p:=false||false) (ce':=c2) (zla (zcj (zaJ (zaW sm' lb' (zcP (i:=(T1:Int)+(T2:Int)) (j:=(b.length:Int)) rfl rfl)) (zaB (ws:=[wB b,wS (cur g)]) (by trivial) rfl ol') ee)) (fun _=>zcj (zaW sm' lb' gt))) (fun z=>by cases z) (fun _=>zaK ?_)
   have l2:=zhb fu G2 O 2
   have l1:=zhb fu G2 O 1
   have w1:fGe (.int A1) (.int (zcv h g 2))=some (.bl true):=by
    show some (W.bl _)=_
    congr 2
    exact decide_eq_true ge1
   have w2:fGe (.int A2) (.int (zcv h g 1))=some (.bl true):=by
    show some (W.bl _)=_
    congr 2
    exact decide_eq_true ge2
   refine zap (w:=.bl true) (ce':=c2) (zoo (zaW (zaJ (zag rfl) za1 (p1 _ _)) (zaM (ws:=[.int 2]) (zag rfl) G2.i rfl (zak za1 zam) rfl l2) w1) (zaW (zaJ (zag rfl) za1 (p2 _ _)) (zaM (ws:=[.int 1]) (zag rfl) G2.i rfl (zak za1 zam) rfl l1) w2)) (zcl ?_)
   rw[ht2]
   exact zch (by simp only[Bel])
end
theorem znP{ce:Ce}{ns xs:List Int}{v i j e:Int}{sl:Sl}{d3:Sl->M W}{dh:Sl->M (Option Int)}{hi:Option Int}(h0:sl[0]?=some (some (sW ns)))(h1:sl[1]?=some (some (sW xs)))(hn:ns.length<=63)(hx:xs.length<=1000)(hh:dh sl ce=some (.ok hi ce))(h3:d3 sl ce=some (.ok (.int v) ce)) :
  ∃cs:List Int,dSl zbf (zmI zbf (dSl zbf (zae 0) (zby (dC (.int i))) (zby (dC (.int j)))) (dSl zbf (zae 1) (zby (dC (.int e))) dh)) zbA (zby d3) sl ce=some (.ok (sW cs) ce):=by
 have hz:3000<PySem.sizeLine:=by decide
 obtain⟨a,e1,l1,_⟩:=zeU ns (some i) (some j)
 obtain⟨b,e2,l2,_⟩:=zeU xs (some e) hi
 have v0:zae 0 sl ce=some (.ok (sW ns) ce):=zag h0
 have v1:zae 1 sl ce=some (.ok (sW xs) ce):=zag h1
 have s1:dSl zbf (zae 0) (zby (dC (.int i))) (zby (dC (.int j))) sl ce=some (.ok (sW a) ce):=by
  have:=zfH (sl:=sl) (ce:=ce) (a:=zae 0) (xs:=ns.map W.int) v0 (zcQ (za1 (w:=.int i))) (zcQ (za1 (w:=.int j))) rfl (by rw[length_map];omega)
  rw[e1] at this
  exact this
 have s2:dSl zbf (zae 1) (zby (dC (.int e))) dh sl ce=some (.ok (sW b) ce):=by
  have:=zfH (sl:=sl) (ce:=ce) (a:=zae 1) (xs:=xs.map W.int) (dh:=dh) (hi:=hi) v1 (zcQ (za1 (w:=.int e))) hh rfl (by rw[length_map];omega)
  rw[e2] at this
  exact this
 have s3:=ziA s1 s2 (xs:=a.map W.int) (ys:=b.map W.int) rfl rfl (by rw[length_map,length_map];omega)
 rw[<- map_append] at s3
 obtain⟨cs,e3,_,_⟩:=zeU (a++b) none (some v)
 refine⟨cs,?_⟩
 have:=zfH (dl:=zbA) (lo:=none) s3 rfl (zcQ h3) (xs:=(a++b).map W.int) rfl (by rw[length_map,length_append];omega)
 rw[e3] at this
 exact this
theorem zl1{sl:Sl}{ce c1 c2:Ce}{ta tb:Sl->M Bool}{q:Bool}(ha:ta sl ce=some (.ok false c1))(hb:tb sl c1=some (.ok q c2)):zl4 ta tb sl ce=some (.ok q c2):=by simp only[zl4,bnd,ha,hb]
theorem main(ns:List Int)(_h:ns.length<=63):∃ce',d_law FU [.lst (ns.map W.int)] []=some (.ok (.bl true) ce'):=by
 have hz:=zfj
 have hfu:200<=FU:=by decide
 have z1:1<=PySem.sizeLine:=by decide
 have z2:2<=PySem.sizeLine:=by decide
 have hz3:3000<PySem.sizeLine:=by decide
 suffices hs:∃w c,d_law FU [.lst (ns.map W.int)] []=some (.ok w c)/\w=.bl true by
  obtain⟨w,c,e,rfl⟩:=hs
  exact⟨c,e⟩
 obtain⟨xs,e1,xl,hxs⟩:=zfI (ce:=[]) FU ((ns++[0]).getD 0 0) (m:=70) (by omega)
 have e1':d_i FU [.int ((ns++[0]).getD 0 0),.int 70] []=some (.ok (sW xs) []):=e1
 obtain⟨n,ls,e2,n0,n36,L⟩:=znv (ce:=[]) FU (xs:=xs) (by omega) hxs
 have e3:=zlB (ce:=[]) FU n0 n36 L
 have B:=zpV L n0 n36
 have N:BrdN (ziB n ls):=⟨B,zp1 L⟩
 have bl:(ziB n ls).length=n:=by simp[ziB]
 generalize ziB n ls=b at e3 B N bl
 unfold d_law
 refine ziy [some (sW ns),none,none,none,none,none,none,none,none] rfl ?_
 have ec:zmI zbf (zae 0) (zhZ (zac (dC (.int 0)) zan)) [some (sW ns),none,none,none,none,none,none,none,none] []=some (.ok (sW (ns++[0])) []):=by
  have:=ziA (sl:=[some (sW ns),none,none,none,none,none,none,none,none]) (ce:=[]) (a:=zae 0) (b:=zhZ (zac (dC (.int 0)) zan)) (zag rfl) (zeB (ws:=[.int 0]) (by trivial) z1) (xs:=ns.map W.int) (ys:=[.int 0]) rfl rfl (by rw[length_map];show ns.length+1<=_;omega)
  rw[this]
  show _=some (R.ok (W.lst ((ns++[0]).map W.int)) [])
  rw[map_append];rfl
 have i0:=zcD (ns:=ns++[0]) (p:=0) (by simp) [] (i:=0) rfl
 refine zao (w:=sW xs) (ce':=[]) (zaB (ws:=[.int ((ns++[0]).getD 0 0),.int 70]) (zak (zaJ ec za1 i0) (by trivial)) rfl e1') ?_
 refine zQn ?_
 refine zm5 (x:=nW n) (y:=.lst (ls.map pW)) (c1:=[]) (zaB (ws:=[sW xs]) (by trivial) rfl e2) ?_
 refine(?_:Run _ [some (sW ns),some (sW xs),some (nW n),some (.lst (ls.map pW)),none,none,none,none,none] [] _)
 refine zao (w:=wB b) (ce':=[]) (zaB (ws:=[nW n,.lst (ls.map pW)]) (by trivial) rfl e3) ?_
 refine zQn ?_
 have i3:=zcD (ns:=xs) (p:=3) (by omega) [] (i:=3) rfl
 have i5:=zcD (ns:=xs) (p:=5) (by omega) [] (i:=5) rfl
 have i6:=zcD (ns:=xs) (p:=6) (by omega) [] (i:=6) rfl
 have i4:∀c:Ce,ixW c (sW xs) (.int 4)=some (.int (xs.getD 4 0)):=fun c=>zcD (ns:=xs) (p:=4) (by omega) c (i:=4) rfl
 obtain⟨cs,ecs,_,_⟩:=zeU xs (some 8) (some (8+xs.getD 6 0 % 12))
 have e4:dSl zbf (zae 1) (zby (dC (.int 8))) (zby (dOp zb3 (dC (.int 8)) (dOp zbP (zaL ixW (zae 1) (dC (.int 6))) (dC (.int 12))))) [some (sW ns),some (sW xs),some (nW n),some (.lst (ls.map pW)),some (wB b),none,none,none,none] []=some (.ok (sW cs) []):=by
  have:=zfH (sl:=[some (sW ns),some (sW xs),some (nW n),some (.lst (ls.map pW)),some (wB b),none,none,none,none]) (ce:=[]) (a:=zae 1) (x:=sW xs) (xs:=xs.map W.int) (dl:=zby (dC (.int 8))) (lo:=some 8) (dh:=zby (dOp zb3 (dC (.int 8)) (dOp zbP (zaL ixW (zae 1) (dC (.int 6))) (dC (.int 12))))) (hi:=some (8+xs.getD 6 0 % 12)) (zag rfl) (zcQ za1) (zcQ (zaW (x:=.int 8) za1 (zaW (zaJ (zag rfl) za1 i6) za1 (zey (by omega))) rfl)) rfl (by rw[length_map];omega)
  rw[this,ecs]
 obtain⟨is,e5,S⟩:=zny (ce:=[]) FU hfu N cs
 refine zao (w:=wS is) (ce':=[]) (zaB (ws:=[wB b,sW cs]) (zak (by trivial) (zak e4 zam)) rfl e5) ?_
 refine zQn ?_
 obtain⟨st,hst⟩:∃st:Bool,ixW [] (.lst [.str "stones",.str "turns"]) (.int (xs.getD 3 0 % 2))=some (.str (rl st)):=by
  have:xs.getD 3 0 % 2=0\/xs.getD 3 0 % 2=1:=by omega
  rcases this with h|h
  ·rw[h];exact⟨true,zh0 (xs:=[.str "stones",.str "turns"]) (j:=0) rfl rfl⟩
  ·rw[h];exact⟨false,zh0 (xs:=[.str "stones",.str "turns"]) (j:=1) rfl rfl⟩
 have h12:1+xs.getD 5 0 % 2=1\/1+xs.getD 5 0 % 2=2:=by omega
 refine zao (w:=.int (1+xs.getD 5 0 % 2)) (ce':=[]) (zaW (x:=.int 1) za1 (zaW (zaJ (zag rfl) za1 i5) za1 (zey (by omega))) rfl) ?_
 refine zQn ?_
 generalize 1+xs.getD 5 0 % 2=hd at h12
 have gi:∀(s:Bool) (h:Int) (c:Ce),d_d FU [.cel c.length,wB b,.str (rl s),wS is,.int h] (c++[C.ins "Game" []])=some (.ok .non (c++gcs b s h c.length is)):=fun s h c=>zp9 FU (fun c=>zsq FU S.hl B.h36 S.v c) (fun c=>zp3 FU hfu N S c)
 refine zao (w:=.cel 0) (ce':=gcs b st hd 0 is) (zpI (ws:=[wB b,.str (rl st),wS is,.int hd]) (c1:=[]) (zak (zag rfl) (zak (zaJ (zeB (ws:=[.str "stones",.str "turns"]) (by trivial) z2) (zaW (zaJ (zag rfl) za1 i3) za1 (zey (by omega))) hst) (zak (zag rfl) (zak (zag rfl) zam)))) rfl (gi st _ [])) ?_
 refine zQn ?_
 have G1:GC (gcs b st hd 0 is) 0 b st hd (gm0 is):=gc0 [] is
 generalize gcs b st hd 0 is=c0 at G1
 obtain⟨ds,e6⟩:=znP (ce:=c0) (ns:=ns) (xs:=xs) (v:=xs.getD 4 0 % 61) (i:=1) (j:=61) (e:=8) (sl:=[some (sW ns),some (sW xs),some (nW n),some (.lst (ls.map pW)),some (wB b),some (wS is),some (.int hd),some (.cel 0),none]) (d3:=dOp zbP (zaL ixW (zae 1) (dC (.int 4))) (dC (.int 61))) (dh:=zbA) (hi:=none) rfl rfl (by omega) (by omega) rfl (zaW (zaJ (zag rfl) za1 (i4 _)) za1 (zey (by omega)))
 refine za8 (zs:=ds) (en:=W.int) (c1:=c0) (zgH (xs:=ds.map W.int) e6)
  (fun d sl c=>∃y8 g,sl=[some (sW ns),some (sW xs),some (nW n),some (.lst (ls.map pW)),some (wB b),some (wS is),some (.int hd),some (.cel 0),y8]/\GC c 0 b st hd g/\Gok b g/\Hs b hd g)
  ⟨_,gm0 is,rfl,G1,zvg S,hs0 is⟩ ?_ ?_
 ·rintro d t r sl c _ _ ⟨y8,g,rfl,G,O,H⟩
  have rest:∀(g:Gm) (c:Ce),GC c 0 b st hd g->Gok b g->Hs b hd g->Run (dIf (zdf (dB (zaH 3 (d_t FU) (zac (zae 7) (zac (zae 4) (zac (zae 6) zan)))))) (za7 (dC (.bl false))) zaP)
    [some (sW ns),some (sW xs),some (nW n),some (.lst (ls.map pW)),some (wB b),some (wS is),some (.int hd),some (.cel 0),some (.int t)] c (Nx fun sl c=>∃y8 g,sl=[some (sW ns),some (sW xs),some (nW n),some (.lst (ls.map pW)),some (wB b),some (wS is),some (.int hd),some (.cel 0),y8]/\GC c 0 b st hd g/\Gok b g/\Hs b hd g):=by
   intro g c G O H
   exact za6 (p:=!true) (ce':=c) (zcM (zcj (zaB (ws:=[.cel 0,wB b,.int hd]) (by trivial) rfl (zhY FU hfu N G O H h12)))) (fun z=>by cases z) (fun _=>zaT ⟨_,g,rfl,G,O,H⟩)
  have en:=zc5 FU G O
  have fn:zre (zjY g)=some (.bl (!ended g)):=by simp only[zre,zea]
  unfold zot
  refine zQn ?_
  refine za6 (p:=!ended g) (ce':=c) (zcj (zcL (zaM (ws:=[]) (zag rfl) G.i rfl zam rfl en) fn)) (fun q=>?_) (fun _=>zaT ⟨_,g,rfl,G,O,H⟩)
  have he:ended g=false:=by simpa using q
  have nn:Does b st hd g none (push g (cur g) none 0):=⟨he,rfl⟩
  have pass:Run (zaq (dEx (za3 "Game" "deed" 2 (d_u FU) (zae 7) (zac (dC .non) zan))) (dIf (zdf (dB (zaH 3 (d_t FU) (zac (zae 7) (zac (zae 4) (zac (zae 6) zan)))))) (za7 (dC (.bl false))) zaP))
    [some (sW ns),some (sW xs),some (nW n),some (.lst (ls.map pW)),some (wB b),some (wS is),some (.int hd),some (.cel 0),some (.int t)] c (Nx fun sl c=>∃y8 g,sl=[some (sW ns),some (sW xs),some (nW n),some (.lst (ls.map pW)),some (wB b),some (wS is),some (.int hd),some (.cel 0),y8]/\GC c 0 b st hd g/\Gok b g/\Hs b hd g):=by
   refine zf9 (zaM (ws:=[.non]) (zag rfl) G.i rfl (zak za1 zam) rfl (zhW FU G O he)) ?_
   exact rest _ _ (G.put _) (nn.ok O N h12) (nn.hs O H)
  by_cases t8:t % 8=0
  ·exact zaQ (p:=true||true) (ce':=c) (zla (zcj (zaW (x:=.int (t % 8)) (zaW (zag rfl) za1 (zey (by omega))) za1 (by rw[zcP (i:=t % 8) (j:=0) rfl rfl,decide_eq_true t8]))) (fun z=>by cases z)) (fun _=>pass) (fun z=>by cases z)
  ·have lf:dB (dOp zfh (dOp zbP (zae 8) (dC (.int 8))) (dC (.int 0))) [some (sW ns),some (sW xs),some (nW n),some (.lst (ls.map pW)),some (wB b),some (wS is),some (.int hd),some (.cel 0),some (.int t)] c=some (.ok false c) :=
    zcj (zaW (x:=.int (t % 8)) (zaW (zag rfl) za1 (zey (by omega))) za1 (by rw[zcP (i:=t % 8) (j:=0) rfl rfl,decide_eq_false t8]))
   have gl:=znM FU hfu N G O h12 (t / 8)
   rw[bl] at gl
   rcases gl with e|⟨p,g',hp,D,e⟩
   ·exact zaQ (p:=!false) (ce':=c) (zl1 lf (zcM (zcj (zaB (ws:=[.cel 0,nW n,.int (t / 8)]) (zak (zag rfl) (zak (zag rfl) (zak (zaW (zag rfl) za1 (zgJ rfl rfl (by omega))) zam))) rfl e)))) (fun _=>pass) (fun z=>by cases z)
   ·refine zaQ (p:=!true) (ce':=zd9 c 0 g') (zl1 lf (zcM (zcj (zaB (ws:=[.cel 0,nW n,.int (t / 8)]) (zak (zag rfl) (zak (zag rfl) (zak (zaW (zag rfl) za1 (zgJ rfl rfl (by omega))) zam))) rfl e)))) (fun z=>by cases z) (fun _=>zaK ?_)
    exact rest _ _ (G.put _) (D.ok O N h12) (D.hs O H)
 ·rintro sl c ⟨y8,g,rfl,G,O,H⟩
  refine zap (w:=.bl true) (ce':=c) (zaB (ws:=[.cel 0,wB b,.int hd]) (by trivial) rfl (zhY FU hfu N G O H h12)) ?_
  exact⟨_,_,zch (ce:=[]) (l:=c) (by simp only[Bel]),rfl⟩
end K25
namespace K25
open PySem PySem.Spec PyProof.Rows L2 VS
theorem fin_mk{w:World}{K:PySem.W.Frag}{mg:Str->Option Value}{l:PySem.W.OpenLaw}{fa:Addr}(z:∃A:Adr,Txt K mg A/\fa=A.f_law/\∀(s:Shared) (v:Value),BindsTo s A.d_law ⟨[v],[]⟩ [("_law_script",v)]) :
  ∃fd:FuncData,(∀(s:Shared) (u:Value),BindsTo s fd ⟨[u],[]⟩ [("_law_script",u)])/\∀base:Heap,K.In base->base.Ns mainGlobals mg->FnOk l.prog w K mg base CX0 8 fa fd ["_law_script"] (spLaw Gx (d_law FU) K):=by
 obtain⟨A,T,e,b⟩:=z
 subst e
 exact⟨A.d_law,b,fun base _ _=>zpD T.nl (zsg FU T)⟩
end K25
open PySem PySem.W PyProof.Rows
theorem PySem.W.Fast.te462998645918399023 : True := trivial
theorem PySem.W.Fast.tw5161470359025376368 : True := trivial
theorem PySem.W.Fast.tw1254714349884082532 : True := trivial
theorem PySem.W.Fast.tw11353607065796055845 : True := trivial
theorem PySem.W.Fast.tw11378922611141655016 : True := trivial
theorem PySem.W.Fast.tw4613619293212668297 : True := trivial
theorem PySem.W.Fast.tw136974941917920299 : True := trivial
theorem PySem.W.Fast.tw3800981972687395532 : True := trivial
theorem PySem.W.Fast.tw1395664744442613612 : True := trivial
theorem PySem.W.Fast.tw15910510049388288978 : True := trivial
theorem PySem.W.Fast.tw16983566076250782679 : True := trivial
theorem PySem.W.Fast.tw11084751327760628312 : True := trivial
theorem PySem.W.Fast.tw16951654177875755802 : True := trivial
set_option maxRecDepth 100000 in
set_option maxHeartbeats 0 in
theorem PySem.Challenge.cw_stonebreath_k25_whole_the_difference_holds : PySem.Challenge.rw_stonebreath_k25_whole_the_difference.Holds := by
 w_on;o_law;k_head;(case hw=>w_witness2)
 k_fill
 refine L2.walk_ofK (l:=PySem.Challenge.rw_stonebreath_k25_whole_the_difference) (n:=63) (k:=8) (x := "_law_script") (CX:=L2.CX0) (sp:=VS.spLaw K25.Gx (K25.d_law K25.FU)) rfl (by decide) rfl ⟨rfl,by decide,by decide⟩ (fun w h Y=>PySem.W.kIn_of Y) ?F (VS.law_sp K25.main) (fun _ _ _ _ z=>z)
 case F =>
  intro w mg fa h KX G hmg
  refine' K25.fin_mk (K25.all_mk KX G hmg ?ac_Game ?pg_Game ?hd_Game ?po_Game ?sa_Game ?mi_Game ?kc_Game ?na_Game_barring ?na_Game_done ?na_Game_first ?na_Game_joined ?na_Game_past ?na_Game_takings ?a0 ?l0 ?a1 ?l1 ?a2 ?l2 ?a3 ?l3 ?a4 ?l4 ?a5 ?l5 ?a6 ?l6 ?a7 ?l7 ?a8 ?l8 ?a9 ?l9 ?a10 ?l10 ?a11 ?l11 ?a12 ?l12 ?a13 ?l13 ?a14 ?l14 ?a15 ?l15 ?a16 ?l16 ?a17 ?l17 ?a18 ?l18 ?a19 ?l19 ?a20 ?l20 ?a21 ?l21 ?a22 ?l22 ?a23 ?l23 ?a24 ?l24 ?a25 ?l25 ?a26 ?l26 ?a27 ?l27 ?a28 ?l28 ?c28 ?k28 ?a29 ?fn29 ?l29 ?a30 ?fn30 ?l30 ?a31 ?fn31 ?l31 ?a32 ?fn32 ?l32 ?a33 ?fn33 ?l33 ?a34 ?fn34 ?l34 ?a35 ?fn35 ?l35 ?a36 ?fn36 ?l36 ?a37 ?fn37 ?l37 ?a38 ?fn38 ?l38 ?a39 ?fn39 ?l39 ?a40 ?fn40 ?l40 ?ac_Again ?ex_Again ?aX0 ?fnX0 ?lX0 ?q0 ?z_all ?z_bool ?z_enumerate ?z_int ?z_isinstance ?z_len ?z_list ?z_range ?z_sorted ?z_sum ?z_tuple ?xt ?nl)
  (case ac_Game=>k_is);(case pg_Game=>k_is);(case hd_Game=>k_is);(case po_Game=>k_is);(case sa_Game=>k_is);(case mi_Game=>k_is);(case kc_Game=>k_is);(case na_Game_barring=>k_is);(case na_Game_done=>k_is);(case na_Game_first=>k_is);(case na_Game_joined=>k_is);(case na_Game_past=>k_is);(case na_Game_takings=>k_is);(case a0=>k_is);(case l0=>exact VS.fnk (by k_is) (by k_is) (by k_is));(case a1=>k_is);(case l1=>exact VS.fnk (by k_is) (by k_is) (by k_is));(case a2=>k_is);(case l2=>exact VS.fnk (by k_is) (by k_is) (by k_is));(case a3=>k_is);(case l3=>exact VS.fnk (by k_is) (by k_is) (by k_is));(case a4=>k_is);(case l4=>exact VS.fnk (by k_is) (by k_is) (by k_is));(case a5=>k_is);(case l5=>exact VS.fnk (by k_is) (by k_is) (by k_is));(case a6=>k_is);(case l6=>exact VS.fnk (by k_is) (by k_is) (by k_is));(case a7=>k_is);(case l7=>exact VS.fnk (by k_is) (by k_is) (by k_is));(case a8=>k_is);(case l8=>exact VS.fnk (by k_is) (by k_is) (by k_is));(case a9=>k_is);(case l9=>exact VS.fnk (by k_is) (by k_is) (by k_is));(case a10=>k_is);(case l10=>exact VS.fnk (by k_is) (by k_is) (by k_is));(case a11=>k_is);(case l11=>exact VS.fnk (by k_is) (by k_is) (by k_is));(case a12=>k_is);(case l12=>exact VS.fnk (by k_is) (by k_is) (by k_is));(case a13=>k_is);(case l13=>exact VS.fnk (by k_is) (by k_is) (by k_is));(case a14=>k_is);(case l14=>exact VS.fnk (by k_is) (by k_is) (by k_is));(case a15=>k_is);(case l15=>exact VS.fnk (by k_is) (by k_is) (by k_is));(case a16=>k_is);(case l16=>exact VS.fnk (by k_is) (by k_is) (by k_is));(case a17=>k_is);(case l17=>exact VS.fnk (by k_is) (by k_is) (by k_is));(case a18=>k_is);(case l18=>exact VS.fnk (by k_is) (by k_is) (by k_is));(case a19=>k_is);(case l19=>exact VS.fnk (by k_is) (by k_is) (by k_is));(case a20=>k_is);(case l20=>exact VS.fnk (by k_is) (by k_is) (by k_is));(case a21=>k_is);(case l21=>exact VS.fnk (by k_is) (by k_is) (by k_is));(case a22=>k_is);(case l22=>exact VS.fnk (by k_is) (by k_is) (by k_is));(case a23=>k_is);(case l23=>exact VS.fnk (by k_is) (by k_is) (by k_is));(case a24=>k_is);(case l24=>exact VS.fnk (by k_is) (by k_is) (by k_is));(case a25=>k_is);(case l25=>exact VS.fnk (by k_is) (by k_is) (by k_is));(case a26=>k_is);(case l26=>exact VS.fnk (by k_is) (by k_is) (by k_is));(case a27=>k_is);(case l27=>exact VS.fnk (by k_is) (by k_is) (by k_is));(case a28=>k_is);(case l28=>k_is);(case c28=>k_is);(case k28=>k_is);(case a29=>k_is);(case fn29=>k_is);(case l29=>exact VS.fnk (by k_is) (by k_is) (by k_is));(case a30=>k_is);(case fn30=>k_is);(case l30=>exact VS.fnk (by k_is) (by k_is) (by k_is));(case a31=>k_is);(case fn31=>k_is);(case l31=>exact VS.fnk (by k_is) (by k_is) (by k_is));(case a32=>k_is);(case fn32=>k_is);(case l32=>exact VS.fnk (by k_is) (by k_is) (by k_is));(case a33=>k_is);(case fn33=>k_is);(case l33=>exact VS.fnk (by k_is) (by k_is) (by k_is));(case a34=>k_is);(case fn34=>k_is);(case l34=>exact VS.fnk (by k_is) (by k_is) (by k_is));(case a35=>k_is);(case fn35=>k_is);(case l35=>exact VS.fnk (by k_is) (by k_is) (by k_is));(case a36=>k_is);(case fn36=>k_is);(case l36=>exact VS.fnk (by k_is) (by k_is) (by k_is));(case a37=>k_is);(case fn37=>k_is);(case l37=>exact VS.fnk (by k_is) (by k_is) (by k_is));(case a38=>k_is);(case fn38=>k_is);(case l38=>exact VS.fnk (by k_is) (by k_is) (by k_is));(case a39=>k_is);(case fn39=>k_is);(case l39=>exact VS.fnk (by k_is) (by k_is) (by k_is));(case a40=>k_is);(case fn40=>k_is);(case l40=>exact VS.fnk (by k_is) (by k_is) (by k_is));(case ac_Again=>k_is);(case ex_Again=>kernel_rfl);(case aX0=>k_is);(case fnX0=>k_is);(case lX0=>exact VS.fnk (by k_is) (by k_is) (by k_is));(case q0=>k_is);(case z_all=>k_is);(case z_bool=>k_is);(case z_enumerate=>k_is);(case z_int=>k_is);(case z_isinstance=>k_is);(case z_len=>k_is);(case z_list=>k_is);(case z_range=>k_is);(case z_sorted=>k_is);(case z_sum=>k_is);(case z_tuple=>k_is);(case xt=>kernel_rfl);(case nl=>kernel_rfl)
