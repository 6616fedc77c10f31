import PyProof.Rows.All
import Wide.All
import OpenK.AllK
import Wide.FinOn
import Lean
import PyProof.EqAt
import PyProof.EqKinds
import PyProof.TupleCall
import PyProof.NeKinds
import KE.KDictSum
import KE.KListLetter
import KE.KIsAll
import KE.KTryMore
import PySem.Challenge.RW_stonebreath_k47_whole_ends_exchanged
set_option Elab.async false
set_option linter.all false
set_option maxRecDepth 100000
open List (length_map map_cons mem_filter mem_append length_cons mem_range getD_eq_getElem?_getD length_append mem_singleton size_toArray getElem?_eq_getElem mem_map mem_append_left length_nil getElem?_map mem_cons_of_mem mem_cons mem_cons_self length_range length_set all_eq_true mem_append_right map_nil getElem?_append_left any_eq_true append_nil map_append getElem?_eq_none append_assoc lookup_cons map_map nodup_append map_congr_left length_take length_filter_le replicate_succ getElem?_set_ne find?_cons map_set getElem?_set_self getElem?_append_right flatten_cons mem_of_getElem? getElem_mem filter_congr eq_nil_iff_forall_not_mem nodup_range nodup_cons nil_append mem_filterMap filter_nil any_cons sum_cons length_eq_zero_iff filter_append all_cons set_set length_drop getElem?_range getElem?_of_mem filter_cons_of_neg ext_getElem? set_append_left pairwise_cons of_mem_zip map_id length_singleton foldl_cons filter_cons_of_pos filterMap_cons take_zero take_sublist take_of_length_le take_left sum_append set_append_right range_succ_eq_map pairwise_map pairwise_lt_range not_mem_nil mem_flatten map_drop length_pos_of_mem length_pos_iff idxOf_lt_length_of_mem getElem?_take_of_lt getElem?_set getElem?_replicate getElem?_cons_succ forIn_cons filter_cons ext_getElem exists_mem_of_ne_nil exists_cons_of_ne_nil eraseIdx_cons_succ eraseIdxIfInBounds_toArray drop_length drop_eq_getElem_cons dropLast_eq_take contains_cons all_nil take_range take_length take_append_of_le_length take_add_one set_cons_succ set_comm range_eq_range' range'_succ perm_iff_count pairwise_mergeSort pairwise_iff_getElem nodup_nil nil_perm mergeSort_perm mem_of_find?_eq_some mem_iff_getElem length_replicate length_flatten length_erase_of_mem length_dropLast getElem_of_mem getElem_inj getElem_idxOf getElem?_zip_eq_some getElem?_cons_zero forIn_nil foldl_append find?_some filter_filter filter_eq_self filterMap_map filterMap_append eq_nil_or_concat count_eq_countP countP_nil countP_map countP_eq_length_filter countP_cons cons_append concat_eq_append any_eq_false all_map)
open Nat (le_refl ne_of_lt lt_of_lt_of_le zero_le le_trans lt_irrefl lt_succ_self lt_of_le_of_lt le_succ le_of_lt le_add_right ne_of_gt min_eq_left zero_add not_lt_zero mul_comm le_of_eq add_sub_cancel_left succ_mul succ_le_succ not_lt min_self min_le_right lt_trichotomy lt_trans lt_succ_of_lt log2_lt le_of_not_lt exists_eq_add_of_le add_zero add_comm add_assoc)
open Option (map_some map_eq_some_iff isSome_map getD_some isSome_some isSome_iff_exists isNone_map bind_some)
open Bool (and_eq_true false_eq_true not_eq_true' or_eq_false_iff or_eq_true not_eq_true not_eq_false' not_not eq_false_iff and_eq_true_iff)
open Array (length_toList toArray_toList getElem?_toList mem_toList_iff find?_toList any_eq_true')
open Int (toNat_natCast sub_zero mul_one ofNat_inj fmod_eq_emod_of_nonneg emod_nonneg emod_lt_of_pos ediv_one)
noncomputable section
namespace L2
open PySem PySem.Spec PyProof.Rows
abbrev Key:=Sum Int Str
def ziZ:Key->Value->Bool
 | .inl k,v=>Value.isInt k v
 | .inr x,v=>Value.isStrOf x v
def zub(w:World):Key->Int
 | .inl k=>hashInt k
 | .inr x=>hashStr w x
theorem zaZ:∀{k:Key} {v:Value},ziZ k v=true->(∃i t,k=Sum.inl i/\v=Value.int i t)\/(∃x t,k=Sum.inr x/\v=Value.str x t)
 | .inl i,v,h=>by
  obtain⟨t,e⟩:=Value.isInt_shape (k:=i) (v:=v) h
  exact .inl ⟨i,t,rfl,e⟩
 | .inr x,v,h=>by
  obtain⟨t,e⟩:=Value.isStrOf_shape (x:=x) (v:=v) h
  exact .inr ⟨x,t,rfl,e⟩
theorem zjH(i:Int)(t:Tok):ziZ (.inl i) (.int i t)=true:=by simp[ziZ,Value.isInt]
theorem zjI(x:Str)(t:Tok):ziZ (.inr x) (.str x t)=true:=by simp[ziZ,Value.isStrOf]
theorem zpH(a b:Int):decide ((Sum.inl a:Key)=Sum.inl b)=(a==b):=by
 by_cases e:a=b
 ·subst e;simp
 ·have h:¬(Sum.inl a:Key)=Sum.inl b:=fun q=>e (Sum.inl.inj q)
  rw[decide_eq_false h]
  exact(beq_eq_false_iff_ne.mpr e).symm
theorem zpI(a b:Str):decide ((Sum.inr a:Key)=Sum.inr b)=decide (a=b):=by
 by_cases e:a=b
 ·subst e;simp
 ·have h:¬(Sum.inr a:Key)=Sum.inr b:=fun q=>e (Sum.inr.inj q)
  rw[decide_eq_false h,decide_eq_false e]
theorem zpJ(a:Int)(b:Str):decide ((Sum.inl a:Key)=Sum.inr b)=false:=decide_eq_false (fun q=>nomatch q)
theorem zpK(a:Str)(b:Int):decide ((Sum.inr a:Key)=Sum.inl b)=false:=decide_eq_false (fun q=>nomatch q)
def za7(prog:Program)(w:World):PySem.KeyKind prog w Key where
 is:=ziZ
 hash:=zub w
 inj:=fun v a b ha hb=>by
  rcases zaZ ha with ⟨i,t,rfl,rfl⟩|⟨x,t,rfl,rfl⟩
  ·rcases zaZ hb with ⟨j,u,rfl,e⟩|⟨y,u,rfl,e⟩
   ·injection e with e1 _;rw[e1]
   ·exact nomatch e
  ·rcases zaZ hb with ⟨j,u,rfl,e⟩|⟨y,u,rfl,e⟩
   ·exact nomatch e
   ·injection e with e1 _;rw[e1]
 byValue:=fun k v h=>by
  rcases zaZ h with ⟨i,t,rfl,rfl⟩|⟨x,t,rfl,rfl⟩<;>rfl
 pyHash:=fun hv h=>by
  rcases zaZ hv with ⟨i,t,rfl,rfl⟩|⟨x,t,rfl,rfl⟩
  ·exact wpAny_pyHash_int h
  ·exact wpAny_pyHash_str h
 eqBool:=fun hu hv h=>by
  rcases zaZ hu with ⟨i,t,rfl,rfl⟩|⟨x,t,rfl,rfl⟩
  ·rcases zaZ hv with ⟨j,u,rfl,rfl⟩|⟨y,u,rfl,rfl⟩
   ·rw[zpH] at h;exact wpAny_eqBool_int h
   ·rw[zpJ] at h;exact SeqAt.EqAt.int_str i t y u _ _ _ _ h
  ·rcases zaZ hv with ⟨j,u,rfl,rfl⟩|⟨y,u,rfl,rfl⟩
   ·rw[zpK] at h;exact SeqAt.EqAt.str_int x t j u _ _ _ _ h
   ·rw[zpI] at h;exact wpAny_eqBool_str h
 «strs»:=fun k x t v h=>by
  rcases zaZ h with ⟨i,u,rfl,e⟩|⟨y,u,rfl,e⟩
  ·exact nomatch e
  ·injection e with e1 _
   subst e1
   cases v<;>rfl
theorem zhv(prog:Program)(w:World)(i:Int)(t:Tok):(za7 prog w).is (.inl i) (.int i t)=true:=zjH i t
theorem zhw(prog:Program)(w:World)(x:Str)(t:Tok):(za7 prog w).is (.inr x) (.str x t)=true:=zjI x t
inductive V where
 | non|bl (b:Bool)|int (i:Int)|str (x:Str)|byt (b:Array UInt8)|flt (b:UInt64)|ref (a:Addr)|ty (n:String)
 deriving DecidableEq
def RelV:V->Value->Prop
 | .non,u=>u=Value.none
 | .bl b,u=>u=Value.bool b
 | .int i,u=>∃t,u=Value.int i t
 | .str x,u=>∃t,u=Value.str x t
 | .byt b,u=>∃t,u=Value.bytes b t
 | .flt b,u=>∃t,u=Value.float b t
 | .ref a,u=>u=Value.ref a
 | .ty n,u=>u=Value.type n
abbrev Vals:List V->List Value->Prop:=Paired RelV
theorem Vals.length{xs:List V}{us:List Value}(r:Vals xs us):xs.length=us.length:=Paired.length r
theorem Vals.get:∀{xs:List V} {us:List Value} {i:Nat} {x:V},Vals xs us->xs[i]?=some x->∃u,us[i]?=some u/\RelV x u
 | _,_,_,_,.nil,e=>by simp at e
 | _,_,0,_,.cons r _,e=>by simp at e;subst e;exact⟨_,rfl,r⟩
 | _,_,i+1,x,.cons _ t,e=>by
  obtain⟨u,h1,h2⟩:=Vals.get (i:=i) (x:=x) t (by simpa using e)
  exact⟨u,by simpa using h1,h2⟩
theorem Vals.set{x:V}{u:Value}(r:RelV x u):∀{xs:List V} {us:List Value} (i:Nat),Vals xs us->Vals (xs.set i x) (us.set i u)
 | _,_,_,.nil=>.nil
 | _,_,0,.cons _ t=>.cons r t
 | _,_,i+1,.cons q t=>.cons q (Vals.set r i t)
theorem Vals.append:∀{xs ys:List V} {us ws:List Value},Vals xs us->Vals ys ws->Vals (xs++ys) (us++ws)
 | _,_,_,_,.nil,s=>s
 | _,_,_,_,.cons r t,s=>.cons r (Vals.append t s)
theorem Vals.take:∀{xs:List V} {us:List Value} (n:Nat),Vals xs us->Vals (xs.take n) (us.take n)
 | _,_,0,_=>.nil
 | _,_,_+1,.nil=>.nil
 | _,_,n+1,.cons r t=>.cons r (Vals.take n t)
theorem Vals.drop:∀{xs:List V} {us:List Value} (n:Nat),Vals xs us->Vals (xs.drop n) (us.drop n)
 | _,_,0,r=>r
 | _,_,_+1,.nil=>.nil
 | _,_,n+1,.cons _ t=>Vals.drop n t
def RelO:Option V->Option Value->Prop
 | some v,some u=>RelV v u
 | none,none=>True
 | _,_=>False
def KV{κ:Type}:List (κ×V)->List (κ×Value)->Prop:=Paired fun(p:κ×V) (q:κ×Value)=>p.1=q.1/\RelV p.2 q.2
def kV:Key->V
 | .inl i=>.int i
 | .inr x=>.str x
inductive HO where
  | lst (xs:List V)
  | tup (xs:List V)
  | dK (kvs:List (Key×V))|dT (kvs:List (List Key×V))
  | set (S:Int->Bool) (n:Nat)
  | ins (C dx:Addr) (fs:List (Str×V))
  | own (x:Addr)
  | xd (fs:List (Str×V))
  | met (f x:Addr)
  | rng (lo hi:Int)
  | frz (o:Obj) (u:HO)
  | tbl (ps:Array Value)
  | ext (φ:Heap->Prop)
abbrev Hp:=Addr->Option HO
def upd(H:Hp)(a:Addr)(o:HO):Hp:=fun b=>if b=a then some o else H b
theorem zaK{H:Hp}{a:Addr}{o:HO}:upd H a o a=some o:=by unfold upd;rw[if_pos rfl]
theorem zaJ{H:Hp}{a b:Addr}{o:HO}(h:b≠a):upd H a o b=H b:=by unfold upd;rw[if_neg h]
theorem zse{H:Hp}{a b:Addr}{o u:HO}(h:H a=some o)(h':H b=some u)(d:o≠u):a≠b:=by
 intro e;subst e;rw[h] at h';exact d (Option.some.inj h')
theorem zaH{H:Hp}{a b:Addr}{o:HO}(h:H a=some o)(h':H b=none):a≠b:=by
 intro e;subst e;rw[h] at h';cases h'
def TupN(h:Heap)(a:Addr)(items:Array Value):Prop:=∃o,h.get? a=some o/\o.cls=.type "tuple" /\ (∃n,o.data=.seq items n)/\o.dict=none
theorem TupN.isTup{h:Heap}{a:Addr}{items:Array Value}(t:TupN h a items):PyProof.Rows.IsTup h a items:=by
 obtain⟨o,e,c,⟨n,d⟩,_⟩:=t
 exact⟨o,e,c,n,d⟩
theorem TupN.new(h:Heap)(items:Array Value):TupN (h.push { cls:=.type "tuple",data:=.seq items }) h.objs.size items:=⟨_,Heap.get?_push_size _ rfl,rfl,⟨_,rfl⟩,rfl⟩
section
variable (P:Program) (w:World)
def ObjOk(H:Hp)(h:Heap)(a:Addr):HO->Prop
 | .lst xs=>xs.length<=sizeLine/\∃(its:List Value) (n:Nat),Vals xs its/\h.get? a=some { cls:=.type "list",data:=.seq its.toArray n }
 | .tup xs=>xs.length<=sizeLine/\∃its:List Value,Vals xs its/\TupN h a its.toArray
 | .dK kvs=>kvs.length<=sizeLine/\(a==sysModules)=false/\∃vs,KV kvs vs/\h.DictOf (za7 P w) a vs
 | .dT kvs=>kvs.length<=sizeLine/\(a==sysModules)=false/\∃xs:List (List Key×Addr×Value),
   Paired (fun(p:List Key×V) (q:List Key×Addr×Value)=>p.1=q.1/\H q.2.1=some (.tup (p.1.map kV))/\RelV p.2 q.2.2) kvs xs /\
   ∃o es ep,h.get? a=some o/\o.ExactDict/\o.data=.dict es ep/\es.toList=xs.map (entryOfKey (tupleKind (za7 P w)))/\(xs.map (·.1)).Nodup
 | .set S n=>h.SetOf (intKind P w) a S n
 | .ins C dx fs=>H dx=some (.own a)/\fs.length<=1000/\dx≠a/\h.get? a=some (PySem.W.instObj C dx) /\
   ∃mA,h.Ns1 dx mA/\(∀f,RelO (fs.lookup f) (mA f))/\PySem.Within mA (fs.map (·.1))
 | .own _=>∃o,h.get? a=some o
 | .xd fs=>∃mA,h.Ns1 a mA/\∀f,RelO (fs.lookup f) (mA f)
 | .rng lo hi=>∃t u v,h.get? a=some { cls:=.type "range",data:=.fields #[.int lo t,.int hi u,.int 1 v] }
 | .frz o u=>h.get? a=some o/\ObjOk H h a u
 | .tbl ps=>h.get? a=some { cls:=.none,data:=.fields ps }
 | .met f x=>h.get? a=some (PySem.W.methodObj (.ref f) (.ref x))
 | .ext φ=>φ h/\(∃o,h.get? a=some o)/\∀h1 h2:Heap,φ h1->(∀o,h1.get? a=some o->h2.get? a=some o)->φ h2
def HOk(H:Hp)(h:Heap):Prop:=∀a o,H a=some o->ObjOk P w H h a o
end
section
variable {P:Program} {w:World} {H H':Hp} {h h':Heap} {a:Addr} {o:HO}
theorem ObjOk.lt(x:ObjOk P w H h a o):a<h.objs.size:=by
 cases o with
 | lst xs=>obtain⟨_,_,_,_,e⟩:=x;exact Heap.lt_size e
 | tup xs=>obtain⟨_,_,_,p⟩:=x;exact(TupN.isTup p).lt
 | dK kvs=>obtain⟨_,_,_,_,o,_,_,e,_⟩:=x;exact Heap.lt_size e
 | dT kvs=>obtain⟨_,_,_,_,o,_,_,e,_⟩:=x;exact Heap.lt_size e
 | set S n=>obtain⟨o,_,_,_,e,_⟩:=x;exact Heap.lt_size e
 | ins C dx fs=>obtain⟨_,_,_,e,_⟩:=x;exact Heap.lt_size e
 | own y=>obtain⟨_,e⟩:=x;exact Heap.lt_size e
 | xd fs=>obtain⟨_,⟨_,_,_,e,_⟩,_⟩:=x;exact Heap.lt_size e
 | rng lo hi=>obtain⟨_,_,_,e⟩:=x;exact Heap.lt_size e
 | frz ob u=>obtain⟨e,_⟩:=x;exact Heap.lt_size e
 | tbl ps=>exact Heap.lt_size (show h.get? a=some _ from x)
 | met f y=>exact Heap.lt_size (show h.get? a=some _ from x)
 | ext φ=>obtain⟨_,⟨_,e⟩,_⟩:=x;exact Heap.lt_size e
theorem Paired.mapP{α β:Type}{F G:α->β->Prop}:∀{l₁:List α} {l₂:List β},Paired F l₁ l₂->(∀a b,F a b->G a b)->Paired G l₁ l₂
 | _,_,.nil,_=>.nil
 | _,_,.cons r t,f=>.cons (f _ _ r) (Paired.mapP t f)
theorem ObjOk.stay(x:ObjOk P w H h a o)(k:∀b u,(b=a\/H b=some (.own a))->h.get? b=some u->h'.get? b=some u)(ho:∀b,H b=some (.own a)->H' b=some (.own a))(ht:∀b xs,H b=some (.tup xs)->H' b=some (.tup xs)):ObjOk P w H' h' a o:=by
 induction o with
 | lst xs=>obtain⟨z,its,n,r,e⟩:=x;exact⟨z,its,n,r,k _ _ (.inl rfl) e⟩
 | tup xs=>obtain⟨z,its,r,ob,e,c⟩:=x;exact⟨z,its,r,ob,k _ _ (.inl rfl) e,c⟩
 | dK kvs=>obtain⟨z,y,vs,r,ob,es,ep,e,c⟩:=x;exact⟨z,y,vs,r,ob,es,ep,k _ _ (.inl rfl) e,c⟩
 | dT kvs =>
  obtain⟨z,y,xs,r,ob,es,ep,e,c⟩:=x
  exact⟨z,y,xs,Paired.mapP r fun p q z=>⟨z.1,ht _ _ z.2.1,z.2.2⟩,ob,es,ep,k _ _ (.inl rfl) e,c⟩
 | set S n=>obtain⟨ob,es,ep,t,e,c⟩:=x;exact⟨ob,es,ep,t,k _ _ (.inl rfl) e,c⟩
 | ins C dx fs =>
  obtain⟨d,z,ne,e,mA,⟨od,es,ep,e2,c⟩,r⟩:=x
  exact⟨ho _ d,z,ne,k _ _ (.inl rfl) e,mA,⟨od,es,ep,k _ _ (.inr d) e2,c⟩,r⟩
 | own y=>obtain⟨ob,e⟩:=x;exact⟨ob,k _ _ (.inl rfl) e⟩
 | xd fs=>obtain⟨mA,⟨od,es,ep,e,c⟩,r⟩:=x;exact⟨mA,⟨od,es,ep,k _ _ (.inl rfl) e,c⟩,r⟩
 | rng lo hi=>obtain⟨t,u,v,e⟩:=x;exact⟨t,u,v,k _ _ (.inl rfl) e⟩
 | frz ob u ih=>obtain⟨e,q⟩:=x;exact⟨k _ _ (.inl rfl) e,ih q⟩
 | tbl ps =>
  have e:h.get? a=some { cls:=.none,data:=.fields ps }:=x
  show h'.get? a=some { cls:=.none,data:=.fields ps }
  exact k a _ (.inl rfl) e
 | met f y =>
  have e:h.get? a=some (PySem.W.methodObj (.ref f) (.ref y)):=x
  show h'.get? a=some (PySem.W.methodObj (.ref f) (.ref y))
  exact k a _ (.inl rfl) e
 | ext φ=>obtain⟨p,⟨o,e⟩,st⟩:=x;exact⟨st _ _ p fun o q=>k _ _ (.inl rfl) q,⟨o,k _ _ (.inl rfl) e⟩,st⟩
theorem HOk.lt(x:HOk P w H h)(e:H a=some o):a<h.objs.size:=(x a o e).lt
theorem HOk.fresh(x:HOk P w H h)(e:h.objs.size<=a):H a=none:=by
 cases q:H a with
 | none=>rfl
 | some u=>exact absurd (lt_of_lt_of_le (x.lt q) e) (lt_irrefl _)
theorem HOk.kept(x:HOk P w H h)(k:∀b u,h.get? b=some u->h'.get? b=some u):HOk P w H h':=fun a o e =>
 (x a o e).stay (fun b u _ q=>k b u q) (fun _ q=>q) fun _ _ q=>q
theorem HOk.laid(x:HOk P w H h)(k:∀b u,h.get? b=some u->h'.get? b=some u)(hp:h.objs.size<=a)(new:ObjOk P w (upd H a o) h' a o):HOk P w (upd H a o) h':=fun b u e=>by
 have hn:=x.fresh hp
 by_cases hb:b=a
 ·subst hb;rw[zaK] at e;cases e;exact new
 ·rw[zaJ hb] at e
  exact(x b u e).stay (fun c v _ q=>k c v q) (fun c q=>by rw[zaJ (zaH q hn)];exact q) fun c xs q=>by rw[zaJ (zaH q hn)];exact q
end
def Rd(H:Hp)(a:Addr)(u:HO):Prop:=H a=some u\/∃o,H a=some (.frz o u)
theorem Rd.ok{P:Program}{w:World}{H:Hp}{h:Heap}{a:Addr}{u:HO}(r:Rd H a u)(x:HOk P w H h):ObjOk P w H h a u:=by
 rcases r with r|⟨o,r⟩
 ·exact x a u r
 ·obtain⟨_,q⟩:=x a _ r
  exact q
def Mut:Option HO->Prop
 | some (.lst _)=>True
 | some (.dK _)=>True
 | some (.dT _)=>True
 | some (.set _ _)=>True
 | some (.ins _ _ _)=>True
 | some (.ext _)=>True
 | _=>False
section
variable {P:Program} {w:World} {H:Hp} {h h':Heap} {x e:Addr} {o':HO}
theorem HOk.write(ok:HOk P w H h)(mu:Mut (H x))(he:e=x\/H e=some (.own x))(k:∀b u,b≠e->h.get? b=some u->h'.get? b=some u)(heo:∃u,h'.get? e=some u)(new:ObjOk P w (upd H x o') h' x o'):HOk P w (upd H x o') h':=fun b u q=>by
 have nown:∀c y,H c=some (.own y)->c≠x:=fun c y r z=>by subst z;rw[r] at mu;exact mu
 have ntup:∀c xs,H c=some (.tup xs)->c≠x:=fun c xs r z=>by subst z;rw[r] at mu;exact mu
 by_cases hb:b=x
 ·subst hb;rw[zaK] at q;cases q;exact new
 ·rw[zaJ hb] at q
  by_cases hbe:b=e
  ·have q':H b=some (.own x):=by
    rcases he with z|z
    ·exact absurd (hbe.trans z) hb
    ·rw[hbe];exact z
   rw[q] at q';cases q'
   obtain⟨v,hv⟩:=heo
   exact⟨v,by rw[hbe];exact hv⟩
  ·refine(ok b u q).stay (fun c v hc r=>k c v ?_ r) (fun c r=>by rw[zaJ (nown c b r)];exact r) fun c xs r=>by rw[zaJ (ntup c xs r)];exact r
   rcases hc with rfl|hc
   ·exact hbe
   ·rintro rfl
    rcases he with z|z
    ·exact nown c b hc z
    ·rw[hc] at z;cases z;exact hb rfl
end
structure Un (fs ex:List Addr) (H H':Hp) (h h':Heap):Prop where
 keep:∀b o,h.get? b=some o->H b=none->b∉fs->b∉ex->h'.get? b=some o
 slot:∀b o,h.get? b=some o->H b=none->b∈fs->b∉ex->∃sl,h'.get? b=some { o with slots:=sl }
 free:∀b o,h.get? b=some o->H b=none->b∉ex->H' b=none
 there:∀b o,h.get? b=some o->b∉ex->∃o',h'.get? b=some o'
 tups:∀b xs,H b=some (.tup xs)->H' b=some (.tup xs)
 frzs:∀b o u,H b=some (.frz o u)->H' b=some (.frz o u)
 tbls:∀b ps,H b=some (.tbl ps)->∃more,H' b=some (.tbl (ps++more))
section
variable {fs fs' ex ex':List Addr} {H H1 H2:Hp} {h h1 h2 h':Heap} {a x e:Addr} {o:HO}
theorem Un.any(u:Un fs ex H H1 h h1){b:Addr}{ob:Obj}(q:h.get? b=some ob)(n:H b=none)(hx:b∉ex):∃sl,h1.get? b=some { ob with slots:=sl }:=by
 by_cases hb:b∈fs
 ·exact u.slot b ob q n hb hx
 ·exact⟨ob.slots,u.keep b ob q n hb hx⟩
theorem Un.kept(k:∀b u,h.get? b=some u->h'.get? b=some u):Un fs ex H H h h' :=
 ⟨fun b ob q _ _ _=>k b ob q,fun b ob q _ _ _=>⟨ob.slots,k b ob q⟩,fun _ _ _ n _=>n,fun b ob q _=>⟨ob,k b ob q⟩,fun _ _ q=>q,fun _ _ _ q=>q,fun _ ps q=>⟨#[],by rw[q];simp⟩⟩
theorem Un.refl:Un fs ex H H h h:=Un.kept fun _ _ q=>q
theorem Un.laid(k:∀b u,h.get? b=some u->h'.get? b=some u)(hp:h.objs.size<=a)(hn:H a=none):Un fs ex H (upd H a o) h h' where
 keep:=fun b u q _ _ _=>k b u q
 slot:=fun b u q _ _ _=>⟨u.slots,k b u q⟩
 free:=fun b u q n _=>by rw[zaJ (ne_of_lt (lt_of_lt_of_le (Heap.lt_size q) hp))];exact n
 there:=fun b u q _=>⟨u,k b u q⟩
 tups:=fun b xs q=>by rw[zaJ (zaH q hn)];exact q
 frzs:=fun b u xs q=>by rw[zaJ (zaH q hn)];exact q
 tbls:=fun b ps q=>⟨#[],by rw[zaJ (zaH q hn),q];simp⟩
theorem Un.write(mu:Mut (H x))(he:e=x\/H e=some (.own x))(k:∀b u,b≠e->h.get? b=some u->h'.get? b=some u)(heo:∃u,h'.get? e=some u):Un fs ex H (upd H x o) h h':=by
 have hx:∀b,H b=none->b≠x:=fun b n z=>by subst z;rw[n] at mu;exact mu
 have hb:∀b,H b=none->b≠e:=fun b n z=>by
  subst z
  rcases he with r|r
  ·exact hx b n r
  ·rw[n] at r;cases r
 have hm:∀b u,H b=some u->¬Mut (some u)->b≠x:=fun b u q nm z=>by subst z;rw[q] at mu;exact nm mu
 refine⟨fun b u q n _ _=>k b u (hb b n) q,fun b u q n _ _=>⟨u.slots,k b u (hb b n) q⟩,fun b u q n _=>by rw[zaJ (hx b n)];exact n,fun b u q _=>?_,
  fun b xs q=>by rw[zaJ (hm b _ q fun z=>z)];exact q,fun b u xs q=>by rw[zaJ (hm b _ q fun z=>z)];exact q,fun b ps q=>⟨#[],by rw[zaJ (hm b _ q fun z=>z),q];simp⟩⟩
 by_cases hbe:b=e
 ·subst hbe;exact heo
 ·exact⟨u,k b u hbe q⟩
end
def trk(h:Heap)(H:Hp):List Addr:=(List.range h.objs.size).filter fun a=>(H a).isSome
def zlD(h:Heap)(H:Hp):Heap:=PySem.W.hideAll h (trk h H)
theorem zjJ(h:Heap)(H:Hp):(zlD h H).objs.size=h.objs.size:=PySem.W.hideAll_size _ _
theorem zlE{h:Heap}{H:Hp}{b:Addr}{o:Obj}(e:h.get? b=some o)(n:H b=none):(zlD h H).get? b=some o :=
 PySem.W.hideAll_get _ e fun hm=>by
  have q:(H b).isSome=true:=(mem_filter.mp hm).2
  rw[n] at q;simp at q
theorem zn0{h:Heap}{H:Hp}{b:Addr}{o:Obj}(e:(zlD h H).get? b=some o):h.get? b=some o/\H b=none:=by
 have e':h.get? b=some o:=PySem.W.of_hideAll (trk h H) e
 refine⟨e',?_⟩
 cases q:H b with
 | none=>rfl
 | some x =>
  have hm:b∈trk h H:=mem_filter.mpr ⟨mem_range.mpr (Heap.lt_size e'),by simp[q]⟩
  have z:(zlD h H).get? b=none:=PySem.W.hideAll_none (trk h H) hm
  rw[z] at e;cases e
def zn1(g h:Heap)(L:Addr):List (Addr×Obj):=(List.range h.objs.size).filterMap fun a=>if a=L\/(g.get? a).isSome=true then none else (h.get? a).map fun o=>(a,o)
def rest(g h:Heap)(L d:Addr):List (Addr×Obj):=(zn1 g h L).filter fun p=>decide (p.1≠d)
structure Mod (K:PySem.W.Frag) (mg:Str->Option Value) (base:Heap):Prop where
 kin:K.In base
 glob:base.Ns mainGlobals mg
 blt:∃mb,base.Ns builtinsNs mb/\∀x:Str,x ≠ "__name__" -> mb x=bootBuiltins x
 nolimit:base.NoLimit
structure Cx where
 prog:Program
 w:World
 K:PySem.W.Frag
 mg:Str->Option Value
 base:Heap
 A:Around
 N:List Str
 s₀:Shared
 H₀:Hp
 env:Env
 outer:List Env
 stack:List Env
 ex:List Addr
 fn:Str->Bool
 calm:Bool
 pn:List (Addr×Obj)
 xe:Value->Shared->Prop
def frs(l:List Env):List Addr:=l.filterMap (·.frame)
abbrev Cx.fs(X:Cx):List Addr:=frs X.outer
def Vis(sc:Scope)(x:Str):Prop:=sc.names.lookup x=some .local\/sc.names.lookup x=some .cell\/sc.names.lookup x=some .free
def Loc(sc:Scope)(x:Str):Prop:=sc.names.lookup x=some .local\/sc.names.lookup x=some .cell
def zuc(env:Env)(h:Heap)(m:Str->Option Value)(x:Str)(u:Value):Prop :=
 (env.kindOf x=some .local/\m x=some u)\/((env.kindOf x=some .cell\/env.kindOf x=some .free)/\∃c,env.cells.lookup x=some c/\h.IsCell c (some u))
structure Cx.Ok (X:Cx):Prop where
 mod:Mod X.K X.mg X.base
 kind:X.env.scope.kind=.function
 glob:X.env.globals=mainGlobals
 blt:X.env.builtins=builtinsNs
 above:X.s₀.heap.objs.size<=X.env.locals
 inj:∀x y c,X.env.cells.lookup x=some c->X.env.cells.lookup y=some c->x=y
 has:∀x,(X.env.kindOf x=some .cell\/X.env.kindOf x=some .free)->∃c,X.env.cells.lookup x=some c
 cab:∀x c,X.fn x=true->X.env.cells.lookup x=some c->X.s₀.heap.objs.size<=c
 hd:X.calm=true->X.A.handled=none
 frames:X.A.frames=some X.stack
 stk:X.stack=X.outer\/(X.stack=X.env::X.outer/\X.env.frame=some X.env.locals)
 exf:∀b∈X.ex,b≠X.env.locals/\∀x c,X.env.cells.lookup x=some c->c≠b
 bs:∀b o,X.base.get? b=some o->X.s₀.heap.get? b=some o/\X.H₀ b=none
 bsz:X.base.objs.size<=X.s₀.heap.objs.size
 noex:∀b o,X.base.get? b=some o->b∉X.ex
 exfs:∀b∈X.ex,b∉X.fs
 funs:X.s₀.heap.FunFrames X.base X.outer
 frf:∀b∈X.fs,X.H₀ b=none
structure Inv (X:Cx) (pins:List (Addr×Obj)) (σ:List (Option V)) (H:Hp) (s:Shared):Prop where
 ok:X.Ok
 os:s.os=X.s₀.os
 bare:AllBare s.gens
 base:Un X.fs X.ex X.H₀ H X.s₀.heap s.heap
 loc:∃m,s.heap.Ns X.env.locals m/\∀(i:Nat) (x:Str) (v:V),X.N[i]?=some x->σ[i]?=some (some v)->Vis X.env.scope x->∃u,RelV v u/\zuc X.env s.heap m x u
 cell:∀x c,X.env.cells.lookup x=some c->∃v,s.heap.IsCell c v
 free:H X.env.locals=none
 freeC:∀x c,X.env.cells.lookup x=some c->H c=none
 pin:∀p∈X.pn++pins,s.heap.get? p.1=some p.2/\H p.1=none/\p.1≠X.env.locals/\p.1∉X.fs/\∀v,p.2.data≠.cell v
 hok:HOk X.prog X.w H s.heap
 len:σ.length=X.N.length
section
variable {X:Cx} {pins:List (Addr×Obj)} {σ:List (Option V)} {H H':Hp} {s:Shared} {h':Heap}
theorem Cx.Ok.nofr(ok:X.Ok){b:Addr}{o:Obj}(e:X.base.get? b=some o):b∉X.fs:=fun hb=>by
 have:=(ok.funs.mem hb).1
 rw[e] at this;cases this
theorem Inv.bs(I:Inv X pins σ H s):∀b o,X.base.get? b=some o->s.heap.get? b=some o/\H b=none:=fun b o e =>
 ⟨I.base.keep b o (I.ok.bs b o e).1 (I.ok.bs b o e).2 (I.ok.nofr e) (I.ok.noex b o e),I.base.free b o (I.ok.bs b o e).1 (I.ok.bs b o e).2 (I.ok.noex b o e)⟩
theorem Inv.bk(I:Inv X pins σ H s):∀b o,X.base.get? b=some o->s.heap.get? b=some o:=fun b o e=>(I.bs b o e).1
theorem Inv.mod(I:Inv X pins σ H s):Mod X.K X.mg X.base:=I.ok.mod
theorem Inv.kIn(I:Inv X pins σ H s):X.K.In s.heap:=I.ok.mod.kin.keeps I.bk
theorem Inv.lt(I:Inv X pins σ H s):X.env.locals<s.heap.objs.size:=let ⟨_,hn,_⟩:=I.loc;hn.lt
theorem Inv.sz(I:Inv X pins σ H s):X.s₀.heap.objs.size<=s.heap.objs.size:=le_trans I.ok.above (le_of_lt I.lt)
theorem Inv.nofs(I:Inv X pins σ H s){a:Addr}(h:s.heap.objs.size<=a):a∉X.fs:=fun hb=>by
 obtain⟨_,o,ho,_⟩:=I.ok.funs.mem hb
 exact absurd (lt_of_lt_of_le (Heap.lt_size ho) (le_trans I.sz h)) (lt_irrefl _)
theorem Inv.cne(I:Inv X pins σ H s):∀x c,X.env.cells.lookup x=some c->c≠X.env.locals:=fun x c e z=>by
 obtain⟨v,o,ho,hd⟩:=I.cell x c e
 obtain⟨m,⟨o',es,ep,ho',hd',_⟩,_⟩:=I.loc
 rw[z,ho'] at ho;cases ho;rw[hd'] at hd;cases hd
theorem Inv.funs(I:Inv X pins σ H s):s.heap.FunFrames X.base X.outer:=by
 have all:∀(l:List Env),(∀b∈frs l,b∈X.fs)->X.s₀.heap.FunFrames X.base l->s.heap.FunFrames X.base l:=by
  intro l
  induction l with
  | nil=>intro _ _;trivial
  | cons env r ih =>
   intro hs hl
   obtain⟨hk,⟨L,o,hf,hn,ho,hd⟩,hr⟩:=hl
   have hL:L∈X.fs:=hs L (by unfold frs;rw[filterMap_cons,hf];exact mem_cons_self)
   obtain⟨sl,e⟩:=I.base.slot L o ho (I.ok.frf L hL) hL fun z=>I.ok.exfs L z hL
   exact⟨hk,⟨L,_,hf,hn,e,hd⟩,ih (fun b hb=>hs b (by unfold frs;rw[filterMap_cons,hf];exact mem_cons_of_mem _ hb)) hr⟩
 exact all X.outer (fun _ hb=>hb) I.ok.funs
theorem Inv.stack(I:Inv X pins σ H s):s.heap.FunFrames X.base X.stack:=by
 rcases I.ok.stk with e|⟨e,hf⟩
 ·rw[e];exact I.funs
 ·rw[e]
  obtain⟨m,hn,_⟩:=I.loc
  refine .cons (by rw[I.ok.kind];decide) hf hn ?_ I.funs
  exact Heap.get?_none_of_le (le_trans I.ok.bsz I.ok.above)
theorem Inv.stkSub(I:Inv X pins σ H s):∀b∈frs X.stack,b∈X.env.locals::X.fs:=fun b hb=>by
 rcases I.ok.stk with e|⟨e,hf⟩
 ·rw[e] at hb;exact mem_cons_of_mem _ hb
 ·rw[e] at hb
  unfold frs at hb
  rw[filterMap_cons,hf] at hb
  exact hb
theorem Inv.stkFree(I:Inv X pins σ H s):∀b∈frs X.stack,H b=none:=fun b hb=>by
 rcases mem_cons.mp (I.stkSub b hb) with e|hb
 ·rw[e];exact I.free
 ·obtain⟨_,o,ho,_⟩:=I.ok.funs.mem hb
  exact I.base.free b o ho (I.ok.frf b hb) fun z=>I.ok.exfs b z hb
theorem Inv.step{g':Array GenState}{t':Nat}{d':Drawn}{ch:List Addr}(I:Inv X pins σ H s)(hch:∀b∈ch,(b∈X.ex\/X.s₀.heap.objs.size<=b)/\b≠X.env.locals/\(∀x c,X.env.cells.lookup x=some c->c≠b)/\∀p∈X.pn++pins,p.1≠b)(keep:∀b o,b≠X.env.locals->b∉X.fs->b∉ch->s.heap.get? b=some o->H b=none->h'.get? b=some o)(slot:∀b o,b≠X.env.locals->b∈X.fs->b∉ch->s.heap.get? b=some o->H b=none->∃sl,h'.get? b=some { o with slots:=sl })(free:∀b o,b∉ch->s.heap.get? b=some o->H b=none->H' b=none)(there:∀b o,b∉ch->s.heap.get? b=some o->∃o',h'.get? b=some o')(tups:∀b xs,H b=some (.tup xs)->H' b=some (.tup xs))(frzs:∀b o u,H b=some (.frz o u)->H' b=some (.frz o u))(tbls:∀b ps,H b=some (.tbl ps)->∃more,H' b=some (.tbl (ps++more)))(ns:∀m,s.heap.Ns X.env.locals m->h'.Ns X.env.locals m)(hok:HOk X.prog X.w H' h')(hg:AllBare g') :
  Inv X pins σ H' { s with heap:=h',gens:=g',drawn:=d',toks:=t' }:=by
 have neL:∀b o,X.s₀.heap.get? b=some o->b≠X.env.locals:=fun b o e=>ne_of_lt (lt_of_lt_of_le (Heap.lt_size e) I.ok.above)
 have neC:∀b o,X.s₀.heap.get? b=some o->b∉X.ex->b∉ch:=fun b o e hx hb=>by
  rcases(hch b hb).1 with z|z
  ·exact hx z
  ·exact absurd (lt_of_lt_of_le (Heap.lt_size e) z) (lt_irrefl _)
 have cellK:∀x c,X.env.cells.lookup x=some c->∀v,s.heap.IsCell c v->h'.IsCell c v:=fun x c e v ⟨o,ho,hd⟩=>by
  have nch:c∉ch:=fun z=>(hch c z).2.2.1 x c e rfl
  by_cases hc:c∈X.fs
  ·obtain⟨sl,q⟩:=slot c o (I.cne x c e) hc nch ho (I.freeC x c e)
   exact⟨_,q,hd⟩
  ·exact⟨o,keep c o (I.cne x c e) hc nch ho (I.freeC x c e),hd⟩
 refine⟨I.ok,I.os,hg,⟨fun b o e n hb hx=>?_,fun b o e n hb hx=>?_,fun b o e n hx=>?_,fun b o e hx=>?_,fun b xs e=>tups b xs (I.base.tups b xs e),fun b o xs e=>frzs b o xs (I.base.frzs b o xs e),fun b ps e=>?_⟩,?_,fun x c e=>?_,?_,fun x c e=>?_,fun p hp=>?_,hok,I.len⟩
 ·exact keep b o (neL b o e) hb (neC b o e hx) (I.base.keep b o e n hb hx) (I.base.free b o e n hx)
 ·obtain⟨sl,e1⟩:=I.base.slot b o e n hb hx
  obtain⟨sl',e2⟩:=slot b _ (neL b o e) hb (neC b o e hx) e1 (I.base.free b o e n hx)
  exact⟨sl',e2⟩
 ·obtain⟨o',e1⟩:=I.base.there b o e hx
  exact free b o' (neC b o e hx) e1 (I.base.free b o e n hx)
 ·obtain⟨o',e1⟩:=I.base.there b o e hx
  exact there b o' (neC b o e hx) e1
 ·obtain⟨m1,e1⟩:=I.base.tbls b ps e
  obtain⟨m2,e2⟩:=tbls b _ e1
  exact⟨m1++m2,by rw[e2,Array.append_assoc]⟩
 ·obtain⟨m,hn,hl⟩:=I.loc
  refine⟨m,ns m hn,fun i x v e1 e2 e3=>?_⟩
  obtain⟨u,r,l⟩:=hl i x v e1 e2 e3
  refine⟨u,r,?_⟩
  rcases l with l|⟨k,c,e,z⟩
  ·exact .inl l
  ·exact .inr ⟨k,c,e,cellK x c e _ z⟩
 ·obtain⟨v,z⟩:=I.cell x c e
  exact⟨v,cellK x c e v z⟩
 ·obtain⟨m,⟨o,_,_,ho,_⟩,_⟩:=I.loc
  exact free _ o (fun z=>(hch _ z).2.1 rfl) ho I.free
 ·obtain⟨v,o,ho,hd⟩:=I.cell x c e
  exact free c o (fun z=>(hch c z).2.2.1 x c e rfl) ho (I.freeC x c e)
 ·obtain⟨e,n,ne,nf,d⟩:=I.pin p hp
  have nch:p.1∉ch:=fun z=>(hch p.1 z).2.2.2 p hp rfl
  exact⟨keep p.1 p.2 ne nf nch e n,free p.1 p.2 nch e n,ne,nf,d⟩
theorem Inv.un{t':Nat}(I:Inv X pins σ H s)(u:Un X.fs [] H H' s.heap h')(hok:HOk X.prog X.w H' h'):Inv X pins σ H' { s with heap:=h',toks:=t' }:=by
 obtain⟨m,⟨o,es,ep,ho,r⟩,_⟩:=id I.loc
 obtain⟨sl,hL⟩:=u.any ho I.free (by simp)
 exact I.step (g':=s.gens) (d':=s.drawn) (ch:=[]) (fun _ z=>nomatch z) (fun b o _ hb _ e n=>u.keep b o e n hb (by simp)) (fun b o _ hb _ e n=>u.slot b o e n hb (by simp)) (fun b o _ e n=>u.free b o e n (by simp)) (fun b o _ e=>u.there b o e (by simp)) u.tups u.frzs u.tbls (fun m' hm=>by
  obtain⟨o',es',ep',ho',r'⟩:=hm
  rw[ho] at ho';cases ho'
  exact⟨_,es',ep',hL,r'⟩) hok I.bare
theorem Inv.call{g':Array GenState}{t':Nat}{d':Drawn}{ch:List Addr}(I:Inv X pins σ H s)(u:Un (frs X.stack) ch H H' s.heap h')(hok:HOk X.prog X.w H' h')(hg:AllBare g')(hch:∀b∈ch,(b∈X.ex\/X.s₀.heap.objs.size<=b)/\b≠X.env.locals/\(∀x c,X.env.cells.lookup x=some c->c≠b)/\∀p∈X.pn++pins,p.1≠b) :
  Inv X pins σ H' { s with heap:=h',gens:=g',drawn:=d',toks:=t' }:=by
 obtain⟨m,⟨o,es,ep,ho,r⟩,_⟩:=id I.loc
 obtain⟨sl,hL⟩:=u.any ho I.free fun z=>(hch _ z).2.1 rfl
 exact I.step (ch:=ch) hch (fun b o hL hb hc e n=>u.keep b o e n (fun z=>(mem_cons.mp (I.stkSub b z)).elim hL hb) hc) (fun b o _ _ hc e n=>u.any e n hc) (fun b o hc e n=>u.free b o e n hc) (fun b o hc e=>u.there b o e hc) u.tups u.frzs u.tbls (fun m' hm=>by
  obtain⟨o',es',ep',ho',r'⟩:=hm
  rw[ho] at ho';cases ho'
  exact⟨_,es',ep',hL,r'⟩) hok hg
theorem Inv.turned{t':Nat}{it:Addr}(I:Inv X pins σ H s)(k:∀b o,b≠it->s.heap.get? b=some o->h'.get? b=some o)(hn:H it=none)(hL:it≠X.env.locals)(h1:it∈X.ex\/X.s₀.heap.objs.size<=it)(h2:∀x c,X.env.cells.lookup x=some c->c≠it)(h3:∀p∈X.pn++pins,p.1≠it):Inv X pins σ H { s with heap:=h',toks:=t' }:=by
 have nit:∀b u,H b=some u->b≠it:=fun b u e z=>by rw[z,hn] at e;cases e
 refine I.step (g':=s.gens) (d':=s.drawn) (ch:=[it]) (fun b hb=>?_) (fun b o _ _ hc e _=>k b o (fun z=>hc (by simp[z])) e) (fun b o _ _ hc e _=>⟨o.slots,k b o (fun z=>hc (by simp[z])) e⟩) (fun _ _ _ _ n=>n)
  (fun b o hc e=>⟨o,k b o (fun z=>hc (by simp[z])) e⟩) (fun _ _ e=>e) (fun _ _ _ e=>e) (fun b ps e=>⟨#[],by rw[e];simp⟩) (fun m hm=>?_) (fun b u e=>?_) I.bare
 ·have e:b=it:=by simpa using hb
  subst e
  exact⟨h1,hL,h2,h3⟩
 ·obtain⟨o,es,ep,ho,r⟩:=hm
  exact⟨o,es,ep,k _ o (Ne.symm hL) ho,r⟩
 ·refine(I.hok b u e).stay (fun c v hc q=>k c v ?_ q) (fun _ q=>q) fun _ _ q=>q
  rcases hc with z|z
  ·rw[z];exact nit b u e
  ·exact nit c _ z
theorem Inv.tok(I:Inv X pins σ H s)(t:Nat):Inv X pins σ H { s with toks:=t }:=I.un (h':=s.heap) (t':=t) Un.refl I.hok
theorem Inv.kept{t':Nat}(I:Inv X pins σ H s)(k:∀b u,s.heap.get? b=some u->h'.get? b=some u):Inv X pins σ H { s with heap:=h',toks:=t' }:=I.un (Un.kept k) (I.hok.kept k)
theorem Inv.laid{a:Addr}{o:HO}{t':Nat}(I:Inv X pins σ H s)(k:∀b u,s.heap.get? b=some u->h'.get? b=some u)(hp:s.heap.objs.size<=a)(new:ObjOk X.prog X.w (upd H a o) h' a o) :
  Inv X pins σ (upd H a o) { s with heap:=h',toks:=t' }:=I.un (Un.laid k hp (I.hok.fresh hp)) (I.hok.laid k hp new)
theorem Inv.write{x e:Addr}{o:HO}{t':Nat}(I:Inv X pins σ H s)(mu:Mut (H x))(he:e=x\/H e=some (.own x))(k:∀b u,b≠e->s.heap.get? b=some u->h'.get? b=some u)(heo:∃u,h'.get? e=some u)(new:ObjOk X.prog X.w (upd H x o) h' x o):Inv X pins σ (upd H x o) { s with heap:=h',toks:=t' }:=I.un (Un.write mu he k heo) (I.hok.write mu he k heo new)
theorem Inv.weak{σ':List (Option V)}(I:Inv X pins σ H s)(hl:σ'.length=σ.length)(w:∀(i:Nat) v,σ'[i]?=some (some v)->σ[i]?=some (some v)):Inv X pins σ' H s :=
 ⟨I.ok,I.os,I.bare,I.base,let ⟨m,hn,hl'⟩:=I.loc;⟨m,hn,fun i x v e1 e2 e3=>hl' i x v e1 (w i v e2) e3⟩,I.cell,I.free,I.freeC,I.pin,I.hok,hl.trans I.len⟩
theorem Inv.pins_of{pins':List (Addr×Obj)}(I:Inv X pins σ H s)(h:∀p∈pins',s.heap.get? p.1=some p.2/\H p.1=none/\p.1≠X.env.locals/\p.1∉X.fs/\∀v,p.2.data≠.cell v):Inv X pins' σ H s :=
 ⟨I.ok,I.os,I.bare,I.base,I.loc,I.cell,I.free,I.freeC,fun p hp=>(mem_append.mp hp).elim (fun z=>I.pin p (mem_append_left _ z)) (h p),I.hok,I.len⟩
theorem zh9{N:List Str}(hN:N.Nodup){i j:Nat}{x:Str}(a:N[i]?=some x)(b:N[j]?=some x):i=j:=by
 obtain⟨h1,e1⟩:=List.getElem?_eq_some_iff.mp a
 obtain⟨h2,e2⟩:=List.getElem?_eq_some_iff.mp b
 exact(getElem_inj hN).mp (e1.trans e2.symm)
theorem zjK{M:Model}{A:Around}{E:Value->Shared->Prop}{i:Nat}{x:Str}{v:V}{u:Value}{Q:Unit->Shared->Prop}(I:Inv X pins σ H s)(hN:X.N.Nodup)(hi:X.N[i]?=some x)(hx:Loc X.env.scope x)(r:RelV v u)(h:∀s',Inv X pins (σ.set i (some v)) H s'->(∃a,Heap.SameBut a s.heap s'.heap/\(a=X.env.locals\/X.env.cells.lookup x=some a))->Q () s')(hf:X.fn x=true\/X.env.scope.names.lookup x=some .local:=by first|exact .inl rfl|exact .inr rfl|assumption):wpAny M A (storeName X.env x u) Q E s:=by
 obtain⟨m,hn,hl⟩:=id I.loc
 have hcls:(X.env.scope.kind==.class||(X.env.scope.kind==.module&&X.env.locals != X.env.globals))=false:=by rw[I.ok.kind];rfl
 have hiσ:i<σ.length:=by rw[I.len];exact(List.getElem?_eq_some_iff.mp hi).1
 have cne:=I.cne
 have tracked:∀{a:Addr} {h':Heap},(∃o,s.heap.get? a=some o/\H a=none)->Heap.SameBut a s.heap h'->HOk X.prog X.w H h':=fun {a h'} ha hs b ob e=>by
  obtain⟨_,_,hfree⟩:=ha
  refine(I.hok b ob e).stay (fun c w' hc q=>(hs.2 c ?_).trans q) (fun _ q=>q) fun _ _ q=>q
  rintro rfl
  rcases hc with rfl|hc
  ·rw[hfree] at e;cases e
  ·rw[hfree] at hc;cases hc
 rcases hx with hk|hk
 ·refine wpAny_storeName_local hk hn (fun h' hn' hs=>?_) hcls
  obtain⟨oL,_,_,hoL,_⟩:=id hn
  refine h _ ⟨I.ok,I.os,I.bare,⟨fun b o e n hb hx=>?_,fun b o e n hb hx=>?_,I.base.free,fun b o e hx=>?_,I.base.tups,I.base.frzs,I.base.tbls⟩,⟨_,hn',fun j y v' e1 e2 e3=>?_⟩,fun y c e=>?_,I.free,I.freeC,fun p hp=>?_,tracked ⟨oL,hoL,I.free⟩ hs,by simpa using I.len⟩ ⟨_,hs,.inl rfl⟩
  ·exact(hs.2 b (ne_of_lt (lt_of_lt_of_le (Heap.lt_size e) I.ok.above))).trans (I.base.keep b o e n hb hx)
  ·obtain⟨sl,e1⟩:=I.base.slot b o e n hb hx
   exact⟨sl,(hs.2 b (ne_of_lt (lt_of_lt_of_le (Heap.lt_size e) I.ok.above))).trans e1⟩
  ·obtain⟨o',e1⟩:=I.base.there b o e hx
   exact⟨o',(hs.2 b (ne_of_lt (lt_of_lt_of_le (Heap.lt_size e) I.ok.above))).trans e1⟩
  ·by_cases hj:j=i
   ·subst hj
    rw[hi] at e1;cases e1
    rw[getElem?_set_self hiσ] at e2
    cases e2
    exact⟨u,r,.inl ⟨hk,by simp⟩⟩
   ·rw[getElem?_set_ne (Ne.symm hj)] at e2
    obtain⟨u',r',q⟩:=hl j y v' e1 e2 e3
    refine⟨u',r',?_⟩
    rcases q with ⟨k,e⟩|⟨k,c,e,z⟩
    ·refine .inl ⟨k,?_⟩
     have:y≠x:=fun e=>hj (zh9 hN e1 (e▸hi))
     simp[this,e]
    ·exact .inr ⟨k,c,e,z.sameBut hs (cne y c e)⟩
  ·obtain⟨w',z⟩:=I.cell y c e
   exact⟨w',z.sameBut hs (cne y c e)⟩
  ·obtain⟨e,n,ne,nf,d⟩:=I.pin p hp
   exact⟨(hs.2 p.1 ne).trans e,n,ne,nf,d⟩
 ·have hfn:X.fn x=true:=by
   rcases hf with z|z
   ·exact z
   ·rw[z] at hk;cases hk
  obtain⟨c,hc⟩:=I.ok.has x (.inl hk)
  obtain⟨w',z⟩:=I.cell x c hc
  refine wpAny_storeName_cell I.ok.kind hk hc z (fun h' hc' hs=>?_)
  obtain⟨oc,hoc,hocd⟩:=id z
  refine h { s with heap:=h' } ⟨I.ok,I.os,I.bare,⟨fun b o e n hb hx=>?_,fun b o e n hb hx=>?_,I.base.free,fun b o e hx=>?_,I.base.tups,I.base.frzs,I.base.tbls⟩,⟨m,hn.sameBut hs (Ne.symm (cne x c hc)),fun j y v' e1 e2 e3=>?_⟩,fun y c' e=>?_,I.free,I.freeC,fun p hp=>?_,tracked ⟨oc,hoc,I.freeC x c hc⟩ hs,by simpa using I.len⟩ ⟨c,hs,.inr hc⟩
  ·exact(hs.2 b (ne_of_lt (lt_of_lt_of_le (Heap.lt_size e) (I.ok.cab x c hfn hc)))).trans (I.base.keep b o e n hb hx)
  ·obtain⟨sl,e1⟩:=I.base.slot b o e n hb hx
   exact⟨sl,(hs.2 b (ne_of_lt (lt_of_lt_of_le (Heap.lt_size e) (I.ok.cab x c hfn hc)))).trans e1⟩
  ·obtain⟨o',e1⟩:=I.base.there b o e hx
   exact⟨o',(hs.2 b (ne_of_lt (lt_of_lt_of_le (Heap.lt_size e) (I.ok.cab x c hfn hc)))).trans e1⟩
  ·by_cases hj:j=i
   ·subst hj
    rw[hi] at e1;cases e1
    rw[getElem?_set_self hiσ] at e2
    cases e2
    exact⟨u,r,.inr ⟨.inl hk,c,hc,hc'⟩⟩
   ·rw[getElem?_set_ne (Ne.symm hj)] at e2
    obtain⟨u',r',q⟩:=hl j y v' e1 e2 e3
    refine⟨u',r',?_⟩
    rcases q with q|⟨k,c',e,z'⟩
    ·exact .inl q
    ·refine .inr ⟨k,c',e,z'.sameBut hs ?_⟩
     rintro rfl
     exact hj (zh9 hN e1 (I.ok.inj _ _ _ e hc▸hi))
  ·by_cases hcc:c'=c
   ·subst hcc;exact⟨_,hc'⟩
   ·obtain⟨w2,z2⟩:=I.cell y c' e
    exact⟨w2,z2.sameBut hs hcc⟩
  ·obtain⟨e,n,ne,nf,d⟩:=I.pin p hp
   refine⟨(hs.2 p.1 ?_).trans e,n,ne,nf,d⟩
   intro q
   rw[q,hoc] at e
   have q':oc=p.2:=Option.some.inj e
   exact d w' (by rw[<- q'];exact hocd)
theorem zfN{M:Model}{A:Around}{E:Value->Shared->Prop}{i:Nat}{x:Str}{v:V}{u:Value}{Q:Unit->Shared->Prop}(I:Inv X pins σ H s)(hN:X.N.Nodup)(hi:X.N[i]?=some x)(hx:Loc X.env.scope x)(r:RelV v u)(h:∀s',Inv X pins (σ.set i (some v)) H s'->Q () s')(hf:X.fn x=true\/X.env.scope.names.lookup x=some .local:=by first|exact .inl rfl|exact .inr rfl|assumption):wpAny M A (storeName X.env x u) Q E s :=
 zjK I hN hi hx r (fun s' I' _=>h s' I') hf
theorem Inv.call'{s':Shared}{ch:List Addr}(I:Inv X pins σ H s)(ho:s'.os=s.os)(u:Un (frs X.stack) ch H H' s.heap s'.heap)(hok:HOk X.prog X.w H' s'.heap)(hg:AllBare s'.gens)(hch:∀b∈ch,(b∈X.ex\/X.s₀.heap.objs.size<=b)/\b≠X.env.locals/\(∀x c,X.env.cells.lookup x=some c->c≠b)/\∀p∈X.pn++pins,p.1≠b):Inv X pins σ H' s':=by
 obtain⟨h',g',d',t',o'⟩:=s'
 have e:o'=s.os:=ho
 subst e
 exact I.call (g':=g') (t':=t') (d':=d') u hok hg hch
end
abbrev XK:=Value->Option Addr->Hp->Prop
abbrev St:=List (Option V)
abbrev VK:=V->Hp->Prop
abbrev TE:=St->Hp->VK->Prop
abbrev TT:=St->Hp->(Bool->Hp->Prop)->Prop
abbrev TA:=St->Hp->(List V->Hp->Prop)->Prop
structure Ends where
 nx:St->Hp->Prop
 rt:VK
 bk:St->Hp->Prop:=fun _ _=>False
 ct:St->Hp->Prop:=fun _ _=>False
abbrev TS:=Ends->St->Hp->Prop
def EP(X:Cx)(pins:List (Addr×Obj))(σ:St)(Q:VK)(u:Value)(s':Shared):Prop:=∃v H',Inv X pins σ H' s'/\RelV v u/\Q v H'
def TP(X:Cx)(pins:List (Addr×Obj))(σ:St)(Q:Bool->Hp->Prop)(b:Bool)(s':Shared):Prop:=∃H',Inv X pins σ H' s'/\Q b H'
def AP(X:Cx)(pins:List (Addr×Obj))(σ:St)(Q:List V->Hp->Prop)(us:List Value)(s':Shared):Prop:=∃vs H',Inv X pins σ H' s'/\Vals vs us/\Q vs H'
def SP(X:Cx)(pins:List (Addr×Obj))(D:Ends)(f:Flow)(s':Shared):Prop :=
 match f with
 | .next=>∃σ' H',Inv X pins σ' H' s'/\D.nx σ' H'
 | .brk=>∃σ' H',Inv X pins σ' H' s'/\D.bk σ' H'
 | .cont=>∃σ' H',Inv X pins σ' H' s'/\D.ct σ' H'
 | .ret u=>∃v σ' H',Inv X pins σ' H' s'/\RelV v u/\D.rt v H'
def PE(X:Cx)(e:Expr)(t:TE):Prop :=
 ∀(pins:List (Addr×Obj)) (s:Shared) (σ:St) (H:Hp) (Q:VK),Inv X pins σ H s->t σ H Q->wpAny (model X.prog X.w) X.A (eval e X.env) (EP X pins σ Q) X.xe s
def PT(X:Cx)(e:Expr)(t:TT):Prop :=
 ∀(pins:List (Addr×Obj)) (s:Shared) (σ:St) (H:Hp) (Q:Bool->Hp->Prop),Inv X pins σ H s->t σ H Q->wpAny (model X.prog X.w) X.A (isTrue e X.env (eval e X.env)) (TP X pins σ Q) X.xe s
def PW(X:Cx)(e:Expr)(t:TT):Prop :=
 ∀(whole:Sem Value) (pins:List (Addr×Obj)) (s:Shared) (σ:St) (H:Hp) (Q:Bool->Hp->Prop),Inv X pins σ H s->t σ H Q->wpAny (model X.prog X.w) X.A (isTrue e X.env whole) (TP X pins σ Q) X.xe s
theorem PW.pt{X:Cx}{e:Expr}{t:TT}(h:PW X e t):PT X e t:=h _
def PA(X:Cx)(es:List Expr)(t:TA):Prop :=
 ∀(pos:Pos) (pins:List (Addr×Obj)) (s:Shared) (σ:St) (H:Hp) (Q:List V->Hp->Prop),Inv X pins σ H s->t σ H Q->wpAny (model X.prog X.w) X.A (spliced (backTo pos (starEach es X.env))) (AP X pins σ Q) X.xe s
def PS(X:Cx)(st:Stmt)(t:TS):Prop :=
 ∀(pins:List (Addr×Obj)) (s:Shared) (σ:St) (H:Hp) (D:Ends),Inv X pins σ H s->t D σ H->wpAny (model X.prog X.w) X.A (exec st X.env) (SP X pins D) X.xe s
def PSs(X:Cx)(st:List Stmt)(t:TS):Prop :=
 ∀(pins:List (Addr×Obj)) (s:Shared) (σ:St) (H:Hp) (D:Ends),Inv X pins σ H s->t D σ H->wpAny (model X.prog X.w) X.A (execs st X.env) (SP X pins D) X.xe s
theorem thn{α:Type}{t:Sem α}{Q Q':α->Shared->Prop}{M:Model}{A:Around}{E:Value->Shared->Prop}{s:Shared}(h:wpAny M A t Q E s)(hQ:∀a s,Q a s->Q' a s):wpAny M A t Q' E s:=wpAny_mono h hQ fun _ _ x=>x
section
variable {X:Cx}
def zud(i:Nat):TE:=fun σ H Q=>∃v,σ[i]?=some (some v)/\Q v H
def tC(v:V):TE:=fun _ H Q=>Q v H
theorem zm3{i:Nat}{x:Str}{pos:Pos}(hN:X.N[i]?=some x)(hv:Vis X.env.scope x)(hd:(x==("__debug__" : Str))=false:=by decide)(hcd:(x==("__classdict__" : Str))=false:=by decide):PE X (.Name x pos) (zud i):=by
 intro pins s σ H Q I h
 obtain⟨v,e,h⟩:=h
 obtain⟨m,hn,hl⟩:=I.loc
 obtain⟨u,r,l⟩:=hl i x v hN e hv
 have fin:EP X pins σ Q u s:=⟨v,H,I,r,h⟩
 rcases l with ⟨hk,hm⟩|⟨hk,c,hc,hcell⟩
 ·exact wpAny_Name (wpAny_loadName_local I.ok.kind hk hn hm fin) hd
 ·rcases hk with hk|hk
  ·exact wpAny_Name (wpAny_loadName_cell I.ok.kind hk hc hcell fin) hd
  ·exact wpAny_Name (wpAny_loadName_free I.ok.kind hk hc hcell fin hcd) hd
theorem zpL{i j pos}:PE X (.Constant (.int i) j pos) (tC (.int i)):=fun _ _ _ H _ I h=>wpAny_Constant_int ⟨.int i,H,I.tok _,⟨_,rfl⟩,h⟩
theorem zsf{b j pos}:PE X (.Constant (.bool b) j pos) (tC (.bl b)):=fun _ _ _ H _ I h=>Constant_bool ⟨.bl b,H,I,rfl,h⟩
theorem zpM{j pos}:PE X (.Constant .none j pos) (tC .non):=fun _ _ _ H _ I h=>Constant_none ⟨.non,H,I,rfl,h⟩
theorem zpN{x j pos}:PE X (.Constant (.str x) j pos) (tC (.str x)):=fun _ _ _ H _ I h=>Calls.Constant_str ⟨.str x,H,I.tok _,⟨_,rfl⟩,h⟩
def Gl(X:Cx)(x:Str):Prop:=X.env.kindOf x=some .globalImplicit
theorem zcw{E:Value->Shared->Prop}{pins:List (Addr×Obj)}{s:Shared}{σ:St}{H:Hp}{x:Str}{u:Value}{pos:Pos}{Q:Value->Shared->Prop}(I:Inv X pins σ H s)(hg:Gl X x)(hm:X.mg x=some u)(h:Q u s)(hd:(x==("__debug__" : Str))=false:=by decide):wpAny (model X.prog X.w) X.A (eval (.Name x pos) X.env) Q E s :=
 Calls.Name_function_global I.ok.kind hg (Calls.loadGlobal_global (by rw[I.ok.glob];exact I.mod.glob.keeps I.bk) hm h) hd
theorem zia{E:Value->Shared->Prop}{pins:List (Addr×Obj)}{s:Shared}{σ:St}{H:Hp}{x:Str}{u:Value}{pos:Pos}{Q:Value->Shared->Prop}(I:Inv X pins σ H s)(hg:Gl X x)(hm:X.mg x=none)(hv:bootBuiltins x=some u)(h:Q u s)(hn:x ≠ "__name__" := by decide)(hd:(x==("__debug__" : Str))=false:=by decide):wpAny (model X.prog X.w) X.A (eval (.Name x pos) X.env) Q E s:=by
 obtain⟨mb,h1,h2⟩:=I.mod.blt
 exact Calls.Name_function_global I.ok.kind hg (Calls.loadGlobal_builtin (by rw[I.ok.glob];exact I.mod.glob.keeps I.bk) hm (by rw[I.ok.blt];exact h1.keeps I.bk) ((h2 x hn).trans hv) h) hd
theorem zn2{x:Str}{v:V}{u:Value}{pos:Pos}(hg:Gl X x)(hm:X.mg x=some u)(r:RelV v u)(hd:(x==("__debug__" : Str))=false:=by decide):PE X (.Name x pos) (tC v) :=
 fun _ _ _ H _ I h=>zcw I hg hm ⟨v,H,I,r,h⟩ hd
variable {a b:Expr} {ta tb:TE} {pos:Pos}
def PC(X:Cx)(op:CmpOp)(a b:Expr)(t:TE):Prop :=
 ∀(pins:List (Addr×Obj)) (s:Shared) (σ:St) (H:Hp) (Q:VK),Inv X pins σ H s->t σ H Q ->
  wpAny (model X.prog X.w) X.A (eval a X.env) (fun v s₁=>wpAny (model X.prog X.w) X.A (eval b X.env) (fun u s₂=>wpAny (model X.prog X.w) X.A (compareOp op v u) (EP X pins σ Q) X.xe s₂) X.xe s₁) X.xe s
def zue(ta:TE):TE:=fun σ H Q=>ta σ H fun x H1=>Q (.bl (decide (x=.non))) H1
def zsg(ta:TE):TE:=fun σ H Q=>ta σ H fun x H1=>Q (.bl (!decide (x=.non))) H1
theorem RelV.none_iff{x:V}{v:Value}(r:RelV x v):(v==Value.none)=decide (x=.non):=by
 cases x with
 | non=>cases r;rfl
 | bl _=>cases r;rfl
 | int _=>obtain⟨t,rfl⟩:=r;rfl
 | str _=>obtain⟨t,rfl⟩:=r;rfl
 | byt _=>obtain⟨t,rfl⟩:=r;rfl
 | flt _=>obtain⟨t,rfl⟩:=r;rfl
 | ref _=>cases r;rfl
 | ty _=>cases r;rfl
theorem zpO{j pos'}(ha:PE X a ta):PC X .Is a (.Constant .none j pos') (zue ta):=by
 intro pins s σ H Q I h
 refine thn (ha pins s σ H _ I h) fun v s1 ⟨x,H1,I1,r1,q1⟩=>?_
 exact Constant_none (is_none_gen ⟨.bl _,H1,I1,by rw[r1.none_iff];rfl,q1⟩)
theorem zn3{j pos'}(ha:PE X a ta):PC X .IsNot a (.Constant .none j pos') (zsg ta):=by
 intro pins s σ H Q I h
 refine thn (ha pins s σ H _ I h) fun v s1 ⟨x,H1,I1,r1,q1⟩=>?_
 exact Constant_none (isnot_none_gen ⟨.bl _,H1,I1,by rw[r1.none_iff];rfl,q1⟩)
def tB(t:TE):TT:=fun σ H Q=>t σ H fun x H1=>∃c,x=.bl c/\Q c H1
theorem zpP{op:CmpOp}{t:TE}(h:PC X op a b t)(h1:behindInMarks op b=false:=by first|exact nobehind _ (by decide) (by decide)|rfl):PT X (.Compare a [op] [b] pos) (tB t):=by
 intro pins s σ H Q I hw
 refine wpAny_isTrue_Compare1 (thn (h pins s σ H _ I hw) fun v s1 h1=>thn h1 fun u s2 h2=>thn h2 fun c s3 ⟨x,H1,I1,r1,q1⟩=>?_) h1
 obtain⟨d,rfl,q⟩:=q1
 cases r1
 exact wpAny_truthy_bool ⟨H1,I1,q⟩
theorem zpQ{e:Expr}{t:TE}(h:PE X e t)(he:∀whole,isTrue e X.env whole=(do let v <- whole;standAt e.pos;holding [v] (truthy v)):=by intro _;rfl):PT X e (tB t):=by
 intro pins s σ H Q I hw
 refine isTrue_plain (thn (h pins s σ H _ I hw) fun v s1 ⟨x,H1,I1,r1,q1⟩=>?_) (he _)
 obtain⟨d,rfl,q⟩:=q1
 cases r1
 exact wpAny_truthy_bool ⟨H1,I1,q⟩
variable {tA tB':TT} {rest:List Expr}
def zuf(t u:TT):TT:=fun σ H Q=>t σ H fun c H1=>if c=true then u σ H1 Q else Q false H1
def tOr(t u:TT):TT:=fun σ H Q=>t σ H fun c H1=>if c=true then Q true H1 else u σ H1 Q
def zug(t:TT):TT:=fun σ H Q=>t σ H fun c H1=>Q (!c) H1
theorem zn4(ha:PT X a tA):PW X (.BoolOp .And [a] pos) tA:=by
 intro wh pins s σ H Q I h
 refine isTrue_and (thn (ha pins s σ H Q I h) fun c s1 e=>?_)
 cases c with
 | true=>exact isTrue_and_nil e
 | false=>exact e
theorem zpR(ha:PT X a tA):PW X (.BoolOp .Or [a] pos) tA:=by
 intro wh pins s σ H Q I h
 refine isTrue_or (thn (ha pins s σ H Q I h) fun c s1 e=>?_)
 cases c with
 | false=>exact isTrue_or_nil e
 | true=>exact e
theorem zpS(ha:PT X a tA)(hb:PW X (.BoolOp .And (b::rest) pos) tB'):PW X (.BoolOp .And (a::b::rest) pos) (zuf tA tB'):=by
 intro wh pins s σ H Q I h
 refine isTrue_and (thn (ha pins s σ H _ I h) fun c s1 ⟨H1,I1,q1⟩=>?_)
 cases c with
 | true=>exact hb wh pins s1 σ H1 Q I1 q1
 | false=>exact⟨H1,I1,q1⟩
theorem zsh(ha:PT X a tA)(hb:PW X (.BoolOp .Or (b::rest) pos) tB'):PW X (.BoolOp .Or (a::b::rest) pos) (tOr tA tB'):=by
 intro wh pins s σ H Q I h
 refine isTrue_or (thn (ha pins s σ H _ I h) fun c s1 ⟨H1,I1,q1⟩=>?_)
 cases c with
 | true=>exact⟨H1,I1,q1⟩
 | false=>exact hb wh pins s1 σ H1 Q I1 q1
theorem zpT(ha:PT X a tA):PT X (.UnaryOp .Not a pos) (zug tA):=by
 intro pins s σ H Q I h
 exact isTrue_not (ha pins s σ H (fun c H1=>Q (!c) H1) I h)
def zsi(ta tb:TE):TE:=fun σ H Q=>ta σ H fun x H1=>∃c,x=.bl c/\if c=true then tb σ H1 Q else Q (.bl false) H1
def zuh(ta tb:TE):TE:=fun σ H Q=>ta σ H fun x H1=>∃c,x=.bl c/\if c=true then Q (.bl true) H1 else tb σ H1 Q
def zsj(ta:TE):TE:=fun σ H Q=>ta σ H fun x H1=>∃c,x=.bl c/\Q (.bl (!c)) H1
theorem zpU{op}{t:TE}(h:PE X a t):PE X (.BoolOp op [a] pos) t:=fun pins s σ H Q I hw=>BoolOp_one (h pins s σ H Q I hw)
theorem zpV(ha:PE X a ta)(hb:PE X (.BoolOp .And (b::rest) pos) tb):PE X (.BoolOp .And (a::b::rest) pos) (zsi ta tb):=by
 intro pins s σ H Q I h
 refine BoolOp_and (thn (ha pins s σ H _ I h) fun v s1 ⟨x,H1,I1,r1,q1⟩=>?_)
 obtain⟨c,rfl,q1⟩:=q1
 cases r1
 refine wpAny_truthy_bool ?_
 cases c with
 | true=>exact hb pins s1 σ H1 Q I1 q1
 | false=>exact⟨.bl false,H1,I1,rfl,q1⟩
theorem zsk(ha:PE X a ta)(hb:PE X (.BoolOp .Or (b::rest) pos) tb):PE X (.BoolOp .Or (a::b::rest) pos) (zuh ta tb):=by
 intro pins s σ H Q I h
 refine BoolOp_or (thn (ha pins s σ H _ I h) fun v s1 ⟨x,H1,I1,r1,q1⟩=>?_)
 obtain⟨c,rfl,q1⟩:=q1
 cases r1
 refine wpAny_truthy_bool ?_
 cases c with
 | false=>exact hb pins s1 σ H1 Q I1 q1
 | true=>exact⟨.bl true,H1,I1,rfl,q1⟩
theorem zpW(ha:PE X a ta):PE X (.UnaryOp .Not a pos) (zsj ta):=by
 intro pins s σ H Q I h
 refine UnaryOp_ (thn (ha pins s σ H _ I h) fun v s1 ⟨x,H1,I1,r1,q1⟩=>?_)
 obtain⟨c,rfl,q1⟩:=q1
 cases r1
 exact not_of (wpAny_truthy_bool ⟨.bl (!c),H1,I1,rfl,q1⟩)
def tIf(t:TT)(ta tb:TE):TE:=fun σ H Q=>t σ H fun c H1=>if c=true then ta σ H1 Q else tb σ H1 Q
theorem zlF{c:Expr}(hc:PT X c tA)(ha:PE X a ta)(hb:PE X b tb):PE X (.IfExp c a b pos) (tIf tA ta tb):=by
 intro pins s σ H Q I h
 refine wpAny_IfExp (thn (hc pins s σ H _ I h) fun d s1 ⟨H1,I1,q1⟩=>?_)
 cases d with
 | true=>exact ha pins s1 σ H1 Q I1 q1
 | false=>exact hb pins s1 σ H1 Q I1 q1
end
def SqL(K:PySem.W.Frag)(H:Hp)(a:Addr)(xs:List V):Prop :=
 Rd H a (.lst xs) \/
  ∃(o:Obj) (its:Array Value) (n:Nat),K.lookup a=some o/\o.cls=.type "list" /\ o.dict=none/\o.data=.seq its n/\its.size<=sizeLine/\Vals xs its.toList
def SqT(K:PySem.W.Frag)(H:Hp)(a:Addr)(xs:List V):Prop :=
 Rd H a (.tup xs) \/
  ∃(o:Obj) (its:Array Value) (n:Nat),K.lookup a=some o/\o.cls=.type "tuple" /\ o.data=.seq its n/\its.size<=sizeLine/\Vals xs its.toList
def zui:Value->Option V
 | .none=>some .non
 | .bool b=>some (.bl b)
 | .int i _=>some (.int i)
 | .str x _=>some (.str x)
 | .bytes b _=>some (.byt b)
 | .float b _=>some (.flt b)
 | .ref a=>some (.ref a)
 | .type n=>some (.ty n)
 | _=>none
theorem RelV.abs{x:V}{u:Value}(r:RelV x u):zui u=some x:=by
 cases x with
 | non=>cases r;rfl
 | bl _=>cases r;rfl
 | int _=>obtain⟨t,rfl⟩:=r;rfl
 | str _=>obtain⟨t,rfl⟩:=r;rfl
 | byt _=>obtain⟨t,rfl⟩:=r;rfl
 | flt _=>obtain⟨t,rfl⟩:=r;rfl
 | ref _=>cases r;rfl
 | ty _=>cases r;rfl
theorem RelV.inj{x y:V}{u:Value}(r:RelV x u)(q:RelV y u):x=y:=Option.some.inj (r.abs.symm.trans q.abs)
theorem Vals.inj:∀{xs ys:List V} {us:List Value},Vals xs us->Vals ys us->xs=ys
 | _,_,_,.nil,.nil=>rfl
 | _,_,_,.cons r t,.cons r' t'=>by rw[r.inj r',Vals.inj t t']
section
variable {X:Cx} {pins:List (Addr×Obj)} {σ:St} {H:Hp} {s:Shared} {a:Addr} {xs ys:List V}
theorem Inv.list(I:Inv X pins σ H s)(h:SqL X.K H a xs):∃its:List Value,Vals xs its/\PlainL s.heap a its.toArray/\xs.length<=sizeLine:=by
 rcases h with h|⟨o,its,n,hk,hc,hd,hs,hz,r⟩
 ·obtain⟨z,its,n,r,e⟩:=h.ok I.hok
  exact⟨its,r,⟨_,n,e,rfl,rfl,rfl⟩,z⟩
 ·refine⟨its.toList,r,⟨o,n,I.kIn a o hk,hc,hd,by simpa using hs⟩,?_⟩
  have e:=r.length
  simp only[length_toList] at e
  omega
theorem Inv.tuple(I:Inv X pins σ H s)(h:SqT X.K H a xs):∃its:List Value,Vals xs its/\IsTup s.heap a its.toArray/\xs.length<=sizeLine:=by
 rcases h with h|⟨o,its,n,hk,hc,hs,hz,r⟩
 ·obtain⟨z,its,r,p⟩:=h.ok I.hok
  exact⟨its,r,p.isTup,z⟩
 ·refine⟨its.toList,r,⟨o,I.kIn a o hk,hc,n,by simpa using hs⟩,?_⟩
  have e:=r.length
  simp only[length_toList] at e
  omega
theorem Inv.list_inj(I:Inv X pins σ H s)(h:SqL X.K H a xs)(h':SqL X.K H a ys):xs=ys:=by
 obtain⟨its,r,⟨o,n,e,_,_,d⟩,_⟩:=I.list h
 obtain⟨its',r',⟨o',n',e',_,_,d'⟩,_⟩:=I.list h'
 rw[e] at e';cases e'
 rw[d] at d'
 injection d' with d1 _
 have:its=its':=by simpa using congrArg Array.toList d1
 subst this
 exact r.inj r'
theorem Inv.tuple_inj(I:Inv X pins σ H s)(h:SqT X.K H a xs)(h':SqT X.K H a ys):xs=ys:=by
 obtain⟨its,r,⟨o,e,_,n,d⟩,_⟩:=I.tuple h
 obtain⟨its',r',⟨o',e',_,n',d'⟩,_⟩:=I.tuple h'
 rw[e] at e';cases e'
 rw[d] at d'
 injection d' with d1 _
 have:its=its':=by simpa using congrArg Array.toList d1
 subst this
 exact r.inj r'
end
abbrev Cx.wish(X:Cx)(E:Value->Shared->Prop):Cx:={ X with xe:=E }
abbrev Cx.nox(X:Cx):Cx:=X.wish fun _ _=>False
theorem Cx.Ok.wish{X:Cx}(ok:X.Ok)(E:Value->Shared->Prop):(X.wish E).Ok :=
 ⟨ok.mod,ok.kind,ok.glob,ok.blt,ok.above,ok.inj,ok.has,ok.cab,ok.hd,ok.frames,ok.stk,ok.exf,ok.bs,ok.bsz,ok.noex,ok.exfs,ok.funs,ok.frf⟩
theorem Cx.Ok.unwish{X:Cx}{E:Value->Shared->Prop}(ok:(X.wish E).Ok):X.Ok :=
 ⟨ok.mod,ok.kind,ok.glob,ok.blt,ok.above,ok.inj,ok.has,ok.cab,ok.hd,ok.frames,ok.stk,ok.exf,ok.bs,ok.bsz,ok.noex,ok.exfs,ok.funs,ok.frf⟩
section
variable {X:Cx} {pins:List (Addr×Obj)} {σ:St} {H:Hp} {s:Shared} {E:Value->Shared->Prop}
theorem Inv.wish(I:Inv X pins σ H s)(E:Value->Shared->Prop):Inv (X.wish E) pins σ H s:=⟨I.ok.wish E,I.os,I.bare,I.base,I.loc,I.cell,I.free,I.freeC,I.pin,I.hok,I.len⟩
theorem Inv.unwish(I:Inv (X.wish E) pins σ H s):Inv X pins σ H s:=⟨I.ok.unwish,I.os,I.bare,I.base,I.loc,I.cell,I.free,I.freeC,I.pin,I.hok,I.len⟩
end
section
variable {X:Cx} {st:Stmt} {rest:List Stmt} {t u:TS} {e:Expr} {te:TE} {pos:Pos}
def zsl:TS:=fun D σ H=>D.nx σ H
def zuj(t u:TS):TS:=fun D σ H=>t { D with nx:=u D } σ H
theorem zn5:PSs X [] zsl:=fun _ _ σ H _ I h=>wpAny_execs_nil ⟨σ,H,I,h⟩
theorem zlG(h1:PS X st t)(h2:PSs X rest u):PSs X (st::rest) (zuj t u):=by
 intro pins s σ H D I h
 refine wpAny_execs_cons (thn (h1 pins s σ H { D with nx:=u D } I h) fun f s1 q=>?_)
 cases f with
 | next =>
  obtain⟨σ',H',I',q⟩:=q
  exact h2 pins s1 σ' H' D I' q
 | ret v=>exact q
 | brk=>exact q
 | cont=>exact q
theorem zn6(h1:PS X st t):PSs X [st] t:=by
 intro pins s σ H D I h
 refine wpAny_execs_cons (thn (h1 pins s σ H D I h) fun f s1 q=>?_)
 cases f with
 | next=>exact wpAny_execs_nil q
 | ret v=>exact q
 | brk=>exact q
 | cont=>exact q
def zsm:TS:=fun D σ H=>D.ct σ H
theorem zhx:PS X (.Continue pos) zsm:=fun _ _ σ H _ I h=>wpAny_Continue ⟨σ,H,I,h⟩
theorem Inv.quiet{pins:List (Addr×Obj)}{σ:St}{H:Hp}{s:Shared}(I:Inv X pins σ H s):interactive X.env=false:=by simp[interactive,I.ok.kind]
def zsn(te:TE):TS:=fun D σ H=>te σ H fun _ H1=>D.nx σ H1
theorem zn7(he:PE X e te)(hs:swapsWith e none pos.line X.env=pure false:=by rfl):PS X (.Expr e pos) (zsn te):=by
 intro pins s σ H D I h
 exact wpAny_Expr_any (thn (he pins s σ H _ I h) fun v s1 ⟨x,H1,I1,r1,q1⟩=>⟨σ,H1,I1,q1⟩) I.quiet hs
def zuk(te:TE):TS:=fun D σ H=>te σ H D.rt
theorem zpX(he:PE X e te):PS X (.Return (some e) pos) (zuk te):=by
 intro pins s σ H D I h
 exact wpAny_Return_some (thn (he pins s σ H _ I h) fun v s1 ⟨x,H1,I1,r1,q1⟩=>⟨x,σ,H1,I1,r1,q1⟩)
def ztA(c:TT)(t u:TS):TS:=fun D σ H=>c σ H fun b H1=>if b=true then t D σ H1 else u D σ H1
theorem zso{c:Expr}{a b:List Stmt}{tc:TT}(hc:PT X c tc)(ha:PSs X a t)(hb:PSs X b u):PS X (.If c a b pos) (ztA tc t u):=by
 intro pins s σ H D I h
 refine wpAny_If (thn (hc pins s σ H _ I h) fun d s1 ⟨H1,I1,q1⟩=>?_)
 cases d with
 | true=>exact ha pins s1 σ H1 D I1 q1
 | false=>exact hb pins s1 σ H1 D I1 q1
end
abbrev TG:=V->St->Hp->(St->Hp->Prop)->Prop
abbrev TGs:=List V->St->Hp->(St->Hp->Prop)->Prop
def PG(X:Cx)(target:Expr)(t:TG):Prop :=
 ∀(pins:List (Addr×Obj)) (s:Shared) (σ:St) (H:Hp) (v:V) (u:Value) (Q:St->Hp->Prop),Inv X pins σ H s->RelV v u->t v σ H Q ->
  wpAny (model X.prog X.w) X.A (assign target X.env u) (fun _ s'=>∃σ' H',Inv X pins σ' H' s'/\Q σ' H') X.xe s
def PGs(X:Cx)(ts:List Expr)(t:TGs):Prop :=
 ∀(pins:List (Addr×Obj)) (s:Shared) (σ:St) (H:Hp) (vs:List V) (us:List Value) (Q:St->Hp->Prop),Inv X pins σ H s->Vals vs us->t vs σ H Q ->
  wpAny (model X.prog X.w) X.A (assignInOrder ((assignEach ts X.env).map (·.2)) us) (fun _ s'=>∃σ' H',Inv X pins σ' H' s'/\Q σ' H') X.xe s
abbrev zsp:=V->V->V->Hp->(Hp->Prop)->Prop
def ztB(X:Cx)(t:zsp):Prop :=
 ∀(pins:List (Addr×Obj)) (s:Shared) (σ:St) (H:Hp) (o i v:V) (ov iv u:Value) (Q:Hp->Prop),Inv X pins σ H s->RelV o ov->RelV i iv->RelV v u->t o i v H Q ->
  wpAny (model X.prog X.w) X.A (setItem ov iv u) (fun _ s'=>∃H',Inv X pins σ H' s'/\Q H') X.xe s
section
variable {X:Cx} {pos:Pos}
def gName(i:Nat):TG:=fun v σ H Q=>Q (σ.set i (some v)) H
theorem zhy{i:Nat}{x:Str}(hN:X.N.Nodup)(hi:X.N[i]?=some x)(hx:Loc X.env.scope x)(hf:X.fn x=true\/X.env.scope.names.lookup x=some .local:=by first|exact .inl rfl|exact .inr rfl|assumption):PG X (.Name x pos) (gName i):=by
 intro pins s σ H v u Q I r h
 exact wpAny_assign_Name (zfN I hN hi hx r (fun s' I'=>⟨_,H,I',h⟩) hf)
def zul:TGs:=fun vs σ H Q=>vs=[]/\Q σ H
def zsq(t:TG)(u:TGs):TGs:=fun vs σ H Q=>∃v r,vs=v::r/\t v σ H fun σ' H'=>u r σ' H' Q
theorem zn8:PGs X [] zul:=by
 intro pins s σ H vs us Q I r h
 obtain⟨e,h⟩:=h
 subst e
 cases r
 exact assignInOrder_nil ⟨σ,H,I,h⟩
theorem zlH{e:Expr}{es:List Expr}{t:TG}{u:TGs}(h1:PG X e t)(h2:PGs X es u)(hs:(assignEach (e::es) X.env).map (·.2)=assign e X.env::(assignEach es X.env).map (·.2):=by rfl):PGs X (e::es) (zsq t u):=by
 intro pins s σ H vs us Q I r h
 obtain⟨v,vr,e1,h⟩:=h
 subst e1
 cases r with
 | cons r rr =>
  rw[hs]
  refine assignInOrder_cons (thn (h1 pins s σ H _ _ _ I r h) fun _ s1 ⟨σ1,H1,I1,q1⟩=>?_)
  exact h2 pins s1 σ1 H1 _ _ Q I1 rr q1
def zum(K:PySem.W.Frag)(n:Nat)(t:TGs):TG:=fun v σ H Q=>∃a xs,v=.ref a/\SqT K H a xs/\xs.length=n/\t xs σ H Q
theorem zpY{es:List Expr}{k:Nat}{t:TGs}{n:Nat}(hc:X.calm=true)(h:PGs X es t)(hn:(assignEach es X.env).length=n:=by rfl)(hst:(assignEach es X.env).findIdx? (·.1)=none:=by rfl):PG X (.Tuple es k pos) (zum X.K n t):=by
 intro pins s σ H v u Q I r hw
 obtain⟨a,xs,e1,hq,hl,hw⟩:=hw
 subst e1
 cases r
 obtain⟨its,rv,ht,hz⟩:=I.tuple hq
 refine assign_Tuple_tuple (I.ok.hd hc) ht (by simp[hn,<- hl,rv.length]) hst fun h' hx=>?_
 have I1:Inv X pins σ H { s with heap:=h' }:=I.kept (t':=s.toks) fun b o e=>hx b o (ne_of_lt (Heap.lt_size e)) e
 exact h pins _ σ H xs _ Q I1 (by simpa using rv) hw
def zun(to ti:TE)(t:zsp):TG:=fun v σ H Q=>to σ H fun o H1=>ti σ H1 fun i H2=>t o i v H2 fun H3=>Q σ H3
theorem zpZ{o i:Expr}{to ti:TE}{t:zsp}(ho:PE X o to)(hi:PE X i ti)(hs:ztB X t)(ha:∀v,assign (.Subscript o i pos) X.env v=(do
   let ov <- holding [v] (eval o X.env)
   let iv <- holding [v,ov] (eval i X.env)
   standAt pos
   holding [v,ov,iv] (setItem ov iv v)
   release [v,ov,iv] []):=by intro _;rfl):PG X (.Subscript o i pos) (zun to ti t):=by
 intro pins s σ H v u Q I r h
 rw[ha]
 refine wpAny_bind (wpAny_holding (thn (ho pins s σ H _ I h) fun ov s1 ⟨x,H1,I1,r1,q1⟩=>?_))
 refine wpAny_bind (wpAny_holding (thn (hi pins s1 σ H1 _ I1 q1) fun iv s2 ⟨y,H2,I2,r2,q2⟩=>?_))
 refine wpAny_bind (wpAny_standAt (wpAny_bind (wpAny_holding (thn (hs pins s2 σ H2 x y v ov iv u _ I2 r1 r2 r q2) fun _ s3 ⟨H3,I3,q3⟩=>?_))))
 exact wpAny_release ⟨σ,H3,I3,q3⟩
def zsr(te:TE)(g:TG):TS:=fun D σ H=>te σ H fun x H1=>g x σ H1 D.nx
theorem zp0{tg e:Expr}{te:TE}{g:TG}(he:PE X e te)(hg:PG X tg g)(hs:swapsWithSole [tg] e pos.line X.env=pure false:=by rfl)(hw:swappedStores [tg] e X.env=pure none:=by rfl)(h1:(assignEach [tg] X.env).map (·.2)=[assign tg X.env]:=by rfl):PS X (.Assign [tg] e pos) (zsr te g):=by
 intro pins s σ H D I h
 refine wpAny_Assign_stores (thn (he pins s σ H _ I h) fun v s1 ⟨x,H1,I1,r1,q1⟩=>?_) hs hw
 rw[h1]
 exact thn (hg pins s1 σ H1 x v _ I1 r1 q1) fun _ s2 q=>q
theorem zp1{i:Nat}{x:Str}{e:Expr}{te:TE}{pos':Pos}(hN:X.N.Nodup)(hi:X.N[i]?=some x)(hx:Loc X.env.scope x)(he:PE X e te)(hs:swapsWith e (some (.Name x pos')) pos.line X.env=pure false:=by rfl)(hf:X.fn x=true\/X.env.scope.names.lookup x=some .local:=by first|exact .inl rfl|exact .inr rfl|assumption) :
  PS X (.Assign [.Name x pos'] e pos) (zsr te (gName i)):=by
 intro pins s σ H D I h
 refine wpAny_Assign_Name (thn (he pins s σ H _ I h) fun v s1 ⟨y,H1,I1,r1,q1⟩=>?_) hs
 exact zfN I1 hN hi hx r1 (fun s2 I2=>⟨_,H1,I2,q1⟩) hf
end
section
variable {X:Cx} {pos:Pos}
def zp2(c:TT)(tb:TS):TS:=fun D σ H=>∃W:Nat->St->Hp->Prop,(∃m,W m σ H)/\∀m σ H,W m σ H ->
 c σ H fun b H1=>if b=true then ∃N:St->Hp->Prop,(∀σ' H',N σ' H'->∃m',m'<m/\W m' σ' H')/\tb { D with nx:=N,ct:=N,bk:=D.nx } σ H1 else D.nx σ H1
theorem zlI{c:Expr}{body:List Stmt}{tc:TT}{tb:TS}(hp:PassesOwn (model X.prog X.w) X.A X.env X.xe)(hc:PT X c tc)(hb:PSs X body tb):PS X (.While c body [] pos) (zp2 tc tb):=by
 intro pins s σ H D I h
 obtain⟨W,⟨m0,w0⟩,turn⟩:=h
 refine wpAny_While (codeAny_whileLoop (fun n s'=>∃σ' H',Inv X pins σ' H' s'/\W n σ' H') ?_ m0 ⟨σ,H,I,w0⟩)
 rintro n s1 ⟨σ1,H1,I1,w1⟩
 refine wpAny_passesOwn hp (thn (hc pins s1 σ1 H1 _ I1 (turn n σ1 H1 w1)) fun b s2 ⟨H2,I2,q2⟩=>?_)
 cases b with
 | true =>
  obtain⟨N,hN,q2⟩:=q2
  rw[if_pos rfl]
  refine wpAny_passesOwn hp (thn (hb pins s2 σ1 H2 _ I2 q2) fun f s3 q3=>?_)
  cases f with
  | next =>
   obtain⟨σ3,H3,I3,n3⟩:=q3
   obtain⟨m',hm,w3⟩:=hN σ3 H3 n3
   exact⟨m',hm,σ3,H3,I3,w3⟩
  | cont =>
   obtain⟨σ3,H3,I3,n3⟩:=q3
   obtain⟨m',hm,w3⟩:=hN σ3 H3 n3
   exact⟨m',hm,σ3,H3,I3,w3⟩
  | brk=>exact q3
  | ret v=>exact q3
 | false =>
  rw[if_neg Bool.false_ne_true]
  exact wpAny_execs_nil ⟨σ1,H2,I2,q2⟩
end
structure It where
 go:Nat->Hp->Prop
 yld:Nat->Hp->V->Hp->Prop
 stop:Nat->Hp->Prop
def zm4(X:Cx)(pins:List (Addr×Obj))(H:Hp)(b:Addr):Prop :=
 H b=none/\b≠X.env.locals/\b∉X.fs/\(b∈X.ex\/X.s₀.heap.objs.size<=b)/\(∀x c,X.env.cells.lookup x=some c->c≠b)/\∀p∈X.pn++pins,p.1≠b
theorem Inv.fpOk{X:Cx}{pins:List (Addr×Obj)}{σ:St}{H H':Hp}{s:Shared}{b:Addr}(I:Inv X pins σ H s)(hb:s.heap.objs.size<=b)(hn:H' b=none):zm4 X pins H' b:=by
 refine⟨hn,ne_of_gt (lt_of_lt_of_le I.lt hb),I.nofs hb,.inr (le_trans I.sz hb),fun x c e z=>?_,fun p hp z=>?_⟩
 ·obtain⟨v,q⟩:=I.cell x c e
  exact absurd (lt_of_lt_of_le q.lt (by rw[z];exact hb)) (lt_irrefl _)
 ·exact absurd (lt_of_lt_of_le (Heap.lt_size (I.pin p hp).1) (by rw[z];exact hb)) (lt_irrefl _)
structure Turn (P:Program) (w:World) (K:PySem.W.Frag) (tg:Expr) (J:It) (fp:List Addr) (it:Addr) (tn:Nat->Heap->Prop):Prop where
 mem:it∈fp
 obj:∀i h,tn i h->∀b∈fp,∃o,h.get? b=some o/\∀v,o.data≠.cell v
 keep:∀i h h',tn i h->(∀b∈fp,∀o,h.get? b=some o->h'.get? b=some o)->tn i h'
 item:∀(X:Cx),X.prog=P->X.w=w->X.K=K->X.calm=true->∀(i:Nat) (pins:List (Addr×Obj)) (s:Shared) (σ:St) (H:Hp) (E:Value->Shared->Prop),Inv X pins σ H s->(∀b∈fp,zm4 X pins H b)->tn i s.heap->J.go i H ->
  wpAny (model P w) X.A (pyNext (.ref it)) (fun r s1=>∃u,r=some u /\
   wpAny (model P w) X.A (letOwnedTupleGo tg (.ref it) u) (fun _ s2=>∃x H',Inv X pins σ H' s2/\RelV x u/\J.yld i H x H'/\tn (i+1) s2.heap/\∀b∈fp,H' b=none) E s1) E s
 done:∀(X:Cx),X.prog=P->X.w=w->X.K=K->X.calm=true->∀(i:Nat) (pins:List (Addr×Obj)) (s:Shared) (σ:St) (H:Hp) (E:Value->Shared->Prop),Inv X pins σ H s->(∀b∈fp,zm4 X pins H b)->tn i s.heap->J.stop i H ->
  wpAny (model P w) X.A (pyNext (.ref it)) (fun r s1=>r=none/\Inv X pins σ H s1) E s
 self:∀(A:Around) (i:Nat) (s:Shared) (Q:Value->Shared->Prop) (E:Value->Shared->Prop),tn i s.heap->Q (.ref it) s->wpAny (model P w) A (pyIter (.ref it)) Q E s
abbrev TI:=St->Hp->(It->Hp->Prop)->Prop
def PIE(X:Cx)(pins:List (Addr×Obj))(σ:St)(tg:Expr)(R:It->Hp->Prop)(itv:Value)(s2:Shared):Prop :=
 ∃(it:Addr) (fp:List Addr) (tn:Nat->Heap->Prop) (J:It) (H':Hp),itv=.ref it/\Inv X pins σ H' s2/\Turn X.prog X.w X.K tg J fp it tn/\tn 0 s2.heap/\(∀b∈fp,zm4 X pins H' b)/\R J H'
def PI(X:Cx)(tg iter:Expr)(wi:TI):Prop :=
 ∀(pins:List (Addr×Obj)) (s:Shared) (σ:St) (H:Hp) (R:It->Hp->Prop),Inv X pins σ H s->wi σ H R ->
  wpAny (model X.prog X.w) X.A (eval iter X.env) (fun v s1=>wpAny (model X.prog X.w) X.A (pyIter v) (PIE X pins σ tg R) X.xe s1) X.xe s
theorem zn9{M:Model}{A:Around}{E:Value->Shared->Prop}{s:Shared}{tg:Expr}{it:Addr}{u:Value}{o:Obj}{n:String}{vs:Array Value}{Q:Unit->Shared->Prop}(ho:s.heap.get? it=some o)(hc:o.cls=.type n)(hd:o.data=.fields vs)(hn:["enumerate", "zip", "dict_itemiterator", "dict_reverseitemiterator", "odict_iterator", "itertools.zip_longest", "itertools.pairwise"].contains n=false)(hQ:Q () s):wpAny M A (letOwnedTupleGo tg (.ref it) u) Q E s:=by
 unfold letOwnedTupleGo
 cases tg<;>first
  | exact wpAny_pure hQ
  | (cases u<;>first
    | exact wpAny_pure hQ
    | (refine wpAny_bind (wpAny_load ho ?_)
       rw[hc,hd]
       show wpAny M A (if (["enumerate", "zip", "dict_itemiterator", "dict_reverseitemiterator", "odict_iterator", "itertools.zip_longest", "itertools.pairwise"].contains n&&vs[0]?==some (rawInt _))=true then _ else _) Q E s
       rw[if_neg (by intro h;rw[hn,Bool.false_and] at h;cases h)]
       exact wpAny_pure hQ))
def Itl(K:PySem.W.Frag)(a:Addr):It :=
 ⟨fun i H=>∃xs x,SqL K H a xs/\xs[i]?=some x,fun i H x H'=>H'=H/\∀xs,SqL K H a xs->xs[i]?=some x,fun i H=>∃xs,SqL K H a xs/\xs.length<=i⟩
def Itt(K:PySem.W.Frag)(a:Addr):It :=
 ⟨fun i H=>∃xs x,SqT K H a xs/\xs[i]?=some x,fun i H x H'=>H'=H/\∀xs,SqT K H a xs->xs[i]?=some x,fun i H=>∃xs,SqT K H a xs/\xs.length<=i⟩
def Itr(lo:Int)(n:Nat):It:=⟨fun i _=>i<n,fun i H x H'=>H'=H/\x=.int (lo+i),fun i _=>n<=i⟩
theorem zjL{P:Program}{w:World}{K:PySem.W.Frag}{tg:Expr}(a it:Addr):Turn P w K tg (Itl K a) [it] it (fun i h=>h.IsListIter it a i) where
 mem:=by simp
 obj:=fun i h st b hb=>by
  have e:b=it:=by simpa using hb
  subst e
  obtain⟨o,e,c,d⟩:=st
  exact⟨o,e,fun v z=>by rw[d] at z;cases z⟩
 keep:=fun i h h' st k=>st.at fun o e=>k it (by simp) o e
 item:=by
  intro X hP hw hK hc i pins s σ H E I hf st hg
  subst hP hw hK
  obtain⟨xs,x,hq,hx⟩:=hg
  obtain⟨its,rv,p,hz⟩:=I.list hq
  obtain⟨u,hu,ru⟩:=rv.get hx
  obtain⟨f0,f1,f2,f3,f4,f5⟩:=hf it (by simp)
  refine wpAny_pyNext_list_item st p.isList (x:=u) (by simpa using hu) fun h' st' sb=>?_
  have I1:Inv X pins σ H { s with heap:=h' }:=I.turned (t':=s.toks) (fun b o hb e=>(sb.2 b hb).trans e) f0 f1 f3 f4 f5
  obtain⟨o,e,c,d⟩:=id st'
  exact⟨u,rfl,zn9 (s:={ s with heap:=h' }) e c d (by decide) ⟨x,H,I1,ru,⟨rfl,fun ys hy=>by rw[I.list_inj hy hq];exact hx⟩,st',fun b hb=>(hf b hb).1⟩⟩
 done:=by
  intro X hP hw hK hc i pins s σ H E I hf st hg
  subst hP hw hK
  obtain⟨xs,hq,hx⟩:=hg
  obtain⟨its,rv,p,hz⟩:=I.list hq
  obtain⟨f0,f1,f2,f3,f4,f5⟩:=hf it (by simp)
  have hl:=rv.length
  exact wpAny_pyNext_list_end (I.ok.hd hc) st p.isList (by simp;omega) fun h' eb=>⟨rfl,I.turned (t':=s.toks) (fun b o hb e=>eb b o hb e) f0 f1 f3 f4 f5⟩
 self:=fun _ _ _ _ _ st h=>wpAny_pyIter_listiter st h
theorem zi0{P:Program}{w:World}{K:PySem.W.Frag}{tg:Expr}(a it:Addr):Turn P w K tg (Itt K a) [it] it (fun i h=>h.IsTupleIter it a i) where
 mem:=by simp
 obj:=fun i h st b hb=>by
  have e:b=it:=by simpa using hb
  subst e
  obtain⟨o,e,c,d⟩:=st
  exact⟨o,e,fun v z=>by rw[d] at z;cases z⟩
 keep:=fun i h h' st k=>st.at fun o e=>k it (by simp) o e
 item:=by
  intro X hP hw hK hc i pins s σ H E I hf st hg
  subst hP hw hK
  obtain⟨xs,x,hq,hx⟩:=hg
  obtain⟨its,rv,p,hz⟩:=I.tuple hq
  obtain⟨u,hu,ru⟩:=rv.get hx
  obtain⟨f0,f1,f2,f3,f4,f5⟩:=hf it (by simp)
  refine wpAny_pyNext_tuple_item st (show s.heap.IsTuple a its.toArray from p) (x:=u) (by simpa using hu) fun h' st' sb=>?_
  have I1:Inv X pins σ H { s with heap:=h' }:=I.turned (t':=s.toks) (fun b o hb e=>(sb.2 b hb).trans e) f0 f1 f3 f4 f5
  obtain⟨o,e,c,d⟩:=id st'
  exact⟨u,rfl,zn9 (s:={ s with heap:=h' }) e c d (by decide) ⟨x,H,I1,ru,⟨rfl,fun ys hy=>by rw[I.tuple_inj hy hq];exact hx⟩,st',fun b hb=>(hf b hb).1⟩⟩
 done:=by
  intro X hP hw hK hc i pins s σ H E I hf st hg
  subst hP hw hK
  obtain⟨xs,hq,hx⟩:=hg
  obtain⟨its,rv,p,hz⟩:=I.tuple hq
  obtain⟨f0,f1,f2,f3,f4,f5⟩:=hf it (by simp)
  have hl:=rv.length
  exact wpAny_pyNext_tuple_end (I.ok.hd hc) st (show s.heap.IsTuple a its.toArray from p) (by simp;omega) fun h' eb=>⟨rfl,I.turned (t':=s.toks) (fun b o hb e=>eb b o hb e) f0 f1 f3 f4 f5⟩
 self:=fun _ _ _ _ _ st h=>wpAny_pyIter_tupleiter st h
theorem zi1{P:Program}{w:World}{K:PySem.W.Frag}{tg:Expr}(it:Addr)(lo:Int)(n:Nat):Turn P w K tg (Itr lo n) [it] it (fun i h=>IsRangeIter h it (lo+(i:Nat)*1) ((n:Int)-(i:Nat)) 1) where
 mem:=by simp
 obj:=fun i h st b hb=>by
  have e:b=it:=by simpa using hb
  subst e
  exact⟨_,st,fun v z=>by
   have z':Data.fields _=Data.cell v:=z
   cases z'⟩
 keep:=fun i h h' st k=>k it (by simp) _ st
 item:=by
  intro X hP hw hK hc i pins s σ H E I hf st hg
  subst hP hw hK
  obtain⟨f0,f1,f2,f3,f4,f5⟩:=hf it (by simp)
  have W:=Walks.range (prog:=X.prog) (w:=X.w) (I.ok.hd hc) it lo 1 n
  refine W.item i s _ _ hg st fun v h' tk hv st' kk=>?_
  obtain⟨t,rfl⟩:=hv
  have I1:Inv X pins σ H { s with heap:=h',toks:=tk }:=I.turned (fun b o hb e=>kk b o (by simpa using hb) e) f0 f1 f3 f4 f5
  refine⟨_,rfl,zn9 (s:={ s with heap:=h',toks:=tk }) (n := "range_iterator") st' rfl rfl (by decide) ⟨.int (lo+i),H,I1,⟨t,?_⟩,⟨rfl,rfl⟩,st',fun b hb=>(hf b hb).1⟩⟩
  rw[mul_one]
 done:=by
  intro X hP hw hK hc i pins s σ H E I hf st hg
  subst hP hw hK
  obtain⟨f0,f1,f2,f3,f4,f5⟩:=hf it (by simp)
  exact wpAny_pyNext_range_end (I.ok.hd hc) st (by have:n<=i:=hg;omega) fun h' eb=>⟨rfl,I.turned (t':=s.toks) (fun b o hb e=>eb b o hb e) f0 f1 f3 f4 f5⟩
 self:=fun _ _ _ _ _ st h=>wpAny_pyIter_rangeiter st h
section
variable {X:Cx} {tg:Expr}
def zss(K:PySem.W.Frag)(tl:TE):TI:=fun σ H R=>tl σ H fun x H1=>∃a,x=.ref a/\(∃xs,SqL K H1 a xs)/\R (Itl K a) H1
def zuo(K:PySem.W.Frag)(tl:TE):TI:=fun σ H R=>tl σ H fun x H1=>∃a,x=.ref a/\(∃xs,SqT K H1 a xs)/\R (Itt K a) H1
theorem zoa{l:Expr}{tl:TE}(hl:PE X l tl):PI X tg l (zss X.K tl):=by
 intro pins s σ H R I h
 refine thn (hl pins s σ H _ I h) fun v s1 ⟨x,H1,I1,r1,q1⟩=>?_
 obtain⟨a,e,⟨xs,hq⟩,q⟩:=q1
 subst e
 cases r1
 obtain⟨its,rv,p,hz⟩:=I1.list hq
 refine wpAny_pyIter_list p.isList ?_
 refine⟨s1.heap.objs.size,[s1.heap.objs.size],_,_,H1,rfl,I1.kept (t':=s1.toks) fun b o e=>Heap.get?_push_of_some _ e,zjL a _,⟨_,Heap.get?_push_size _ rfl,rfl,rfl⟩,fun b hb=>?_,q⟩
 have e:b=s1.heap.objs.size:=by simpa using hb
 subst e
 exact I1.fpOk (le_refl _) (I1.hok.fresh (le_refl _))
theorem zp3{l:Expr}{tl:TE}(hl:PE X l tl):PI X tg l (zuo X.K tl):=by
 intro pins s σ H R I h
 refine thn (hl pins s σ H _ I h) fun v s1 ⟨x,H1,I1,r1,q1⟩=>?_
 obtain⟨a,e,⟨xs,hq⟩,q⟩:=q1
 subst e
 cases r1
 obtain⟨its,rv,p,hz⟩:=I1.tuple hq
 refine wpAny_pyIter_tuple (show s1.heap.IsTuple a its.toArray from p) ?_
 refine⟨s1.heap.objs.size,[s1.heap.objs.size],_,_,H1,rfl,I1.kept (t':=s1.toks) fun b o e=>Heap.get?_push_of_some _ e,zi0 a _,⟨_,Heap.get?_push_size _ rfl,rfl,rfl⟩,fun b hb=>?_,q⟩
 have e:b=s1.heap.objs.size:=by simpa using hb
 subst e
 exact I1.fpOk (le_refl _) (I1.hok.fresh (le_refl _))
theorem zlJ{pins:List (Addr×Obj)}{σ:St}{H:Hp}{s:Shared}{R:It->Hp->Prop}{E:Value->Shared->Prop}{lo hi:Int}{t u v:Tok}{tk:Nat}(I:Inv X pins σ H s)(h1:-(2 ^ 62)<=lo)(h2:lo<2 ^ 62)(h3:-(2 ^ 62)<=hi)(h4:hi<2 ^ 62)(q:R (Itr lo (hi-lo).toNat) H):wpAny (model X.prog X.w) X.A (pyIter (.ref s.heap.objs.size)) (PIE X pins σ tg R) E { s with heap:=s.heap.push { cls:=.type "range",data:=.fields #[.int lo t,.int hi u,.int 1 v] },toks:=tk }:=by
 refine wpAny_pyIter_range (IsRange.new ..) (small_one h1 h2 h3 h4) ?_
 have I1:Inv X pins σ H { s with heap:=s.heap.push { cls:=.type "range",data:=.fields #[.int lo t,.int hi u,.int 1 v] },toks:=tk }:=I.kept fun b o e=>Heap.get?_push_of_some _ e
 refine⟨(s.heap.push { cls:=.type "range",data:=.fields #[.int lo t,.int hi u,.int 1 v] }).objs.size,[(s.heap.push { cls:=.type "range",data:=.fields #[.int lo t,.int hi u,.int 1 v] }).objs.size],_,_,H,rfl,
  I1.kept (t':=tk) fun b o e=>Heap.get?_push_of_some _ e,zi1 _ lo (hi-lo).toNat,?_,fun b hb=>?_,q⟩
 ·have e1:lo+((0:Nat):Int)*1=lo:=by simp
  have e2:(((hi-lo).toNat:Nat):Int)-((0:Nat):Int)=Builtin.Range.rangeSize lo hi 1:=by rw[rangeSize_one];split<;>omega
  show IsRangeIter _ _ (lo+((0:Nat):Int)*1) ((((hi-lo).toNat:Nat):Int)-((0:Nat):Int)) 1
  rw[e1,e2]
  exact Heap.get?_push_size _ rfl
 ·have e:b=(s.heap.push { cls:=.type "range",data:=.fields #[.int lo t,.int hi u,.int 1 v] }).objs.size:=by simpa using hb
  subst e
  exact I1.fpOk (le_refl _) (I1.hok.fresh (le_refl _))
def zst(ta:TA):TI:=fun σ H R=>ta σ H fun vs H1=>∃j:Int,vs=[.int j]/\-(2 ^ 62)<=j/\j<2 ^ 62/\R (Itr 0 j.toNat) H1
theorem zjM{a:Expr}{ta:TA}{p pos:Pos}(hg:Gl X "range")(hm:X.mg "range" = none)(ha:PA X [a] ta)(hs:starEach [a] X.env=[(false,eval a X.env)]:=by rfl):PI X tg (.Call (.Name "range" p) [a] [] pos) (zst ta):=by
 intro pins s σ H R I h
 refine Call_ (zia I hg hm boot_range (PyProof.Rows.callWith_type1 (thn (ha pos pins s σ H _ I h) fun us s1 ⟨vs,H1,I1,r1,q1⟩=>?_) hs rfl))
 obtain⟨j,e,q1,q2,q⟩:=q1
 subst e
 cases r1 with
 | cons r rr =>
  cases rr
  obtain⟨t,rfl⟩:=r
  exact call_range_1 (zlJ I1 (by omega) (by omega) q1 q2 (by simpa using q))
def zup(wi:TI)(g:TG)(tb:TS):TS:=fun D σ H=>wi σ H fun J H1=>∃W:Nat->Nat->St->Hp->Prop,(∃m,W 0 m σ H1)/\∀i m σ H,W i m σ H ->
 (J.stop i H/\D.nx σ H)\/(J.go i H/\∃N:St->Hp->Prop,(∀σ' H',N σ' H'->∃m',m'<m/\W (i+1) m' σ' H')/\∀x H',J.yld i H x H'->g x σ H' fun σ2 H2=>tb { D with nx:=N,ct:=N,bk:=D.nx } σ2 H2)
def zfj(fp:List Addr)(h:Heap):List (Addr×Obj):=fp.filterMap fun b=>(h.get? b).map fun o=>(b,o)
theorem zc0{fp:List Addr}{h:Heap}{b:Addr}{o:Obj}(hb:b∈fp)(e:h.get? b=some o):(b,o)∈zfj fp h:=mem_filterMap.mpr ⟨b,hb,by rw[e];rfl⟩
theorem zjN{fp:List Addr}{h:Heap}{p:Addr×Obj}(hp:p∈zfj fp h):p.1∈fp/\h.get? p.1=some p.2:=by
 obtain⟨b,hb,e⟩:=mem_filterMap.mp hp
 cases q:h.get? b with
 | none=>rw[q] at e;cases e
 | some o =>
  rw[q] at e
  have e':(b,o)=p:=Option.some.inj e
  subst e'
  exact⟨hb,q⟩
theorem Inv.pinned{pins:List (Addr×Obj)}{σ:St}{H:Hp}{s:Shared}{fp:List Addr}(I:Inv X pins σ H s)(hf:∀b∈fp,zm4 X pins H b)(ho:∀b∈fp,∃o,s.heap.get? b=some o/\∀v,o.data≠.cell v):Inv X (pins++zfj fp s.heap) σ H s :=
 I.pins_of fun p hp=>(mem_append.mp hp).elim (fun z=>I.pin p (mem_append_right _ z)) fun z=>by
  obtain⟨hb,e⟩:=zjN z
  obtain⟨f0,f1,f2,_⟩:=hf p.1 hb
  obtain⟨o,e',d⟩:=ho p.1 hb
  rw[e] at e';cases e'
  exact⟨e,f0,f1,f2,d⟩
theorem Inv.unpinned{pins pl:List (Addr×Obj)}{σ:St}{H:Hp}{s:Shared}(I:Inv X (pins++pl) σ H s):Inv X pins σ H s:=I.pins_of fun p hp=>I.pin p (mem_append_right _ (mem_append_left _ hp))
theorem zp4{iter:Expr}{body:List Stmt}{wi:TI}{g:TG}{tb:TS}{pos:Pos}(hp:PassesOwn (model X.prog X.w) X.A X.env X.xe)(hc:X.calm=true)(hi:PI X tg iter wi)(hg:PG X tg g)(hb:PSs X body tb)(hs:∀x,foldedSetIterable iter X.env x=pure x:=by intro _;rfl):PS X (.For tg iter body [] pos) (zup wi g tb):=by
 intro pins s σ H D I h
 refine wpAny_For (thn (hi pins s σ H _ I h) fun v s1 h1=>thn h1 fun itv s2 h2=>?_) hs
 obtain⟨it,fp,tn,J,H2,e,I2,T,st2,f2,W,⟨m0,w0⟩,turn⟩:=h2
 subst e
 have stat:∀{H':Hp},(∀b∈fp,H' b=none)->∀b∈fp,zm4 X pins H' b:=fun hn b hb=>⟨hn b hb,(f2 b hb).2⟩
 refine codeAny_forLoop_any (fun n s'=>∃i σ' H',Inv X pins σ' H' s'/\tn i s'.heap/\(∀b∈fp,H' b=none)/\W i n σ' H') ?_ m0 ⟨0,σ,H2,I2,st2,fun b hb=>(f2 b hb).1,w0⟩
 rintro n s3 ⟨i,σ3,H3,I3,st3,fr3,w3⟩
 rcases turn i n σ3 H3 w3 with ⟨stop,qn⟩|⟨go,N,hN,step⟩
 ·refine wpAny_passesOwn hp (thn (T.done X rfl rfl rfl hc i pins s3 σ3 H3 X.xe I3 (stat fr3) st3 stop) fun r s4 ⟨hr,I4⟩=>?_)
  subst hr
  exact wpAny_execs_nil ⟨σ3,H3,I4,qn⟩
 ·refine wpAny_passesOwn hp (thn (T.item X rfl rfl rfl hc i pins s3 σ3 H3 X.xe I3 (stat fr3) st3 go) fun r s4 ⟨u,hr,h4⟩=>?_)
  subst hr
  refine wpAny_passesOwn hp (thn h4 fun _ s5 ⟨x,H5,I5,r5,y5,st5,fr5⟩=>?_)
  have I5':=I5.pinned (stat fr5) (T.obj _ _ st5)
  refine wpAny_passesOwn hp (thn (hg _ s5 σ3 H5 x u _ I5' r5 (step x H5 y5)) fun _ s6 ⟨σ6,H6,I6,q6⟩=>?_)
  refine wpAny_passesOwn hp (thn (hb _ s6 σ6 H6 _ I6 q6) fun f s7 q7=>?_)
  have again:∀{σ7:St} {H7:Hp},Inv X (pins++zfj fp s5.heap) σ7 H7 s7->N σ7 H7->∃m,m<n/\∃i σ' H',Inv X pins σ' H' s7/\tn i s7.heap/\(∀b∈fp,H' b=none)/\W i m σ' H':=fun {σ7 H7} I7 n7=>by
   obtain⟨m',hm,w7⟩:=hN σ7 H7 n7
   refine⟨m',hm,i+1,σ7,H7,I7.unpinned,T.keep _ _ _ st5 fun b hb o e=>(I7.pin (b,o) (mem_append_right _ (mem_append_right _ (zc0 hb e)))).1,fun b hb=>?_,w7⟩
   obtain⟨o,e,d⟩:=T.obj _ _ st5 b hb
   exact(I7.pin (b,o) (mem_append_right _ (mem_append_right _ (zc0 hb e)))).2.1
  cases f with
  | next=>obtain⟨σ7,H7,I7,n7⟩:=q7;exact again I7 n7
  | cont=>obtain⟨σ7,H7,I7,n7⟩:=q7;exact again I7 n7
  | brk=>obtain⟨σ7,H7,I7,q7⟩:=q7;exact⟨σ7,H7,I7.unpinned,q7⟩
  | ret v=>obtain⟨x7,σ7,H7,I7,r7,q7⟩:=q7;exact⟨x7,σ7,H7,I7.unpinned,r7,q7⟩
end
abbrev R2:=V->V->Hp->VK->Prop
def OpR(X:Cx)(f:Value->Value->Sem Value)(r:R2):Prop :=
 ∀(pins:List (Addr×Obj)) (s:Shared) (σ:St) (H:Hp) (x y:V) (v u:Value) (Q:VK),Inv X pins σ H s->RelV x v->RelV y u->r x y H Q ->
  wpAny (model X.prog X.w) X.A (f v u) (EP X pins σ Q) X.xe s
def UnR(X:Cx)(f:Value->Sem Value)(r:V->Hp->VK->Prop):Prop :=
 ∀(pins:List (Addr×Obj)) (s:Shared) (σ:St) (H:Hp) (x:V) (v:Value) (Q:VK),Inv X pins σ H s->RelV x v->r x H Q ->
  wpAny (model X.prog X.w) X.A (f v) (EP X pins σ Q) X.xe s
def CallR(X:Cx)(f:Value)(r:List V->Hp->VK->Prop):Prop :=
 ∀(pins:List (Addr×Obj)) (s:Shared) (σ:St) (H:Hp) (xs:List V) (us:List Value) (Q:VK),Inv X pins σ H s->Vals xs us->r xs H Q ->
  wpAny (model X.prog X.w) X.A (call f us) (EP X pins σ Q) X.xe s
def zuq(X:Cx)(r:V->Hp->(Bool->Hp->Prop)->Prop):Prop :=
 ∀(pins:List (Addr×Obj)) (s:Shared) (σ:St) (H:Hp) (x:V) (v:Value) (Q:Bool->Hp->Prop),Inv X pins σ H s->RelV x v->r x H Q ->
  wpAny (model X.prog X.w) X.A (truthy v) (TP X pins σ Q) X.xe s
def tOp(r:R2)(ta tb:TE):TE:=fun σ H Q=>ta σ H fun x H1=>tb σ H1 fun y H2=>r x y H2 Q
def tUn(r:V->Hp->VK->Prop)(ta:TE):TE:=fun σ H Q=>ta σ H fun x H1=>r x H1 Q
def rI(C:Int->Int->Prop)(g:Int->Int->V):R2:=fun x y H Q=>∃i j,x=.int i/\y=.int j/\C i j/\Q (g i j) H
def rI0(g:Int->Int->V):R2:=fun x y H Q=>∃i j,x=.int i/\y=.int j/\Q (g i j) H
def rU(g:Int->V):V->Hp->VK->Prop:=fun x H Q=>∃i,x=.int i/\Q (g i) H
section
variable {X:Cx} {a b c:Expr} {ta tb tc:TE} {pos:Pos}
theorem zsu(ha:PE X a ta)(hb:PE X b tb){pins:List (Addr×Obj)}{s:Shared}{σ:St}{H:Hp}{R:V->V->Hp->Prop}(I:Inv X pins σ H s)(h:ta σ H fun x H1=>tb σ H1 fun y H2=>R x y H2){Q:Value->Shared->Prop}{f:Value->Value->Sem Value}(hf:∀v u s2 x y H2,Inv X pins σ H2 s2->RelV x v->RelV y u->R x y H2->wpAny (model X.prog X.w) X.A (f v u) Q X.xe s2) :
  wpAny (model X.prog X.w) X.A (eval a X.env) (fun v s₁=>wpAny (model X.prog X.w) X.A (eval b X.env) (fun u s₂=>wpAny (model X.prog X.w) X.A (f v u) Q X.xe s₂) X.xe s₁) X.xe s:=by
 refine thn (ha pins s σ H _ I h) fun v s1 ⟨x,H1,I1,r1,q1⟩=>?_
 refine thn (hb pins s1 σ H1 _ I1 q1) fun u s2 ⟨y,H2,I2,r2,q2⟩=>?_
 exact hf v u s2 x y H2 I2 r1 r2 q2
theorem zlK{op:Operator}{r:R2}(ho:OpR X (binaryOp op) r)(ha:PE X a ta)(hb:PE X b tb):PE X (.BinOp a op b pos) (tOp r ta tb):=by
 intro pins s σ H Q I h
 exact wpAny_BinOp (zsu ha hb I h fun v u s2 x y H2 I2 rx ry q=>ho pins s2 σ H2 x y v u Q I2 rx ry q)
theorem zsv{op:UnaryOp}{r:V->Hp->VK->Prop}(ho:UnR X (unaryOp op) r)(ha:PE X a ta):PE X (.UnaryOp op a pos) (tUn r ta):=by
 intro pins s σ H Q I h
 exact UnaryOp_ (thn (ha pins s σ H _ I h) fun v s1 ⟨x,H1,I1,r1,q1⟩=>ho pins s1 σ H1 x v Q I1 r1 q1)
theorem opI{f:Value->Value->Sem Value}{C:Int->Int->Prop}{g:Int->Int->Int}(rule:∀(i j:Int) (t u:Tok) (s:Shared) (Q:Value->Shared->Prop) (E:Value->Shared->Prop),C i j->Q (.int (g i j) s.toks) { s with toks:=s.toks+1 }->wpAny (model X.prog X.w) X.A (f (.int i t) (.int j u)) Q E s) :
  OpR X f (rI C fun i j=>.int (g i j)):=by
 intro pins s σ H x y v u Q I rx ry h
 obtain⟨i,j,rfl,rfl,hc,q⟩:=h
 obtain⟨t,rfl⟩:=rx
 obtain⟨t',rfl⟩:=ry
 exact rule i j t t' s _ _ hc ⟨.int (g i j),H,I.tok _,⟨_,rfl⟩,q⟩
theorem ztC{f:Value->Value->Sem Value}{g:Int->Int->Int}(rule:∀(i j:Int) (t u:Tok) (s:Shared) (Q:Value->Shared->Prop) (E:Value->Shared->Prop),Q (.int (g i j) s.toks) { s with toks:=s.toks+1 }->wpAny (model X.prog X.w) X.A (f (.int i t) (.int j u)) Q E s) :
  OpR X f (rI0 fun i j=>.int (g i j)):=by
 intro pins s σ H x y v u Q I rx ry h
 obtain⟨i,j,rfl,rfl,q⟩:=h
 obtain⟨t,rfl⟩:=rx
 obtain⟨t',rfl⟩:=ry
 exact rule i j t t' s _ _ ⟨.int (g i j),H,I.tok _,⟨_,rfl⟩,q⟩
theorem zsw{f:Value->Value->Sem Value}{g:Int->Int->Bool}(rule:∀(i j:Int) (t u:Tok) (s:Shared) (Q:Value->Shared->Prop) (E:Value->Shared->Prop),Q (.bool (g i j)) s->wpAny (model X.prog X.w) X.A (f (.int i t) (.int j u)) Q E s) :
  OpR X f (rI0 fun i j=>.bl (g i j)):=by
 intro pins s σ H x y v u Q I rx ry h
 obtain⟨i,j,rfl,rfl,q⟩:=h
 obtain⟨t,rfl⟩:=rx
 obtain⟨t',rfl⟩:=ry
 exact rule i j t t' s _ _ ⟨.bl (g i j),H,I,rfl,q⟩
def zur(i j:Int):Prop:=0<j/\j<1073741824
def CMul(i j:Int):Prop:=(-(2 ^ 64)<i/\i<2 ^ 64)\/(-(2 ^ 64)<j/\j<2 ^ 64)
theorem CMul.ok{i j:Int}(h:CMul i j):IntMulOk i j:=by
 rcases h with ⟨h1,h2⟩|⟨h1,h2⟩
 ·exact .of_left (intBits_le_64 h1 h2)
 ·exact .of_right (intBits_le_64 h1 h2)
theorem zp5:OpR X (binaryOp .Add) (rI0 fun i j=>.int (i+j)):=ztC fun _ _ _ _ _ _ _ q=>add_int q
theorem zp6:OpR X (binaryOp .Sub) (rI0 fun i j=>.int (i-j)):=ztC fun _ _ _ _ _ _ _ q=>sub_int q
theorem zp7:OpR X (binaryOp .Mult) (rI CMul fun i j=>.int (i*j)):=opI fun _ _ _ _ _ _ _ hc q=>mul_int q hc.ok
theorem zp8:OpR X (binaryOp .Mod) (rI (fun _ j=>0<j) fun i j=>.int (i % j)):=opI fun i j _ _ _ _ _ hc q=>by
 have h1:(0:Int)<j:=hc
 exact mod_int' (by omega) (by rw[fmod_eq_emod_of_nonneg i (by omega)];exact q)
theorem unI{f:Value->Sem Value}{g:Int->Int}(rule:∀(i:Int) (t:Tok) (s:Shared) (Q:Value->Shared->Prop) (E:Value->Shared->Prop),Q (.int (g i) s.toks) { s with toks:=s.toks+1 }->wpAny (model X.prog X.w) X.A (f (.int i t)) Q E s) :
  UnR X f (rU fun i=>.int (g i)):=by
 intro pins s σ H x v Q I rx h
 obtain⟨i,rfl,q⟩:=h
 obtain⟨t,rfl⟩:=rx
 exact rule i t s _ _ ⟨.int (g i),H,I.tok _,⟨_,rfl⟩,q⟩
theorem zp9:UnR X (unaryOp .USub) (rU fun i=>.int (-i)):=unI fun _ _ _ _ _ q=>neg_int q
end
def ztD:V->V->Bool
 | .non,.non=>true|.non,.int _=>true|.int _,.non=>true|.non,.bl _=>true|.bl _,.non=>true|.non,.str _=>true|.str _,.non=>true
 | .int _,.int _=>true|.bl _,.bl _=>true|.str _,.str _=>true|.byt _,.byt _=>true
 | .int _,.str _=>true|.str _,.int _=>true|.bl _,.str _=>true|.str _,.bl _=>true
 | _,_=>false
def rEq:R2:=fun x y H Q=>ztD x y=true/\Q (.bl (decide (x=y))) H
def rNe:R2:=fun x y H Q=>ztD x y=true/\Q (.bl (!decide (x=y))) H
theorem zjO{i j:Int}:decide (V.int i=V.int j)=(i==j):=by
 rw[Bool.eq_iff_iff]
 simp
theorem zm5{i j:Bool}:decide (V.bl i=V.bl j)=(i==j):=by
 rw[Bool.eq_iff_iff]
 simp
theorem zjP{i j:Str}:decide (V.str i=V.str j)=(i==j):=by
 rw[Bool.eq_iff_iff]
 simp
theorem zjQ{i j:Array UInt8}:decide (V.byt i=V.byt j)=(i.toList==j.toList):=by
 rw[Bool.eq_iff_iff]
 cases i
 cases j
 simp
section
variable {X:Cx} {a b c:Expr} {ta tb tc:TE} {pos:Pos}
theorem zaW{pins:List (Addr×Obj)}{σ:St}{H:Hp}{s:Shared}{Q:VK}{k k':Bool}(I:Inv X pins σ H s)(q:Q (.bl k) H)(e:k=k'):EP X pins σ Q (.bool k') s:=by
 subst e
 exact⟨.bl k,H,I,rfl,q⟩
theorem zqa:OpR X (compareOp .Eq) rEq:=by
 intro pins s σ H x y v u Q I rx ry h
 obtain⟨hs,q⟩:=h
 cases x with
 | non =>
  cases rx
  cases y with
  | non=>cases ry;exact PySem.EqNone.eq_none_none (zaW I q (by simp))
  | bl j=>cases ry;exact PySem.EqNone.eq_none_bool (zaW I q (by simp))
  | int j=>obtain⟨t',rfl⟩:=ry;exact PySem.EqNone.eq_none_int (zaW I q (by simp))
  | str j=>obtain⟨t',rfl⟩:=ry;exact PySem.EqNone.eq_none_str (zaW I q (by simp))
  | _=>exact absurd (show false=true from hs) Bool.false_ne_true
 | bl i =>
  cases rx
  cases y with
  | non=>cases ry;exact PySem.EqNone.eq_bool_none (zaW I q (by simp))
  | bl j=>cases ry;exact eq_bool (zaW I q zm5)
  | str j=>obtain⟨t',rfl⟩:=ry;exact PySem.EqMixed.eq_bool_str (zaW I q (by simp))
  | _=>exact absurd (show false=true from hs) Bool.false_ne_true
 | int i =>
  obtain⟨t,rfl⟩:=rx
  cases y with
  | non=>cases ry;exact PySem.EqNone.eq_int_none (zaW I q (by simp))
  | int j=>obtain⟨t',rfl⟩:=ry;exact eq_int (zaW I q zjO)
  | str j=>obtain⟨t',rfl⟩:=ry;exact PySem.EqMixed.eq_int_str (zaW I q (by simp))
  | _=>exact absurd (show false=true from hs) Bool.false_ne_true
 | str i =>
  obtain⟨t,rfl⟩:=rx
  cases y with
  | non=>cases ry;exact PySem.EqNone.eq_str_none (zaW I q (by simp))
  | bl j=>cases ry;exact PySem.EqMixed.eq_str_bool (zaW I q (by simp))
  | int j=>obtain⟨t',rfl⟩:=ry;exact PySem.EqMixed.eq_str_int (zaW I q (by simp))
  | str j=>obtain⟨t',rfl⟩:=ry;exact eq_str (zaW I q zjP)
  | _=>exact absurd (show false=true from hs) Bool.false_ne_true
 | byt i =>
  obtain⟨t,rfl⟩:=rx
  cases y with
  | byt j=>obtain⟨t',rfl⟩:=ry;exact PySem.W.eq_bytes (zaW I q zjQ)
  | _=>exact absurd (show false=true from hs) Bool.false_ne_true
 | _=>cases y<;>exact absurd (show false=true from hs) Bool.false_ne_true
theorem zsx:OpR X (compareOp .NotEq) rNe:=by
 intro pins s σ H x y v u Q I rx ry h
 obtain⟨hs,q⟩:=h
 cases x with
 | non =>
  cases rx
  cases y with
  | non=>cases ry;exact PySem.EqNone.ne_none_none (zaW I q (by simp))
  | bl j=>cases ry;exact PySem.EqNone.ne_none_bool (zaW I q (by simp))
  | int j=>obtain⟨t',rfl⟩:=ry;exact PySem.EqNone.ne_none_int (zaW I q (by simp))
  | str j=>obtain⟨t',rfl⟩:=ry;exact PySem.EqNone.ne_none_str (zaW I q (by simp))
  | _=>exact absurd (show false=true from hs) Bool.false_ne_true
 | bl i =>
  cases rx
  cases y with
  | non=>cases ry;exact PySem.EqNone.ne_bool_none (zaW I q (by simp))
  | bl j=>cases ry;exact ne_bool (zaW I q (congrArg not zm5))
  | str j=>obtain⟨t',rfl⟩:=ry;exact PySem.EqMixed.ne_bool_str (zaW I q (by simp))
  | _=>exact absurd (show false=true from hs) Bool.false_ne_true
 | int i =>
  obtain⟨t,rfl⟩:=rx
  cases y with
  | non=>cases ry;exact PySem.EqNone.ne_int_none (zaW I q (by simp))
  | int j=>obtain⟨t',rfl⟩:=ry;exact ne_int (zaW I q (congrArg not zjO))
  | str j=>obtain⟨t',rfl⟩:=ry;exact PySem.EqMixed.ne_int_str (zaW I q (by simp))
  | _=>exact absurd (show false=true from hs) Bool.false_ne_true
 | str i =>
  obtain⟨t,rfl⟩:=rx
  cases y with
  | non=>cases ry;exact PySem.EqNone.ne_str_none (zaW I q (by simp))
  | bl j=>cases ry;exact PySem.EqMixed.ne_str_bool (zaW I q (by simp))
  | int j=>obtain⟨t',rfl⟩:=ry;exact PySem.EqMixed.ne_str_int (zaW I q (by simp))
  | str j=>obtain⟨t',rfl⟩:=ry;exact ne_str (zaW I q (congrArg not zjP))
  | _=>exact absurd (show false=true from hs) Bool.false_ne_true
 | byt i =>
  obtain⟨t,rfl⟩:=rx
  cases y with
  | byt j=>obtain⟨t',rfl⟩:=ry;exact PySem.W.ne_bytes (zaW I q (congrArg not zjQ))
  | _=>exact absurd (show false=true from hs) Bool.false_ne_true
 | _=>cases y<;>exact absurd (show false=true from hs) Bool.false_ne_true
theorem zqb:OpR X (compareOp .Lt) (rI0 fun i j=>.bl (decide (i<j))):=zsw fun _ _ _ _ _ _ _ q=>lt_int q
theorem zqc:OpR X (compareOp .Gt) (rI0 fun i j=>.bl (decide (j<i))):=zsw fun _ _ _ _ _ _ _ q=>gt_int q
theorem zsy:OpR X (compareOp .GtE) (rI0 fun i j=>.bl (decide (j<=i))):=zsw fun _ _ _ _ _ _ _ q=>ge_int q
theorem zcn(b:Expr){op:CmpOp}(h:op≠.In:=by decide)(h2:op≠.NotIn:=by decide):behindInMarks op b=false:=by
 have e1:(op==CmpOp.In)=false:=by cases op<;>first|rfl|exact absurd rfl h
 have e2:(op==CmpOp.NotIn)=false:=by cases op<;>first|rfl|exact absurd rfl h2
 cases b<;>simp[behindInMarks,e1,e2]
theorem zjR{op:CmpOp}{r:R2}(ho:OpR X (compareOp op) r)(ha:PE X a ta)(hb:PE X b tb)(hm:behindInMarks op b=false):PE X (.Compare a [op] [b] pos) (tOp r ta tb):=by
 intro pins s σ H Q I h
 exact wpAny_Compare1 (zsu ha hb I h fun v u s2 x y H2 I2 rx ry q=>ho pins s2 σ H2 x y v u Q I2 rx ry q) hm
def zsz(t:TE):TT:=fun σ H Q=>t σ H fun x H'=>∃k,x=.bl k/\Q k H'
theorem zob{op:CmpOp}{r:R2}(ho:OpR X (compareOp op) r)(ha:PE X a ta)(hb:PE X b tb)(hm:behindInMarks op b=false):PT X (.Compare a [op] [b] pos) (zsz (tOp r ta tb)):=by
 intro pins s σ H Q I h
 refine wpAny_isTrue_Compare1 (thn (ha pins s σ H _ I h) fun v s1 ⟨x,H1,I1,r1,q1⟩=>thn (hb pins s1 σ H1 _ I1 q1) fun u s2 ⟨y,H2,I2,r2,q2⟩ =>
  thn (ho pins s2 σ H2 x y v u _ I2 r1 r2 q2) fun c s3 ⟨z,H3,I3,r3,k,e,q3⟩=>?_) hm
 subst e
 cases r3
 exact wpAny_truthy_bool ⟨H3,I3,q3⟩
def zr4(K:PySem.W.Frag)(x:V)(H:Hp)(k:Bool):Prop :=
 match x with
 | .non=>k=false
 | .bl b=>k=b
 | .int i=>k=(i != 0)
 | .str y=>y.length<=sizeLine/\k=((y.length:Int) != 0)
 | .byt y=>y.size<=sizeLine/\k=((y.size:Int) != 0)
 | .ref p=>(∃xs,SqL K H p xs/\k=!xs.isEmpty)\/(∃xs,SqT K H p xs/\k=!xs.isEmpty)\/∃kvs,H p=some (.dK kvs)/\k=!kvs.isEmpty
 | _=>False
theorem zi2{κ:Type}{kvs:List (κ×V)}{vs:List (κ×Value)}(r:KV kvs vs):(!vs.isEmpty)=!kvs.isEmpty:=by
 cases r<;>rfl
theorem zfk{xs:List V}{its:List Value}(r:Vals xs its):(!its.toArray.isEmpty)=!xs.isEmpty:=by
 cases r<;>simp
theorem zgA:(sizeLine:Nat)<2 ^ 63:=by rw[sizeLine_eq];decide
theorem zqd:zuq X (fun x H Q=>∃k,zr4 X.K x H k/\Q k H):=by
 intro pins s σ H x v Q I rx h
 obtain⟨k,e,q⟩:=h
 have hl:=zgA
 have hs:sizeLine=16777216:=sizeLine_eq
 cases x with
 | non =>
  cases rx
  have e':k=false:=e
  subst e'
  exact truthy_none ⟨H,I,q⟩
 | bl b =>
  cases rx
  have e':k=b:=e
  subst e'
  exact wpAny_truthy_bool ⟨H,I,q⟩
 | int i =>
  obtain⟨t,rfl⟩:=rx
  have e':k=(i != 0):=e
  subst e'
  exact PySem.P.truthy_int ⟨H,I,q⟩
 | str y =>
  obtain⟨t,rfl⟩:=rx
  obtain⟨hy,e'⟩:y.length<=sizeLine/\k=((y.length:Int) != 0):=e
  subst e'
  exact PySem.P.truthy_str (by omega) ⟨H,I.tok _,q⟩
 | byt y =>
  obtain⟨t,rfl⟩:=rx
  obtain⟨hy,e'⟩:y.size<=sizeLine/\k=((y.size:Int) != 0):=e
  subst e'
  exact PySem.W.truthy_bytes (by omega) ⟨H,I.tok _,q⟩
 | ref p =>
  cases rx
  have e':(∃xs,SqL X.K H p xs/\k=!xs.isEmpty)\/(∃xs,SqT X.K H p xs/\k=!xs.isEmpty)\/∃kvs,H p=some (.dK kvs)/\k=!kvs.isEmpty:=e
  rcases e' with ⟨xs,hx,e'⟩|⟨xs,hx,e'⟩|⟨kvs,hx,e'⟩
  ·subst e'
   obtain⟨its,r,pl,hz⟩:=I.list hx
   have hlen:=r.length
   exact wpAny_truthy_list pl.isList (by simp only[size_toArray];omega) ⟨H,I.tok _,by rw[zfk r];exact q⟩
  ·subst e'
   obtain⟨its,r,pl,hz⟩:=I.tuple hx
   have hlen:=r.length
   exact truthy_tuple pl (by simp only[size_toArray];omega) ⟨H,I.tok _,by rw[zfk r];exact q⟩
  ·subst e'
   obtain⟨hz,hS,vs,r,m⟩:kvs.length<=sizeLine/\(p==sysModules)=false/\∃vs,KV kvs vs/\s.heap.DictOf (za7 X.prog X.w) p vs:=I.hok p _ hx
   have hlen:kvs.length=vs.length:=Paired.length r
   exact wpAny_truthy_dict hS m (by omega) ⟨H,I.tok _,by rw[zi2 r];exact q⟩
 | _=>exact(show False from e).elim
theorem zlL(ha:PE X a ta)(he:∀whole,isTrue a X.env whole=(do let v <- whole;standAt a.pos;holding [v] (truthy v))) :
  PT X a (fun σ H Q=>ta σ H fun x H'=>∃k,zr4 X.K x H' k/\Q k H'):=by
 intro pins s σ H Q I h
 exact isTrue_plain (thn (ha pins s σ H _ I h) fun v s1 ⟨x,H1,I1,r1,q1⟩=>zqd pins s1 σ H1 x v Q I1 r1 q1) (he _)
theorem zdS{x:V}{us:List Value}(r:Vals [x] us):∃u,us=[u]/\RelV x u:=by
 cases r with
 | cons r1 r2=>cases r2;exact⟨_,rfl,r1⟩
theorem zjS:CallR X (.type "int") (fun xs H Q=>(∃i,xs=[.int i]/\Q (.int i) H)\/∃k,xs=[.bl k]/\Q (.int (if k then 1 else 0)) H):=by
 intro pins s σ H xs us Q I r h
 rcases h with ⟨i,rfl,q⟩|⟨k,rfl,q⟩
 ·obtain⟨u,rfl,t,rfl⟩:=zdS r
  exact call_int_int ⟨.int i,H,I,⟨_,rfl⟩,q⟩
 ·obtain⟨u,rfl,r1⟩:=zdS r
  cases r1
  exact call_int_bool ⟨.int (if k then 1 else 0),H,I.tok _,⟨_,rfl⟩,q⟩
def ztE(K:PySem.W.Frag)(x:V)(H:Hp)(n:Nat):Prop :=
 match x with
 | .str y=>y.length<=sizeLine/\n=y.length
 | .byt y=>y.size<=sizeLine/\n=y.size
 | .ref p=>(∃xs,SqL K H p xs/\n=xs.length)\/∃xs,SqT K H p xs/\n=xs.length
 | _=>False
theorem zlM:CallR X (.builtin "len") (fun xs H Q=>∃x n,xs=[x]/\ztE X.K x H n/\Q (.int n) H):=by
 intro pins s σ H xs us Q I r h
 obtain⟨x,n,rfl,e,q⟩:=h
 obtain⟨u,rfl,rx⟩:=zdS r
 have hl:=zgA
 have hs:sizeLine=16777216:=sizeLine_eq
 cases x with
 | str y =>
  obtain⟨t,rfl⟩:=rx
  obtain⟨hy,e'⟩:y.length<=sizeLine/\n=y.length:=e
  subst e'
  exact len_str (by omega) ⟨.int _,H,I.tok _,⟨_,rfl⟩,q⟩
 | byt y =>
  obtain⟨t,rfl⟩:=rx
  obtain⟨hy,e'⟩:y.size<=sizeLine/\n=y.size:=e
  subst e'
  exact PySem.W.len_bytes (by omega) ⟨.int _,H,I.tok _,⟨_,rfl⟩,q⟩
 | ref p =>
  cases rx
  have e':(∃xs,SqL X.K H p xs/\n=xs.length)\/∃xs,SqT X.K H p xs/\n=xs.length:=e
  rcases e' with ⟨xs,hx,e'⟩|⟨xs,hx,e'⟩
  ·subst e'
   obtain⟨its,r',pl,hz⟩:=I.list hx
   have hlen:=r'.length
   exact Calls.call_len_list pl.isList (by simp only[size_toArray];omega) ⟨.int xs.length,H,I.tok _,⟨_,by simp only[size_toArray];rw[hlen]⟩,q⟩
  ·subst e'
   obtain⟨its,r',pl,hz⟩:=I.tuple hx
   have hlen:=r'.length
   exact len_tuple pl (by simp only[size_toArray];omega) ⟨.int xs.length,H,I.tok _,⟨_,by simp only[size_toArray];rw[hlen]⟩,q⟩
 | _=>exact(show False from e).elim
end
structure ObjM (h:Heap) (x dx C:Addr) (mA:Str->Option Value):Prop where
 obj:h.get? x=some (PySem.W.instObj C dx)
 ns:h.Ns1 dx mA
 ne:dx≠x
theorem zjT{h:Heap}{dx:Addr}{mA:Str->Option Value}(n:h.Ns1 dx mA):∃od,h.get? dx=some od/\∀name,PySem.W.lookIn name od=some (mA name):=by
 obtain⟨o,es,ep,ho,hd,hk,_,hm⟩:=n
 refine⟨o,ho,fun name=>?_⟩
 have e:=hm name
 unfold nsFind findBy at e
 rw[<- find?_toList] at e
 unfold PySem.W.lookIn
 rw[hd]
 dsimp only
 split
 ·rename_i y q
  rw[q] at e
  exact congrArg some e
 ·rename_i q
  rw[q] at e
  have a:es.toList.any (·.refKey)=false:=by
   rw[any_eq_false]
   intro y hy
   obtain⟨z,t,hkey⟩:=hk y (mem_toList_iff.mp hy)
   simp[DictEntry.refKey,hkey]
  have a':¬es.toList.any (·.refKey)=true:=by rw[a];exact Bool.false_ne_true
  rw[if_neg a']
  exact congrArg some e
theorem ObjM.look{h:Heap}{x dx C:Addr}{mA:Str->Option Value}(I:ObjM h x dx C mA):∃od,PySem.W.InstAt h x (PySem.W.instObj C dx) C (some od)/\∀name,PySem.W.lookIn name od=some (mA name) :=
 let ⟨od,ho,hl⟩:=zjT I.ns
 ⟨od,⟨I.obj,rfl,rfl,ho⟩,hl⟩
section
variable {prog:Program} {w:World} {A:Around} {E:Value->Shared->Prop} {s:Shared} {K:PySem.W.Frag} {x dx C f:Addr} {mA:Str->Option Value} {name:Str} {v:Value}
theorem zoc{expr:Bool}{Q:Value->Shared->Prop}(X:K.In s.heap)(I:ObjM s.heap x dx C mA)(hg:PySem.W.plainGet K C name=true)(hh:PySem.W.hasDictIn K C=true)(ha:PySem.W.findIn K (.ref C) name=some none)(hv:mA name=some v)(hv':PySem.W.handedIn v=true)(h:Q v { s with toks:=s.toks+1 }) :
  wpAny (model prog w) A (getAttr (.ref x) name expr) Q E s:=by
 obtain⟨od,J,hl⟩:=I.look
 exact PySem.W.get_value X J (PySem.W.plainGet_of hg).1 (PySem.W.findObj_own hh ha rfl (by rw[hl,hv])) hv' h
theorem zlN{pl:Sem Bool}{Q:Value×List Value->Shared->Prop}(X:K.In s.heap)(I:ObjM s.heap x dx C mA)(hg:PySem.W.plainGet K C name=true)(hf:PySem.W.findIn K (.ref C) name=some (some (.ref f)))(ht:PySem.W.isFn K (.ref f)=true)(hv:mA name=none)(h:Q (.ref f,[.ref x]) s) :
  wpAny (model prog w) A (getMethod (.ref x) name pl) Q E s:=by
 obtain⟨od,J,hl⟩:=I.look
 exact PySem.W.method_fn X J (PySem.W.plainGet_of hg).1 (PySem.W.plainGet_of hg).2 hf (beq_iff_eq.mp ht) (by show(PySem.W.lookIn name od).map (·.isSome)=some false;rw[hl,hv];rfl) h
theorem zod{ns:List Str}{Q:Unit->Shared->Prop}(X:K.In s.heap)(I:ObjM s.heap x dx C mA)(hs:PySem.W.findIn K (.ref C) "__setattr__" = some (some (.builtin "object.__setattr__")))(hp:PySem.W.plainOver K C=true)(ht:PySem.W.takerIn K C name=some none)(hh:PySem.W.hasDictIn K C=true)(hw:PySem.Within mA ns)(hsz:ns.length<=sizeLine)(h:∀h',ObjM h' x dx C (fun y=>if y=name then some v else mA y)->Heap.SameBut dx s.heap h'->Q () { s with heap:=h',toks:=s.toks+2 }) :
  wpAny (model prog w) A (setAttr (.ref x) name v) Q E s:=by
 obtain⟨od,J,hl⟩:=I.look
 refine PySem.W.set_plain X J hs (PySem.W.osa_open (s:={ s with toks:=s.toks+1 }) (r:=none) X J hp ht fun b=>?_)
 obtain⟨cd,hc,hd'⟩:=PySem.W.any_some hh
 have hx:s.heap.get? x=some ⟨.ref C,some dx,.plain,#[]⟩:=I.obj
 refine wpAny_bind (wpAny_pure (wpAny_bind (wpAny_bind (wpAny_loadPart hx (wpAny_bind (PySem.W.Looks.here (s:={ s with toks:=s.toks+1 }) (PySem.W.looks_clsIn X hc) ?_))))))
 rw[hd']
 refine wpAny_pure (a:=some dx) (wpAny_bind (wpAny_pure (wpAny_bind ?_)))
 refine wpAny_nsSet1 (s:={ s with toks:=s.toks+1 }) I.ns fun h' hn2 hs2=>?_
 obtain⟨oD,esD,epD,hoD,hdD,hcD⟩:=hn2.count (PySem.Within.cons name v hw)
 refine wpAny_bind (wpAny_lookBehind hoD (by rw[hdD];exact pastItsLine_dict (le_trans hcD (by rw[length_cons];omega))) ?_)
 exact wpAny_pure (h _ ⟨(hs2.2 _ (Ne.symm I.ne)).trans I.obj,hn2,I.ne⟩ hs2)
theorem zlO{R:Result->Shared->Prop}{vs:List Value}{kw:List (Str×Value)}(X:K.In s.heap)(hm:PySem.W.makesIn K C=true)(hi:PySem.W.findIn K (.ref C) "__init__" = some (some (.ref f)))(hf:PySem.W.typeIn K (.ref f)=some (.type "function"))(h:codeAny (model prog w) (A.under (.builtin "type.__call__" ⟨.ref C::vs,kw⟩)) (.call (.ref f) ⟨.ref (s.heap.objs.size+1)::vs,kw⟩) (PySem.W.InitBack (s.heap.objs.size+1) R)
   { s with heap:=(s.heap.push PySem.W.emptyDict).push (PySem.W.instObj C s.heap.objs.size) }) :
  codeAny (model prog w) A (.call (.ref C) ⟨vs,kw⟩) R s:=by
 obtain⟨hh,g,d,t,os⟩:=s
 exact PySem.W.make_core (PySem.W.makes_of X hm) (PySem.W.looks_findIn X hi) (fun self=>PySem.W.bind_fn X self hf) (.inl rfl) h
end
def zfa(f:Str)(v:V):List (Str×V)->List (Str×V)
 | []=>[(f,v)]
 | (g,x)::r=>if g=f then (g,v)::r else (g,x)::zfa f v r
theorem zey(f g:Str)(v:V):∀fs:List (Str×V),(zfa f v fs).lookup g=if g=f then some v else fs.lookup g
 | []=>by
  show List.lookup g [(f,v)]=_
  by_cases h:g=f
  ·have hb:(g==f)=true:=beq_iff_eq.mpr h
   simp only[List.lookup,hb,if_pos h]
  ·have hb:(g==f)=false:=beq_eq_false_iff_ne.mpr h
   simp only[List.lookup,hb,if_neg h]
 | (k,x)::r=>by
  have ih:=zey f g v r
  rw[show zfa f v ((k,x)::r)=(if k=f then (k,v)::r else (k,x)::zfa f v r) from rfl]
  by_cases hk:k=f
  ·rw[if_pos hk]
   by_cases h:g=k
   ·have hb:(g==k)=true:=beq_iff_eq.mpr h
    simp only[List.lookup,hb,if_pos (h.trans hk)]
   ·have hb:(g==k)=false:=beq_eq_false_iff_ne.mpr h
    simp only[List.lookup,hb,if_neg (fun e:g=f=>h (e.trans hk.symm))]
  ·rw[if_neg hk]
   by_cases h:g=k
   ·have hb:(g==k)=true:=beq_iff_eq.mpr h
    simp only[List.lookup,hb,if_neg (fun e:g=f=>hk (h.symm.trans e))]
   ·have hb:(g==k)=false:=beq_eq_false_iff_ne.mpr h
    simp only[List.lookup,hb]
    exact ih
theorem zez(f:Str)(v:V):∀fs:List (Str×V),f∈(zfa f v fs).map (·.1)/\∀g,g∈fs.map (·.1)->g∈(zfa f v fs).map (·.1)
 | []=>⟨by simp[zfa],fun g h=>by simp at h⟩
 | (k,x)::r=>by
  obtain⟨i1,i2⟩:=zez f v r
  rw[show zfa f v ((k,x)::r)=(if k=f then (k,v)::r else (k,x)::zfa f v r) from rfl]
  by_cases hk:k=f
  ·rw[if_pos hk]
   subst hk
   exact⟨by simp,fun g h=>by simpa using h⟩
  ·rw[if_neg hk]
   refine⟨?_,fun g h=>?_⟩
   ·rw[map_cons]
    exact mem_cons_of_mem _ i1
   ·rw[map_cons] at h ⊢
    rcases mem_cons.mp h with e|e
    ·exact mem_cons.mpr (.inl e)
    ·exact mem_cons_of_mem _ (i2 g e)
theorem zeA(f:Str)(v:V):∀fs:List (Str×V),(zfa f v fs).length<=fs.length+1
 | []=>by simp[zfa]
 | (k,x)::r=>by
  have ih:=zeA f v r
  rw[show zfa f v ((k,x)::r)=(if k=f then (k,v)::r else (k,x)::zfa f v r) from rfl]
  by_cases hk:k=f
  ·rw[if_pos hk,length_cons,length_cons];omega
  ·rw[if_neg hk,length_cons,length_cons];omega
theorem RelO.some_of{v:V}{o:Option Value}(r:RelO (some v) o):∃u,o=some u/\RelV v u:=by
 cases o with
 | none=>exact(show False from r).elim
 | some u=>exact⟨u,rfl,r⟩
theorem RelO.none_of{o:Option Value}(r:RelO none o):o=none:=by
 cases o with
 | none=>rfl
 | some u=>exact(show False from r).elim
theorem zjU{v:V}{u:Value}(r:RelV v u):PySem.W.handedIn u=true:=by
 cases v with
 | non=>cases (show u=Value.none from r);rfl
 | bl b=>cases (show u=Value.bool b from r);rfl
 | int i=>obtain⟨t,e⟩:=(show ∃t,u=Value.int i t from r);cases e;rfl
 | str x=>obtain⟨t,e⟩:=(show ∃t,u=Value.str x t from r);cases e;rfl
 | byt b=>obtain⟨t,e⟩:=(show ∃t,u=Value.bytes b t from r);cases e;rfl
 | flt b=>obtain⟨t,e⟩:=(show ∃t,u=Value.float b t from r);cases e;rfl
 | ref a=>cases (show u=Value.ref a from r);rfl
 | ty n=>cases (show u=Value.type n from r);rfl
section
variable {P:Program} {w:World} {H H':Hp} {h h':Heap} {a C dx:Addr} {fs fs':List (Str×V)}
theorem zhz(hok:HOk P w H h)(e:H a=some (.ins C dx fs)):∃mA,ObjM h a dx C mA/\(∀f,RelO (fs.lookup f) (mA f))/\PySem.Within mA (fs.map (·.1))/\fs.length<=1000/\H dx=some (.own a):=by
 obtain⟨d,z,ne,ob,mA,n,r,q⟩:=(show ObjOk P w H h a (.ins C dx fs) from hok a _ e)
 exact⟨mA,⟨ob,n,ne⟩,r,q,z,d⟩
end
structure Cls (K:PySem.W.Frag) (C:Addr):Prop where
 pg:PySem.W.plainGet K C Str.empty=true
 hd:PySem.W.hasDictIn K C=true
 po:PySem.W.plainOver K C=true
 sa:PySem.W.findIn K (.ref C) "__setattr__" = some (some (.builtin "object.__setattr__"))
theorem Cls.get{K:PySem.W.Frag}{C:Addr}(c:Cls K C)(f:Str):PySem.W.plainGet K C f=true:=c.pg
def NoAttr(K:PySem.W.Frag)(C:Addr)(f:Str):Prop:=PySem.W.findIn K (.ref C) f=some none
theorem NoAttr.taker{K:PySem.W.Frag}{C:Addr}{f:Str}(n:NoAttr K C f):PySem.W.takerIn K C f=some none:=by
 unfold PySem.W.takerIn
 rw[show PySem.W.findIn K (.ref C) f=some none from n]
 rfl
structure Meth (K:PySem.W.Frag) (C:Addr) (m:Str) (f:Addr):Prop where
 at_:PySem.W.findIn K (.ref C) m=some (some (.ref f))
 fn:PySem.W.isFn K (.ref f)=true
 kp:PySem.W.keepIn K (.ref f)=true
section
variable {X:Cx} {pins:List (Addr×Obj)} {σ:St} {H:Hp} {s:Shared} {a C dx:Addr} {fs:List (Str×V)} {f:Str} {v:V} {A:Around} {E:Value->Shared->Prop}
theorem zfl{b:Bool}{Q:Value->Shared->Prop}(I:Inv X pins σ H s)(e:H a=some (.ins C dx fs))(c:Cls X.K C)(n:NoAttr X.K C f)(l:fs.lookup f=some v)(h:∀u s',Inv X pins σ H s'->RelV v u->Q u s'):wpAny (model X.prog X.w) A (getAttr (.ref a) f b) Q E s:=by
 obtain⟨mA,O,r,_,_,_⟩:=zhz I.hok e
 obtain⟨u,hu,ru⟩:=RelO.some_of (v:=v) (o:=mA f) (by rw[<- l];exact r f)
 exact zoc I.kIn O (c.get f) c.hd n hu (zjU ru) (h u _ (I.tok _) ru)
theorem zfm{m:Str}{g:Addr}{pl:Sem Bool}{Q:Value×List Value->Shared->Prop}(I:Inv X pins σ H s)(e:H a=some (.ins C dx fs))(c:Cls X.K C)(k:Meth X.K C m g)(l:fs.lookup m=none)(h:Q (.ref g,[.ref a]) s):wpAny (model X.prog X.w) A (getMethod (.ref a) m pl) Q E s:=by
 obtain⟨mA,O,r,_,_,_⟩:=zhz I.hok e
 have hn:mA m=none:=RelO.none_of (by rw[<- l];exact r m)
 exact zlN I.kIn O (c.get m) k.at_ k.fn hn h
theorem zfn{y:V}{u:Value}{Q:Unit->Shared->Prop}(I:Inv X pins σ H s)(e:H a=some (.ins C dx fs))(c:Cls X.K C)(n:NoAttr X.K C f)(hl:fs.length<1000)(ry:RelV y u)(h:∀s',Inv X pins σ (upd H a (.ins C dx (zfa f y fs))) s'->Q () s'):wpAny (model X.prog X.w) A (setAttr (.ref a) f u) Q E s:=by
 obtain⟨mA,O,r,wi,_,ho⟩:=zhz I.hok e
 have hz:(fs.map (·.1)).length<=sizeLine:=by rw[length_map,sizeLine_eq];omega
 refine zod I.kIn O c.sa c.po n.taker c.hd wi hz fun h' O' sb=>h _ ?_
 have hd:∃o,h'.get? dx=some o:=let ⟨o,_,_,e',_⟩:=O'.ns;⟨o,e'⟩
 refine I.write (x:=a) (e:=dx) (by rw[e];exact True.intro) (.inr ho) (fun b q hb z=>(sb.2 b hb).trans z) hd ?_
 refine⟨by rw[zaJ O.ne];exact ho,?_,O.ne,O'.obj,_,O'.ns,fun g=>?_,fun g hg=>?_⟩
 ·have:=zeA f y fs;omega
 ·show RelO ((zfa f y fs).lookup g) (if g=f then some u else mA g)
  rw[zey]
  by_cases q:g=f
  ·rw[if_pos q,if_pos q];exact ry
  ·rw[if_neg q,if_neg q];exact r g
 ·by_cases q:g=f
  ·rw[q];exact(zez f y fs).1
  ·refine(zez f y fs).2 g (wi g fun z=>hg ?_)
   show(if g=f then some u else mA g)=none
   rw[if_neg q];exact z
theorem Inv.made(I:Inv X pins σ H s):Inv X pins σ (upd (upd H s.heap.objs.size (.own (s.heap.objs.size+1))) (s.heap.objs.size+1) (.ins C s.heap.objs.size []))
  { s with heap:=(s.heap.push PySem.W.emptyDict).push (PySem.W.instObj C s.heap.objs.size) }:=by
 have e1:(s.heap.push PySem.W.emptyDict).get? s.heap.objs.size=some PySem.W.emptyDict:=Heap.get?_push_size s.heap rfl
 have e2:((s.heap.push PySem.W.emptyDict).push (PySem.W.instObj C s.heap.objs.size)).get? (s.heap.objs.size+1)=some (PySem.W.instObj C s.heap.objs.size):=by
  have:=Heap.get?_push_size (s.heap.push PySem.W.emptyDict) (o:=PySem.W.instObj C s.heap.objs.size) rfl
  rwa [Heap.size_push] at this
 have e3:(s.heap.push PySem.W.emptyDict).Ns s.heap.objs.size (fun _=>none):=⟨PySem.W.emptyDict,#[],_,e1,rfl,(fun e he=>absurd he (by simp)),fun _=>rfl⟩
 have I1:=I.laid (a:=s.heap.objs.size) (o:=.own (s.heap.objs.size+1)) (h':=s.heap.push PySem.W.emptyDict) (t':=s.toks) (fun b u q=>Heap.get?_push_of_some _ q) (le_refl _) ⟨_,e1⟩
 refine I1.laid (a:=s.heap.objs.size+1) (o:=.ins C s.heap.objs.size []) (t':=s.toks) (fun b u q=>Heap.get?_push_of_some _ q) (le_of_eq (Heap.size_push _ _)) ?_
 have ne:s.heap.objs.size≠s.heap.objs.size+1:=ne_of_lt (lt_succ_self _)
 refine⟨by rw[zaJ ne,zaK],zero_le _,ne,e2,fun _=>none,(Heap.Ns1.of_empty e3).at fun o q=>Heap.get?_push_of_some _ q,fun _=>True.intro,fun y hy=>absurd rfl hy⟩
theorem zoe{prog:Program}{w:World}{env:Env}{e:Expr}{f:Str}{pos:Pos}{s:Shared}{Q:Value->Shared->Prop}(hb:attributeBase e f env (eval e env)=eval e env)(h:wpAny (model prog w) A (eval e env) (fun o s₁=>wpAny (model prog w) A (getAttr o f true) Q E s₁) E s):wpAny (model prog w) A (eval (.Attribute e f pos) env) Q E s :=
 Attribute_any_ h (by rw[arm_eval_Attribute,hb])
end
def zus(K:PySem.W.Frag)(ta:TE)(f:Str):TE:=fun σ H Q=>ta σ H fun x H1=>∃a C dx fs v,x=.ref a/\H1 a=some (.ins C dx fs)/\Cls K C/\NoAttr K C f/\fs.lookup f=some v/\Q v H1
def zut(K:PySem.W.Frag)(ta tv:TE)(f:Str):TS:=fun D σ H=>tv σ H fun y H1=>ta σ H1 fun x H2=>∃a C dx fs,x=.ref a/\H2 a=some (.ins C dx fs)/\Cls K C/\NoAttr K C f/\fs.length<1000 /\
 D.nx σ (upd H2 a (.ins C dx (zfa f y fs)))
def ztF(X:Cx)(op:Operator)(rd:V->V->Hp->VK->Prop):Prop :=
 ∀(pins:List (Addr×Obj)) (s:Shared) (σ:St) (H:Hp) (x y:V) (u v:Value) (Q:VK),Inv X pins σ H s->RelV x u->RelV y v->rd x y H Q->wpAny (model X.prog X.w) X.A (inplaceOp op u v) (EP X pins σ Q) X.xe s
def zof(K:PySem.W.Frag)(ta tv:TE)(rd:V->V->Hp->VK->Prop)(f:Str):TS:=fun D σ H=>ta σ H fun x H1=>∃a C dx fs v,x=.ref a/\H1 a=some (.ins C dx fs)/\Cls K C/\NoAttr K C f/\fs.lookup f=some v /\
 tv σ H1 fun y H2=>rd v y H2 fun z H3=>∃dx' fs',H3 a=some (.ins C dx' fs')/\fs'.length<1000/\D.nx σ (upd H3 a (.ins C dx' (zfa f z fs')))
section
variable {X:Cx} {o e value:Expr} {f:Str} {pos pos' tpos:Pos} {ta tv:TE}
theorem zqe(he:PE X e ta)(hb:attributeBase e f X.env (eval e X.env)=eval e X.env):PE X (.Attribute e f pos) (zus X.K ta f):=by
 intro pins s σ H Q I h
 refine zoe hb (thn (he pins s σ H _ I h) fun u s1 ⟨x,H1,I1,rx,a,C,dx,fs,v,ex,ea,c,n,l,q⟩=>?_)
 subst ex
 obtain rfl:u=Value.ref a:=rx
 exact zfl I1 ea c n l fun u' s2 I2 ru=>⟨v,H1,I2,ru,q⟩
theorem zqf(ha:PE X o ta)(hv:PE X value tv)(hs:swapsWith value (some (.Attribute o f pos')) pos.line X.env=pure false):PS X (.Assign [.Attribute o f pos'] value pos) (zut X.K ta tv f):=by
 intro pins s σ H D I h
 refine plainObj_wpAny_Assign_Attribute (thn (hv pins s σ H _ I h) fun u s1 ⟨y,H1,I1,ry,q⟩=>thn (ha pins s1 σ H1 _ I1 q) fun ov s2 ⟨x,H2,I2,rx,a,C,dx,fs,ex,ea,c,n,l,q2⟩=>?_) hs
 subst ex
 obtain rfl:ov=Value.ref a:=rx
 exact zfn I2 ea c n l ry fun s3 I3=>⟨σ,_,I3,q2⟩
theorem zjV{op:Operator}{rd:V->V->Hp->VK->Prop}(ha:PE X o ta)(hv:PE X value tv)(hop:ztF X op rd):PS X (.AugAssign (.Attribute o f tpos) op value pos) (zof X.K ta tv rd f):=by
 intro pins s σ H D I h
 refine wpAny_AugAssign_AttributeAny (thn (ha pins s σ H _ I h) fun ov s1 ⟨x,H1,I1,rx,a,C,dx,fs,v,ex,ea,c,n,l,q⟩=>?_)
 subst ex
 obtain rfl:ov=Value.ref a:=rx
 refine zfl I1 ea c n l fun u s2 I2 ru=>thn (hv pins s2 σ H1 _ I2 q) fun w3 s3 ⟨y,H2,I3,ry,q3⟩=>thn (hop pins s3 σ H2 v y u w3 _ I3 ru ry q3) fun w4 s4 ⟨z,H3,I4,rz,dx',fs',ea',l',q4⟩=>?_
 exact zfn I4 ea' c n l' rz fun s5 I5=>⟨σ,_,I5,q4⟩
def zuu:V->V->Hp->VK->Prop:=fun x y H Q=>∃i j,x=.int i/\y=.int j/\Q (.int (i+j)) H
theorem zqg:ztF X .Add zuu:=by
 rintro pins s σ H x y u v Q I rx ry ⟨i,j,rfl,rfl,q⟩
 obtain⟨t,rfl⟩:=(show ∃t,u=Value.int i t from rx)
 obtain⟨t',rfl⟩:=(show ∃t',v=Value.int j t' from ry)
 exact PyProof.Rows.iadd_int ⟨.int (i+j),H,I.tok _,⟨_,rfl⟩,q⟩
end
section
variable {X:Cx} {pins:List (Addr×Obj)} {σ:St} {H:Hp} {s:Shared} {A:Around} {E:Value->Shared->Prop} {Q:Value->Shared->Prop} {c:Value} {b:Bool}
end
structure Room (k:Nat) (A:Around):Prop where
 hd:A.handled=none
 dp:A.depth+3*k+5<recursionLimit
 un:A.units+16*k+200<cLine
theorem Room.mono{j k:Nat}{A:Around}(r:Room k A)(h:j<=k):Room j A:=⟨r.hd,by have:=r.dp;omega,by have:=r.un;omega⟩
theorem Room.deeper{k:Nat}{A:Around}(r:Room (k+1) A)(env:Env):Room k (A.deeper env) :=
 ⟨r.hd,by have:=r.dp;show A.depth+1+3*k+5<_;omega,by have:=r.un;show A.units+3+16*k+200<_;omega⟩
theorem zi3{A:Around}{C:Addr}{us:List Value}{kw:List (Str×Value)}:(A.under (.builtin "type.__call__" ⟨.ref C::us,kw⟩)).depth=A.depth+1:=by
 first|rfl|simp[Around.under,Code.weight,Code.isCreation,Code.isGuard,Code.isCaller,Code.frames,Code.isFrame,guardIds]
theorem zi4{A:Around}{C:Addr}{us:List Value}{kw:List (Str×Value)}:(A.under (.builtin "type.__call__" ⟨.ref C::us,kw⟩)).units=A.units+1:=by
 first|rfl|simp[Around.under,Code.cUnits,Code.frames,Code.isFrame]
theorem Room.make{k:Nat}{A:Around}(r:Room (k+1) A)(C:Addr)(us:List Value)(kw:List (Str×Value)):Room k (A.under (.builtin "type.__call__" ⟨.ref C::us,kw⟩)) :=
 ⟨r.hd,by have:=r.dp;rw[zi3];omega,by have:=r.un;rw[zi4];omega⟩
theorem Room.depth{k:Nat}{A:Around}(r:Room k A):A.depth<recursionLimit:=by have:=r.dp;omega
theorem Room.units{k:Nat}{A:Around}(r:Room k A):A.units+64<cLine:=by have:=r.un;omega
def ztG:TA:=fun _ H Q=>Q [] H
def zsA(ta:TE)(tr:TA):TA:=fun σ H Q=>ta σ H fun x H1=>tr σ H1 fun xs H2=>Q (x::xs) H2
section
variable {X:Cx} {e:Expr} {es:List Expr} {te:TE} {t:TA} {pos:Pos}
theorem zm6:PA X [] ztG:=fun _ _ _ _ H Q I h=>Calls.spliced_nil ⟨[],H,I,.nil,h⟩
theorem zjW(ha:PE X e te)(hr:PA X es t)(hs:starEach (e::es) X.env=(false,eval e X.env)::starEach es X.env:=by rfl):PA X (e::es) (zsA te t):=by
 intro pos pins s σ H Q I h
 rw[hs]
 show wpAny _ _ (spliced ((false,eval e X.env)::backTo pos (starEach es X.env))) _ _ s
 refine Calls.spliced_cons (thn (ha pins s σ H _ I h) fun u s1 ⟨x,H1,I1,r1,q1⟩=>?_)
 exact thn (hr pos pins s1 σ H1 _ I1 q1) fun us s2 ⟨xs,H2,I2,r2,q2⟩=>⟨x::xs,H2,I2,.cons r1 r2,q2⟩
def zuv(t:TA):TE:=fun σ H Q=>t σ H fun xs H1=>xs.length<=sizeLine/\∀p,H1 p=none->Q (.ref p) (upd H1 p (.tup xs))
def zuw(t:TA):TE:=fun σ H Q=>t σ H fun xs H1=>xs.length<=sizeLine/\∀p,H1 p=none->Q (.ref p) (upd H1 p (.lst xs))
theorem zqh{x1}(h:PA X es t):PE X (.Tuple es x1 pos) (zuv t):=by
 intro pins s σ H Q I hq
 refine wpAny_Tuple_spliced (thn (h pos pins s σ H _ I hq) fun us s1 ⟨xs,H1,I1,r,z,q⟩=>⟨by rw[<- r.length];exact z,?_⟩)
 have hf:H1 s1.heap.objs.size=none:=I1.hok.fresh (le_refl _)
 refine⟨.ref s1.heap.objs.size,upd H1 s1.heap.objs.size (.tup xs),I1.laid (t':=s1.toks) (fun b u e=>Heap.get?_push_of_some _ e) (le_refl _) ?_,rfl,q _ hf⟩
 exact⟨z,us,r,⟨_,Heap.get?_push_size _ rfl,rfl,⟨_,rfl⟩,rfl⟩⟩
theorem zjX(h:PA X es t):PE X (.List es pos) (zuw t):=by
 intro pins s σ H Q I hq
 refine wpAny_List_spliced (thn (h pos pins s σ H _ I hq) fun us s1 ⟨xs,H1,I1,r,z,q⟩=>⟨by rw[<- r.length];exact z,?_⟩)
 have hf:H1 s1.heap.objs.size=none:=I1.hok.fresh (le_refl _)
 refine⟨.ref s1.heap.objs.size,upd H1 s1.heap.objs.size (.lst xs),I1.laid (t':=s1.toks) (fun b u e=>Heap.get?_push_of_some _ e) (le_refl _) ?_,rfl,q _ hf⟩
 exact⟨z,us,0,r,Heap.get?_push_size _ rfl⟩
end
abbrev Sp:=List V->Hp->VK->XK->Prop
abbrev CXT:=List Env->Hp->Shared->XK->Value->Shared->Prop
structure Env0 (P:Program) (w:World) (K:PySem.W.Frag) (mg:Str->Option Value) (base:Heap) (A:Around) (outer:List Env) (s:Shared) (H:Hp):Prop where
 frames:A.frames=some outer
 mod:Mod K mg base
 bs:∀b o,base.get? b=some o->s.heap.get? b=some o/\H b=none
 bsz:base.objs.size<=s.heap.objs.size
 funs:s.heap.FunFrames base outer
 frf:∀b∈frs outer,H b=none
 hok:HOk P w H s.heap
 bare:AllBare s.gens
def CE(outer:List Env)(P:Program)(w:World)(H:Hp)(s:Shared)(Q:VK)(u:Value)(s':Shared):Prop :=
 ∃v H',s'.os=s.os/\AllBare s'.gens/\Un (frs outer) [] H H' s.heap s'.heap/\HOk P w H' s'.heap/\RelV v u/\Q v H'
def CR(CX:CXT)(outer:List Env)(P:Program)(w:World)(H:Hp)(s:Shared)(Q:VK)(E:XK)(r:Result)(s':Shared):Prop :=
 match r with
 | .ok (.ret u)=>CE outer P w H s Q u s'
 | .ok _=>False
 | .error e=>CX outer H s E e s'
structure FnOk (P:Program) (w:World) (K:PySem.W.Frag) (mg:Str->Option Value) (base:Heap) (CX:CXT) (k:Nat) (f:Addr) (fd:FuncData) (ps:List Str) (sp:Sp):Prop where
 len:∀vs H Q E,sp vs H Q E->vs.length=ps.length
 run:∀(A:Around) (outer:List Env) (s:Shared) (H:Hp) (args:Args) (us:List Value) (vs:List V) (Q:VK) (E:XK),Room k A->Env0 P w K mg base A outer s H->BindsTo s fd args (ps.zip us)->Vals vs us->sp vs H Q E ->
  codeAny (model P w) A (.call (.ref f) args) (CR CX outer P w H s Q E) s
theorem FnOk.imp{P:Program}{w:World}{K:PySem.W.Frag}{mg:Str->Option Value}{base:Heap}{CX:CXT}{k:Nat}{f:Addr}{fd:FuncData}{ps:List Str}{sp sp':Sp}(F:FnOk P w K mg base CX k f fd ps sp)(h:∀vs H Q E,sp' vs H Q E->sp vs H Q E):FnOk P w K mg base CX k f fd ps sp' :=
 ⟨fun vs H Q E q=>F.len vs H Q E (h _ _ _ _ q),fun A outer s H args us vs Q E hr he hb hv hs=>F.run A outer s H args us vs Q E hr he hb hv (h _ _ _ _ hs)⟩
theorem Env0.make{P:Program}{w:World}{K:PySem.W.Frag}{mg:Str->Option Value}{base:Heap}{A:Around}{outer:List Env}{s:Shared}{H:Hp}(e:Env0 P w K mg base A outer s H)(C:Addr)(us:List Value)(kw:List (Str×Value)) :
  Env0 P w K mg base (A.under (.builtin "type.__call__" ⟨.ref C::us,kw⟩)) outer s H:=⟨by first|exact e.frames|(simpa[Around.under,Code.envs,Code.isFrame,pushEnvs] using e.frames),e.mod,e.bs,e.bsz,e.funs,e.frf,e.hok,e.bare⟩
section
variable {X:Cx} {pins:List (Addr×Obj)} {σ:St} {H:Hp} {s s':Shared}
theorem Inv.env0(I:Inv X pins σ H s):Env0 X.prog X.w X.K X.mg X.base X.A X.stack s H :=
 ⟨I.ok.frames,I.ok.mod,I.bs,le_trans I.ok.bsz I.sz,I.stack,I.stkFree,I.hok,I.bare⟩
theorem Inv.after{Q:VK}{u:Value}(I:Inv X pins σ H s)(h:CE X.stack X.prog X.w H s Q u s'):EP X pins σ Q u s':=by
 obtain⟨v,H',os,bare,un,hok,r,q⟩:=h
 obtain⟨hh,g,d,t,os'⟩:=s'
 obtain rfl:os'=s.os:=os
 exact⟨v,H',I.call (h':=hh) (g':=g) (d':=d) (t':=t) (ch:=[]) un hok bare (fun b z=>absurd z (by simp)),r,q⟩
end
def zsB(sp:Sp)(dvs:List V)(E:XK)(t:TA):TE:=fun σ H Q=>t σ H fun vs H1=>sp (vs++dvs) H1 Q E
def zqi(C:Addr)(m:Str)(sp:Sp)(dvs:List V)(E:XK)(ta:TE)(t:TA):TE:=fun σ H Q=>ta σ H fun x H1=>∃a dx fs,x=.ref a/\H1 a=some (.ins C dx fs)/\fs.lookup m=none /\
 t σ H1 fun vs H2=>sp (x::(vs++dvs)) H2 Q E
def zsC(C:Addr)(sp:Sp)(dvs:List V)(E:XK)(t:TA):TE:=fun σ H Q=>t σ H fun vs H1=>∀x dx,H1 x=none->H1 dx=none->dx≠x ->
 sp (.ref x::(vs++dvs)) (upd (upd H1 dx (.own x)) x (.ins C dx [])) (fun v H2=>v=.non/\Q (.ref x) H2) E
def Binds(K:PySem.W.Frag)(fd:FuncData)(ps:List Str)(ds:List Value):Prop :=
 ∀(s:Shared) (us:List Value),K.In s.heap->(us++ds).length=ps.length->BindsTo s fd ⟨us,[]⟩ (ps.zip (us++ds))
theorem Binds.all{K:PySem.W.Frag}{fd:FuncData}{ps:List Str}(h:∀us:List Value,us.length=ps.length->bindArgs fd ⟨us,[]⟩=pure (ps.zip us)):Binds K fd ps []:=fun s us _ hl=>by
 rw[append_nil] at hl ⊢
 exact .of_eq (h us hl)
def zcD(CX:CXT)(X:Cx)(E:XK):Prop:=∀(pins:List (Addr×Obj)) (σ:St) (H:Hp) (s:Shared) (e:Value) (s':Shared),Inv X pins σ H s->CX X.stack H s E e s'->X.xe e s'
section
variable {X:Cx} {CX:CXT} {k:Nat} {f C:Addr} {fd:FuncData} {ps:List Str} {sp:Sp} {dvs:List V} {ds:List Value} {E:XK} {x m:Str} {p pos apos:Pos} {e o:Expr} {es:List Expr} {ta:TE} {t:TA}
theorem zfo{pins:List (Addr×Obj)}{σ:St}{H:Hp}{s:Shared}{Q:VK}{us:List Value}{vs:List V}(F:FnOk X.prog X.w X.K X.mg X.base CX k f fd ps sp)(hr:Room k X.A)(hb:Binds X.K fd ps ds)(hd:Vals dvs ds)(hx:zcD CX X E)(I:Inv X pins σ H s)(r:Vals vs us)(h:sp (vs++dvs) H Q E):wpAny (model X.prog X.w) X.A (call (.ref f) us) (EP X pins σ Q) X.xe s:=by
 have r2:Vals (vs++dvs) (us++ds):=r.append hd
 have hl:(us++ds).length=ps.length:=by rw[<- r2.length];exact F.len _ _ _ _ h
 refine wpAny_call (codeAny_mono (F.run X.A X.stack s H ⟨us,[]⟩ (us++ds) (vs++dvs) Q E hr I.env0 (hb s us I.kIn hl) r2 h) fun r s' hq=>?_)
 cases r with
 | error e=>exact hx pins σ H s e s' I hq
 | ok fl =>
  cases fl with
  | ret u=>exact I.after hq
  | next=>exact False.elim hq
  | brk=>exact False.elim hq
  | cont=>exact False.elim hq
theorem zog(F:FnOk X.prog X.w X.K X.mg X.base CX k f fd ps sp)(hr:Room k X.A)(hg:Gl X x)(hm:X.mg x=some (.ref f))(hk:PySem.W.keepIn X.K (.ref f)=true)(hb:Binds X.K fd ps ds)(hd:Vals dvs ds)(hx:zcD CX X E)(ha:PA X (e::es) t)(hdb:(x==("__debug__" : Str))=false:=by decide)(he:starEach (e::es) X.env=(false,eval e X.env)::starEach es X.env:=by rfl)(hpl:(backTo pos (starEach es X.env)).any (·.1)=false:=by rfl) :
  PE X (.Call (.Name x p) (e::es) [] pos) (zsB sp dvs E t):=by
 intro pins s σ H Q I h
 refine wpAny_Call_Name_kw (zcw I hg hm ?_ hdb)
 refine PySem.W.callWith_K (h₀:=X.base) I.ok.mod.kin hk (thn (ha pos pins s σ H _ I h) fun us s1 ⟨vs,H1,I1,r,q⟩=>⟨I1.kIn,?_⟩) he hpl
 exact zfo F hr hb hd hx I1 r q
theorem zoh{pl:Sem Bool}(he:PE X o ta)(c:Cls X.K C)(hm:Meth X.K C m f)(F:FnOk X.prog X.w X.K X.mg X.base CX k f fd ps sp)(hr:Room k X.A)(hb:Binds X.K fd ps ds)(hd:Vals dvs ds)(hx:zcD CX X E)(ha:PA X (e::es) t)(hst:starEach (e::es) X.env=(false,eval e X.env)::starEach es X.env:=by rfl)(hpl:(backTo pos (starEach es X.env)).any (·.1)=false:=by rfl)(ht:eval (.Call (.Attribute o m apos) (e::es) [] pos) X.env=(do
   let ov <- eval o X.env
   standAt apos.atName
   let (f,first) <- holding [ov] (getMethod ov m pl)
   callWith pos f first (backTo pos (starEach (e::es) X.env)) (backToKw pos (keywordEach [] X.env))):=by rfl) :
  PE X (.Call (.Attribute o m apos) (e::es) [] pos) (zqi C m sp dvs E ta t):=by
 intro pins s σ H Q I h
 refine PySem.W.methodCall_KW (pl:=pl) (thn (he pins s σ H _ I h) fun u s1 ⟨x,H1,I1,rx,a,dx,fs,ex,ea,l,q⟩=>?_) ht
 subst ex
 obtain rfl:u=Value.ref a:=rx
 refine zfm I1 ea c hm l ?_
 refine PySem.W.callWith_K (first:=[.ref a]) (h₀:=X.base) I.ok.mod.kin hm.kp (thn (ha pos pins s1 σ H1 _ I1 q) fun us s2 ⟨vs,H2,I2,r,q2⟩=>⟨I2.kIn,?_⟩) hst hpl
 exact zfo (us:=.ref a::us) (vs:=.ref a::vs) F hr hb hd hx I2 (.cons rfl r) q2
theorem zlP{pl:Sem Bool}(he:PE X o ta)(c:Cls X.K C)(hm:Meth X.K C m f)(F:FnOk X.prog X.w X.K X.mg X.base CX k f fd ps sp)(hr:Room k X.A)(hb:Binds X.K fd ps ds)(hd:Vals dvs ds)(hx:zcD CX X E)(ht:eval (.Call (.Attribute o m apos) [] [] pos) X.env=(do
   let ov <- eval o X.env
   standAt apos.atName
   let (f,first) <- holding [ov] (getMethod ov m pl)
   callWith pos f first (backTo pos (starEach [] X.env)) (backToKw pos (keywordEach [] X.env))):=by rfl) :
  PE X (.Call (.Attribute o m apos) [] [] pos) (zqi C m sp dvs E ta ztG):=by
 intro pins s σ H Q I h
 refine PySem.W.methodCall_KW (pl:=pl) (thn (he pins s σ H _ I h) fun u s1 ⟨x,H1,I1,rx,a,dx,fs,ex,ea,l,q⟩=>?_) ht
 subst ex
 obtain rfl:u=Value.ref a:=rx
 refine zfm I1 ea c hm l ?_
 exact PySem.W.callWith_K0 (first:=[.ref a]) I1.kIn hm.kp (zfo (us:=[.ref a]) (vs:=[.ref a]) F hr hb hd hx I1 (.cons rfl .nil) q)
structure Mk (K:PySem.W.Frag) (C f:Addr):Prop where
 makes:PySem.W.makesIn K C=true
 init:PySem.W.findIn K (.ref C) "__init__" = some (some (.ref f))
 fn:PySem.W.isFn K (.ref f)=true
 kp:PySem.W.keepIn K (.ref C)=true
theorem zlQ{pins:List (Addr×Obj)}{σ:St}{H:Hp}{s:Shared}{Q:VK}{us:List Value}{vs:List V}(M:Mk X.K C f)(F:FnOk X.prog X.w X.K X.mg X.base CX k f fd ps sp)(hr:Room (k+1) X.A)(hb:Binds X.K fd ps ds)(hd:Vals dvs ds)(hx:zcD CX X E)(I:Inv X pins σ H s)(r:Vals vs us)(h:∀x dx,H x=none->H dx=none->dx≠x->sp (.ref x::(vs++dvs)) (upd (upd H dx (.own x)) x (.ins C dx [])) (fun v H2=>v=.non/\Q (.ref x) H2) E) :
  wpAny (model X.prog X.w) X.A (call (.ref C) us) (EP X pins σ Q) X.xe s:=by
 have hq:=h (s.heap.objs.size+1) s.heap.objs.size (I.hok.fresh (le_succ _)) (I.hok.fresh (le_refl _)) (ne_of_lt (lt_succ_self _))
 have I2:=Inv.made (C:=C) I
 have r2:Vals (V.ref (s.heap.objs.size+1)::(vs++dvs)) (Value.ref (s.heap.objs.size+1)::(us++ds)):=.cons rfl (r.append hd)
 have hl:(Value.ref (s.heap.objs.size+1)::us++ds).length=ps.length:=by
  have e:=r2.length
  rw[F.len _ _ _ _ hq] at e
  exact e.symm
 refine wpAny_call (zlO (f:=f) I.kIn M.makes M.init (beq_iff_eq.mp M.fn) (codeAny_mono (F.run _ X.stack _ _ ⟨Value.ref (s.heap.objs.size+1)::us,[]⟩ (Value.ref (s.heap.objs.size+1)::(us++ds)) _ _ E (hr.make C us [])
  (I2.env0.make C us []) (hb _ (Value.ref (s.heap.objs.size+1)::us) I2.kIn hl) r2 hq) fun r s' hq'=>?_))
 cases r with
 | error e=>exact hx pins σ _ _ e s' I2 hq'
 | ok fl =>
  cases fl with
  | ret u =>
   obtain⟨v,H',I3,rv,ev,q3⟩:=I2.after hq'
   subst ev
   exact⟨rv,⟨V.ref (s.heap.objs.size+1),H',I3,rfl,q3⟩⟩
  | next=>exact False.elim hq'
  | brk=>exact False.elim hq'
  | cont=>exact False.elim hq'
theorem zoi(M:Mk X.K C f)(F:FnOk X.prog X.w X.K X.mg X.base CX k f fd ps sp)(hr:Room (k+1) X.A)(hg:Gl X x)(hm:X.mg x=some (.ref C))(hb:Binds X.K fd ps ds)(hd:Vals dvs ds)(hx:zcD CX X E)(ha:PA X (e::es) t)(hdb:(x==("__debug__" : Str))=false:=by decide)(he:starEach (e::es) X.env=(false,eval e X.env)::starEach es X.env:=by rfl)(hpl:(backTo pos (starEach es X.env)).any (·.1)=false:=by rfl) :
  PE X (.Call (.Name x p) (e::es) [] pos) (zsC C sp dvs E t):=by
 intro pins s σ H Q I h
 refine wpAny_Call_Name_kw (zcw I hg hm ?_ hdb)
 refine PySem.W.callWith_K (h₀:=X.base) I.ok.mod.kin M.kp (thn (ha pos pins s σ H _ I h) fun us s1 ⟨vs,H1,I1,r,q⟩=>⟨I1.kIn,?_⟩) he hpl
 exact zlQ M F hr hb hd hx I1 r q
end
section
variable {X:Cx} {CX:CXT} {k:Nat} {f C:Addr} {fd:FuncData} {ps ks:List Str} {sp:Sp} {E:XK} {x m:Str} {p pos apos kpos:Pos} {e o:Expr} {es:List Expr} {kws:List Keyword} {te ta:TE} {t tk:TA} {nm:Option Str}
variable {g:List Value->List Value->List Value} {gV:List V->List V->List V}
end
structure FnScope (N P:List Str) (sc:Scope):Prop where
 kind:sc.kind=.function
 co:sc.isCoroutine=false
 gen:sc.isGenerator=false
 nd:N.Nodup
 pre:N.take P.length=P
 par:∀x∈P,sc.names.lookup x=some .local\/sc.names.lookup x=some .cell
 nofree:∀y∈sc.names,y.2≠.free
theorem zgB{kindOf:Str->Option NameKind}{x:Str}:∀{binds:List (Str×Value)} {m:Str->Option Value},(∀v,(x,v)∉binds)->bindL kindOf binds m x=m x
 | [],_,_=>rfl
 | (n,v)::r,m,h=>by
  unfold bindL
  rw[zgB fun w hw=>h w (mem_cons_of_mem _ hw)]
  split
  ·have:x≠n:=by rintro rfl;exact h v mem_cons_self
   simp[this]
  ·rfl
theorem zgC{kindOf:Str->Option NameKind}{x:Str}:∀{binds:List (Str×Value)} {m:Str->Option Value},(∀v,(x,v)∉binds)->bindC kindOf binds m x=m x
 | [],_,_=>rfl
 | (n,v)::r,m,h=>by
  unfold bindC
  rw[zgC fun w hw=>h w (mem_cons_of_mem _ hw)]
  split
  ·rfl
  ·have:x≠n:=by rintro rfl;exact h v mem_cons_self
   simp[this]
theorem zgD{kindOf:Str->Option NameKind}{x:Str}{v:Value}:∀{P:List Str} {vs:List Value} {i:Nat} {m:Str->Option Value},P.Nodup->P[i]?=some x->vs[i]?=some v->kindOf x=some .local ->
  bindL kindOf (P.zip vs) m x=some v
 | [],_,_,_,_,h,_,_=>by simp at h
 | _::_,[],_,_,_,_,h,_=>by simp at h
 | p::P,w::vs,0,m,nd,h1,h2,hk=>by
  simp at h1 h2;subst h1;subst h2
  show bindL kindOf ((p,w)::P.zip vs) m p=_
  unfold bindL
  rw[zgB fun v hv=>(nodup_cons.mp nd).1 (of_mem_zip hv).1,if_pos hk]
  simp
 | p::P,w::vs,i+1,m,nd,h1,h2,hk=>by
  show bindL kindOf ((p,w)::P.zip vs) m x=_
  unfold bindL
  exact zgD (i:=i) (nodup_cons.mp nd).2 (by simpa using h1) (by simpa using h2) hk
theorem zgE{kindOf:Str->Option NameKind}{x:Str}{v:Value}:∀{P:List Str} {vs:List Value} {i:Nat} {m:Str->Option Value},P.Nodup->P[i]?=some x->vs[i]?=some v->kindOf x≠some .local ->
  bindC kindOf (P.zip vs) m x=some v
 | [],_,_,_,_,h,_,_=>by simp at h
 | _::_,[],_,_,_,_,h,_=>by simp at h
 | p::P,w::vs,0,m,nd,h1,h2,hk=>by
  simp at h1 h2;subst h1;subst h2
  show bindC kindOf ((p,w)::P.zip vs) m p=_
  unfold bindC
  rw[zgC fun v hv=>(nodup_cons.mp nd).1 (of_mem_zip hv).1,if_neg hk]
  simp
 | p::P,w::vs,i+1,m,nd,h1,h2,hk=>by
  show bindC kindOf ((p,w)::P.zip vs) m x=_
  unfold bindC
  exact zgE (i:=i) (nodup_cons.mp nd).2 (by simpa using h1) (by simpa using h2) hk
def start(N:List Str)(vs:List V):St:=vs.map some++List.replicate (N.length-vs.length) none
def zjB(CX:CXT)(P:Program)(w:World)(K:PySem.W.Frag)(mg:Str->Option Value)(base:Heap)(N:List Str)(qual:Str)(scope:Scope)(f:Addr)(cd:Value)(A:Around)(outer:List Env)(s:Shared)(H:Hp)(E:XK):Cx where
 prog:=P
 w:=w
 K:=K
 mg:=mg
 base:=base
 A:=A.deeper (envOfC qual scope s.heap.objs.size f cd)
 N:=N
 s₀:=s
 H₀:=H
 env:=envOfC qual scope s.heap.objs.size f cd
 outer:=outer
 stack:=envOfC qual scope s.heap.objs.size f cd::outer
 ex:=[]
 calm:=true
 fn:=fun _=>true
 pn:=[]
 xe:=fun e s'=>wpAny (model P w) (A.deeper (envOfC qual scope s.heap.objs.size f cd)) (leaving (envOfC qual scope s.heap.objs.size f cd) e) (fun _ s''=>CX outer H s E e s'') (fun e' s''=>CX outer H s E e' s'') s'
theorem zib{sc:Scope}{n:Nat}{x:Str}(h:sc.names.lookup x=some .cell):∃c,(cellsFrom n sc.names []).lookup x=some c:=by
 have q:=PySem.W.cellsFrom_some sc.names n [] (.inl h)
 exact isSome_iff_exists.mp q
theorem zjY{CX:CXT}{P:Program}{w:World}{K:PySem.W.Frag}{mg:Str->Option Value}{base:Heap}{N ps:List Str}{qual:Str}{scope:Scope}{f:Addr}{cd:Value}{A:Around}{outer:List Env}{s s1:Shared}{H:Hp}{E:XK}{us:List Value}{vs:List V}(S:FnScope N ps scope)(hd:A.handled=none)(e0:Env0 P w K mg base A outer s H)(hl:vs.length=ps.length)(r:Vals vs us)(x:InCallC s s.heap.objs.size (bindL (envOfC qual scope s.heap.objs.size f cd).kindOf (ps.zip us) fun _=>none) (cellsFrom (s.heap.objs.size+1) scope.names []) (bindC (envOfC qual scope s.heap.objs.size f cd).kindOf (ps.zip us) fun _=>none) s1) :
  Inv (zjB CX P w K mg base N qual scope f cd A outer s H E) [] (start N vs) H s1:=by
 have hpl:ps.length<=N.length:=by have:=congrArg List.length S.pre;rw[length_take] at this;omega
 obtain⟨h1,tk,rfl,hk⟩:=x.done
 have noA:∀b:Addr,b∉(zjB CX P w K mg base N qual scope f cd A outer s H E).ex:=fun b z=>absurd (show b∈([]:List Addr) from z) (by simp)
 refine⟨⟨e0.mod,S.kind,rfl,rfl,le_refl _,fun y z c h1 h2=>?_,fun y hy=>?_,fun y c _ h=>?_,fun _=>hd,Around.frames_deeper e0.frames,.inr ⟨rfl,rfl⟩,fun b z=>absurd z (noA b),e0.bs,e0.bsz,fun b _ _=>noA b,fun b z=>absurd z (noA b),e0.funs,e0.frf⟩,
  rfl,e0.bare,Un.kept hk,⟨_,x.toInCall.ns,fun i y v h1 h2 h3=>?_⟩,fun y c h=>⟨_,x.cell y c h⟩,e0.hok.fresh (le_refl _),fun y c h=>?_,fun p hp=>absurd (show p∈([]:List (Addr×Obj)) from hp) (by simp),e0.hok.kept hk,?_⟩
 ·exact name_of_addr x.apart (PySem.mem_of_lookup h1) (PySem.mem_of_lookup h2)
 ·have hy:scope.names.lookup y=some .cell\/scope.names.lookup y=some .free:=hy
  rcases hy with hy|hy
  ·exact zib hy
  ·exact absurd rfl (S.nofree _ (PySem.mem_of_lookup hy))
 ·exact le_of_lt (x.above y c (PySem.mem_of_lookup h))
 ·have hi:i<vs.length:=by
   unfold start at h2
   by_cases hi:i<vs.length
   ·exact hi
   ·rw[getElem?_append_right (by simpa using hi)] at h2
    rw[getElem?_replicate] at h2
    split at h2<;>cases h2
  have ha:vs[i]?=some v:=by
   unfold start at h2
   rw[getElem?_append_left (by simpa using hi),getElem?_map] at h2
   cases e:vs[i]? with
   | none=>rw[e] at h2;cases h2
   | some a=>rw[e] at h2;cases h2;rfl
  obtain⟨u,hu,rv⟩:=r.get ha
  have hp:ps[i]?=some y:=by
   rw[<- S.pre,getElem?_take_of_lt (by omega)];exact h1
  have ndP:ps.Nodup:=by rw[<- S.pre];exact S.nd.sublist (take_sublist _ _)
  refine⟨u,rv,?_⟩
  rcases S.par y (mem_of_getElem? hp) with k|k
  ·exact .inl ⟨k,zgD ndP hp hu k⟩
  ·obtain⟨c,e⟩:=zib (n:=s.heap.objs.size+1) k
   refine .inr ⟨.inl k,c,e,?_⟩
   have q:=x.cell y c e
   rw[zgE ndP hp hu (by show scope.names.lookup y≠_;rw[k];decide)] at q
   exact q
 ·exact e0.hok.fresh (le_of_lt (x.above y c (PySem.mem_of_lookup h)))
 ·unfold start
  show _=N.length
  rw[length_append,length_map,length_replicate]
  omega
theorem zsD{CX:CXT}{P:Program}{w:World}{K:PySem.W.Frag}{mg:Str->Option Value}{base:Heap}{k:Nat}{f:Addr}{name qual:Str}{params:Arguments}{body:List Stmt}{scope:Scope}{dV kV doc pm cdv ct oc:Value}{an od:Option Addr}{osl:Array (Option Value)}{N ps:List Str}{sp:Sp}(lk:K.lookup f=some ⟨oc,od,.func (PySem.W.fnOf name qual params body scope dV kV doc pm an cdv ct),osl⟩)(hcd:PySem.W.codeIn K cdv qual=true)(S:FnScope N ps scope)(len:∀vs H Q E,sp vs H Q E->vs.length=ps.length)(hbody:∀(A:Around) (outer:List Env) (s:Shared) (H:Hp) (vs:List V) (Q:VK) (E:XK),Room k (A.deeper (envOfC qual scope s.heap.objs.size f cdv))->sp vs H Q E ->
   ∃t,PSs (zjB CX P w K mg base N qual scope f cdv A outer s H E) body t/\t { nx:=fun _ H'=>Q .non H',rt:=Q } (start N vs) H) :
  FnOk P w K mg base CX (k+1) f (PySem.W.fnOf name qual params body scope dV kV doc pm an cdv ct) ps sp:=by
 refine⟨len,fun A outer s H args us vs Q E hr e0 hb r hsp=>?_⟩
 have hl:=len _ _ _ _ hsp
 have KX:K.In s.heap:=e0.mod.kin.keeps fun b o e=>(e0.bs b o e).1
 have lim:s.heap.NoLimit:=e0.mod.nolimit.keeps fun b o e=>(e0.bs b o e).1
 have hkind:∀y∈ps.zip us,scope.names.lookup y.1=some .local\/(scope.names.lookup y.1=some .cell/\((cellsFrom (s.heap.objs.size+1) scope.names []).lookup y.1).isSome=true):=fun⟨n,v⟩ hy=>by
  rcases S.par n (of_mem_zip hy).1 with q|q
  ·exact .inl q
  ·exact .inr ⟨q,PySem.W.cellsFrom_some _ _ _ (.inl q)⟩
 refine codeAny_call_function hr.depth (KX _ _ lk) rfl S.co S.gen rfl (PySem.W.codeRec_of KX hcd) (hb _ _ _ _ ?_)
 refine wpAny_newFunctionEnv_cells S.kind hkind fun env he s1 x=>?_
 subst he
 refine⟨lim.keeps x.toInCall.keep,codeAny_func ?_⟩
 obtain⟨t,ht,hq⟩:=hbody A outer s H vs Q E (hr.deeper _) hsp
 have I:Inv (zjB CX P w K mg base N qual scope f cdv A outer s H E) [] (start N vs) H s1:=zjY S hr.hd e0 hl r x
 refine wpAny_mono (ht [] s1 (start N vs) H _ I hq) (fun fl s' hs=>?_) fun e s' hs=>hs
 have fin:∀{σ':St} {H':Hp} {v:V} {u:Value},Inv (zjB CX P w K mg base N qual scope f cdv A outer s H E) [] σ' H' s'->RelV v u->Q v H'->CE outer P w H s Q u s' :=
  fun {σ' H' v u} J rv q=>⟨v,H',J.os,J.bare,J.base,J.hok,rv,q⟩
 cases fl with
 | ret u =>
  obtain⟨v,σ',H',J,rv,q⟩:=hs
  exact fin J rv q
 | next =>
  obtain⟨σ',H',J,q⟩:=hs
  exact fin (v:=V.non) (u:=Value.none) J rfl q
 | brk =>
  obtain⟨_,_,_,q⟩:=hs
  exact False.elim q
 | cont =>
  obtain⟨_,_,_,q⟩:=hs
  exact False.elim q
section
variable {X:Cx} {x:Str} {p pos:Pos} {e:Expr} {es:List Expr} {t:TA} {id T:String} {r:List V->Hp->VK->Prop}
def tCB(r:List V->Hp->VK->Prop)(t:TA):TE:=fun σ H Q=>t σ H fun vs H1=>r vs H1 Q
theorem zlR(hc:CallR X (.builtin id) r)(hg:Gl X x)(hm:X.mg x=none)(hv:bootBuiltins x=some (.builtin id))(ha:PA X (e::es) t)(hn:x ≠ "__name__" := by decide)(hdb:(x==("__debug__" : Str))=false:=by decide)(he:starEach (e::es) X.env=(false,eval e X.env)::starEach es X.env:=by rfl)(hpl:(backTo pos (starEach es X.env)).any (·.1)=false:=by rfl):PE X (.Call (.Name x p) (e::es) [] pos) (tCB r t):=by
 intro pins s σ H Q I h
 refine wpAny_Call_Name_kw (zia I hg hm hv ?_ hn hdb)
 exact PyProof.Rows.callWith_builtin1 (thn (ha pos pins s σ H _ I h) fun us s1 ⟨vs,H1,I1,r1,q1⟩=>hc pins s1 σ H1 vs us Q I1 r1 q1) he hpl
theorem zgF(hc:CallR X (.type T) r)(hg:Gl X x)(hm:X.mg x=none)(hv:bootBuiltins x=some (.type T))(ha:PA X (e::es) t)(hn:x ≠ "__name__" := by decide)(hdb:(x==("__debug__" : Str))=false:=by decide)(he:starEach (e::es) X.env=(false,eval e X.env)::starEach es X.env:=by rfl)(hpl:(backTo pos (starEach es X.env)).any (·.1)=false:=by rfl):PE X (.Call (.Name x p) (e::es) [] pos) (tCB r t):=by
 intro pins s σ H Q I h
 refine wpAny_Call_Name_kw (zia I hg hm hv ?_ hn hdb)
 exact PyProof.Rows.callWith_type1 (thn (ha pos pins s σ H _ I h) fun us s1 ⟨vs,H1,I1,r1,q1⟩=>hc pins s1 σ H1 vs us Q I1 r1 q1) he hpl
end
end L2
namespace HT
open PySem PyProof.Rows
section
open PySem.SeqAt
open PySem.AutoSeq1 (wpAny_loadPart')
open PySem.MeetsSeq PySem.MeetsSeq2 PySem.MeetsSeq3
end
section
variable {prog:Program} {w:World} {A:Around} {E:Value->Shared->Prop} {s:Shared}
theorem cat_tup{t b:Addr}{vs ws:List Value}{Q:Value->Shared->Prop}(ht:IsTup s.heap t vs.toArray)(hb:IsTup s.heap b ws.toArray)(hv:vs≠[])(h1:ws=[]->Q (.ref t) s)(h2:ws≠[]->Q (.ref s.heap.objs.size) { s with heap:=s.heap.push { cls:=.type "tuple",data:=.seq (vs++ws).toArray } })(hsz:vs.length+ws.length<=sizeLine):wpAny (model prog w) A (binaryOp .Add (.ref t) (.ref b)) Q E s:=by
 obtain⟨⟨cls,dd,data,sl⟩,ho,hc,n,hd⟩:=id ht
 obtain⟨⟨cls2,dd2,data2,sl2⟩,ho2,hc2,n2,hd2⟩:=id hb
 simp only at hc hd hc2 hd2
 subst hc hd hc2 hd2
 have e:vs.toArray++ws.toArray=(vs++ws).toArray:=by simp
 by_cases hw:ws=[]
 ·exact concat_meets ⟨_,ho,rfl⟩ ⟨_,ho2,rfl⟩ noFill_tuple_add seq_tuple_add PySem.F.slot_tuple_add PySem.F.entry_tuple_add (PySem.F.args_tuple_add_2 _ _)
   (tuple_addW1 t b vs.toArray ws.toArray n n2 dd dd2 sl sl2 (by simpa using hv) (by simp[hw])) ⟨ho,ho2,h1 hw⟩
 ·refine concat_meets ⟨_,ho,rfl⟩ ⟨_,ho2,rfl⟩ noFill_tuple_add seq_tuple_add PySem.F.slot_tuple_add PySem.F.entry_tuple_add (PySem.F.args_tuple_add_2 _ _)
   (tuple_addW2 t b vs.toArray ws.toArray n n2 dd dd2 sl sl2 (by simpa using hv) (by simpa using hw) (by rw[size_toArray,size_toArray];exact hsz)) ⟨ho,ho2,?_⟩
  rw[e]
  exact h2 hw
def sIx(n d:Nat):Option Int->Nat
 | none=>d
 | some v=>if v<0 then (v+(n:Int)).toNat else min v.toNat n
theorem sIx_none(n d:Nat):sIx n d none=d:=rfl
theorem zqj(n d:Nat)(hd:d<=n)(o:Option Int):sIx n d o<=n:=by
 cases o with
 | none=>exact hd
 | some v =>
  show(if v<0 then (v+(n:Int)).toNat else min v.toNat n)<=n
  by_cases hv:v<0
  ·rw[if_pos hv];omega
  ·rw[if_neg hv];exact min_le_right _ _
theorem zjZ(v:Int)(n d:Nat):(if v<0 then max (v+(n:Int)) 0 else min v (n:Int))=((sIx n d (some v):Nat):Int):=by
 show(if v<0 then max (v+(n:Int)) 0 else min v (n:Int))=(((if v<0 then (v+(n:Int)).toNat else min v.toNat n):Nat):Int)
 by_cases hv:v<0
 ·simp only[if_pos hv];omega
 ·simp only[if_neg hv];omega
theorem zi5(lo hi:Option Int)(n:Nat):Builtin.Slice.sliceAdjust lo hi 1 (n:Int)=(((sIx n 0 lo:Nat):Int),((sIx n n hi:Nat):Int)):=by
 have h1:¬((1:Int)<0):=by omega
 unfold Builtin.Slice.sliceAdjust
 simp only[h1,if_false]
 refine Prod.ext ?_ ?_
 ·cases lo with
  | none=>rfl
  | some v=>exact zjZ v n 0
 ·cases hi with
  | none=>rfl
  | some v=>exact zjZ v n n
theorem zi6(i j:Nat):Builtin.Slice.slicePlaces (i:Int) (j:Int) 1=j-i:=by
 unfold Builtin.Slice.slicePlaces
 have h1:(1:Int)>0:=by omega
 simp only[h1,if_true,ediv_one]
 split<;>omega
theorem zfp{v:Value}{o:Option Int}{Q:Option Int->Shared->Prop}(p:IsPart v o)(h:Q o s):wpAny (model prog w) A (Builtin.Slice.slicePartIndex v) Q E s:=by
 cases p with
 | none=>exact slicePart_none h
 | int i t=>exact slicePart_int h
theorem zcE{sl:Addr}{vl vu:Value}{lo hi:Option Int}{n:Nat}{Q:Int×Int×Nat->Shared->Prop}(hs:s.heap.IsSliceOf sl vl vu .none)(pl:IsPart vl lo)(pu:IsPart vu hi)(h:Q (((sIx n 0 lo:Nat):Int),1,sIx n n hi-sIx n 0 lo) s):wpAny (model prog w) A (Builtin.Slice.sliceApplied (.ref sl) (pure (n:Int))) Q E s:=by
 obtain⟨os,hos,hcs,hds⟩:=id hs
 unfold Builtin.Slice.sliceApplied Builtin.Slice.sliceFields
 refine wpAny_bind (wpAny_bind (wpAny_field hos hds (x:=vl) rfl (wpAny_bind (wpAny_field hos hds (x:=vu) rfl (wpAny_bind (wpAny_field hos hds (x:=.none) rfl (wpAny_pure ?_)))))))
 refine wpAny_bind (slicePart_none ?_)
 show wpAny _ _ (if ((1:Int)==0)=true then _ else _) _ _ s
 rw[if_neg (by decide)]
 refine wpAny_bind (zfp pl (wpAny_bind (zfp pu (wpAny_bind (wpAny_pure ?_)))))
 show wpAny _ _ (match Builtin.Slice.sliceAdjust lo hi 1 (n:Int) with|(lo,hi)=>pure (lo,(1:Int),Builtin.Slice.slicePlaces lo hi 1)) _ _ s
 rw[zi5 lo hi n]
 show wpAny _ _ (pure (((sIx n 0 lo:Nat):Int),(1:Int),Builtin.Slice.slicePlaces ((sIx n 0 lo:Nat):Int) ((sIx n n hi:Nat):Int) 1)) _ _ s
 rw[zi6]
 exact wpAny_pure h
theorem zlS(xs:Array Value)(i k:Nat):((List.range k).filterMap fun(m:Nat)=>xs[((i:Int)+(m:Int)*1).toNat]?).toArray=((xs.toList.drop i).take k).toArray:=by
 have e:(fun(m:Nat)=>xs[((i:Int)+(m:Int)*1).toNat]?)=fun m=>xs[i+m]?:=by
  funext m
  have:((i:Int)+(m:Int)*1).toNat=i+m:=by omega
  rw[this]
 rw[e]
 have:=pick_run xs i k
 rw[filterMap_map] at this
 have e2:((fun x=>xs[x]?)∘fun x=>i+x)=fun m=>xs[i+m]?:=rfl
 rw[e2] at this
 rw[this]
theorem getItem_tuple_cut{t sl:Addr}{items:Array Value}{vl vu:Value}{lo hi:Option Int}{Q:Value->Shared->Prop}(ht:IsTup s.heap t items)(hs:s.heap.IsSliceOf sl vl vu .none)(pl:IsPart vl lo)(pu:IsPart vu hi)(hw:¬(sIx items.size 0 lo=0/\sIx items.size items.size hi=items.size))(h:Q (.ref s.heap.objs.size) { s with heap:=s.heap.push { cls:=.type "tuple",data:=.seq ((items.toList.drop (sIx items.size 0 lo)).take (sIx items.size items.size hi-sIx items.size 0 lo)).toArray } })(hsz:items.size<=sizeLine):wpAny (model prog w) A (getItem (.ref t) (.ref sl)) Q E s:=by
 have htake:sizeOk (.seq ((items.toList.drop (sIx items.size 0 lo)).take (sIx items.size items.size hi-sIx items.size 0 lo)).toArray):=by
  show((items.toList.drop (sIx items.size 0 lo)).take (sIx items.size items.size hi-sIx items.size 0 lo)).toArray.size<=sizeLine
  rw[size_toArray,length_take,length_drop,length_toList]
  omega
 have hj:sIx items.size items.size hi<=items.size:=zqj _ _ (le_refl _) hi
 obtain⟨os,hos,hcs,hds⟩:=id hs
 have hTs:s.TypeIs (.ref sl) "slice" := ⟨os,hos,hcs⟩
 unfold getItem
 try with_reducible refine wpAny_holding ?_
 first|refine wpAny_bind (wpAny_pure ?_)|skip
 refine wpAny_bind (wpAny_sequenceKey ht.typeIs (by decide) ?_)
 refine wpAny_bind (wpAny_callSpecial?_slot (name:=Str.ofString "__getitem__") ht.typeIs PyProof.Rows.slot_tuple_getitem
  (wpAny_call_entry PyProof.Rows.slot_tuple_getitem ht.typeIs entry_tuple_getitem ?_ (args_tuple_getitem _ _)))
 show wpAny _ _ (Builtin.Tuple.tupleItemsOf (.ref t) >>= _) _ _ s
 refine wpAny_bind (tupleItemsOf_ ht ?_)
 refine wpAny_bind (wpAny_typeOf hTs ?_)
 rw[if_pos (by decide)]
 refine wpAny_bind (zcE hs pl pu ?_)
 have hno:¬((((sIx items.size 0 lo:Nat):Int)==0&&(1:Int)==1&&(sIx items.size items.size hi-sIx items.size 0 lo)==items.size)=true):=by
  intro q
  rw[and_eq_true,and_eq_true] at q
  have q1:((sIx items.size 0 lo:Nat):Int)=0:=eq_of_beq q.1.1
  have q2:sIx items.size items.size hi-sIx items.size 0 lo=items.size:=eq_of_beq q.2
  exact hw ⟨by omega,by omega⟩
 show wpAny _ _ (if (((sIx items.size 0 lo:Nat):Int)==0&&(1:Int)==1&&(sIx items.size items.size hi-sIx items.size 0 lo)==items.size)=true then _ else _) _ _ s
 rw[if_neg hno,zlS]
 first
  | exact wpAny_bind (m:=Builtin.Tuple.tupleExact _) (wpAny_newObj_type (wpAny_pure ⟨_,rfl,wpAny_pure h⟩) htake)
  | exact wpAny_bind (m:=Builtin.Tuple.tupleExact _) (wpAny_newObj_type (wpAny_bind (wpAny_pure (wpAny_pure ⟨_,rfl,wpAny_pure h⟩))) htake)
  | exact wpAny_bind (wpAny_bind (m:=Builtin.Tuple.tupleExact _) (wpAny_newObj_type (wpAny_pure (wpAny_pure ⟨_,rfl,wpAny_pure h⟩)) htake))
  | exact wpAny_bind (wpAny_bind (m:=Builtin.Tuple.tupleExact _) (wpAny_newObj_type (wpAny_pure ⟨_,rfl,wpAny_pure h⟩) htake))
end
end HT
namespace L2
open PySem PySem.Spec PyProof.Rows
abbrev TO:=St->Hp->(Option Int->Hp->Prop)->Prop
def PO(X:Cx)(e:Option Expr)(t:TO):Prop :=
 ∀(pins:List (Addr×Obj)) (s:Shared) (σ:St) (H:Hp) (Q:Option Int->Hp->Prop),Inv X pins σ H s->t σ H Q ->
  wpAny (model X.prog X.w) X.A (evalPart e X.env) (fun u s'=>∃o H',Inv X pins σ H' s'/\IsPart u o/\Q o H') X.xe s
def zoj:TO:=fun _ H Q=>Q none H
def zsE(t:TE):TO:=fun σ H Q=>t σ H fun x H1=>∃i,x=.int i/\Q (some i) H1
theorem zdT{ns:List Int}:∀{us:List Value},Vals (ns.map V.int) us->IntsAre us ns:=by
 induction ns with
 | nil=>intro us r;rw[map_nil] at r;cases r;exact .nil
 | cons n ns ih =>
  intro us r
  rw[map_cons] at r
  cases r with
  | cons r1 r2 =>
   obtain⟨t,e⟩:=r1
   subst e
   exact .cons n t (ih r2)
section
variable {X:Cx} {e:Expr} {te:TE} {lo hi:Option Expr} {tl th:TO} {pos p2:Pos}
theorem zok:PO X none zoj:=by
 intro pins s σ H Q I h
 rw[evalPart_none]
 exact wpAny_pure ⟨none,H,I,.none,h⟩
theorem zol(h:PE X e te):PO X (some e) (zsE te):=by
 intro pins s σ H Q I hw
 rw[evalPart_some]
 refine thn (h pins s σ H _ I hw) fun u s1 ⟨x,H1,I1,r1,q1⟩=>?_
 obtain⟨i,rfl,q⟩:=q1
 obtain⟨t,rfl⟩:=r1
 exact⟨some i,H1,I1,.int i t,q⟩
def SlR(X:Cx)(r:V->Option Int->Option Int->Hp->VK->Prop):Prop :=
 ∀(pins:List (Addr×Obj)) (s:Shared) (σ:St) (H:Hp) (x:V) (v vl vu:Value) (lo hi:Option Int) (sl:Addr) (Q:VK),Inv X pins σ H s->RelV x v->s.heap.IsSliceOf sl vl vu .none->IsPart vl lo->IsPart vu hi->r x lo hi H Q ->
  ∃T id,typeLookup (.type T) "__getitem__" = pure (some (.builtin id))/\s.TypeIs v T/\wpAny (model X.prog X.w) X.A (getItem v (.ref sl)) (EP X pins σ Q) X.xe s
theorem SlR.or{r r':V->Option Int->Option Int->Hp->VK->Prop}(h:SlR X r)(h':SlR X r'):SlR X (fun x lo hi H Q=>r x lo hi H Q\/r' x lo hi H Q):=by
 intro pins s σ H x v vl vu lo hi sl Q I rx hs pl pu q
 rcases q with q|q
 ·exact h pins s σ H x v vl vu lo hi sl Q I rx hs pl pu q
 ·exact h' pins s σ H x v vl vu lo hi sl Q I rx hs pl pu q
def tSl(r:V->Option Int->Option Int->Hp->VK->Prop)(te:TE)(tl th:TO):TE:=fun σ H Q=>te σ H fun x H1=>tl σ H1 fun l H2=>th σ H2 fun u H3=>r x l u H3 Q
theorem zlT{r:V->Option Int->Option Int->Hp->VK->Prop}(hr:SlR X r)(he:PE X e te)(hl:PO X lo tl)(hu:PO X hi th):PE X (.Subscript e (.Slice lo hi none p2) pos) (tSl r te tl th):=by
 intro pins s σ H Q I h
 refine Subscript_ (thn (he pins s σ H _ I h) fun v s1 ⟨x,H1,I1,r1,q1⟩=>?_)
 refine wpAny_Slice (thn (hl pins s1 σ H1 _ I1 q1) fun vl s2 ⟨l,H2,I2,pl,q2⟩=>thn (hu pins s2 σ H2 _ I2 q2) fun vu s3 ⟨u,H3,I3,pu,q3⟩=>?_)
 rw[evalPart_none]
 refine wpAny_pure ?_
 have I4:Inv X pins σ H3 { s3 with heap:=s3.heap.push { cls:=.type "slice",data:=.fields #[vl,vu,.none] } }:=I3.kept (t':=s3.toks) fun b ob q=>Heap.get?_push_of_some _ q
 obtain⟨T,id,hT,ht,hg⟩:=hr pins { s3 with heap:=s3.heap.push { cls:=.type "slice",data:=.fields #[vl,vu,.none] } } σ H3 x v vl vu l u s3.heap.objs.size Q I4 r1 (Heap.IsSliceOf.new ..) pl pu q3
 show wpAny (model X.prog X.w) X.A (subscriptTail e (.Slice lo hi none p2) v (.ref s3.heap.objs.size)) (EP X pins σ Q) X.xe { s3 with heap:=s3.heap.push { cls:=.type "slice",data:=.fields #[vl,vu,.none] } }
 exact tail_any (ops:=[.ref s3.heap.objs.size,v]) ht hT hg (by with_unfolding_all rfl)
def zom(xs:List V)(lo hi:Option Int):List V:=(xs.drop (HT.sIx xs.length 0 lo)).take (HT.sIx xs.length xs.length hi-HT.sIx xs.length 0 lo)
theorem zhA(xs:List V)(lo hi:Option Int):(zom xs lo hi).length<=xs.length:=by
 unfold zom
 rw[length_take,length_drop]
 omega
def ztH(K:PySem.W.Frag):V->Option Int->Option Int->Hp->VK->Prop:=fun x lo hi H Q=>∃a xs,x=.ref a/\SqT K H a xs /\
 ¬(HT.sIx xs.length 0 lo=0/\HT.sIx xs.length xs.length hi=xs.length)/\∀p,H p=none->Q (.ref p) (upd H p (.tup (zom xs lo hi)))
theorem zqk:SlR X (ztH X.K):=by
 intro pins s σ H x v vl vu lo hi sl Q I rx hs pl pu h
 obtain⟨a,xs,rfl,hx,hw,q⟩:=h
 cases rx
 obtain⟨its,r,ht,hz⟩:=I.tuple hx
 have hlen:its.toArray.size=xs.length:=by rw[size_toArray];exact r.length.symm
 refine⟨"tuple",_,PyProof.Rows.slot_tuple_getitem.lookup,ht.typeIs,?_⟩
 refine HT.getItem_tuple_cut ht hs pl pu (by rw[hlen];exact hw) ?_ (by rw[hlen];exact hz)
 rw[hlen]
 refine⟨.ref s.heap.objs.size,_,I.laid (t':=s.toks) (o:=.tup (zom xs lo hi)) (fun b ob q=>Heap.get?_push_of_some _ q) (le_refl _) ?_,rfl,q _ (I.hok.fresh (le_refl _))⟩
 exact⟨le_trans (zhA xs lo hi) hz,_,(r.drop (HT.sIx xs.length 0 lo)).take (HT.sIx xs.length xs.length hi-HT.sIx xs.length 0 lo),TupN.new _ _⟩
def zsF(K:PySem.W.Frag):R2:=fun x y H Q=>∃a b xs ys,x=.ref a/\y=.ref b/\SqT K H a xs/\SqT K H b ys/\xs≠[]/\xs.length+ys.length<=sizeLine /\
 (ys=[]->Q (.ref a) H)/\(ys≠[]->∀p,H p=none->Q (.ref p) (upd H p (.tup (xs++ys))))
theorem Vals.nil_iff{xs:List V}{us:List Value}(r:Vals xs us):us=[]↔xs=[]:=by
 cases r with
 | nil=>simp
 | cons _ _=>simp
theorem zon:OpR X (binaryOp .Add) (zsF X.K):=by
 intro pins s σ H x y v u Q I rx ry h
 obtain⟨a,b,xs,ys,rfl,rfl,ha,hb,hx,hz,q1,q2⟩:=h
 cases rx
 cases ry
 obtain⟨its,r1,p1,_⟩:=I.tuple ha
 obtain⟨its2,r2,p2,_⟩:=I.tuple hb
 refine HT.cat_tup p1 p2 (fun z=>hx (r1.nil_iff.mp z)) (fun z=>⟨.ref a,H,I,rfl,q1 (r2.nil_iff.mp z)⟩) (fun z=>?_) (by rw[<- r1.length,<- r2.length];exact hz)
 refine⟨.ref s.heap.objs.size,_,I.laid (t':=s.toks) (o:=.tup (xs++ys)) (fun b ob q=>Heap.get?_push_of_some _ q) (le_refl _) ?_,rfl,q2 (fun w=>z (r2.nil_iff.mpr w)) _ (I.hok.fresh (le_refl _))⟩
 exact⟨by rw[length_append];exact hz,_,r1.append r2,TupN.new _ _⟩
end
def ixN(n:Nat)(i:Int):Option Nat:=if 0<=i then (if i<n then some i.toNat else none) else if -(n:Int)<=i then some (i+n).toNat else none
def atI{α:Type}(xs:List α)(i:Int):Option α:=(ixN xs.length i).bind fun j=>xs[j]?
theorem zj0{n:Nat}{i:Int}{j:Nat}(h:ixN n i=some j):seqIndex? i n=some j/\j<n/\-(n:Int)<=i/\i<n:=by
 unfold ixN at h
 by_cases h0:0<=i
 ·rw[if_pos h0] at h
  by_cases h1:i<n
  ·rw[if_pos h1] at h
   have e:i.toNat=j:=Option.some.inj h
   exact⟨by rw[seqIndex_of h0 h1,e],by omega,by omega,h1⟩
  ·rw[if_neg h1] at h;cases h
 ·rw[if_neg h0] at h
  by_cases h1:-(n:Int)<=i
  ·rw[if_pos h1] at h
   have e:(i+n).toNat=j:=Option.some.inj h
   exact⟨by rw[seqIndex_neg (by omega) h1,e],by omega,h1,by omega⟩
  ·rw[if_neg h1] at h;cases h
theorem zj1{α:Type}{xs:List α}{i:Int}{v:α}(h:atI xs i=some v):∃j,seqIndex? i xs.length=some j/\xs[j]?=some v/\j<xs.length/\-(xs.length:Int)<=i/\i<xs.length:=by
 unfold atI at h
 cases e:ixN xs.length i with
 | none=>rw[e] at h;cases h
 | some j =>
  rw[e] at h
  obtain⟨h1,h2,h3,h4⟩:=zj0 e
  exact⟨j,h1,h,h2,h3,h4⟩
def zj2(b:Expr):Prop:=∀o i,subscripted b false o i=operate [o,i] (getItem o i)
def IxR(X:Cx)(r:R2):Prop :=
 ∀(value slice:Expr) (pins:List (Addr×Obj)) (s:Shared) (σ:St) (H:Hp) (x y:V) (v u:Value) (Q:VK),Inv X pins σ H s->RelV x v->RelV y u->r x y H Q ->
  subscripted slice false v u=operate [v,u] (getItem v u)->wpAny (model X.prog X.w) X.A (subscriptTail value slice v u) (EP X pins σ Q) X.xe s
def MtR(X:Cx)(id:String)(r:V->List V->Hp->VK->Prop):Prop :=
 ∀(pins:List (Addr×Obj)) (s:Shared) (σ:St) (H:Hp) (x:V) (xs:List V) (v:Value) (us:List Value) (Q:VK),Inv X pins σ H s->RelV x v->Vals xs us->r x xs H Q ->
  wpAny (model X.prog X.w) X.A (call (.builtin id) (v::us)) (EP X pins σ Q) X.xe s
section
variable {X:Cx} {a b:Expr} {ta tb:TE} {pos:Pos}
theorem IxR.or{r r':R2}(h:IxR X r)(h':IxR X r'):IxR X (fun x y H Q=>r x y H Q\/r' x y H Q):=by
 intro value slice pins s σ H x y v u Q I rx ry q hs
 rcases q with q|q
 ·exact h value slice pins s σ H x y v u Q I rx ry q hs
 ·exact h' value slice pins s σ H x y v u Q I rx ry q hs
theorem zsG{r:R2}(hr:IxR X r)(ha:PE X a ta)(hb:PE X b tb)(hs:zj2 b):PE X (.Subscript a b pos) (tOp r ta tb):=by
 intro pins s σ H Q I h
 exact Subscript_ (zsu ha hb I h fun v u s2 x y H2 I2 rx ry q=>hr a b pins s2 σ H2 x y v u Q I2 rx ry q (hs _ _))
def zsH(K:PySem.W.Frag):R2:=fun x y H Q=>∃p xs i v,x=.ref p/\y=.int i/\SqL K H p xs/\atI xs i=some v/\Q v H
def zsI(K:PySem.W.Frag):R2:=fun x y H Q=>∃p xs i v,x=.ref p/\y=.int i/\SqT K H p xs/\atI xs i=some v/\Q v H
theorem zoo:IxR X (zsH X.K):=by
 intro value slice pins s σ H x y v u Q I rx ry h hs
 obtain⟨p,xs,i,z,rfl,rfl,hq,he,q⟩:=h
 cases rx
 obtain⟨t,rfl⟩:=ry
 obtain⟨its,r,pl,hz⟩:=I.list hq
 obtain⟨j,h1,h2,h3,h4,h5⟩:=zj1 he
 obtain⟨w,ew,rw'⟩:=r.get h2
 have hl:=r.length
 have hn:=zgA
 have fin:EP X pins σ Q w s:=⟨z,H,I,rw',q⟩
 by_cases h0:0<=i
 ·have hj:i.toNat=j:=by
   rw[seqIndex_of h0 h5] at h1
   exact Option.some.inj h1
  exact item_listR pl.isList h0 (by omega) (by rw[hj];simpa using ew) fin hs
 ·have hj:(i+(its.toArray.size:Int)).toNat=j:=by
   rw[seqIndex_neg (by omega) h4] at h1
   rw[size_toArray,<- hl]
   exact Option.some.inj h1
  exact subscriptTail_builtinR (x:=w) pl.isList.typeIs slot_list_getitem.lookup
   (wpAny_getItem_list_neg (Q:=fun r s'=>r=w/\EP X pins σ Q r s') pl.isList (by omega) (by rw[size_toArray]<;>omega) (by omega) (by rw[hj];simpa using ew) ⟨rfl,fin⟩) hs
theorem zql:IxR X (zsI X.K):=by
 intro value slice pins s σ H x y v u Q I rx ry h hs
 obtain⟨p,xs,i,z,rfl,rfl,hq,he,q⟩:=h
 cases rx
 obtain⟨t,rfl⟩:=ry
 obtain⟨its,r,pl,hz⟩:=I.tuple hq
 obtain⟨j,h1,h2,h3,h4,h5⟩:=zj1 he
 obtain⟨w,ew,rw'⟩:=r.get h2
 have hl:=r.length
 have hn:=zgA
 have fin:EP X pins σ Q w s:=⟨z,H,I,rw',q⟩
 exact subscriptTail_builtinR (x:=w) pl.typeIs slot_tuple_getitem.lookup
  (getItem_tuple (j:=j) (Q:=fun r s'=>r=w/\EP X pins σ Q r s') pl (by omega) (by omega) (by rw[size_toArray,<- hl];exact h1) (by simpa using ew) ⟨rfl,fin⟩) hs
theorem zi7(its:List Value)(n j:Nat)(u:Value):Obj.mapSeq (·.setIfInBounds j u) { cls:=.type "list",data:=.seq its.toArray n }={ cls:=.type "list",data:=.seq (its.set j u).toArray n }:=by
 simp[Obj.mapSeq]
theorem Inv.lst{pins:List (Addr×Obj)}{σ:St}{H:Hp}{s:Shared}{p:Addr}{xs:List V}(I:Inv X pins σ H s)(h:H p=some (.lst xs)) :
  ∃(its:List Value) (n:Nat),Vals xs its/\s.heap.get? p=some { cls:=.type "list",data:=.seq its.toArray n }/\xs.length<=sizeLine:=by
 obtain⟨z,its,n,r,e⟩:=I.hok p _ h
 exact⟨its,n,r,e,z⟩
theorem Inv.lstUpd{pins:List (Addr×Obj)}{σ:St}{H:Hp}{s:Shared}{p:Addr}{xs ys:List V}{its its':List Value}{n n':Nat}{f:Obj->Obj}(I:Inv X pins σ H s)(h:H p=some (.lst xs))(ho:s.heap.get? p=some { cls:=.type "list",data:=.seq its.toArray n })(hf:f { cls:=.type "list",data:=.seq its.toArray n }={ cls:=.type "list",data:=.seq its'.toArray n' })(r:Vals ys its')(hz:ys.length<=sizeLine)(t:Nat) :
  Inv X pins σ (upd H p (.lst ys)) { s with heap:=s.heap.update p f,toks:=t }:=by
 have e:(s.heap.update p f).get? p=some { cls:=.type "list",data:=.seq its'.toArray n' }:=by
  rw[Heap.get?_update_self f ho (by rw[hf]<;>rfl),hf]
 refine I.write (x:=p) (e:=p) (by rw[h];trivial) (.inl rfl) (fun b u hb q=>(Heap.get?_update_other _ _ (Ne.symm hb)).trans q) ⟨_,e⟩ ?_
 exact⟨hz,its',n',r,e⟩
def zsJ:V->V->V->Hp->(Hp->Prop)->Prop:=fun o i v H Q=>∃p xs k j,o=.ref p/\i=.int k/\H p=some (.lst xs)/\ixN xs.length k=some j/\Q (upd H p (.lst (xs.set j v)))
theorem zlU:ztB X zsJ:=by
 intro pins s σ H o i v ov iv u Q I ro ri rv h
 obtain⟨p,xs,k,j,rfl,rfl,hp,hj,q⟩:=h
 cases ro
 obtain⟨t,rfl⟩:=ri
 obtain⟨its,n,r,ho,hz⟩:=I.lst hp
 obtain⟨h1,h2,h3,h4⟩:=zj0 hj
 have hl:=r.length
 have hn:=zgA
 have I':Inv X pins σ (upd H p (.lst (xs.set j v))) { s with heap:=s.heap.update p (Obj.mapSeq (·.setIfInBounds j u)) } :=
  I.lstUpd hp ho (zi7 its n j u) (r.set rv j) (by rw[length_set];exact hz) s.toks
 by_cases h0:0<=k
 ·have hk:k.toNat=j:=by
   rw[seqIndex_of h0 h4] at h1
   exact Option.some.inj h1
  exact PySem.W.ki_setAt ho h0 (by omega) (by rw[size_toArray,<- hl];exact h4) (by rw[hk];exact⟨_,I',q⟩)
 ·have hk:(k+(its.toArray.size:Int)).toNat=j:=by
   rw[seqIndex_neg (by omega) h3] at h1
   rw[size_toArray,<- hl]
   exact Option.some.inj h1
  exact PySem.W.ki_setBack ho (by omega) (by rw[size_toArray,<- hl];exact h3) (by omega) (by rw[hk];exact⟨_,I',q⟩)
def zuS(K:PySem.W.Frag):V->Option Int->Option Int->Hp->VK->Prop:=fun x lo hi H Q=>∃a xs,x=.ref a/\SqL K H a xs/\∀p,H p=none->Q (.ref p) (upd H p (.lst (zom xs lo hi)))
theorem zgG:CallR X (.type "list") (fun xs H Q=>∃p ys,xs=[.ref p]/\(SqL X.K H p ys\/SqT X.K H p ys)/\∀l,H l=none->Q (.ref l) (upd H l (.lst ys))):=by
 intro pins s σ H xs us Q I r h
 obtain⟨p,ys,rfl,hq,q⟩:=h
 obtain⟨u,rfl,rx⟩:=zdS r
 cases rx
 have fin:∀(its:List Value),Vals ys its->ys.length<=sizeLine->∀(h':Heap) (c':Nat),(∀b o',s.heap.get? b=some o'->h'.get? b=some o') ->
   h'.get? s.heap.objs.size=some { cls:=.type "list",dict:=none,data:=.seq its.toArray c',slots:=#[] }->EP X pins σ Q (.ref s.heap.objs.size) { s with heap:=h' }:=fun its r' hz h' c' kp e =>
  ⟨.ref s.heap.objs.size,_,I.laid (t':=s.toks) kp (le_refl _) (show ObjOk X.prog X.w _ h' _ (.lst ys) from⟨hz,its,c',r',e⟩),rfl,q _ (I.hok.fresh (le_refl _))⟩
 rcases hq with hq|hq
 ·obtain⟨its,r',pl,hz⟩:=I.list hq
  have hlen:=r'.length
  obtain⟨o,ho,hc,n,hd⟩:=pl.isList
  exact call_list_seq p (.inl rfl) ho hc hd (fun h' c' kp e=>fin its r' hz h' c' kp e) (by simp only[size_toArray]<;>omega)
 ·obtain⟨its,r',pl,hz⟩:=I.tuple hq
  have hlen:=r'.length
  obtain⟨o,ho,hc,n,hd⟩:=pl
  exact call_list_seq p (.inr rfl) ho hc hd (fun h' c' kp e=>fin its r' hz h' c' kp e) (by simp only[size_toArray]<;>omega)
theorem zfO:CallR X (.type "tuple") (fun xs H Q=>∃p ys,xs=[.ref p]/\((SqL X.K H p ys/\∀l,H l=none->Q (.ref l) (upd H l (.tup ys)))\/(SqT X.K H p ys/\Q (.ref p) H))):=by
 intro pins s σ H xs us Q I r h
 obtain⟨p,ys,rfl,h⟩:=h
 obtain⟨u,rfl,rx⟩:=zdS r
 cases rx
 rcases h with ⟨hq,q⟩|⟨hq,q⟩
 ·obtain⟨its,r',pl,hz⟩:=I.list hq
  have hlen:=r'.length
  refine call_tuple_list pl.isList (fun h' kp=>?_) (by simp only[size_toArray]<;>omega)
  have I1:Inv X pins σ H { s with heap:=h' }:=I.kept (t':=s.toks) kp
  have I2:Inv X pins σ (upd H h'.objs.size (.tup ys)) { s with heap:=h'.push { cls:=.type "tuple",data:=.seq its.toArray } } :=
   I1.laid (t':=s.toks) (fun b o e=>Heap.get?_push_of_some _ e) (le_refl _) (show ObjOk X.prog X.w _ _ _ (.tup ys) from⟨hz,its,r',TupN.new _ _⟩)
  exact⟨.ref h'.objs.size,_,I2,rfl,q _ (I1.hok.fresh (le_refl _))⟩
 ·obtain⟨its,r',pl,hz⟩:=I.tuple hq
  exact call_tuple_same pl ⟨.ref p,H,I,rfl,q⟩
def tyV(K:PySem.W.Frag)(T:String)(x:V)(H:Hp):Prop:=match x with
 | .str _=>T = "str"
 | .int _=>T = "int"
 | .ref p=>(T = "list" /\ ∃xs,SqL K H p xs)\/(T = "tuple" /\ ∃o,K.lookup p=some o/\o.cls=.type "tuple" /\ o.dict=none) \/
   (T = "dict" /\ ((∃kvs,H p=some (.dK kvs))\/∃kvs,H p=some (.dT kvs)))\/(T = "set" /\ ∃S n,H p=some (.set S n))
 | _=>False
theorem zm7{pins:List (Addr×Obj)}{σ:St}{H:Hp}{s:Shared}{T:String}{x:V}{v:Value}(I:Inv X pins σ H s)(r:RelV x v)(ty:tyV X.K T x H) :
  s.TypeIs v T/\∀a,v=.ref a->∃ob,s.heap.get? a=some ob/\ob.dict=none:=by
 cases x with
 | str z =>
  obtain⟨t,rfl⟩:=r
  cases (show T = "str" from ty)
  exact⟨typeIs_str s z t,fun _ e=>nomatch e⟩
 | int i =>
  obtain⟨t,rfl⟩:=r
  cases (show T = "int" from ty)
  exact⟨typeIs_int s i t,fun _ e=>nomatch e⟩
 | ref p =>
  cases r
  rcases ty with ⟨rfl,xs,hq⟩|⟨rfl,o,hk,hc,hd⟩|⟨rfl,hk⟩|⟨rfl,S,n,hk⟩
  ·obtain⟨its,_,pl,_⟩:=I.list hq
   refine⟨pl.isList.typeIs,fun a e=>?_⟩
   cases e
   obtain⟨o,n,e,c,hd,_⟩:=pl
   exact⟨o,e,hd⟩
  ·refine⟨⟨o,I.kIn p o hk,hc⟩,fun a e=>?_⟩
   cases e
   exact⟨o,I.kIn _ o hk,hd⟩
  ·have z:∃o,s.heap.get? p=some o/\o.ExactDict:=by
    rcases hk with ⟨kvs,hk⟩|⟨kvs,hk⟩
    ·obtain⟨_,_,_,_,o,_,_,e,ex,_⟩:=I.hok p _ hk
     exact⟨o,e,ex⟩
    ·obtain⟨_,_,_,_,o,_,_,e,ex,_⟩:=I.hok p _ hk
     exact⟨o,e,ex⟩
   obtain⟨o,e,ex⟩:=z
   refine⟨⟨o,e,ex.1⟩,fun a e2=>?_⟩
   cases e2
   exact⟨o,e,ex.2.1⟩
  ·obtain⟨o,_,_,_,e,ex,_⟩:=I.hok p _ hk
   refine⟨⟨o,e,ex.1⟩,fun a e2=>?_⟩
   cases e2
   exact⟨o,e,ex.2.1⟩
 | _=>exact False.elim ty
def zux(K:PySem.W.Frag)(T:String)(r:V->List V->Hp->VK->Prop)(to:TE):TE:=fun σ H Q=>to σ H fun x H1=>tyV K T x H1/\r x [] H1 Q
def tBM(K:PySem.W.Frag)(T:String)(r:V->List V->Hp->VK->Prop)(to:TE)(t:TA):TE:=fun σ H Q=>to σ H fun x H1=>tyV K T x H1/\t σ H1 fun xs H2=>r x xs H2 Q
variable {o e:Expr} {es:List Expr} {to:TE} {t:TA} {name:Str} {apos cpos:Pos} {T id:String} {r:V->List V->Hp->VK->Prop}
theorem zqm(pa:PlainAttrs T)(slot:Slot T name id)(hty:typeOf (.builtin id)=pure (.type "method_descriptor"))(hm:MtR X id r)(ho:PE X o to)(hbase:attributeBase o name X.env (eval o X.env)=eval o X.env:=by rfl)(hline:(apos.endLine==cpos.line)=true:=by rfl):PE X (.Call (.Attribute o name apos) [] [] cpos) (zux X.K T r to):=by
 intro pins s σ H Q I h
 refine wpAny_Call_method0_late hbase hline (thn (ho pins s σ H _ I h) fun v s1 ⟨x,H1,I1,r1,ty,q1⟩=>?_)
 obtain⟨h1,h2⟩:=zm7 I1 r1 ty
 exact⟨T,id,pa,slot,hty,h1,h2,Calls.callWith_builtin rfl (PySem.evalArgs_none (hm pins s1 σ H1 x [] v [] Q I1 r1 .nil q1))⟩
theorem zsK(pa:PlainAttrs T)(slot:Slot T name id)(hty:typeOf (.builtin id)=pure (.type "method_descriptor"))(hm:MtR X id r)(ho:PE X o to)(ha:PA X (e::es) t)(hbase:attributeBase o name X.env (eval o X.env)=eval o X.env:=by rfl)(hfew:((backTo cpos (starEach (e::es) X.env)).all (fun x=>!x.1)&&(backToKw cpos (keywordEach [] X.env)).all (fun x=>x.1.isSome)
   && decide ((e::es).length+([]:List Keyword).length+(if ([]:List Keyword).isEmpty then 0 else 1)<30))=true:=by rfl)(hline:(apos.endLine==cpos.line)=true:=by rfl)(hs:starEach (e::es) X.env=(false,eval e X.env)::starEach es X.env:=by rfl)(hplain:(backTo cpos (starEach es X.env)).any (·.1)=false:=by rfl) :
  PE X (.Call (.Attribute o name apos) (e::es) [] cpos) (tBM X.K T r to t):=by
 intro pins s σ H Q I h
 refine wpAny_Call_method_late hbase hfew hline rfl (thn (ho pins s σ H _ I h) fun v s1 ⟨x,H1,I1,r1,ty,q1⟩=>?_)
 obtain⟨h1,h2⟩:=zm7 I1 r1 ty
 refine⟨T,id,pa,slot,hty,h1,h2,?_⟩
 have hA:=ha cpos pins s1 σ H1 _ I1 q1
 rw[hs] at hA ⊢
 refine Calls.callWith_builtin (by show(false||(backTo cpos (starEach es X.env)).any (·.1))=false;rw[hplain]<;>rfl) (Calls.evalArgs_plain ?_)
 exact thn hA fun us s2 ⟨vs,H2,I2,r2,q2⟩=>hm pins s2 σ H2 x vs v us Q I2 r1 r2 q2
end
def MtM(X:Cx)(id:String)(r:V->List V->Hp->VK->Prop):Prop :=
 ∀(pins:List (Addr×Obj)) (s:Shared) (σ:St) (H:Hp) (x:V) (xs:List V) (v:Value) (us:List Value) (Q:VK),Inv X pins σ H s->RelV x v->Vals xs us->r x xs H Q ->
  wpAny (model X.prog X.w) X.A (call (.builtin id) (v::us)) (EP X pins σ Q) X.xe s
theorem Vals.one:∀{x:V} {us:List Value},Vals [x] us->∃u,us=[u]/\RelV x u
 | _,_,.cons r .nil=>⟨_,rfl,r⟩
theorem Vals.zero:∀{us:List Value},Vals [] us->us=[]
 | _,.nil=>rfl
theorem Vals.dropLast{xs:List V}{us:List Value}(h:Vals xs us):Vals xs.dropLast us.dropLast:=by
 induction h with
 | nil=>exact .nil
 | cons r t ih =>
  cases t with
  | nil=>exact .nil
  | cons q t'=>exact .cons r ih
theorem Vals.eraseIdx:∀{xs:List V} {us:List Value} (i:Nat),Vals xs us->Vals (xs.eraseIdx i) (us.eraseIdx i)
 | _,_,_,.nil=>.nil
 | _,_,0,.cons _ t=>t
 | _,_,i+1,.cons r t=>.cons r (Vals.eraseIdx i t)
theorem Vals.rep{xs:List V}{us:List Value}(h:Vals xs us):∀k:Nat,Vals (List.replicate k xs).flatten (List.replicate k us).flatten
 | 0=>.nil
 | k+1=>by
  rw[replicate_succ,replicate_succ,flatten_cons,flatten_cons]
  exact Vals.append h (Vals.rep h k)
theorem zi8{α:Type}(l:List α):l.eraseIdx (l.length-1)=l.dropLast:=by
 induction l with
 | nil=>rfl
 | cons a r ih =>
  cases r with
  | nil=>rfl
  | cons b r =>
   have e:(a::b::r).length-1=((b::r).length-1)+1:=by
    have h1:(a::b::r).length=r.length+2:=rfl
    have h2:(b::r).length=r.length+1:=rfl
    omega
   rw[e,eraseIdx_cons_succ,ih]
   all_goals rfl
theorem zgH{α:Type}:∀(l:List α) (i:Nat),(l.eraseIdx i).length<=l.length
 | [],_=>le_refl _
 | _::_,0=>le_succ _
 | _::r,i+1=>succ_le_succ (zgH r i)
theorem zgI(its:List Value):∀(k:Nat) (acc:List Value),
  List.foldl (fun x1 x2=>x1++x2) acc.toArray (List.replicate k its.toArray)=(acc++(List.replicate k its).flatten).toArray
 | 0,acc=>by simp
 | k+1,acc=>by
  have e:acc.toArray++its.toArray=(acc++its).toArray:=by simp
  have e2:(acc++its)++(List.replicate k its).flatten=acc++(List.replicate (k+1) its).flatten:=by
   rw[replicate_succ,flatten_cons,append_assoc]
  rw[<- e2,<- zgI its k (acc++its),<- e,replicate_succ,foldl_cons]
section
variable {X:Cx} {pins:List (Addr×Obj)} {σ:St} {H:Hp} {s:Shared} {l b:Addr} {xs ys zs:List V}
theorem Inv.lset{its its':List Value}{n:Nat}{f:Array Value->Array Value}{t':Nat}(I:Inv X pins σ H s)(hH:H l=some (.lst xs))(e:s.heap.get? l=some { cls:=.type "list",data:=.seq its.toArray n })(hf:f its.toArray=its'.toArray)(hv:Vals ys its')(hz:ys.length<=sizeLine) :
  Inv X pins σ (upd H l (.lst ys)) { s with heap:=s.heap.update l (Obj.mapSeq f),toks:=t' }:=by
 have q:=PySem.IsL.update e f
 rw[hf] at q
 refine I.write (x:=l) (e:=l) (by rw[hH];exact trivial) (.inl rfl) (fun b' u hb hu=>(Heap.get?_update_other s.heap (Obj.mapSeq f) (Ne.symm hb)).trans hu) ⟨_,q⟩ ?_
 exact⟨hz,its',_,hv,q⟩
theorem Inv.lnew{its:List Value}{t':Nat}(I:Inv X pins σ H s)(hv:Vals ys its)(hz:ys.length<=sizeLine) :
  Inv X pins σ (upd H s.heap.objs.size (.lst ys)) { s with heap:=s.heap.push { cls:=.type "list",data:=.seq its.toArray },toks:=t' } :=
 I.laid (fun _ _ q=>Heap.get?_push_of_some _ q) (le_refl _) ⟨hz,its,0,hv,Heap.get?_push_size _ rfl⟩
theorem Inv.fresh(I:Inv X pins σ H s):H s.heap.objs.size=none:=I.hok.fresh (le_refl _)
theorem Inv.lstM(I:Inv X pins σ H s)(hH:H l=some (.lst xs)):xs.length<=sizeLine/\∃(its:List Value) (n:Nat),Vals xs its/\xs.length=its.length/\s.heap.get? l=some { cls:=.type "list",data:=.seq its.toArray n }:=by
 obtain⟨z,its,n,r,e⟩:=I.hok l _ hH
 exact⟨z,its,n,r,r.length,e⟩
theorem zic{n:Nat}(h:n<=sizeLine):Builtin.List.listTooLong n=false:=by
 unfold Builtin.List.listTooLong
 exact decide_eq_false (by omega)
end
section
variable {X:Cx}
def zj3:V->List V->Hp->VK->Prop:=fun x vs H Q=>∃l xs y,x=.ref l/\vs=[y]/\H l=some (.lst xs)/\xs.length<sizeLine/\Q .non (upd H l (.lst (xs++[y])))
theorem zbc:MtM X "list.append" zj3:=by
 intro pins s σ H x vs v us Q I rx rv h
 obtain⟨l,xs,y,rfl,rfl,hH,hz,q⟩:=h
 cases rx
 obtain⟨u,rfl,ru⟩:=rv.one
 obtain⟨z,its,n,r,hl,e⟩:=I.lstM hH
 refine call_meets F.slot_list_append ⟨_,e,rfl⟩ F.entry_list_append (F.args_list_append_2 _ _) (PySem.list_append l its.toArray n u (by rw[size_toArray];omega)) ⟨e,?_⟩
 refine⟨.non,_,I.lset (its':=its++[u]) hH e (by simp) (r.append (.cons ru .nil)) ?_,rfl,q⟩
 rw[length_append,length_singleton]
 omega
def ztI:V->List V->Hp->VK->Prop:=fun x vs H Q=>∃l xs y,x=.ref l/\vs=[]/\H l=some (.lst xs)/\xs[xs.length-1]?=some y/\Q y (upd H l (.lst xs.dropLast))
theorem zqn:MtM X "list.pop" ztI:=by
 intro pins s σ H x vs v us Q I rx rv h
 obtain⟨l,xs,y,rfl,rfl,hH,hy,q⟩:=h
 cases rx
 have hus:=rv.zero
 subst hus
 obtain⟨z,its,n,r,hl,e⟩:=I.lstM hH
 obtain⟨u,hu,ru⟩:=r.get hy
 have hy':its.toArray[its.toArray.size-1]?=some u:=by
  show its.toArray[its.length-1]?=some u
  rw[<- getElem?_toList,<- hl]
  exact hu
 refine call_meets F.slot_list_pop ⟨_,e,rfl⟩ F.entry_list_pop (F.args_list_pop_1 _) (MeetsSeq.list_pop_last l its.toArray n u hy' (by rw[size_toArray];omega)) ⟨e,?_⟩
 refine⟨y,_,I.lset (its':=its.dropLast) hH e ?_ r.dropLast ?_,ru,q⟩
 ·show its.toArray.eraseIdxIfInBounds (its.toArray.size-1)=its.dropLast.toArray
  rw[size_toArray,eraseIdxIfInBounds_toArray,zi8]
 ·rw[length_dropLast]
  omega
def zm8:V->List V->Hp->VK->Prop:=fun x vs H Q=>∃l xs i k y,x=.ref l/\vs=[.int i]/\H l=some (.lst xs)/\-(2 ^ 63)<=i/\i<2 ^ 63/\seqIndex? i xs.length=some k/\xs[k]?=some y/\Q y (upd H l (.lst (xs.eraseIdx k)))
theorem zlV:MtM X "list.pop" zm8:=by
 intro pins s σ H x vs v us Q I rx rv h
 obtain⟨l,xs,i,k,y,rfl,rfl,hH,h1,h2,hk,hy,q⟩:=h
 cases rx
 obtain⟨u,rfl,ru⟩:=rv.one
 obtain⟨t,rfl⟩:=ru
 obtain⟨z,its,n,r,hl,e⟩:=I.lstM hH
 obtain⟨w,hw,rw'⟩:=r.get hy
 refine call_meets F.slot_list_pop ⟨_,e,rfl⟩ F.entry_list_pop (F.args_list_pop_2 _ _)
  (MeetsSeq.list_pop_at l its.toArray n i t k w (fitsIndex_both h1 h2) (by rw[size_toArray,<- hl];exact hk) (by rw[<- getElem?_toList];exact hw) (by rw[size_toArray];omega)) ⟨e,?_⟩
 refine⟨y,_,I.lset (its':=its.eraseIdx k) hH e ?_ (r.eraseIdx k) ?_,rw',q⟩
 ·show its.toArray.eraseIdxIfInBounds k=(its.eraseIdx k).toArray
  rw[eraseIdxIfInBounds_toArray]
 ·have:=zgH xs k
  omega
def zuy:R2:=fun x y H Q=>∃l k xs,x=.ref l/\y=.int k/\H l=some (.lst xs)/\-(2 ^ 63)<=k/\k<2 ^ 63/\xs.length*k.toNat<=sizeLine /\
 ∀p,H p=none->Q (.ref p) (upd H p (.lst (List.replicate k.toNat xs).flatten))
theorem len_rep{α:Type}(xs:List α)(k:Nat):(List.replicate k xs).flatten.length=k*xs.length:=by
 induction k with
 | zero=>simp
 | succ k ih=>rw[replicate_succ,flatten_cons,length_append,ih,succ_mul,add_comm]
theorem zqo:OpR X (binaryOp .Mult) zuy:=by
 intro pins s σ H x y v u Q I rx ry h
 obtain⟨l,k,xs,rfl,rfl,hH,h1,h2,hz,q⟩:=h
 cases rx
 obtain⟨t,rfl⟩:=ry
 obtain⟨z,its,n,r,hl,e⟩:=I.lstM hH
 have hlen:its.toArray.size*k.toNat<=sizeLine:=by rw[size_toArray,<- hl];exact hz
 have hcap:¬its.toArray.size*k.toNat>(2 ^ 63-1) / 8:=by
  have:(sizeLine:Nat)<=(2 ^ 63-1) / 8:=by decide
  omega
 have hfit:¬(!Builtin.List.listFitsIndex k)=true:=by
  rw[fitsIndex_both h1 h2]
  exact Bool.false_ne_true
 have hlong:¬Builtin.List.listTooLong (its.toArray.size*k.toNat)=true:=by
  rw[zic hlen]
  exact Bool.false_ne_true
 have hnew:List.foldl (fun x1 x2=>x1++x2) #[] (List.replicate (if its.toArray.isEmpty=true then 0 else k.toNat) its.toArray)=(List.replicate k.toNat its).flatten.toArray:=by
  have f0:∀m:Nat,List.foldl (fun x1 x2=>x1++x2) #[] (List.replicate m its.toArray)=(List.replicate m its).flatten.toArray:=fun m=>by
   have:=zgI its m []
   rw[nil_append] at this
   exact this
  rw[f0]
  cases its with
  | nil=>simp
  | cons a r'=>rw[if_neg (by simp)]
 refine wpAny_binaryOp_repeat_ref (T := "list") (U := "int") (by decide) ⟨_,e,rfl⟩ (fun s'=>typeIs_int s' k t) noFill_list_mul F.fills_int_mul F.slot_int_rmul repeat_list F.slot_int_index.lookup
  (call_meets F.slot_int_rmul (typeIs_int s k t) F.entry_int_rmul (F.args_int_rmul_2 _ _) (int___rmul___int_list k t l its.toArray n)
   ⟨e,rfl,⟨_,e,rfl⟩,call_meets F.slot_list_mul ⟨_,e,rfl⟩ F.entry_list_mul (F.args_list_mul_2 _ _) (AutoListH.list___mul___list_int_3 l its.toArray n k t hfit hcap hlong) ⟨e,?_⟩⟩)
 rw[hnew]
 exact⟨.ref _,_,I.lnew (t':=s.toks) (r.rep k.toNat) (by rw[len_rep,mul_comm];exact hz),rfl,q _ I.fresh⟩
end
section
variable {prog:Program} {w:World} {A:Around} {E:Value->Shared->Prop} {s:Shared}
end
section
variable {X:Cx}
end
end L2
namespace Att
open PySem PySem.W PySem.Calls PyProof.Rows
theorem zeB{P:Params}{h:Heap}:∀(ns:List Int) (vs:List Value),WellAll P h vs (ns.map WData.int)->IntsAre vs ns:=by
 intro ns
 induction ns with
 | nil =>
  intro vs w
  rw[map_nil] at w
  cases w
  exact .nil
 | cons n ns ih =>
  intro vs w
  rw[map_cons] at w
  cases w with
  | cons a b =>
   cases a
   exact .cons _ _ (ih _ b)
theorem zj4{l:OpenLaw}{n:Nat}(hn:l.most=some n){P:Params}{h:Heap}{args:List WData}{vals:List Value}(hpre:l.row.toRowW.claim.pre args=true)(hwl:WellAll P h vals args) :
  ∃a vs ns,vals=[Value.ref a]/\args=[WData.list (ns.map WData.int)]/\h.get? a=some { cls:=.type "list",data:=.seq vs.toArray }/\IntsAre vs ns/\ns.length<=n:=by
 have hsh:WShape.hasAll [] args [.list .int]=true:=(pre_splitW hpre).1
 have hc:l.pre.holds [] { args:=args }=true:=(pre_splitW hpre).2
 obtain⟨d,r,rfl,h1,h2⟩:=hasAllW_cons hsh
 obtain rfl:=hasAllW_nil h2
 obtain⟨xs,rfl,h3⟩:=hasW_list h1
 obtain⟨ns,rfl⟩:=items_int h3
 have hlen:ns.length<=n:=by
  unfold OpenLaw.pre at hc
  have h4:(WTm.not (.lt (.lit (.int (n:Int))) (.len (.arg 0)))).holds [] { args:=[.list (ns.map .int)] }=true:=by
   have h4:=(holds_andW hc).1
   rw[hn] at h4
   exact h4
  have h5:=condW_of h4 (w_not (w_lt w_lit (w_len_list (w_arg rfl))))
  rw[length_map] at h5
  refine le_of_not_lt fun q=>?_
  have q':(n:Int)<((ns.length:Nat):Int):=by omega
  first
   | (rw[decide_eq_true q'] at h5;exact absurd h5 (by decide))
   | (simp at h5;omega)
 cases hwl with
 | cons w1 w2 =>
  cases w2
  cases w1 with
  | list ho hall=>exact⟨_,_,ns,rfl,rfl,ho,zeB ns _ hall,hlen⟩
theorem zj5(l:OpenLaw)(args:List WData):l.row.toRowW.claim.post args (.bool true) args=true :=
 postW_of (r:=l.row.toRowW) (X:=(true==true))
  (show WShape.has [] (.bool true) .bool=true by first|rfl|decide|simp[WShape.has,WShape.arms,WShape.armsAll])
  (show(WTm.eq .res (.lit (.bool true))).value [] { args:=args,res:=some (.bool true),after:=args }=some (.bool (true==true)) from w_eq_bool (w_res rfl) w_lit) rfl
theorem attach_call{l:OpenLaw}{n:Nat}{q:Program}{loose:List Str}{XP:(Str->Option Value)->Heap->Prop}{YP:World->Heap->Prop}{d:DefRec}(hn:l.most=some n)(hdf:d.params.defaults=[])(call:∀(w:World) (s₀ s₁:Shared) (mg mb:Str->Option Value) (fa:Addr) (o:Obj) (pm cd doc:Value) (a:Addr) (vs:List Value) (ns:List Int),
   Ground q loose [] XP w s₀ mg mb s₁.heap->YP w s₁.heap ->
   s₁.heap.get? fa=some o->o.data=.func (docDef d.name d.params d.body d.scope pm cd doc)->s₁.heap.CodeRec cd d.name->mg d.name=some (.ref fa) ->
   s₁.heap.get? a=some { cls:=.type "list",data:=.seq vs.toArray }->IntsAre vs ns->ns.length<=n->s₁.gens=#[] ->
   codeAny (model l.prog w) callerA (.call (.ref fa) ⟨[.ref a],[]⟩) (fun r s'=>r=.ok (.ret (.bool true))/\OldK s₁.heap s'.heap/\s'.os=s₁.os/\AllBare s'.gens) s₁) :
  WalkO q loose XP YP l.row.toRowW d [] (fun f vs=>PySem.call f vs):=by
 intro w s₀ s₁ mg mb G Y fa o pm cd doc dV kV ho hd hcd hD hmg hg args vals as hpre hlay hrd hwl hlo
 obtain rfl:dV=.none:=Dflts.none hD hdf
 obtain rfl:kV=.none:=Dflts.noKw hD
 obtain⟨a,vs,ns,rfl,rfl,hobj,hints,hlen⟩:=zj4 hn hpre hwl
 refine enter_call (codeAny_mono (call w s₀ s₁ mg mb fa o pm cd doc a vs ns G Y ho (fd_plain hd) hcd hmg hobj hints hlen hg) fun r s' hq=>?_)
 obtain⟨rfl,h2,h3,h4⟩:=hq
 exact⟨.inl ⟨.bool true,.bool true,[],rfl,fun _=>rfl,.bool true,zj5 l _,fun _=>⟨List.Pairwise.nil,fun _ hm=>(nomatch hm)⟩⟩,h2,h3,h4⟩
section
variable {prog:Program} {w:World} {A:Around} {E:Value->Shared->Prop} {s:Shared} {K:Frag}
def ztJ(h:Heap)(L d:Addr):List (Addr×Obj):=(List.range h.objs.size).filterMap fun a=>if a=L\/a=d then none else (h.get? a).map fun o=>(a,o)
end
end Att
namespace L2
open PySem PySem.Spec PyProof.Rows
theorem zcO:∀{vs:List Value} {ns:List Int},IntsAre vs ns->Vals (ns.map V.int) vs
 | _,_,.nil=>.nil
 | _,_,.cons n t h=>.cons ⟨t,rfl⟩ (zcO h)
def zqp(H:Hp):Prop:=∀b,H b=none\/∃o xs,H b=some (.frz o (.lst xs))
theorem zlW{P:Program}{w:World}{K:PySem.W.Frag}{mg mb:Str->Option Value}{CX:CXT}{k:Nat}{fa a:Addr}{fd:FuncData}{x:Str}{sp:Sp}{s₁:Shared}{vs:List Value}{ns:List Int}(KX:K.In s₁.heap)(hns:s₁.heap.Ns mainGlobals mg)(hb:s₁.heap.Ns builtinsNs mb)(hbb:∀x:Str,x ≠ "__name__" -> mb x=bootBuiltins x)(hlim:s₁.heap.NoLimit)(hg:s₁.gens=#[])(ha:s₁.heap.get? a=some { cls:=.type "list",data:=.seq vs.toArray })(hi:IntsAre vs ns)(hl:ns.length<=sizeLine)(hr:Room k callerA)(F:∀base:Heap,K.In base->base.Ns mainGlobals mg->FnOk P w K mg base CX k fa fd [x] sp)(hbind:∀(s:Shared) (u:Value),BindsTo s fd ⟨[u],[]⟩ [(x,u)])(hsp:∀H:Hp,zqp H->SqL K H a (ns.map V.int)->sp [.ref a] H (fun v _=>v=.bl true) fun _ _ _=>False)(hCX:∀H e s',CX [] H s₁ (fun _ _ _=>False) e s'->False) :
  codeAny (model P w) callerA (.call (.ref fa) ⟨[.ref a],[]⟩) (fun r s'=>r=.ok (.ret (.bool true))/\OldK s₁.heap s'.heap/\s'.os=s₁.os/\AllBare s'.gens) s₁:=by
 have rv:=zcO hi
 have lenV:=hi.length
 have core:∀H:Hp,zqp H->SqL K H a (ns.map V.int)->HOk P w H s₁.heap->(∀b,H b≠none->b=a)->(H a≠none->K.lookup a=none) ->
   codeAny (model P w) callerA (.call (.ref fa) ⟨[.ref a],[]⟩) (fun r s'=>r=.ok (.ret (.bool true))/\OldK s₁.heap s'.heap/\s'.os=s₁.os/\AllBare s'.gens) s₁:=by
  intro H hO hS hok hA hK
  have base_of:∀{b:Addr} {o:Obj},s₁.heap.get? b=some o->H b=none->(zlD s₁.heap H).get? b=some o:=fun e n=>zlE e n
  have noA:∀{b:Addr} {o:Obj} {es:Array DictEntry} {ep:Nat},s₁.heap.get? b=some o->o.data=.dict es ep->H b=none:=fun {b o es ep} e d=>by
   cases q:H b with
   | none=>rfl
   | some u =>
    have e':b=a:=hA b (by rw[q];simp)
    subst e'
    rw[ha] at e;cases e
    have d':Data.seq vs.toArray _=Data.dict es ep:=d
    cases d'
  have nsK:∀{b:Addr} {m:Str->Option Value},s₁.heap.Ns b m->(zlD s₁.heap H).Ns b m:=fun {b m} ⟨o,es,ep,e,d,r⟩=>⟨o,es,ep,base_of e (noA e d),d,r⟩
  have hKb:K.In (zlD s₁.heap H):=fun b o e=>base_of (KX b o e) (by
   cases q:H b with
   | none=>rfl
   | some u =>
    have e':b=a:=hA b (by rw[q];simp)
    subst e'
    rw[hK (by rw[q];simp)] at e;cases e)
  have hM:Mod K mg (zlD s₁.heap H):=⟨hKb,nsK hns,⟨mb,nsK hb,hbb⟩,let ⟨mc,h1,h2⟩:=hlim;⟨mc,nsK h1,h2⟩⟩
  have e0:Env0 P w K mg (zlD s₁.heap H) callerA [] s₁ H:=⟨rfl,hM,fun b o e=>zn0 e,le_of_eq (zjJ _ _),trivial,fun b hb=>absurd (show b∈([]:List Addr) from hb) (by simp),hok,.of_eq hg⟩
  refine codeAny_mono ((F _ hKb (nsK hns)).run callerA [] s₁ H ⟨[.ref a],[]⟩ [.ref a] [.ref a] _ _ hr e0 (hbind s₁ (.ref a)) (.cons rfl .nil) (hsp H hO hS)) fun r s' h=>?_
  cases r with
  | error e=>exact(hCX H e s' h).elim
  | ok fl =>
   cases fl with
   | next=>exact False.elim h
   | brk=>exact False.elim h
   | cont=>exact False.elim h
   | ret u =>
    obtain⟨v,H',os,bare,un,hok',r',q⟩:=h
    have q':v=.bl true:=q
    subst q'
    obtain rfl:u=Value.bool true:=r'
    refine⟨rfl,OldK.of_keep fun b o e=>?_,os,bare⟩
    cases q:H b with
    | none=>exact un.keep b o e q (by intro z;exact absurd (show b∈([]:List Addr) from z) (by simp)) (by simp)
    | some u =>
     rcases hO b with z|⟨ob,xs,z⟩
     ·rw[q] at z;cases z
     ·have z2:=un.frzs b ob _ z
      obtain⟨e1,_⟩:=hok b _ z
      obtain⟨e2,_⟩:=hok' b _ z2
      rw[e] at e1;cases e1
      exact e2
 cases hk:K.lookup a with
 | some o =>
  have e:=KX a o hk
  rw[ha] at e
  cases e
  refine core (fun _=>none) (fun _=>.inl rfl) (.inr ⟨_,vs.toArray,_,hk,rfl,rfl,rfl,by rw[size_toArray,lenV];exact hl,by simpa using rv⟩) (fun b u z=>by have z':(none:Option HO)=some u:=z;cases z') (fun b z=>absurd rfl z) fun z=>absurd rfl z
 | none =>
  refine core (fun b=>if b=a then some (.frz { cls:=.type "list",data:=.seq vs.toArray } (.lst (ns.map V.int))) else none) (fun b=>?_) (.inl (.inr ⟨{ cls:=.type "list",data:=.seq vs.toArray },if_pos rfl⟩)) (fun b u z=>?_) (fun b z=>?_) fun _=>hk
  ·by_cases hb:b=a
   ·exact .inr ⟨_,_,if_pos hb⟩
   ·exact .inl (if_neg hb)
  ·by_cases hb:b=a
   ·have z':=(if_pos hb).symm.trans z
    cases z'
    subst hb
    exact⟨ha,by rw[length_map];exact hl,vs,_,rv,ha⟩
   ·have z':=(if_neg hb).symm.trans z
    cases z'
  ·by_cases hb:b=a
   ·exact hb
   ·exact absurd (if_neg hb) z
theorem zop{l:PySem.W.OpenLaw}{n k:Nat}{q:Program}{loose:List Str}{XP:(Str->Option Value)->Heap->Prop}{YP:World->Heap->Prop}{d:DefRec}{K:Params->PySem.W.Frag}{CX:World->CXT}{sp:World->Sp}{x:Str}(hn:l.most=some n)(hn2:n<=sizeLine)(hdf:d.params.defaults=[])(hr:Room k callerA)(hY:∀(w:World) (h:Heap),YP w h->(K w.params).In h)(F:∀(w:World) (mg:Str->Option Value) (fa:Addr) (h:Heap),(K w.params).In h->h.Ns mainGlobals mg->mg d.name=some (.ref fa) ->
   ∃fd:FuncData,(∀(s:Shared) (u:Value),BindsTo s fd ⟨[u],[]⟩ [(x,u)]) /\
    ∀base:Heap,(K w.params).In base->base.Ns mainGlobals mg->FnOk l.prog w (K w.params) mg base (CX w) k fa fd [x] (sp w))(hsp:∀(w:World) (H:Hp) (a:Addr) (ns:List Int),ns.length<=n->zqp H->SqL (K w.params) H a (ns.map V.int)->sp w [.ref a] H (fun v _=>v=.bl true) fun _ _ _=>False)(hCX:∀(w:World) (H:Hp) (s:Shared) (e:Value) (s':Shared),CX w [] H s (fun _ _ _=>False) e s'->False) :
  PySem.W.WalkO q loose XP YP l.row.toRowW d [] (fun f vs=>PySem.call f vs):=by
 refine Att.attach_call hn hdf fun w s₀ s₁ mg mb fa o pm cd doc a vs ns G Y ho hd hcd hmg hobj hints hlen hg=>?_
 have KX:=hY w _ Y
 obtain⟨fd,hb,hF⟩:=F w mg fa _ KX G.T.g hmg
 exact zlW KX G.T.g G.T.b G.T.builtins G.T.nolimit hg hobj hints (le_trans hlen hn2) hr hF hb (fun H hO hS=>hsp w H a ns hlen hO hS) fun H e s'=>hCX w H s₁ e s'
theorem walk_ofK{l:PySem.W.OpenLaw}{n k:Nat}{q:Program}{loose:List Str}{XP:(Str->Option Value)->Heap->Prop}{YP:World->Heap->Prop}{d:DefRec}{K:Params->PySem.W.Frag}{CX:CXT}{sp:PySem.W.Frag->Sp}{x:Str}(hn:l.most=some n)(hn2:n<=sizeLine)(hdf:d.params.defaults=[])(hr:Room k callerA)(hY:∀(w:World) (h:Heap),YP w h->(K w.params).In h)(F:∀(w:World) (mg:Str->Option Value) (fa:Addr) (h:Heap),(K w.params).In h->h.Ns mainGlobals mg->mg d.name=some (.ref fa) ->
   ∃fd:FuncData,(∀(s:Shared) (u:Value),BindsTo s fd ⟨[u],[]⟩ [(x,u)]) /\
    ∀base:Heap,(K w.params).In base->base.Ns mainGlobals mg->FnOk l.prog w (K w.params) mg base CX k fa fd [x] (sp (K w.params)))(hsp:∀(K:PySem.W.Frag) (H:Hp) (a:Addr) (ns:List Int),ns.length<=n->zqp H->SqL K H a (ns.map V.int)->sp K [.ref a] H (fun v _=>v=.bl true) fun _ _ _=>False)(hCX:∀(H:Hp) (s:Shared) (e:Value) (s':Shared),CX [] H s (fun _ _ _=>False) e s'->False) :
  PySem.W.WalkO q loose XP YP l.row.toRowW d [] (fun f vs=>PySem.call f vs) :=
 zop (K:=K) (CX:=fun _=>CX) (sp:=fun w=>sp (K w.params)) hn hn2 hdf hr hY F (fun w H a ns h1 h2 h3=>hsp (K w.params) H a ns h1 h2 h3) fun _ H s e s'=>hCX H s e s'
def zaw(s:Stmt):Arguments:=match s with
 | .FunctionDef _ a _ _ _ _ _ _ _ _=>a
 | _=>{ posonlyargs:=[],args:=[],vararg:=none,kwonlyargs:=[],kw_defaults:=[],kwarg:=none,defaults:=[] }
def zav(s:Stmt):List Stmt:=match s with
 | .FunctionDef _ _ b _ _ _ _ _ _ _=>b
 | _=>[]
def zai(s:Stmt):Scope:=match s with
 | .FunctionDef _ _ _ _ _ _ sc _ _ _=>sc
 | _=>{ kind:=.function,names:=[],isGenerator:=false,isCoroutine:=false }
abbrev CX0:CXT:=fun _ _ _ _ _ _=>False
abbrev E0:XK:=fun _ _ _=>False
structure Fun (K:PySem.W.Frag) (x qual:Str) (st:Stmt) (f:Addr) (fd:FuncData):Prop where
 ex:∃(oc:Value) (od:Option Addr) (kV doc pm:Value) (an:Option Addr) (cdv ct:Value) (osl:Array (Option Value)),
  fd=PySem.W.fnOf x qual (zaw st) (zav st) (zai st) .none kV doc pm an cdv ct/\K.lookup f=some ⟨oc,od,.func fd,osl⟩/\PySem.W.codeIn K cdv qual=true
 kp:PySem.W.keepIn K (.ref f)=true
section
variable {P:Program} {w:World} {K:PySem.W.Frag} {mg:Str->Option Value} {base:Heap}
theorem Fun.binds{x qual:Str}{st:Stmt}{f:Addr}{fd:FuncData}{ps:List Str}(F:Fun K x qual st f fd)(h:∀(kV doc pm:Value) (an:Option Addr) (cdv ct:Value) (us:List Value),us.length=ps.length->bindArgs (PySem.W.fnOf x qual (zaw st) (zav st) (zai st) .none kV doc pm an cdv ct) ⟨us,[]⟩=pure (ps.zip us)):Binds K fd ps []:=by
 obtain⟨oc,od,kV,doc,pm,an,cdv,ct,osl,rfl,lk,hcd⟩:=F.ex
 exact .all (h kV doc pm an cdv ct)
theorem zaM{x qual:Str}{st:Stmt}{f:Addr}{oc:Value}{od an:Option Addr}{osl:Array (Option Value)}{kV doc pm cdv ct:Value}(l:K.lookup f=some ⟨oc,od,.func (PySem.W.fnOf x qual (zaw st) (zav st) (zai st) .none kV doc pm an cdv ct),osl⟩)(c:PySem.W.codeIn K cdv qual=true)(k:PySem.W.keepIn K (.ref f)=true):Fun K x qual st f (PySem.W.fnOf x qual (zaw st) (zav st) (zai st) .none kV doc pm an cdv ct):=⟨⟨oc,od,kV,doc,pm,an,cdv,ct,osl,rfl,l,c⟩,k⟩
end
section
variable {X:Cx}
end
def zuT(H H':Hp):Prop:=∀b o,H b=some o->H' b=some o
def zi9(js:List Nat)(σ:St):St:=js.map fun j=>σ.getD j none
structure BlkS (N:List Str) (psc:Scope) (js:List Nat) (N':List Str) (scope:Scope):Prop where
 cell:∀y∈scope.names,y.2≠.cell
 kind:scope.kind=.function
 names:∀y∈scope.names,y.2=.local->scope.names.lookup y.1=some .local
 frees:∀y∈scope.names,y.2=.free->psc.names.lookup y.1=some .cell\/psc.names.lookup y.1=some .free
 nd:N'.Nodup
 len:N'.length=js.length+1
 cap:∀p∈js.zip (N'.drop 1),N[p.1]?=some p.2/\scope.names.lookup p.2=some .free
def zc9(env:Env)(cs:List (Str×Addr))(y:Str×NameKind):List (Str×Addr):=if y.2==.free then (y.1,(env.cells.lookup y.1).getD 0)::cs else cs
def clOf(scope:Scope)(env:Env):List (Str×Addr):=scope.names.foldl (zc9 env) []
theorem zeC{α β:Type}(f:α->β->Sem (ForInStep β))(g:β->α->β):∀(l:List α) (b:β),(∀x∈l,∀c,f x c=pure (.yield (g c x)))->forIn l b f=pure (l.foldl g b)
 | [],_,_=>rfl
 | x::l,b,h=>by
  rw[forIn_cons,h x mem_cons_self,pure_bind]
  exact zeC f g l (g b x) fun y hy=>h y (mem_cons_of_mem _ hy)
theorem zja{scope:Scope}{env:Env}(h:∀y∈scope.names,y.2=.free->∃c,env.cells.lookup y.1=some c):closureFor scope env=pure (clOf scope env):=by
 simp only[closureFor,clOf]
 rw[zeC _ (zc9 env) scope.names [] (fun y hy c=>by
  obtain⟨n,k⟩:=y
  by_cases hk:k=.free
  ·subst hk
   obtain⟨a,ha⟩:=h _ hy rfl
   have ha':env.cells.lookup n=some a:=ha
   simp[cellOf,ha',zc9]
  ·have hb:(k==NameKind.free)=false:=by simpa using hk
   simp[hb,zc9])]
 rfl
theorem zfq{env:Env}{P:Str×Addr->Prop}:∀(l:List (Str×NameKind)) (acc:List (Str×Addr)),(∀p∈acc,P p)->(∀y∈l,y.2=.free->P (y.1,(env.cells.lookup y.1).getD 0))->∀p∈l.foldl (zc9 env) acc,P p
 | [],_,ha,_=>ha
 | y::l,acc,ha,hl=>by
  refine zfq l _ (fun p hp=>?_) fun z hz=>hl z (mem_cons_of_mem _ hz)
  unfold zc9 at hp
  by_cases hk:y.2=.free
  ·rw[if_pos (by simp[hk])] at hp
   rcases mem_cons.mp hp with e|hp
   ·rw[e];exact hl y mem_cons_self hk
   ·exact ha p hp
  ·rw[if_neg (by simp[hk])] at hp
   exact ha p hp
theorem zfr{env:Env}:∀(l:List (Str×NameKind)) (acc:List (Str×Addr)),∀p∈acc,p∈l.foldl (zc9 env) acc
 | [],_,_,hp=>hp
 | y::l,acc,p,hp=>by
  refine zfr l _ p ?_
  unfold zc9
  split
  ·exact mem_cons_of_mem _ hp
  ·exact hp
theorem zfs{env:Env}{y:Str}:∀(l:List (Str×NameKind)) (acc:List (Str×Addr)),(y,NameKind.free)∈l->∃c,(y,c)∈l.foldl (zc9 env) acc
 | z::l,acc,h=>by
  rcases mem_cons.mp h with e|h
  ·subst e
   exact⟨(env.cells.lookup y).getD 0,zfr l _ _ (by simp[zc9])⟩
  ·exact zfs l _ h
theorem zdo{β:Type}{y:Str}{c:β}:∀{l:List (Str×β)},(y,c)∈l->∃c',l.lookup y=some c'
 | (n,d)::l,h=>by
  rw[lookup_cons]
  cases e:y==n with
  | true=>exact⟨d,rfl⟩
  | false =>
   rcases mem_cons.mp h with q|q
   ·have q1:y=n:=congrArg Prod.fst q
    rw[q1] at e
    simp at e
   ·exact zdo q
theorem zgJ{scope:Scope}{env:Env}(h:∀y∈scope.names,y.2=.free->∃c,env.cells.lookup y.1=some c){y:Str}{c:Addr}(e:(clOf scope env).lookup y=some c):env.cells.lookup y=some c:=by
 refine zfq (P:=fun p=>env.cells.lookup p.1=some p.2) scope.names [] (fun _ hp=>nomatch hp) (fun z hz hf=>?_) (y,c) (PySem.mem_of_lookup e)
 obtain⟨a,ha⟩:=h z hz hf
 simp[ha]
theorem zid{scope:Scope}{env:Env}{y:Str}(h:(y,NameKind.free)∈scope.names):∃c,(clOf scope env).lookup y=some c:=by
 obtain⟨c,hc⟩:=zfs (env:=env) scope.names [] h
 exact zdo hc
theorem relabel_of{env:Env}{y:Str}{k':NameKind}:∀{names:List (Str×NameKind)},(names.map fun(n,k)=>if (k==NameKind.free&&env.scope.kind==.function&&env.kindOf n==some .cell) then (n,NameKind.cell) else (n,k)).lookup y=some k' ->
  ∃k,(y,k)∈names/\(k'=k\/(k=.free/\k'=.cell))
 | [],h=>by simp at h
 | (n,k)::r,h=>by
  have ih:=@relabel_of env y k' r
  have h:List.lookup y ((if (k==NameKind.free&&env.scope.kind==.function&&env.kindOf n==some .cell)=true then (n,NameKind.cell) else (n,k))::_)=some k':=h
  cases e:y==n with
  | true =>
   have e':y=n:=by simpa using e
   by_cases hc:(k==NameKind.free&&env.scope.kind==.function&&env.kindOf n==some .cell)=true
   ·rw[if_pos hc] at h
    simp only[lookup_cons,e] at h
    cases h
    have hk:k=.free:=by
     simp only[and_eq_true] at hc
     simpa using hc.1.1
    subst hk
    exact⟨.free,by rw[e'];exact mem_cons_self,.inr ⟨rfl,rfl⟩⟩
   ·rw[if_neg hc] at h
    simp only[lookup_cons,e] at h
    have hk:=Option.some.inj h
    exact⟨k,by rw[e'];exact mem_cons_self,.inl hk.symm⟩
  | false =>
   have h':List.lookup y (r.map fun(n,k)=>if (k==NameKind.free&&env.scope.kind==.function&&env.kindOf n==some .cell) then (n,NameKind.cell) else (n,k))=some k':=by
    by_cases hc:(k==NameKind.free&&env.scope.kind==.function&&env.kindOf n==some .cell)=true
    ·rw[if_pos hc] at h
     simp only[lookup_cons,e] at h
     exact h
    ·rw[if_neg hc] at h
     simp only[lookup_cons,e] at h
     exact h
   obtain⟨k0,h1,h2⟩:=ih h'
   exact⟨k0,mem_cons_of_mem _ h1,h2⟩
theorem relabel_free{env:Env}{y:Str}:∀{names:List (Str×NameKind)},names.lookup y=some .free ->
  (names.map fun(n,k)=>if (k==NameKind.free&&env.scope.kind==.function&&env.kindOf n==some .cell) then (n,NameKind.cell) else (n,k)).lookup y=some .cell \/
  (names.map fun(n,k)=>if (k==NameKind.free&&env.scope.kind==.function&&env.kindOf n==some .cell) then (n,NameKind.cell) else (n,k)).lookup y=some .free
 | [],h=>by simp at h
 | (n,k)::r,h=>by
  have ih:=@relabel_free env y r
  show List.lookup y ((if (k==NameKind.free&&env.scope.kind==.function&&env.kindOf n==some .cell)=true then (n,NameKind.cell) else (n,k))::_)=_\/List.lookup y ((if (k==NameKind.free&&env.scope.kind==.function&&env.kindOf n==some .cell)=true then (n,NameKind.cell) else (n,k))::_)=_
  cases e:y==n with
  | true =>
   simp only[lookup_cons,e] at h
   cases h
   by_cases hc:(NameKind.free==NameKind.free&&env.scope.kind==.function&&env.kindOf n==some .cell)=true
   ·rw[if_pos hc];exact .inl (by simp[lookup_cons,e])
   ·rw[if_neg hc];exact .inr (by simp[lookup_cons,e])
  | false =>
   simp only[lookup_cons,e] at h
   by_cases hc:(k==NameKind.free&&env.scope.kind==.function&&env.kindOf n==some .cell)=true
   ·rw[if_pos hc];simp only[lookup_cons,e];exact ih h
   ·rw[if_neg hc];simp only[lookup_cons,e];exact ih h
def blk(X:Cx)(N':List Str)(scope:Scope)(C:Addr)(fp:List Addr)(s₀:Shared)(H₀:Hp):Cx :=
 { X with N:=N',s₀:=s₀,H₀:=H₀,env:=compEnvC scope (clOf scope X.env) C X.env,outer:=X.stack,stack:=X.stack,ex:=fp,fn:=fun _=>false,pn:=[],xe:=fun _ _=>False }
theorem HOk.track{P:Program}{w:World}{H:Hp}{h:Heap}{a:Addr}{o:HO}(x:HOk P w H h)(hn:H a=none)(new:ObjOk P w (upd H a o) h a o):HOk P w (upd H a o) h:=fun b u e=>by
 by_cases hb:b=a
 ·subst hb;rw[zaK] at e;cases e;exact new
 ·rw[zaJ hb] at e
  exact(x b u e).stay (fun c v _ q=>q) (fun c q=>by rw[zaJ (zaH q hn)];exact q) fun c xs q=>by rw[zaJ (zaH q hn)];exact q
section
variable {X:Cx} {pins:List (Addr×Obj)} {σ:St} {H:Hp} {s:Shared}
theorem Inv.stkNe(I:Inv X pins σ H s){b:Addr}(h1:b≠X.env.locals)(h2:b∉X.fs):b∉frs X.stack:=fun hb=>(mem_cons.mp (I.stkSub b hb)).elim h1 h2
theorem Inv.frees(I:Inv X pins σ H s){js:List Nat}{N':List Str}{scope:Scope}(B:BlkS X.N X.env.scope js N' scope):∀y∈scope.names,y.2=.free->∃c,X.env.cells.lookup y.1=some c :=
 fun y hy hf=>I.ok.has y.1 (B.frees y hy hf)
theorem zj6{js:List Nat}{x:Str}{caps:List Str}{scope:Scope}{C:Addr}{fp:List Addr}{h₁:Heap}{tk:Nat}{m:Str->Option Value}(B:BlkS X.N X.env.scope js (x::caps) scope)(I:Inv X pins σ H s)(f2:∀b∈fp,zm4 X pins H b)(ho:∀b∈fp,∃o,s.heap.get? b=some o)(hC:s.heap.objs.size<=C)(old:∀b o,s.heap.get? b=some o->h₁.get? b=some o)(ns:h₁.Ns C m) :
  Inv (blk X (x::caps) scope C fp s H) [] (none::zi9 js σ) H { s with heap:=h₁,toks:=tk }:=by
 have fr:=I.frees B
 have clo:∀y c,(clOf scope X.env).lookup y=some c->X.env.cells.lookup y=some c:=fun y c e=>zgJ fr e
 have lt:∀b∈fp,b<s.heap.objs.size:=fun b hb=>let ⟨o,e⟩:=ho b hb;Heap.lt_size e
 refine⟨⟨I.ok.mod,B.kind,I.ok.glob,I.ok.blt,hC,fun a b c h1 h2=>I.ok.inj a b c (clo _ _ h1) (clo _ _ h2),fun y hy=>?_,fun y c h _=>absurd (show false=true from h) Bool.false_ne_true,I.ok.hd,I.ok.frames,.inl rfl,
   fun b hb=>⟨ne_of_lt (lt_of_lt_of_le (lt b hb) hC),fun y c h=>(f2 b hb).2.2.2.2.1 y c (clo y c h)⟩,I.bs,le_trans I.ok.bsz I.sz,fun b o e hb=>?_,fun b hb=>I.stkNe (f2 b hb).2.1 (f2 b hb).2.2.1,I.stack,I.stkFree⟩,
  rfl,I.bare,Un.kept old,⟨m,ns,fun i y v e1 e2 e3=>?_⟩,fun y c h=>?_,I.hok.fresh hC,fun y c h=>I.freeC y c (clo y c h),fun p hp=>absurd (show p∈([]:List (Addr×Obj)) from hp) (by simp),I.hok.kept old,?_⟩
 ·have hy':(relabel scope X.env).names.lookup y=some .cell\/(relabel scope X.env).names.lookup y=some .free:=hy
  have hm:(y,NameKind.free)∈scope.names:=by
   rcases hy' with z|z
   ·obtain⟨k,h1,h2⟩:=relabel_of z
    rcases h2 with h2|⟨h2,_⟩
    ·exact absurd h2.symm (B.cell _ h1)
    ·rw[h2] at h1;exact h1
   ·obtain⟨k,h1,h2⟩:=relabel_of z
    rcases h2 with h2|⟨_,h2⟩
    ·rw[<- h2] at h1;exact h1
    ·cases h2
  exact zid hm
 ·rcases(f2 b hb).2.2.2.1 with z|z
  ·exact I.ok.noex b o e z
  ·exact absurd (lt_of_lt_of_le (Heap.lt_size e) (le_trans I.ok.bsz z)) (lt_irrefl _)
 ·cases i with
  | zero =>
   have q:some (none:Option V)=some (some v):=e2
   cases q
  | succ k =>
   have e1':caps[k]?=some y:=e1
   have e2':(js.map fun j=>σ.getD j none)[k]?=some (some v):=e2
   rw[getElem?_map] at e2'
   cases hj:js[k]? with
   | none=>rw[hj] at e2';cases e2'
   | some j =>
    rw[hj] at e2'
    have hv:σ.getD j none=some v:=Option.some.inj e2'
    have hσ:σ[j]?=some (some v):=by
     rw[getD_eq_getElem?_getD] at hv
     cases q:σ[j]? with
     | none=>rw[q] at hv;cases hv
     | some z=>rw[q] at hv;exact congrArg some hv
    have hz:(j,y)∈js.zip caps:=mem_of_getElem? (getElem?_zip_eq_some.mpr ⟨hj,e1'⟩)
    obtain⟨hN,hf⟩:=B.cap (j,y) hz
    have hk:=B.frees (y,.free) (PySem.mem_of_lookup hf) rfl
    obtain⟨m',_,hl⟩:=I.loc
    obtain⟨u,r,l⟩:=hl j y v hN hσ (.inr hk)
    rcases l with ⟨k1,_⟩|⟨k1,c,hcl,o,hco,hcd⟩
    ·have k1':X.env.scope.names.lookup y=some .local:=k1
     have hk':X.env.scope.names.lookup y=some .cell\/X.env.scope.names.lookup y=some .free:=hk
     rw[k1'] at hk'
     rcases hk' with z|z<;>cases z
    ·obtain⟨c',hc'⟩:=zid (env:=X.env) (PySem.mem_of_lookup hf)
     have:=clo _ _ hc'
     rw[hcl] at this
     cases this
     exact⟨u,r,.inr ⟨relabel_free hf,c,hc',o,old c o hco,hcd⟩⟩
 ·obtain⟨v,o,h1,h2⟩:=I.cell y c (clo y c h)
  exact⟨v,o,old c o h1,h2⟩
 ·show(none::zi9 js σ).length=(x::caps).length
  rw[B.len]
  simp[zi9]
end
def PIfs(Y:Cx)(ifs:List Expr)(tt:TT):Prop :=
 ∀(pins:List (Addr×Obj)) (s:Shared) (σ:St) (H:Hp) (Q:Bool->Hp->Prop),Inv Y pins σ H s->tt σ H Q ->
  wpAny (model Y.prog Y.w) Y.A (forIn ifs true fun c r=>if r=true then do let ok <- isTrue c Y.env (eval c Y.env);pure (ForInStep.yield ok) else pure (ForInStep.yield r)) (TP Y pins σ Q) Y.xe s
def zsL:TT:=fun _ H Q=>Q true H
theorem zlX{Y:Cx}:PIfs Y [] zsL:=fun _ _ _ H _ I h=>wpAny_tests_nil ⟨H,I,h⟩
theorem zlY{Y:Cx}{c:Expr}{tc:TT}(h:PT Y c tc):PIfs Y [c] tc:=fun pins s σ H Q I hw=>wpAny_tests_one (h pins s σ H Q I hw)
def zuz(J:It)(cs:St)(tt:TT)(te:TE)(Q:VK)(H1:Hp):Prop:=∃W:Nat->Nat->List V->Hp->Prop,(∃m,W 0 m [] H1)/\∀i m ys H2,W i m ys H2 ->
 (J.stop i H2/\∀p,H2 p=none->Q (.ref p) (upd H2 p (.lst ys))) \/
 (J.go i H2/\ys.length<sizeLine/\∃N:List V->Hp->Prop,(∀ys' H',N ys' H'->∃m',m'<m/\W (i+1) m' ys' H') /\
  ∀x H',J.yld i H2 x H'->tt (some x::cs) H' fun b H4=>if b=true then te (some x::cs) H4 fun y H5=>N (ys++[y]) H5 else N ys H4)
def tLC(js:List Nat)(wi:TI)(tt:TT)(te:TE):TE:=fun σ H Q=>wi σ H fun J H1=>zuz J (zi9 js σ) tt te Q H1
theorem zlZ{α:Type}{M:Model}{A:Around}{Φ:Unit->Shared->Prop}{E E':Value->Shared->Prop}{s:Shared}{t:Sem α}{Ψ:α->Shared->Prop}(h:wpAny M A (pure ()) Φ E s)(k:Φ () s->wpAny M A t Ψ E' s):wpAny M A t Ψ E' s :=
 fun Γ p hΓ=>k (h Γ p hΓ) Γ p hΓ
section
variable {X:Cx} {elt iter:Expr} {x:Str} {px pos p:Pos} {ifs:List Expr} {scope:Scope} {js:List Nat} {caps:List Str} {wi:TI} {tt:TT} {te:TE}
theorem zj7{use:Option (Value->Sem Unit)}{Qf:Value->Shared->Prop}{pins:List (Addr×Obj)}{s:Shared}{σ:St}{H:Hp}{Q:VK}(B:BlkS X.N X.env.scope js (x::caps) scope)(hc:X.calm=true)(hx:scope.names.lookup x=some .local)(hi:PI X (.Name x px) iter wi)(ht:∀C fp s₀ H₀,PIfs (blk X (x::caps) scope C fp s₀ H₀) ifs tt)(he:∀C fp s₀ H₀,PE (blk X (x::caps) scope C fp s₀ H₀) elt te)(hs:∀v,foldedSetIterable iter X.env v=pure v)(I:Inv X pins σ H s)(hw:tLC js wi tt te σ H Q)(fin:∀(C D:Addr) (oC:Obj) (ys:List V) (H':Hp) (s1:Shared),Inv X (pins++[(C,oC)]) σ (upd H' D (.lst ys)) s1->Q (.ref D) (upd H' D (.lst ys)) ->
   (∀σ' H'' s',Inv X (pins++[(C,oC)]) σ' H'' s'->(∃m,s'.heap.Ns C m)/\∀h',Heap.SameBut C s'.heap h'->Inv X pins σ' H'' { s' with heap:=h' }) ->
   compPost (model X.prog X.w) X.A X.xe use Qf (.ref D) C (.ok .next) s1) :
  wpAny (model X.prog X.w) X.A (comprehension (.ListComp elt [⟨.Name x px,iter,ifs,0⟩] scope pos) scope X.env p (newList []) false (eval iter X.env) use) Qf X.xe s:=by
 have fr:=I.frees B
 refine wpAny_comprehension_free (use:=use) rfl hs (zja fr) B.kind B.names (thn (hi pins s σ H _ I hw) fun v s1 h1=>thn h1 fun itv s2 h2=>?_)
 obtain⟨it,fp,tn,J,H2,e,I2,T,st2,f2,W,⟨m0,w0⟩,turn⟩:=h2
 subst e
 refine wpAny_newObj_type (wpAny_newFunctionEnv B.cell (by intro y hy;simp at hy) (fun h₁ hns₁ hsb₁=>?_) B.kind)
 dsimp only at hns₁ hsb₁ ⊢
 generalize hG:s2.heap.push { cls:=.type "list",dict:=none,data:=.seq ([]:List Value).toArray }=G at hns₁ hsb₁ ⊢
 have hC:G.objs.size=s2.heap.objs.size+1:=by rw[<- hG,Heap.size_push]
 have hDC:s2.heap.objs.size≠G.objs.size:=by rw[hC];exact ne_of_lt (lt_succ_self _)
 have hCle:s2.heap.objs.size<=G.objs.size:=by rw[hC];exact le_succ _
 have old:∀b o,s2.heap.get? b=some o->h₁.get? b=some o:=fun b o e =>
  hsb₁.extBut b o (ne_of_lt (lt_of_lt_of_le (Heap.lt_size e) hCle)) (Heap.get?_push_of_some _ (hG▸Heap.get?_push_of_some _ e))
 have hacc:h₁.get? s2.heap.objs.size=some (LCg.lst []):=hsb₁.extBut _ _ hDC (Heap.get?_push_of_some _ (hG▸Heap.get?_push_size _ rfl))
 have fpo:∀b∈fp,∃o,s2.heap.get? b=some o:=fun b hb=>let ⟨o,e,_⟩:=T.obj 0 _ st2 b hb;⟨o,e⟩
 have fpl:∀b∈fp,b<s2.heap.objs.size:=fun b hb=>let ⟨o,e⟩:=fpo b hb;Heap.lt_size e
 have clo:∀y c,(clOf scope X.env).lookup y=some c->X.env.cells.lookup y=some c:=fun y c e=>zgJ fr e
 have cls2:∀y c,X.env.cells.lookup y=some c->c<s2.heap.objs.size:=fun y c e=>let ⟨v,o,h1,_⟩:=I2.cell y c e;Heap.lt_size h1
 have st1:tn 0 h₁:=T.keep 0 _ _ st2 fun b _ o e=>old b o e
 have D_fs:s2.heap.objs.size∉frs X.stack:=I2.stkNe (ne_of_gt I2.lt) (I2.nofs (le_refl _))
 have C_fs:G.objs.size∉X.fs:=I2.nofs hCle
 have C_L:G.objs.size≠X.env.locals:=ne_of_gt (lt_of_lt_of_le I2.lt hCle)
 have fpY:∀{pl:List (Addr×Obj)} {H':Hp},(∀b∈fp,H' b=none)->(∀p∈pl,s2.heap.objs.size<=p.1)->∀b∈fp,zm4 (blk X (x::caps) scope G.objs.size fp s2 H2) pl H' b:=fun {pl H'} hn hp b hb =>
  ⟨hn b hb,ne_of_lt (lt_of_lt_of_le (fpl b hb) hCle),I2.stkNe (f2 b hb).2.1 (f2 b hb).2.2.1,.inl hb,fun y c h=>(f2 b hb).2.2.2.2.1 y c (clo y c h),fun p hp' z =>
   absurd (lt_of_lt_of_le (fpl b hb) (by rw[<- z];exact hp p (by simpa[blk] using hp'))) (lt_irrefl _)⟩
 have rel:∀{oC:Obj} {mC:Str->Option Value},LCg.NsObj oC mC->∀σ' H'' s',Inv X (pins++[(G.objs.size,oC)]) σ' H'' s'->(∃m,s'.heap.Ns G.objs.size m)/\∀h',Heap.SameBut G.objs.size s'.heap h'->Inv X pins σ' H'' { s' with heap:=h' }:=by
  intro oC mC hns σ' H'' s' I'
  obtain⟨e1,e2,e3,e4,e5⟩:=I'.pin (G.objs.size,oC) (mem_append_right _ (mem_append_right _ (by simp)))
  refine⟨⟨mC,hns.ns e1⟩,fun h' hs'=>?_⟩
  exact(I'.unpinned).turned (t':=s'.toks) (it:=G.objs.size) (fun b o hb e=>(hs'.2 b hb).trans e) e2 e3 (.inr (le_trans I2.sz hCle)) (fun y c h z=>absurd (lt_of_lt_of_le (cls2 y c h) (by rw[z];exact hCle)) (lt_irrefl _))
   (fun q hq z=>absurd (lt_of_lt_of_le (Heap.lt_size (I2.pin q hq).1) (by rw[z];exact hCle)) (lt_irrefl _))
 have I1:Inv (blk X (x::caps) scope G.objs.size fp s2 H2) [] (none::zi9 js σ) H2 { s2 with heap:=h₁,toks:=s2.toks+([]:List (Str×Value)).length }:=zj6 B I2 f2 fpo hCle old hns₁
 have hxl:(blk X (x::caps) scope G.objs.size fp s2 H2).env.scope.names.lookup x=some .local:=lookup_relabel_local hx
 have pinD:∀{us:List Value} {σ3:St} {H3:Hp} {s3:Shared},Inv (blk X (x::caps) scope G.objs.size fp s2 H2) [] σ3 H3 s3->s3.heap.get? s2.heap.objs.size=some (LCg.lst us)->H3 s2.heap.objs.size=none ->
   Inv (blk X (x::caps) scope G.objs.size fp s2 H2) [(s2.heap.objs.size,LCg.lst us)] σ3 H3 s3:=fun {us σ3 H3 s3} I3 hD nD=>I3.pins_of fun p hp=>by
  have e:p=(s2.heap.objs.size,LCg.lst us):=by simpa using hp
  subst e
  exact⟨hD,nD,hDC,D_fs,fun v z=>by
   have z':Data.seq _ _=Data.cell v:=z
   cases z'⟩
 have back:∀{us us':List Value} {ts:Option V} {H8:Hp} {s5 s8:Shared} {h9:Heap} {i:Nat},Inv (blk X (x::caps) scope G.objs.size fp s2 H2) ([(s2.heap.objs.size,LCg.lst us)]++zfj fp s5.heap) (ts::zi9 js σ) H8 s8->tn (i+1) s5.heap ->
   (∀b,b≠s2.heap.objs.size->h9.get? b=s8.heap.get? b)->h9.get? s2.heap.objs.size=some (LCg.lst us') ->
   Inv (blk X (x::caps) scope G.objs.size fp s2 H2) [] (none::zi9 js σ) H8 { s8 with heap:=h9 }/\tn (i+1) h9/\(∀b∈fp,H8 b=none)/\H8 s2.heap.objs.size=none:=by
  intro us us' ts H8 s5 s8 h9 i I8 st5 hk hD9
  have pn:∀q∈[(s2.heap.objs.size,LCg.lst us)]++zfj fp s5.heap,s8.heap.get? q.1=some q.2/\H8 q.1=none:=fun q hq=>let z:=I8.pin q (mem_append_right _ hq);⟨z.1,z.2.1⟩
  have nD:H8 s2.heap.objs.size=none:=(pn (s2.heap.objs.size,LCg.lst us) (by simp)).2
  have Iw:Inv (blk X (x::caps) scope G.objs.size fp s2 H2) [] (none::zi9 js σ) H8 s8:=(I8.pins_of (pins':=[]) fun q hq=>nomatch hq).weak rfl fun j v e=>by
   cases j with
   | zero =>
    have q:some (none:Option V)=some (some v):=e
    cases q
   | succ j=>exact e
  refine⟨Iw.turned (t':=s8.toks) (it:=s2.heap.objs.size) (fun b o hb e=>(hk b hb).trans e) nD hDC (.inr (le_refl _)) (fun y c h z=>absurd (cls2 y c (clo y c h)) (by rw[z];exact lt_irrefl _)) (fun q hq=>absurd (show q∈([]:List (Addr×Obj)) from hq) (by simp)),
   T.keep _ _ _ st5 fun b hb o e=>?_,fun b hb=>?_,nD⟩
  ·rw[hk b (ne_of_lt (fpl b hb))]
   exact(pn (b,o) (mem_append_right _ (zc0 hb e))).1
  ·obtain⟨o,e,_⟩:=T.obj _ _ st5 b hb
   exact(pn (b,o) (mem_append_right _ (zc0 hb e))).2
 have loop:codeAny (model X.prog X.w) X.A (.compLoop (.ListComp elt [⟨.Name x px,iter,ifs,0⟩] scope pos) 0 (.ref it) (.ref s2.heap.objs.size) (compEnvC scope (clOf scope X.env) G.objs.size X.env))
   (compPost (model X.prog X.w) X.A X.xe use Qf (.ref s2.heap.objs.size) G.objs.size) { s2 with heap:=h₁,toks:=s2.toks+([]:List (Str×Value)).length }:=by
  refine codeAny_compLoop_tests (fun n s'=>∃(i:Nat) (ys:List V) (us:List Value) (H':Hp),Inv (blk X (x::caps) scope G.objs.size fp s2 H2) [] (none::zi9 js σ) H' s'/\tn i s'.heap/\(∀b∈fp,H' b=none) /\
   s'.heap.get? s2.heap.objs.size=some (LCg.lst us)/\Vals ys us/\H' s2.heap.objs.size=none/\ys.length<=sizeLine/\W i n ys H') ?_ m0 ⟨0,[],[],H2,I1,st1,fun b hb=>(f2 b hb).1,hacc,.nil,I2.hok.fresh (le_refl _),zero_le _,w0⟩
  rintro n s3 ⟨i,ys,us,H3,I3,st3,fr3,hD,rv,nD,hz,w3⟩
  have I3':=pinD I3 hD nD
  have hpl:∀p∈[(s2.heap.objs.size,LCg.lst us)],s2.heap.objs.size<=p.1:=fun p hp=>by
   have e:p=(s2.heap.objs.size,LCg.lst us):=by simpa using hp
   subst e
   exact le_refl _
  rcases turn i n ys H3 w3 with ⟨stop,q⟩|⟨go,hlt,N,hN,step⟩
  ·refine wpAny_mono (T.done (blk X (x::caps) scope G.objs.size fp s2 H2) rfl rfl rfl hc i _ s3 _ H3 (fun _ _=>False) I3' (fpY fr3 hpl) st3 stop) (fun r s4 hr=>?_) fun _ _ z=>z.elim
   obtain⟨hr,I4⟩:=hr
   subst hr
   have hD4:s4.heap.get? s2.heap.objs.size=some (LCg.lst us):=(I4.pin (s2.heap.objs.size,LCg.lst us) (mem_append_right _ (by simp))).1
   have un:Un (frs X.stack) fp H2 (upd H3 s2.heap.objs.size (.lst ys)) s2.heap s4.heap :=
    ⟨fun b o e n hb hx=>I4.base.keep b o e n hb hx,fun b o e n hb hx=>I4.base.slot b o e n hb hx,fun b o e n hx=>by rw[zaJ (ne_of_lt (Heap.lt_size e))];exact I4.base.free b o e n hx,fun b o e hx=>I4.base.there b o e hx,
     fun b zs e=>by have q:=I4.base.tups b zs e;rw[zaJ (zaH q nD)];exact q,fun b o u e=>by have q:=I4.base.frzs b o u e;rw[zaJ (zaH q nD)];exact q,
     fun b ps e=>by obtain⟨more,q⟩:=I4.base.tbls b ps e;exact⟨more,by rw[zaJ (zaH q nD)];exact q⟩⟩
   have hok4:HOk X.prog X.w (upd H3 s2.heap.objs.size (.lst ys)) s4.heap:=HOk.track I4.hok nD ⟨hz,us,us.length,rv,hD4⟩
   have IX:Inv X pins σ (upd H3 s2.heap.objs.size (.lst ys)) s4:=I2.call' (ch:=fp) I4.os un hok4 I4.bare fun b hb=>⟨(f2 b hb).2.2.2.1,(f2 b hb).2.1,(f2 b hb).2.2.2.2.1,(f2 b hb).2.2.2.2.2⟩
   obtain⟨mC,hnC,_⟩:=I4.loc
   obtain⟨oC,eC,nsC⟩:=LCg.ns_obj hnC
   have nC:(upd H3 s2.heap.objs.size (.lst ys)) G.objs.size=none:=by rw[zaJ (Ne.symm hDC)];exact I4.free
   have dC:∀v,oC.data≠.cell v:=fun v z=>by
    obtain⟨es,ep,d,_⟩:=nsC
    rw[d] at z;cases z
   have IX':Inv X (pins++[(G.objs.size,oC)]) σ (upd H3 s2.heap.objs.size (.lst ys)) s4:=IX.pins_of fun q hq=>by
    rcases mem_append.mp hq with z|z
    ·exact IX.pin q (mem_append_right _ z)
    ·have e:q=(G.objs.size,oC):=by simpa using z
     subst e
     exact⟨eC,nC,C_L,C_fs,dC⟩
   exact fin G.objs.size s2.heap.objs.size oC ys H3 s4 IX' (q _ nD) (rel nsC)
  ·refine wpAny_mono (T.item (blk X (x::caps) scope G.objs.size fp s2 H2) rfl rfl rfl hc i _ s3 _ H3 (fun _ _=>False) I3' (fpY fr3 hpl) st3 go) (fun r s4 hr=>?_) fun _ _ z=>z.elim
   obtain⟨u,hr,h4⟩:=hr
   subst hr
   show wpAny _ _ (assign _ _ u) _ _ s4
   refine zlZ h4 fun h5=>?_
   obtain⟨xv,H5,I5,r5,y5,st5,fr5⟩:=h5
   have I5':=I5.pinned (fpY fr5 hpl) (T.obj _ _ st5)
   refine wpAny_mono (zhy (X:=blk X (x::caps) scope G.objs.size fp s2 H2) (i:=0) (x:=x) B.nd rfl (Or.inl hxl) (.inr hxl) _ s4 _ H5 xv u (fun σ' H'=>σ'=some xv::zi9 js σ/\H'=H5) I5' r5 ⟨rfl,rfl⟩) (fun _ s6 h6=>?_) fun _ _ z=>False.elim z
   obtain⟨σ6,H6,I6,e6,e6'⟩:=h6
   subst e6 e6'
   refine wpAny_mono (ht _ _ _ _ _ s6 _ _ _ I6 (step xv _ y5)) (fun b s7 h7=>?_) fun _ _ z=>False.elim z
   obtain⟨H7,I7,q7⟩:=h7
   cases b with
   | false =>
    rw[if_neg Bool.false_ne_true] at q7
    show if false=true then _ else _
    rw[if_neg Bool.false_ne_true]
    have hD7:s7.heap.get? s2.heap.objs.size=some (LCg.lst us):=(I7.pin (s2.heap.objs.size,LCg.lst us) (mem_append_right _ (mem_append_left _ (by simp)))).1
    obtain⟨J1,J2,J3,J4⟩:=back I7 st5 (fun _ _=>rfl) hD7
    obtain⟨m',hm,w'⟩:=hN _ _ q7
    exact⟨m',hm,i+1,ys,us,H7,J1,J2,J3,hD7,rv,J4,hz,w'⟩
   | true =>
    rw[if_pos rfl] at q7
    show if true=true then _ else _
    rw[if_pos rfl]
    refine wpAny_mono (he _ _ _ _ _ s7 _ _ _ I7 q7) (fun yu s8 h8=>?_) fun _ _ z=>False.elim z
    obtain⟨yv,H8,I8,r8,q8⟩:=h8
    have hD8:s8.heap.get? s2.heap.objs.size=some (LCg.lst us):=(I8.pin (s2.heap.objs.size,LCg.lst us) (mem_append_right _ (mem_append_left _ (by simp)))).1
    have hlu:us.length=ys.length:=rv.length.symm
    refine append_at hD8 (fun h9 hs9 hD9=>?_) (by rw[size_toArray,hlu];exact hz)
    have hD9':h9.get? s2.heap.objs.size=some (LCg.lst (us++[yu])):=hD9.trans (congrArg some (LCg.lst_snoc us yu))
    obtain⟨J1,J2,J3,J4⟩:=back I8 st5 hs9.2 hD9'
    obtain⟨m',hm,w'⟩:=hN _ _ q8
    exact⟨m',hm,i+1,ys++[yv],us++[yu],H8,J1,J2,J3,hD9',rv.append (.cons r8 .nil),J4,by rw[length_append,length_singleton];exact hlt,w'⟩
 exact codeAny_compStart_list loop (T.self X.A 0 _ _ _ st1 loop)
theorem zsM(B:BlkS X.N X.env.scope js (x::caps) scope)(hc:X.calm=true)(hx:scope.names.lookup x=some .local)(hi:PI X (.Name x px) iter wi)(ht:∀C fp s₀ H₀,PIfs (blk X (x::caps) scope C fp s₀ H₀) ifs tt)(he:∀C fp s₀ H₀,PE (blk X (x::caps) scope C fp s₀ H₀) elt te)(hs:∀v,foldedSetIterable iter X.env v=pure v:=by intro _;rfl):PE X (.ListComp elt [⟨.Name x px,iter,ifs,0⟩] scope pos) (tLC js wi tt te):=by
 intro pins s σ H Q I hw
 rw[eval_ListComp]
 refine zj7 (use:=none) (Q:=Q) B hc hx hi ht he hs I hw fun C D oC ys H' s1 IX q rel=>?_
 obtain⟨⟨m,hn⟩,rl⟩:=rel _ _ _ IX
 exact⟨m,hn,fun h' hs'=>⟨.ref D,_,rl h' hs',rfl,q⟩⟩
theorem zsN{y:Str}{py spos:Pos}{k:Nat}(B:BlkS X.N X.env.scope js (x::caps) scope)(hc:X.calm=true)(hx:scope.names.lookup x=some .local)(hi:PI X (.Name x px) iter wi)(ht:∀C fp s₀ H₀,PIfs (blk X (x::caps) scope C fp s₀ H₀) ifs tt)(he:∀C fp s₀ H₀,PE (blk X (x::caps) scope C fp s₀ H₀) elt te)(hN:X.N.Nodup)(hk:X.N[k]?=some y)(hy:X.env.scope.names.lookup y=some .local)(hsw:swapsWith (.ListComp elt [⟨.Name x px,iter,ifs,0⟩] scope pos) (some (.Name y py)) spos.line X.env=pure true)(hs:∀v,foldedSetIterable iter X.env v=pure v:=by intro _;rfl):PS X (.Assign [.Name y py] (.ListComp elt [⟨.Name x px,iter,ifs,0⟩] scope pos) spos) (zsr (tLC js wi tt te) (gName k)):=by
 intro pins s σ H D I hw
 rw[exec_Assign_Name_used _ _ _ _ hsw]
 refine wpAny_bind (wpAny_standAt (wpAny_bind ?_))
 show wpAny _ _ (do let _ <- comprehension (.ListComp elt [⟨.Name x px,iter,ifs,0⟩] scope pos) scope X.env _ (newList []) false (eval iter X.env) (some (assign (.Name y py) X.env))) _ _ s
 refine wpAny_bind (thn (zj7 (use:=some (assign (.Name y py) X.env)) (Qf:=fun _ s'=>SP X pins D .next s') (Q:=fun v H1=>D.nx (σ.set k (some v)) H1) B hc hx hi ht he hs I hw fun C a oC ys H' s1 IX q rel=>?_) fun _ s' hq=>wpAny_pure (wpAny_pure hq))
 show wpAny _ _ (assign (.Name y py) X.env (.ref a)) _ _ s1
 refine thn (zhy (i:=k) hN hk (Or.inl hy) (.inr hy) _ s1 σ _ (.ref a) (.ref a) (fun σ' H'=>D.nx σ' H') IX rfl q) fun _ s' h=>?_
 obtain⟨σ',H'',I',q'⟩:=h
 obtain⟨⟨m,hn⟩,rl⟩:=rel _ _ _ I'
 exact⟨m,hn,fun h' hs'=>⟨σ',H'',rl h' hs',q'⟩⟩
end
section
variable {X:Cx} {p pos:Pos}
theorem zhB:CallR X (.builtin "sorted") (fun xs H Q=>∃(a:Addr) (ns:List Int),xs=[.ref a]/\SqL X.K H a (ns.map V.int)/\ns.length<64/\∀ms:List Int,ms.Perm ns->ms.Pairwise (·<=·)->∀l,H l=none->Q (.ref l) (upd H l (.lst (ms.map V.int)))):=by
 intro pins s σ H xs us Q I r h
 obtain⟨a,ns,rfl,hq,h64,q⟩:=h
 obtain⟨u,rfl,rx⟩:=zdS r
 cases rx
 obtain⟨its,rv,pl,hz⟩:=I.list hq
 have hlen:ns.length=its.length:=by have:=rv.length;simpa using this
 refine sorted_ints pl.isList (zdT rv) (by omega) fun out ms hI hp hs=>?_
 obtain⟨e,he⟩:=sortedAll_at s.heap its out
 have rv':Vals (ms.map V.int) out.toList:=zcO hI
 have hl':ms.length=ns.length:=hp.length_eq
 refine⟨.ref (s.heap.objs.size+1),_,I.laid (t':=s.toks) (a:=s.heap.objs.size+1) (o:=.lst (ms.map V.int)) (fun b o e=>sortedAll_old e) (le_succ _) ?_,rfl,q ms hp hs _ (I.hok.fresh (le_succ _))⟩
 refine⟨by rw[length_map,hl',hlen];have:=rv.length;omega,out.toList,e,rv',?_⟩
 rw[toArray_toList]
 exact he
end
abbrev Rep(α:Type):=PySem.W.Frag->Hp->V->α->Prop
def zuU:Rep Int:=fun _ _ v i=>v=.int i
def zuV{α:Type}(R:Rep α):Rep (List α):=fun K H v l=>∃p vs,v=.ref p/\SqL K H p vs/\Paired (R K H) vs l
def rPr{α β:Type}(R:Rep α)(S:Rep β):Rep (α×β):=fun K H v l=>∃p x y,v=.ref p/\SqT K H p [x,y]/\R K H x l.1/\S K H y l.2
theorem Paired.at2{α β:Type}{F:α->β->Prop}:∀{l₁:List α} {l₂:List β},Paired F l₁ l₂->∀(i:Nat) (a:α),l₁[i]?=some a->∃b,l₂[i]?=some b/\F a b
 | _,_,.nil,_,_,h=>by simp at h
 | _,_,.cons r t,0,a,h=>by simp at h;subst h;exact⟨_,rfl,r⟩
 | _,_,.cons r t,i+1,a,h=>by
  obtain⟨b,h1,h2⟩:=Paired.at2 t i a (by simpa using h)
  exact⟨b,by simpa using h1,h2⟩
section
variable {α β:Type} [DecidableEq α] [DecidableEq β] {n:Nat} {R:Rep α} {S:Rep β} {X:Cx} {pins:List (Addr×Obj)} {σ:St} {H:Hp} {s:Shared} {A:Around}
end
section
variable {α β:Type} [DecidableEq α] [DecidableEq β] {n:Nat} {R:Rep α} {S:Rep β}
end
section
variable {α:Type} [DecidableEq α] {n:Nat} {R:Rep α} {X:Cx}
end
section
variable {α β:Type} [DecidableEq α] [DecidableEq β] {n:Nat} {R:Rep α} {S:Rep β}
end
section
variable {X:Cx} {st:Stmt} {rest:List Stmt} {t u:TS} {e:Expr} {te:TE} {tt:TT}
end
def zqq(N:List Str)(psc:Scope)(js:List Nat)(N':List Str)(scope:Scope):Bool :=
 scope.names.all (fun y=>decide (y.2≠.cell))&&decide (scope.kind=.function)&&scope.names.all (fun y=>decide (y.2=.local->scope.names.lookup y.1=some .local)) &&
 scope.names.all (fun y=>decide (y.2=.free->psc.names.lookup y.1=some .cell\/psc.names.lookup y.1=some .free))&&decide N'.Nodup&&decide (N'.length=js.length+1) &&
 (js.zip (N'.drop 1)).all (fun p=>decide (N[p.1]?=some p.2/\scope.names.lookup p.2=some .free))
theorem zby{N:List Str}{psc:Scope}{js:List Nat}{N':List Str}{scope:Scope}(h:zqq N psc js N' scope=true):BlkS N psc js N' scope:=by
 unfold zqq at h
 simp only[and_eq_true,all_eq_true,decide_eq_true_eq] at h
 obtain⟨⟨⟨⟨⟨⟨h1,h2⟩,h3⟩,h4⟩,h5⟩,h6⟩,h7⟩:=h
 exact⟨h1,h2,h3,h4,h5,h6,h7⟩
theorem Room.cmp{k:Nat}{A:Around}(r:Room k A)(n:Nat)(h:n<=64:=by decide):A.units+n<cLine:=by have:=r.units;omega
theorem Paired.app{α β:Type}{F:α->β->Prop}:∀{l₁ m₁:List α} {l₂ m₂:List β},Paired F l₁ l₂->Paired F m₁ m₂->Paired F (l₁++m₁) (l₂++m₂)
 | _,_,_,_,.nil,s=>s
 | _,_,_,_,.cons r t,s=>.cons r (Paired.app t s)
def pr(H:Hp)(v:V)(l:Int×Int):Prop:=∃q,v=.ref q/\H q=some (.tup [.int l.1,.int l.2])
def Lns(H:Hp)(p:Addr)(L:List (Int×Int)):Prop:=∃vs,H p=some (.lst vs)/\Paired (pr H) vs L
def zsO(H:Hp)(v:V)(r:List Int):Prop:=∃q,v=.ref q/\H q=some (.tup (r.map V.int))
def ztK(H:Hp)(v:V)(rows:List (List Int)):Prop:=∃q vs,v=.ref q/\H q=some (.tup vs)/\Paired (zsO H) vs rows
section
variable {X:Cx} (K:PySem.W.Frag)
theorem ixL(hK:X.K=K:=by rfl):IxR X (zsH K):=hK▸zoo
theorem ixT(hK:X.K=K:=by rfl):IxR X (zsI K):=hK▸zql
def zoq(K:PySem.W.Frag):List V->Hp->VK->Prop:=fun xs H Q=>∃(a:Addr) (ns:List Int),xs=[.ref a]/\SqL K H a (ns.map V.int)/\ns.length<64/\∀ms:List Int,ms.Perm ns->ms.Pairwise (·<=·)->∀l,H l=none->Q (.ref l) (upd H l (.lst (ms.map V.int)))
def zor(K:PySem.W.Frag):List V->Hp->VK->Prop:=fun xs H Q=>∃p ys,xs=[.ref p]/\(SqL K H p ys\/SqT K H p ys)/\∀l,H l=none->Q (.ref l) (upd H l (.lst ys))
def zm9(K:PySem.W.Frag):List V->Hp->VK->Prop:=fun xs H Q=>∃p ys,xs=[.ref p]/\((SqL K H p ys/\∀l,H l=none->Q (.ref l) (upd H l (.tup ys)))\/(SqT K H p ys/\Q (.ref p) H))
theorem zcP(hK:X.K=K:=by rfl):CallR X (.type "tuple") (zm9 K):=hK▸zfO
theorem slT(hK:X.K=K:=by rfl):SlR X (ztH K):=hK▸zqk
variable {tg l a:Expr} {tl ta:TE}
def zuA(K:PySem.W.Frag)(ta:TE):TT:=fun σ H Q=>ta σ H fun x H'=>∃k,zr4 K x H' k/\Q k H'
theorem zsP(ha:PE X a ta)(he:∀whole,isTrue a X.env whole=(do let v <- whole;standAt a.pos;holding [v] (truthy v)))(hK:X.K=K:=by rfl):PT X a (zuA K ta):=hK▸zlL ha he
variable {α:Type} [DecidableEq α] {n:Nat} {R:Rep α}
end
section
variable {κ:Type} [DecidableEq κ]
def zjb(kvs:List (κ×V))(k:κ):Option V:=(kvs.find? fun kv=>decide (kv.1=k)).map (·.2)
def zgx(kvs:List (κ×V))(k:κ)(v:V):List (κ×V) :=
 if (kvs.any fun kv=>decide (kv.1=k))=true then kvs.map (fun kv=>if kv.1=k then (kv.1,v) else kv) else kvs++[(k,v)]
def zuB(kvs:List (κ×V))(k:κ):List (κ×V):=kvs.filter fun kv=>decide (kv.1≠k)
theorem zeo{p:κ×V}{r:List (κ×V)}{k:κ}(e:p.1=k):zjb (p::r) k=some p.2:=by simp[zjb,find?_cons,e]
theorem zep{p:κ×V}{r:List (κ×V)}{k:κ}(e:¬p.1=k):zjb (p::r) k=zjb r k:=by simp[zjb,find?_cons,e]
theorem zie(k:κ):∀kvs:List (κ×V),(kvs.any fun kv=>decide (kv.1=k))=(zjb kvs k).isSome
 | []=>rfl
 | p::r=>by
  rw[any_cons]
  by_cases e:p.1=k
  ·simp only[zeo e,decide_eq_true e,Bool.true_or,isSome_some]
  ·rw[zep e,decide_eq_false e,Bool.false_or];exact zie k r
theorem zdd(kvs:List (κ×V))(k:κ)(v:V):(zgx kvs k v).length<=kvs.length+1:=by
 unfold zgx
 split
 ·rw[length_map];omega
 ·rw[length_append,length_cons,length_nil];omega
theorem RelO.isSome_eq{o:Option V}{u:Option Value}(r:RelO o u):o.isSome=u.isSome:=by
 cases o with
 | none=>cases u with
  | none=>rfl
  | some _=>exact(show False from r).elim
 | some _=>cases u with
  | none=>exact(show False from r).elim
  | some _=>rfl
theorem KV.val{kvs:List (κ×V)}{vs:List (κ×Value)}(r:KV kvs vs)(k:κ):RelO (zjb kvs k) (valueAt vs k):=by
 unfold KV at r
 induction r with
 | nil=>exact True.intro
 | @cons p q ps qs h t ih =>
  obtain⟨h1,h2⟩:=h
  by_cases e:p.1=k
  ·have e':q.1=k:=h1.symm.trans e
   have b:valueAt (q::qs) k=some q.2:=by simp[valueAt,find?_cons,e']
   rw[zeo e,b];exact h2
  ·have e':¬q.1=k:=fun z=>e (h1.trans z)
   have b:valueAt (q::qs) k=valueAt qs k:=by simp[valueAt,find?_cons,e']
   rw[zep e,b];exact ih
theorem KV.any{kvs:List (κ×V)}{vs:List (κ×Value)}(r:KV kvs vs)(k:κ):(kvs.any fun kv=>decide (kv.1=k))=vs.any fun kv=>decide (kv.1=k):=by
 unfold KV at r
 induction r with
 | nil=>rfl
 | cons h t ih=>rw[any_cons,any_cons,ih,h.1]
theorem KV.repl{kvs:List (κ×V)}{vs:List (κ×Value)}(r:KV kvs vs)(k:κ){y:V}{u:Value}(ry:RelV y u) :
  KV (kvs.map fun kv=>if kv.1=k then (kv.1,y) else kv) (vs.map fun kv=>if kv.1=k then (kv.1,u) else kv):=by
 unfold KV at r ⊢
 induction r with
 | nil=>exact .nil
 | @cons p q ps qs h t ih =>
  rw[map_cons,map_cons]
  refine .cons ?_ ih
  obtain⟨h1,h2⟩:=h
  by_cases e:p.1=k
  ·rw[if_pos e,if_pos (h1.symm.trans e)];exact⟨h1,ry⟩
  ·rw[if_neg e,if_neg (fun z=>e (h1.trans z))];exact⟨h1,h2⟩
theorem KV.put{kvs:List (κ×V)}{vs:List (κ×Value)}(r:KV kvs vs)(k:κ){y:V}{u:Value}(ry:RelV y u):KV (zgx kvs k y) (stored vs k u):=by
 unfold zgx stored
 rw[r.any k]
 by_cases e:(vs.any fun kv=>decide (kv.1=k))=true
 ·rw[if_pos e,if_pos e];exact r.repl k ry
 ·rw[if_neg e,if_neg e];exact Paired.snoc r ⟨rfl,ry⟩
theorem KV.keys{kvs:List (κ×V)}{vs:List (κ×Value)}(r:KV kvs vs):kvs.map (·.1)=vs.map (·.1):=by
 unfold KV at r
 induction r with
 | nil=>rfl
 | cons h t ih=>rw[map_cons,map_cons,ih,h.1]
theorem KV.length{kvs:List (κ×V)}{vs:List (κ×Value)}(r:KV kvs vs):kvs.length=vs.length:=Paired.length r
end
theorem kV_is{P:Program}{w:World}{k:Key}{u:Value}(r:RelV (kV k) u):(za7 P w).is k u=true:=by
 cases k with
 | inl i=>obtain⟨t,e⟩:=(show ∃t,u=Value.int i t from r);subst e;exact zhv P w i t
 | inr x=>obtain⟨t,e⟩:=(show ∃t,u=Value.str x t from r);subst e;exact zhw P w x t
theorem zgK{P:Program}{w:World}:∀{ks:List Key} {us:List Value},Vals (ks.map kV) us->ItemsAre (za7 P w) ks us
 | [],_,r=>by rw[map_nil] at r;cases r;exact .nil
 | k::ks,_,r=>by
  rw[map_cons] at r
  cases r with
  | cons h t=>exact .cons (kV_is h) (zgK t)
abbrev KT(H:Hp):List (List Key×V)->List (List Key×Addr×Value)->Prop:=Paired fun p q=>p.1=q.1/\H q.2.1=some (.tup (p.1.map kV))/\RelV p.2 q.2.2
theorem KT.val{H:Hp}{kvs:List (List Key×V)}{xs:List (List Key×Addr×Value)}(r:KT H kvs xs)(k:List Key):RelO (zjb kvs k) ((atKey xs k).map (·.2)):=by
 induction r with
 | nil=>exact True.intro
 | @cons p q ps qs h t ih =>
  obtain⟨h1,_,h2⟩:=h
  by_cases e:p.1=k
  ·have e':q.1=k:=h1.symm.trans e
   have b:atKey (q::qs) k=some q.2:=by simp[atKey,find?_cons,e']
   rw[zeo e,b];exact h2
  ·have e':¬q.1=k:=fun z=>e (h1.trans z)
   have b:atKey (q::qs) k=atKey qs k:=by simp[atKey,find?_cons,e']
   rw[zep e,b];exact ih
theorem KT.repl{H:Hp}{kvs:List (List Key×V)}{xs:List (List Key×Addr×Value)}(r:KT H kvs xs)(k:List Key){y:V}{u:Value}(ry:RelV y u) :
  KT H (kvs.map fun kv=>if kv.1=k then (kv.1,y) else kv) (xs.map (putAt k u)):=by
 induction r with
 | nil=>exact .nil
 | @cons p q ps qs h t ih =>
  rw[map_cons,map_cons]
  refine .cons ?_ ih
  obtain⟨h1,h2,h3⟩:=h
  unfold putAt
  by_cases e:p.1=k
  ·rw[if_pos e,if_pos (h1.symm.trans e)];exact⟨h1,h2,ry⟩
  ·rw[if_neg e,if_neg (fun z=>e (h1.trans z))];exact⟨h1,h2,h3⟩
theorem KT.put{H:Hp}{kvs:List (List Key×V)}{xs:List (List Key×Addr×Value)}(r:KT H kvs xs)(k:List Key){b:Addr}{y:V}{u:Value}(hb:H b=some (.tup (k.map kV)))(ry:RelV y u) :
  KT H (zgx kvs k y) (storedH xs k b u):=by
 have e:(kvs.any fun kv=>decide (kv.1=k))=(atKey xs k).isSome:=by
  rw[zie,(r.val k).isSome_eq,isSome_map]
 unfold zgx storedH
 rw[e]
 by_cases q:(atKey xs k).isSome=true
 ·rw[if_pos q,if_pos q];exact r.repl k ry
 ·rw[if_neg q,if_neg q];exact Paired.snoc r ⟨rfl,hb,ry⟩
theorem KT.keeps{H H':Hp}{kvs:List (List Key×V)}{xs:List (List Key×Addr×Value)}(r:KT H kvs xs)(ht:∀b ys,H b=some (.tup ys)->H' b=some (.tup ys)):KT H' kvs xs :=
 Paired.mapP r fun _ _ z=>⟨z.1,ht _ _ z.2.1,z.2.2⟩
section
variable {P:Program} {w:World} {H:Hp} {h:Heap} {a:Addr}
theorem zqr{u:HO}(ok:HOk P w H h)(e:Rd H a u):ObjOk P w H h a u:=e.ok ok
theorem zj8{kvs:List (Key×V)}(ok:HOk P w H h)(e:Rd H a (.dK kvs)):kvs.length<=sizeLine/\(a==sysModules)=false/\∃vs,KV kvs vs/\h.DictOf (za7 P w) a vs :=
 show ObjOk P w H h a (.dK kvs) from zqr ok e
theorem zqs{kvs:List (Key×V)}(ok:HOk P w H h)(e:H a=some (.dK kvs)):kvs.length<=sizeLine/\(a==sysModules)=false/\∃vs,KV kvs vs/\h.DictOf (za7 P w) a vs:=zj8 ok (.inl e)
theorem zj9{ks:List Key}(ok:HOk P w H h)(e:H a=some (.tup (ks.map kV))):(tupleKind (za7 P w)).is h ks a:=by
 obtain⟨_,its,r,o,h1,h2,⟨n,h3⟩,_⟩:=(show ObjOk P w H h a (.tup (ks.map kV)) from ok a _ e)
 exact⟨o,its.toArray,n,h1,h2,h3,by simpa using zgK r⟩
theorem zqt{kvs:List (List Key×V)}(ok:HOk P w H h)(e:Rd H a (.dT kvs)):kvs.length<=sizeLine/\(a==sysModules)=false /\
  ∃xs,KT H kvs xs/\h.DictOfH (tupleKind (za7 P w)) a xs:=by
 obtain⟨z,y,xs,r,o,es,ep,h1,h2,h3,h4,h5⟩:=(show ObjOk P w H h a (.dT kvs) from zqr ok e)
 refine⟨z,y,xs,r,o,es,ep,h1,h2,h3,h4,fun x hx=>?_,h5⟩
 have all:∀{l:List (List Key×V)} {m:List (List Key×Addr×Value)},KT H l m->∀x∈m,(tupleKind (za7 P w)).is h x.1 x.2.1:=by
  intro l m q
  induction q with
  | nil=>intro x hx;exact nomatch hx
  | @cons p q ps qs hq t ih =>
   intro x hx
   rcases mem_cons.mp hx with e|hx
   ·subst e
    exact zj9 ok (by rw[<- hq.1];exact hq.2.1)
   ·exact ih x hx
 exact all r x hx
theorem zsQ{kvs:List (List Key×V)}(ok:HOk P w H h)(e:H a=some (.dT kvs)):kvs.length<=sizeLine/\(a==sysModules)=false /\
  ∃xs,KT H kvs xs/\h.DictOfH (tupleKind (za7 P w)) a xs:=zqt ok (.inl e)
end
def DGet(H:Hp)(a:Addr)(y:V)(r:Option V):Prop :=
 (∃kvs k,Rd H a (.dK kvs)/\y=kV k/\r=zjb kvs k)\/∃kvs k b,Rd H a (.dT kvs)/\y=.ref b/\H b=some (.tup (k.map kV))/\r=zjb kvs k
def DPut(H:Hp)(a:Addr)(y v:V)(H':Hp):Prop :=
 (∃kvs k,H a=some (.dK kvs)/\y=kV k/\kvs.length<sizeLine/\H'=upd H a (.dK (zgx kvs k v))) \/
 ∃kvs k b,H a=some (.dT kvs)/\y=.ref b/\H b=some (.tup (k.map kV))/\kvs.length<sizeLine/\H'=upd H a (.dT (zgx kvs k v))
theorem DGet.k{H:Hp}{a:Addr}{kvs:List (Key×V)}{k:Key}(e:H a=some (.dK kvs)):DGet H a (kV k) (zjb kvs k):=.inl ⟨kvs,k,.inl e,rfl,rfl⟩
theorem DPut.k{H:Hp}{a:Addr}{kvs:List (Key×V)}{k:Key}{v:V}(e:H a=some (.dK kvs))(hl:kvs.length<sizeLine):DPut H a (kV k) v (upd H a (.dK (zgx kvs k v))):=.inl ⟨kvs,k,e,rfl,hl,rfl⟩
section
variable {X:Cx} {pins:List (Addr×Obj)} {σ:St} {H:Hp} {s:Shared} {a:Addr} {y v:V} {u r:Value} {o:Option V} {A:Around} {E:Value->Shared->Prop}
theorem Inv.big(I:Inv X pins σ H s):sysModules<s.heap.objs.size:=by
 have h:mainGlobals<s.heap.objs.size:=(I.mod.glob.keeps I.bk).lt
 exact lt_trans (by decide) h
theorem zos{Q:Value->Shared->Prop}(hu:A.units+1<cLine)(I:Inv X pins σ H s)(g:DGet H a y o)(ry:RelV y u)(h:∀s',Inv X pins σ H s'->Q (.bool (!o.isSome)) s') :
  wpAny (model X.prog X.w) A (compareOp .NotIn u (.ref a)) Q E s:=by
 rcases g with ⟨kvs,k,e,ey,l⟩|⟨kvs,k,b,e,ey,eb,l⟩
 ·subst ey
  obtain⟨z,hd,vs,rel,dd⟩:=zj8 I.hok e
  refine wpAny_notIn_of (kV_is ry) hd dd.mapOf ?_
  rw[<- (rel.val k).isSome_eq,<- l]
  exact h _ (I.tok _)
 ·subst ey
  cases (show u=Value.ref b from ry)
  obtain⟨z,hd,xs,rel,dd⟩:=zqt I.hok e
  refine wpAny_notIn_heap (tupleKind_room_in1 hu) (zj9 I.hok eb) hd dd ?_
  have q:=(rel.val k).isSome_eq
  rw[isSome_map] at q
  rw[<- q,<- l]
  exact h _ (I.tok _)
theorem zhC{h':Heap}{t':Nat}{ob:HO}(I:Inv X pins σ H s)(mu:Mut (H a))(hs:Heap.SameBut a s.heap h')(he:∃q,h'.get? a=some q)(new:ObjOk X.prog X.w (upd H a ob) h' a ob) :
  Inv X pins σ (upd H a ob) { s with heap:=h',toks:=t' } :=
 I.write (x:=a) (e:=a) mu (.inl rfl) (fun b q hb z=>(hs.2 b hb).trans z) he new
theorem zna{P:Program}{w:World}{H':Hp}{h':Heap}{kvs:List (Key×V)}{vs:List (Key×Value)}(z:kvs.length<=sizeLine)(hd:(a==sysModules)=false)(rel:KV kvs vs)(dd:h'.DictOf (za7 P w) a vs) :
  ObjOk P w H' h' a (.dK kvs):=⟨z,hd,vs,rel,dd⟩
theorem zka{H':Hp}{Q:Unit->Shared->Prop}(hu:A.units+1<cLine)(I:Inv X pins σ H s)(g:DPut H a y v H')(ry:RelV y u)(rv:RelV v r)(h:∀s',Inv X pins σ H' s'->Q () s') :
  wpAny (model X.prog X.w) A (setItem (.ref a) u r) Q E s:=by
 rcases g with ⟨kvs,k,e,ey,l,eH⟩|⟨kvs,k,b,e,ey,eb,l,eH⟩
 ·subst ey eH
  obtain⟨z,hd,vs,rel,dd⟩:=zqs I.hok e
  have hz:vs.length<=sizeLine:=by rw[<- rel.length];exact z
  have hl:(zgx kvs k v).length<=sizeLine:=by have:=zdd kvs k v;omega
  refine wpAny_setItem_pairs (hsz:=hz) (kV_is ry) dd fun h' dd' hs=>h _ ?_
  have he:∃q,h'.get? a=some q:=let ⟨q,_,_,hq,_⟩:=dd';⟨q,hq⟩
  exact zhC I (by rw[e];exact True.intro) hs he (zna hl hd (rel.put k rv) dd')
 ·subst ey eH
  cases (show u=Value.ref b from ry)
  obtain⟨z,hd,xs,rel,dd⟩:=zsQ I.hok e
  have hz:xs.length<=sizeLine:=by rw[<- Paired.length rel];exact z
  have hl:(zgx kvs k v).length<=sizeLine:=by have:=zdd kvs k v;omega
  refine wpAny_setItem_heap (hsz:=hz) (tupleKind_room_in1 hu) (zj9 I.hok eb) dd fun h' dd' hs=>h _ ?_
  obtain⟨q,es,ep,hq,h2,h3,h4,_,h5⟩:=dd'
  refine zhC I (by rw[e];exact True.intro) hs ⟨q,hq⟩ ⟨hl,hd,_,(rel.put k eb rv).keeps fun c ys ec=>?_,q,es,ep,hq,h2,h3,h4,h5⟩
  rw[zaJ (zse ec e (fun z=>nomatch z))]
  exact ec
end
section
variable {X:Cx} {pins:List (Addr×Obj)} {σ:St} {H:Hp} {s:Shared} {a:Addr} {kvs:List (Key×V)} {k:Key} {u:Value} {A:Around} {E:Value->Shared->Prop}
theorem zsR{Q:Value->Shared->Prop}(I:Inv X pins σ H s)(e:Rd H a (.dK kvs))(h:∀t s',Inv X pins σ H s'->Q (.int kvs.length t) s'):wpAny (model X.prog X.w) A (call (.builtin "len") [.ref a]) Q E s:=by
 obtain⟨z,hd,vs,rel,dd⟩:=zj8 I.hok e
 refine call_len_dict hd dd (by rw[<- rel.length];rw[sizeLine_eq] at z;omega) ?_
 rw[<- rel.length]
 exact h _ _ (I.tok _)
end
def zot(ty td:TE):TE:=fun σ H Q=>ty σ H fun y H1=>td σ H1 fun x H2=>∃a o,x=.ref a/\DGet H2 a y o/\Q (.bl (!o.isSome)) H2
def zsS(td ty tv:TE):TS:=fun D σ H=>tv σ H fun v H1=>td σ H1 fun x H2=>ty σ H2 fun y H3=>∃a H4,x=.ref a/\DPut H3 a y v H4/\D.nx σ H4
section
variable {X:Cx} {o i e value:Expr} {pos pos' tpos:Pos} {td ty tv:TE}
theorem zkb(hu:X.A.units+1<cLine)(hi:PE X i ty)(ho:PE X o td):PC X .NotIn i o (zot ty td):=by
 intro pins s σ H Q I h
 refine thn (hi pins s σ H _ I h) fun iv s1 ⟨y,H1,I1,ry,q1⟩=>thn (ho pins s1 σ H1 _ I1 q1) fun u s2 ⟨x,H2,I2,rx,a,ov,ex,g,q2⟩=>?_
 subst ex
 obtain rfl:u=Value.ref a:=rx
 exact zos hu I2 g ry fun s3 I3=>⟨.bl (!ov.isSome),H2,I3,rfl,q2⟩
theorem zou(hu:X.A.units+1<cLine)(ho:PE X o td)(hi:PE X i ty)(hv:PE X value tv)(hs:swapsWith value (some (.Subscript o i pos')) pos.line X.env=pure false) :
  PS X (.Assign [.Subscript o i pos'] value pos) (zsS td ty tv):=by
 intro pins s σ H D I h
 refine wpAny_Assign_Subscript (thn (hv pins s σ H _ I h) fun r s1 ⟨v,H1,I1,rv,q1⟩=>thn (ho pins s1 σ H1 _ I1 q1) fun u s2 ⟨x,H2,I2,rx,q2⟩=>thn (hi pins s2 σ H2 _ I2 q2) fun iv s3 ⟨y,H3,I3,ry,a,H4,ex,g,q3⟩=>?_) hs
 subst ex
 obtain rfl:u=Value.ref a:=rx
 exact zka hu I3 g ry rv fun s4 I4=>⟨σ,H4,I4,q3⟩
end
theorem zif{P:Program}{w:World}{H:Hp}(h:Heap)(hb:sysModules<h.objs.size):ObjOk P w H (h.push { cls:=.type "dict",data:=.dict #[] }) h.objs.size (.dK []) :=
 ⟨zero_le _,beq_eq_false_iff_ne.mpr (Ne.symm (ne_of_lt hb)),[],.nil,Heap.DictOf.new h⟩
def zqu:TE:=fun _ H Q=>∀p,H p=none->Q (.ref p) (upd H p (.dK []))
section
variable {X:Cx} {pos:Pos}
theorem zl0:PE X (.Dict [] [] pos) zqu:=fun pins s σ H Q I h =>
 wpAny_Dict_empty ⟨.ref s.heap.objs.size,_,I.laid (a:=s.heap.objs.size) (o:=.dK []) (t':=s.toks) (fun _ _ q=>Heap.get?_push_of_some _ q) (le_refl _) (zif s.heap I.big),rfl,h _ (I.hok.fresh (le_refl _))⟩
end
def zkc:List (TE×TE)->St->Hp->(List (V×V)->Hp->Prop)->Prop
 | [],_,H,Q=>Q [] H
 | (tk,tv)::r,σ,H,Q=>tk σ H fun x H1=>tv σ H1 fun y H2=>zkc r σ H2 fun ps H3=>Q ((x,y)::ps) H3
abbrev VV:List (V×V)->List (Value×Value)->Prop:=Paired fun p q=>RelV p.1 q.1/\RelV p.2 q.2
def PPs(X:Cx)(pos:Pos)(keys:List (Option Expr))(values:List Expr)(trs:List (TE×TE)):Prop :=
 ∀(pins:List (Addr×Obj)) (s:Shared) (σ:St) (H:Hp) (Q:List (V×V)->Hp->Prop),Inv X pins σ H s->zkc trs σ H Q ->
  wpAny (model X.prog X.w) X.A (evalPairs (pairTrees keys values X.env pos)) (fun vs s'=>∃ps H',Inv X pins σ H' s'/\VV ps vs/\Q ps H') X.xe s
theorem zov{X:Cx}{pos:Pos}:PPs X pos [] [] []:=fun pins s σ H Q I h=>pairTrees_nil_walk ⟨[],H,I,.nil,h⟩
theorem zl1{X:Cx}{pos:Pos}{k v:Expr}{ks:List (Option Expr)}{vs:List Expr}{tk tv:TE}{trs:List (TE×TE)}(hk:PE X k tk)(hv:PE X v tv)(hr:PPs X pos ks vs trs) :
  PPs X pos (some k::ks) (v::vs) ((tk,tv)::trs):=fun pins s σ H Q I h =>
 pairTrees_cons_walk (thn (hk pins s σ H _ I h) fun u s1 ⟨x,H1,I1,rx,q1⟩=>thn (hv pins s1 σ H1 _ I1 q1) fun w2 s2 ⟨y,H2,I2,ry,q2⟩ =>
  thn (hr pins s2 σ H2 _ I2 q2) fun ws s3 ⟨ps,H3,I3,rel,q3⟩=>⟨(x,y)::ps,H3,I3,.cons ⟨rx,ry⟩ rel,q3⟩)
def zeD(kvs more:List (Key×V)):List (Key×V):=more.foldl (fun acc kv=>zgx acc kv.1 kv.2) kvs
theorem KV.merge:∀{more:List (Key×V)} {rs:List (Key×Value)} {kvs:List (Key×V)} {vs:List (Key×Value)},KV more rs->KV kvs vs->KV (zeD kvs more) (merged vs rs):=by
 intro more rs kvs vs r
 unfold KV at r
 induction r generalizing kvs vs with
 | nil=>intro q;exact q
 | @cons p q ps qs h t ih =>
  intro r0
  have e:KV (zgx kvs p.1 p.2) (stored vs q.1 q.2):=by
   have:=r0.put p.1 h.2
   rw[<- h.1];exact this
  exact ih e
theorem zdp:∀(more kvs:List (Key×V)),(zeD kvs more).length<=kvs.length+more.length
 | [],kvs=>by show kvs.length<=kvs.length+0;omega
 | p::r,kvs=>by
  have h1:=zdp r (zgx kvs p.1 p.2)
  have h2:=zdd kvs p.1 p.2
  show(zeD (zgx kvs p.1 p.2) r).length<=_
  rw[length_cons];omega
theorem zft{P:Program}{w:World}:∀{kvs:List (Key×V)} {ws:List (Value×Value)},VV (kvs.map fun kv=>(kV kv.1,kv.2)) ws->∃rs,Carries (za7 P w) ws rs/\KV kvs rs
 | [],_,r=>by rw[map_nil] at r;cases r;exact⟨[],True.intro,.nil⟩
 | p::kvs,_,r=>by
  rw[map_cons] at r
  cases r with
  | @cons a b as bs h t =>
   obtain⟨rs,c,q⟩:=zft (P:=P) (w:=w) t
   obtain⟨b1,b2⟩:=b
   exact⟨(p.1,b2)::rs,⟨kV_is h.1,rfl,c⟩,.cons ⟨rfl,h.2⟩ q⟩
def zsT(trs:List (TE×TE)):TE:=fun σ H Q=>∀p,H p=none->zkc trs σ (upd H p (.dK [])) fun ps H2=>H2 p=some (.dK [])/\∃kvs:List (Key×V),ps=kvs.map (fun kv=>(kV kv.1,kv.2))/\kvs.length<=15/\Q (.ref p) (upd H2 p (.dK (zeD [] kvs)))
theorem zow{X:Cx}{pos:Pos}{keys:List (Option Expr)}{values:List Expr}{trs:List (TE×TE)}(h:PPs X pos keys values trs)(hall:keys.all (·.isSome)=true)(hl:keys.length=values.length)(h0:keys≠[])(h15:keys.length<=15):PE X (.Dict keys values pos) (zsT trs):=by
 intro pins s σ H Q I q
 have hn:=I.hok.fresh (le_refl s.heap.objs.size)
 have I1:=I.laid (a:=s.heap.objs.size) (o:=.dK []) (h':=s.heap.push { cls:=.type "dict",data:=.dict #[] }) (t':=s.toks) (fun _ _ q=>Heap.get?_push_of_some _ q) (le_refl _) (zif s.heap I.big)
 refine wpAny_Dict_walk (knd:=za7 X.prog X.w) hall hl h0 h15 (thn (h pins _ σ _ _ I1 (q _ hn)) fun ws s2 ⟨ps,H2,I2,rel,e,kvs,ep,lk,q2⟩=>?_)
 subst ep
 obtain⟨rs,c,rk⟩:=zft (P:=X.prog) (w:=X.w) rel
 obtain⟨z,hd,vs0,r0,dd⟩:=zqs I2.hok e
 cases r0
 refine⟨rs,c,dd,fun h' dd' hs=>⟨.ref s.heap.objs.size,_,?_,rfl,q2⟩⟩
 have hz:(zeD [] kvs).length<=sizeLine:=by
  have h1:=zdp kvs []
  rw[length_nil] at h1
  rw[sizeLine_eq];omega
 have he:∃q,h'.get? s.heap.objs.size=some q:=let ⟨q,_,_,hq,_⟩:=dd';⟨q,hq⟩
 exact zhC I2 (by rw[e];exact True.intro) hs he (zna hz hd (rk.merge .nil) dd')
section
variable {X:Cx} {pins:List (Addr×Obj)} {σ:St} {H:Hp} {s:Shared} {a:Addr} {y d:V} {u r:Value} {o:Option V} {A:Around} {E:Value->Shared->Prop}
end
section
variable {X:Cx} {o e f:Expr} {apos cpos:Pos} {td ty tx:TE}
end
section
variable {X:Cx} {pins:List (Addr×Obj)} {σ:St} {H:Hp} {s:Shared} {a:Addr} {kvs:List (Key×V)} {A:Around} {E:Value->Shared->Prop}
end
section
variable {X:Cx} {pins:List (Addr×Obj)} {σ:St} {H:Hp} {s:Shared} {a:Addr} {y:V} {u:Value} {A:Around} {E:Value->Shared->Prop}
end
section
variable {X:Cx}
theorem zkd:CallR X (.builtin "len") (fun xs H Q=>∃a kvs,xs=[V.ref a]/\H a=some (.dK kvs)/\Q (.int kvs.length) H):=by
 intro pins s σ H xs us Q I r h
 obtain⟨a,kvs,rfl,ha,q⟩:=h
 obtain⟨u,rfl,ru⟩:=zdS r
 cases ru
 exact zsR I (.inl ha) fun t s' I'=>⟨.int kvs.length,H,I',⟨t,rfl⟩,q⟩
section
variable {κ:Type} [DecidableEq κ]
end
end
section
variable {X:Cx}
theorem zfu{P:Program}{w:World}{kvs:List (Key×V)}{vs:List (Key×Value)}{ns:List Int}(rel:KV kvs vs)(hk:kvs.map (·.1)=ns.map Sum.inl){acc:Array Value}(h:ItemsOf (fun i v=>∃k x,vs[i]?=some (k,x)/\(za7 P w).is k v=true) acc vs.length):IntsAre acc.toList ns:=by
 have hl:acc.toList.length=ns.length:=by
  rw[length_toList,h.1,<- length_map (f:=fun x:Key×Value=>x.1),<- KV.keys rel,hk,length_map]
 have at':∀(i:Nat) (v:Value),acc.toList[i]?=some v->∃t,v=Value.int (ns.getD i 0) t:=by
  intro i v hv
  obtain⟨k,x,h1,h2⟩:=h.2 i v (by rw[<- getElem?_toList];exact hv)
  have e:(ns.map Sum.inl:List Key)[i]?=some k:=by
   rw[<- hk,KV.keys rel,getElem?_map,h1];rfl
  rw[getElem?_map] at e
  cases q:ns[i]? with
  | none=>rw[q] at e;cases e
  | some n =>
   rw[q] at e
   simp only[map_some,Option.some.injEq] at e
   subst e
   rcases zaZ (k:=Sum.inl n) (v:=v) h2 with ⟨j,t,e1,e2⟩|⟨j,t,e1,e2⟩
   ·cases e1
    exact⟨t,by rw[e2,getD_eq_getElem?_getD,q];rfl⟩
   ·cases e1
 clear h
 revert hl at'
 generalize acc.toList=us
 clear hk
 induction ns generalizing us with
 | nil=>intro hl _;cases us with|nil=>exact .nil|cons a r=>simp at hl
 | cons n ns ih =>
  intro hl h
  cases us with
  | nil=>simp at hl
  | cons a r =>
   obtain⟨t,rfl⟩:=h 0 a rfl
   exact .cons n t (ih r (by simpa using hl) fun i v hv=>h (i+1) v hv)
theorem zgL(hc:X.calm=true):CallR X (.builtin "sorted") (fun xs H Q=>∃(a:Addr) (kvs:List (Key×V)) (ns:List Int),xs=[.ref a]/\Rd H a (.dK kvs)/\kvs.map (·.1)=ns.map Sum.inl/\ns.length<64 /\
  ∀ms:List Int,ms.Perm ns->ms.Pairwise (·<=·)->∀l,H l=none->Q (.ref l) (upd H l (.lst (ms.map V.int)))):=by
 intro pins s σ H xs us Q I r h
 obtain⟨a,kvs,ns,rfl,hd,hk,h64,q⟩:=h
 obtain⟨u,rfl,rx⟩:=zdS r
 cases rx
 obtain⟨hz,hS,vs,rel,dd⟩:=zj8 I.hok hd
 obtain⟨ep,hat⟩:=dd.dictAt
 have hh:X.A.in1.handled=none:=I.ok.hd hc
 have hlen:vs.length=ns.length:=by rw[<- KV.length rel,<- length_map (f:=fun x:Key×V=>x.1),hk,length_map]
 refine Calls.call_function_entry kind_sorted plain_sorted entry_sorted (args_sorted1 _) ?_
 unfold Builtin.«sorted»
 refine wpAny_bind (m:=checkCount "sorted" 1 1 _) (wpAny_pure ?_)
 refine wpAny_bind (PySem.W.kdu_collect (A:=X.A.in1) (PySem.W.kdl_dict (knd:=za7 X.prog X.w) (kvs:=vs) (ep:=ep) hS) hh hat (by rw[<- KV.length rel];exact hz) fun h' tk acc hkp hacc=>?_)
 have hI:=zfu rel hk hacc
 have hal:acc.toList.length=ns.length:=by rw[length_toList,hacc.1,hlen]
 refine wpAny_bind (wpAny_newList ?_ (by rw[hal,<- hlen,<- KV.length rel];exact hz))
 have hoL:(h'.push (seqObj "list" acc.toList.toArray 0)).get? h'.objs.size=some (seqObj "list" acc.toList.toArray 0):=Heap.get?_push_size _ rfl
 refine wpAny_bind (wpAny_holding (wpAny_call_entry slot_list_sort ⟨_,hoL,rfl⟩ entry_list_sort (list_sort_tree hoL hI (by omega) fun out ns' a1 a2 a3=>⟨_,rfl,?_⟩) (args_list_sort _)))
 refine wpAny_pure ⟨_,rfl,?_⟩
 obtain⟨e,he⟩:=sortedHeap_at (out:=out) hoL
 have I1:Inv X pins σ H { s with heap:=h',toks:=tk }:=I.kept hkp
 have rv':Vals (ns'.map V.int) out.toList:=zcO a1
 refine⟨.ref h'.objs.size,_,I1.laid (t':=tk) (a:=h'.objs.size) (o:=.lst (ns'.map V.int)) (fun b o hb=>?_) (le_refl _) ?_,rfl,q ns' a2 a3 _ I1.fresh⟩
 ·have hb:h'.get? b=some o:=hb
  have hlt:=Heap.lt_size hb
  show(sortedHeap (h'.push (seqObj "list" acc.toList.toArray 0)) h'.objs.size acc.toList out).get? b=some o
  rw[sortedHeap_old (ne_of_lt hlt) (by rw[size_push'];exact lt_succ_of_lt hlt)]
  exact Heap.get?_push_of_some _ hb
 ·refine⟨by rw[length_map,a2.length_eq,<- hlen,<- KV.length rel];exact hz,out.toList,e,rv',?_⟩
  rw[toArray_toList]
  exact he
theorem zjc(hc:X.calm=true):CallR X (.type "list") (fun xs H Q=>∃(a:Addr) (kvs:List (Key×V)) (ns:List Int),xs=[.ref a]/\Rd H a (.dK kvs)/\kvs.map (·.1)=ns.map Sum.inl/\∀l,H l=none->Q (.ref l) (upd H l (.lst (ns.map V.int)))):=by
 intro pins s σ H xs us Q I r h
 obtain⟨a,kvs,ns,rfl,hd,hk,q⟩:=h
 obtain⟨u,rfl,rx⟩:=zdS r
 cases rx
 obtain⟨hz,hS,vs,rel,dd⟩:=zj8 I.hok hd
 obtain⟨ep,hat⟩:=dd.dictAt
 have hlen:vs.length=ns.length:=by rw[<- KV.length rel,<- length_map (f:=fun x:Key×V=>x.1),hk,length_map]
 refine PySem.W.kdl_call (PySem.W.kdl_dict (knd:=za7 X.prog X.w) (kvs:=vs) (ep:=ep) hS) (I.ok.hd hc) hat (by rw[<- KV.length rel];exact hz) fun h' tk acc c hkp hD hacc=>?_
 have hI:=zfu rel hk hacc
 refine⟨.ref s.heap.objs.size,_,I.laid (t':=tk) (a:=s.heap.objs.size) (o:=.lst (ns.map V.int)) hkp (le_refl _) ?_,rfl,q _ I.fresh⟩
 refine⟨by rw[length_map,<- hlen,<- KV.length rel];exact hz,acc.toList,c,zcO hI,?_⟩
 rw[toArray_toList]
 exact hD
theorem zke{a:Expr}{ta:TA}{p pos:Pos}(hg:Gl X "range")(hm:X.mg "range" = none)(ha:PA X [a] ta)(hs:starEach [a] X.env=[(false,eval a X.env)]:=by rfl) :
  PE X (.Call (.Name "range" p) [a] [] pos) (fun σ H Q=>ta σ H fun vs H1=>∃j:Int,vs=[.int j]/\∀p,H1 p=none->Q (.ref p) (upd H1 p (.rng 0 j))):=by
 intro pins s σ H Q I h
 refine Call_ (zia I hg hm boot_range (PyProof.Rows.callWith_type1 (thn (ha pos pins s σ H _ I h) fun us s1 ⟨vs,H1,I1,r1,q1⟩=>?_) hs rfl))
 obtain⟨j,e,q⟩:=q1
 subst e
 cases r1 with
 | cons r rr =>
  cases rr
  obtain⟨t,rfl⟩:=r
  refine call_range_1 ⟨.ref s1.heap.objs.size,_,I1.laid (t':=s1.toks+1+1) (a:=s1.heap.objs.size) (o:=.rng 0 j) (fun b o e=>Heap.get?_push_of_some _ e) (le_refl _) ?_,rfl,q _ I1.fresh⟩
  exact⟨_,_,_,Heap.get?_push_size _ rfl⟩
theorem zgM(hc:X.calm=true):CallR X (.type "list") (fun xs H Q=>∃(p:Addr) (lo hi:Int),xs=[.ref p]/\H p=some (.rng lo hi)/\-(2 ^ 62)<=lo/\lo<2 ^ 62/\-(2 ^ 62)<=hi/\hi<2 ^ 62/\(hi-lo).toNat<=sizeLine /\
  ∀l,H l=none->Q (.ref l) (upd H l (.lst ((List.range (hi-lo).toNat).map fun(i:Nat)=>V.int (lo+(i:Int)))))):=by
 intro pins s σ H xs us Q I r h
 obtain⟨p,lo,hi,rfl,hp,h1,h2,h3,h4,hz,q⟩:=h
 obtain⟨u,rfl,rx⟩:=zdS r
 cases rx
 obtain⟨t,u,v,hr⟩:=I.hok p _ hp
 have hn:Builtin.Range.rangeSize lo hi 1=(((hi-lo).toNat:Nat):Int):=by rw[rangeSize_one];split<;>omega
 refine PySem.call_list_range (I.ok.hd hc) hr (small_one h1 h2 h3 h4) hn (by rw[sizeLine_eq] at hz;exact hz) fun h' tk acc c hkp hD hacc=>?_
 refine⟨.ref s.heap.objs.size,_,I.laid (t':=tk) (a:=s.heap.objs.size) (o:=.lst ((List.range (hi-lo).toNat).map fun(i:Nat)=>V.int (lo+(i:Int)))) hkp (le_refl _) ?_,rfl,q _ I.fresh⟩
 refine⟨by rw[length_map,length_range];exact hz,acc.toList,c,?_,by rw[toArray_toList];exact hD⟩
 have hl:acc.toList.length=(hi-lo).toNat:=by rw[length_toList];exact hacc.1
 have hv:∀(i:Nat) (v:Value),acc.toList[i]?=some v->∃t,v=Value.int (lo+(i:Int)) t:=fun i v e=>by
  obtain⟨t,e'⟩:=hacc.2 i v (by rw[<- getElem?_toList];exact e)
  exact⟨t,by rw[e',mul_one]⟩
 clear hn hz hacc hD
 revert hl hv
 generalize acc.toList=us
 generalize (hi-lo).toNat=n
 intro hl hv
 have:∀(us:List Value) (k:Nat),(∀(i:Nat) (v:Value),us[i]?=some v->∃t,v=Value.int (lo+((k+i:Nat):Int)) t)->Vals ((List.range' k us.length).map fun(i:Nat)=>V.int (lo+(i:Int))) us:=by
  intro us
  induction us with
  | nil=>intro k _;exact .nil
  | cons a r ih =>
   intro k h
   obtain⟨t,rfl⟩:=h 0 a rfl
   rw[length_cons,range'_succ,map_cons]
   refine .cons ⟨t,by simp⟩ (ih (k+1) fun i v e=>?_)
   obtain⟨t',e'⟩:=h (i+1) v e
   exact⟨t',by rw[e'];congr 2;omega⟩
 have q':=this us 0 fun i v e=>by simpa using hv i v e
 rw[<- range_eq_range',hl] at q'
 exact q'
theorem zl2(hc:X.calm=true):CallR X (.builtin "any") (fun xs H Q=>∃(a:Addr) (bs:List Bool),xs=[.ref a]/\SqL X.K H a (bs.map V.bl)/\Q (.bl (bs.any id)) H):=by
 intro pins s σ H xs us Q I r h
 obtain⟨a,bs,rfl,hq,q⟩:=h
 obtain⟨u,rfl,rx⟩:=zdS r
 cases rx
 obtain⟨its,rv,pl,hz⟩:=I.list hq
 have hlt:a<s.heap.objs.size:=by obtain⟨o,n,e,_⟩:=pl;exact Heap.lt_size e
 have hlen:bs.length=its.length:=by have:=rv.length;simpa using this
 have hh:X.A.in1.handled=none:=I.ok.hd hc
 refine call_any_walk (wpAny_pyIter_list pl.isList ?_)
 have tr:TruthOf X.prog X.w X.A.in1 (fun i v=>its.toArray[i]?=some v) (fun i=>bs.getD i false):=by
  intro i v s' Q' E' hv hQ
  have hv':its[i]?=some v:=by simpa using hv
  have hi:i<its.length:=(List.getElem?_eq_some_iff.mp hv').1
  have hb:bs[i]?=some bs[i]:=by simp[hlen,hi]
  obtain⟨u,hu,ru⟩:=rv.get (i:=i) (x:=V.bl (bs[i]'(by omega))) (by rw[getElem?_map,hb];rfl)
  rw[hv'] at hu
  cases hu
  cases (show v=Value.bool (bs[i]'(by omega)) from ru)
  have e:bs.getD i false=bs[i]'(by omega):=by rw[getD_eq_getElem?_getD,hb];rfl
  have hQ':Q' (bs.getD i false) s':=hQ
  rw[e] at hQ'
  exact wpAny_truthy_bool hQ'
 refine⟨s.heap.objs.size,_,_,its.toArray.size,_,_,fun i=>bs.getD i false,rfl,Walks.list hh s.heap.objs.size a (ne_of_lt hlt) its.toArray,⟨⟨_,Heap.get?_push_size _ rfl,rfl,rfl⟩,pl.isList.push _⟩,tr,fun h' tk hk=>?_⟩
 have I1:Inv X pins σ H { s with heap:=h',toks:=tk }:=I.kept fun b o e=>hk b o (by simpa using ne_of_lt (Heap.lt_size e)) (Heap.get?_push_of_some _ e)
 refine⟨.bl _,H,I1,rfl,?_⟩
 have e:(List.range its.toArray.size).any (fun i=>bs.getD i false)=bs.any id:=by
  rw[size_toArray,<- hlen]
  rw[Bool.eq_iff_iff,any_eq_true,any_eq_true]
  constructor
  ·rintro⟨i,hi,z⟩
   have hi':=mem_range.mp hi
   refine⟨bs[i],getElem_mem hi',?_⟩
   rw[getD_eq_getElem?_getD] at z
   simpa[hi'] using z
  ·rintro⟨b,hb,z⟩
   obtain⟨i,hi,rfl⟩:=mem_iff_getElem.mp hb
   refine⟨i,mem_range.mpr hi,?_⟩
   rw[getD_eq_getElem?_getD]
   simpa[hi] using z
 rw[e]
 exact q
end
section
variable {X:Cx} {tg:Expr}
def Itd(a:Addr)(o:Obj)(ps:List (Key×V)):It where
 go:=fun i H=>H a=some (.frz o (.dK ps))/\i<ps.length
 yld:=fun i H x H'=>H'=H/\∃p,ps[i]?=some p/\x=kV p.1
 stop:=fun i H=>H a=some (.frz o (.dK ps))/\ps.length=i
end
section
variable {prog:Program} {w:World} {A:Around} {E:Value->Shared->Prop} {s:Shared}
end
end L2
namespace VS
open PySem PySem.Spec PyProof.Rows L2
abbrev St:=L2.St
theorem zaE{α:Type}{l:List α}{k:Nat}{a:α}(h:l[k]?=some a):k<l.length:=(List.getElem?_eq_some_iff.mp h).1
theorem zgN{α:Type}{l:List α}(h:l.Nodup){i j:Nat}(hi:i<l.length)(hj:j<l.length)(e:l[i]=l[j]):i=j:=by
 have p:=pairwise_iff_getElem.mp h
 rcases lt_trichotomy i j with q|q|q
 ·exact absurd e (p i j hi hj q)
 ·exact q
 ·exact absurd e.symm (p j i hj hi q)
inductive W where
 | non|bl (b:Bool)|int (i:Int)|str (x:Str)|ty (n:String)|lst (xs:List W)|tup (xs:List W)|cel (k:Nat)
inductive C where
 | lst (xs:List W)|dct (kvs:List (Key×W))|ins (c:Str) (fs:List (Str×W))|exn (c:Str)|dead|fzd (kvs:List (Key×W))|dtp (kvs:List (List Key×W))
def C.nf:C->Bool
 | .fzd _=>false
 | _=>true
def nfz:HO->Bool
 | .frz _ _=>false
 | _=>true
abbrev Ce:=List C
abbrev Sl:=List (Option W)
structure Exn where
 nm:Str
 fld:Option (Str×W)
inductive R (α:Type) where
 | ok (a:α) (ce:Ce)|ex (x:Exn) (ce:Ce)
abbrev M(α:Type):=Ce->Option (R α)
structure Ga where
 K:PySem.W.Frag
 cl:Str->Addr
 xr:Exn->Value->Option Addr->Hp->Prop
mutual
def Rep(F:Hp)(as:List Addr):W->V->Prop
 | .non,v=>v=.non
 | .bl b,v=>v=.bl b
 | .int i,v=>v=.int i
 | .str x,v=>v=.str x
 | .ty n,v=>v=.ty n
 | .lst xs,v=>∃a vs,v=.ref a/\Rd F a (.lst vs)/\Reps F as xs vs
 | .tup xs,v=>∃a vs,v=.ref a/\F a=some (.tup vs)/\Reps F as xs vs
 | .cel k,v=>∃a,v=.ref a/\as[k]?=some a
def Reps(F:Hp)(as:List Addr):List W->List V->Prop
 | [],vs=>vs=[]
 | x::xs,vs=>∃v r,vs=v::r/\Rep F as x v/\Reps F as xs r
end
structure Le (F:Hp) (as:List Addr) (F':Hp) (as':List Addr):Prop where
 f:∀a o,F a=some o->F' a=some o
 c:∀(k:Nat) (a:Addr),as[k]?=some a->as'[k]?=some a
theorem Le.refl{F:Hp}{as:List Addr}:Le F as F as:=⟨fun _ _ h=>h,fun _ _ h=>h⟩
theorem Le.trans{F F1 F2:Hp}{as as1 as2:List Addr}(h:Le F as F1 as1)(h':Le F1 as1 F2 as2):Le F as F2 as2:=⟨fun a o e=>h'.f a o (h.f a o e),fun k a e=>h'.c k a (h.c k a e)⟩
theorem Le.rd{F F':Hp}{as as':List Addr}(h:Le F as F' as'){a:Addr}{o:HO}(r:Rd F a o):Rd F' a o:=by
 rcases r with r|⟨u,r⟩
 ·exact .inl (h.f _ _ r)
 ·exact .inr ⟨u,h.f _ _ r⟩
mutual
theorem Rep.le{F F':Hp}{as as':List Addr}(h:Le F as F' as'):∀{w:W} {v:V},Rep F as w v->Rep F' as' w v
 | .non,_,r=>by simpa only[Rep] using r
 | .bl _,_,r=>by simpa only[Rep] using r
 | .int _,_,r=>by simpa only[Rep] using r
 | .str _,_,r=>by simpa only[Rep] using r
 | .ty _,_,r=>by simpa only[Rep] using r
 | .lst xs,_,r=>by
  simp only[Rep] at r ⊢
  obtain⟨a,vs,e,q,s⟩:=r
  exact⟨a,vs,e,h.rd q,Reps.le h s⟩
 | .tup xs,_,r=>by
  simp only[Rep] at r ⊢
  obtain⟨a,vs,e,q,s⟩:=r
  exact⟨a,vs,e,h.f _ _ q,Reps.le h s⟩
 | .cel k,_,r=>by
  simp only[Rep] at r ⊢
  obtain⟨a,e,q⟩:=r
  exact⟨a,e,h.c _ _ q⟩
theorem Reps.le{F F':Hp}{as as':List Addr}(h:Le F as F' as'):∀{ws:List W} {vs:List V},Reps F as ws vs->Reps F' as' ws vs
 | [],_,r=>by simpa only[Reps] using r
 | _::_,_,r=>by
  simp only[Reps] at r ⊢
  obtain⟨v,r',e,q,s⟩:=r
  exact⟨v,r',e,Rep.le h q,Reps.le h s⟩
end
section
variable {F:Hp} {as:List Addr}
theorem Reps.nil:Reps F as [] []:=by simp only[Reps]
theorem Reps.cons{w:W}{v:V}{ws:List W}{vs:List V}(h:Rep F as w v)(t:Reps F as ws vs):Reps F as (w::ws) (v::vs):=by simp only[Reps];exact⟨v,vs,rfl,h,t⟩
theorem Reps.length:∀{ws:List W} {vs:List V},Reps F as ws vs->vs.length=ws.length
 | [],_,r=>by simp only[Reps] at r;subst r;rfl
 | _::_,_,r=>by
  simp only[Reps] at r
  obtain⟨v,r',rfl,_,s⟩:=r
  simp only[length_cons,Reps.length s]
theorem Reps.get:∀{ws:List W} {vs:List V} {i:Nat} {w:W},Reps F as ws vs->ws[i]?=some w->∃v,vs[i]?=some v/\Rep F as w v
 | [],_,_,_,_,e=>by simp at e
 | _::_,_,0,_,r,e=>by
  simp only[Reps] at r
  obtain⟨v,r',rfl,q,s⟩:=r
  simp at e;subst e
  exact⟨v,rfl,q⟩
 | _::_,_,i+1,w,r,e=>by
  simp only[Reps] at r
  obtain⟨v,r',rfl,q,s⟩:=r
  obtain⟨u,h1,h2⟩:=Reps.get (i:=i) (w:=w) s (by simpa using e)
  exact⟨u,by simpa using h1,h2⟩
theorem Reps.get'{ws:List W}{vs:List V}{i:Nat}{v:V}(r:Reps F as ws vs)(e:vs[i]?=some v):∃w,ws[i]?=some w/\Rep F as w v:=by
 have hl:=r.length
 have hi:i<vs.length:=zaE e
 have e1:ws[i]?=some ws[i]:=getElem?_eq_getElem (by omega)
 obtain⟨u,h1,h2⟩:=r.get e1
 rw[e] at h1;cases h1
 exact⟨_,e1,h2⟩
theorem Reps.append:∀{ws zs:List W} {vs us:List V},Reps F as ws vs->Reps F as zs us->Reps F as (ws++zs) (vs++us)
 | [],_,_,_,r,s=>by simp only[Reps] at r;subst r;exact s
 | _::_,_,_,_,r,s=>by
  simp only[Reps] at r
  obtain⟨v,r',rfl,q,t⟩:=r
  exact .cons q (Reps.append t s)
theorem Reps.set:∀{ws:List W} {vs:List V} {w:W} {v:V} (i:Nat),Reps F as ws vs->Rep F as w v->Reps F as (ws.set i w) (vs.set i v)
 | [],_,_,_,_,r,_=>by simp only[Reps] at r;subst r;exact .nil
 | _::_,_,_,_,0,r,h=>by
  simp only[Reps] at r
  obtain⟨v,r',rfl,q,t⟩:=r
  exact .cons h t
 | _::_,_,_,_,i+1,r,h=>by
  simp only[Reps] at r
  obtain⟨v,r',rfl,q,t⟩:=r
  exact .cons q (Reps.set i t h)
theorem Reps.take:∀{ws:List W} {vs:List V} (n:Nat),Reps F as ws vs->Reps F as (ws.take n) (vs.take n)
 | _,_,0,_=>by rw[take_zero,take_zero];exact .nil
 | [],_,_+1,r=>by simp only[Reps] at r;subst r;exact .nil
 | _::_,_,n+1,r=>by
  simp only[Reps] at r
  obtain⟨v,r',rfl,q,t⟩:=r
  exact .cons q (Reps.take n t)
theorem Reps.drop:∀{ws:List W} {vs:List V} (n:Nat),Reps F as ws vs->Reps F as (ws.drop n) (vs.drop n)
 | _,_,0,r=>r
 | [],_,_+1,r=>by simp only[Reps] at r;subst r;exact .nil
 | _::_,_,n+1,r=>by
  simp only[Reps] at r
  obtain⟨v,r',rfl,q,t⟩:=r
  exact Reps.drop n t
theorem Reps.dropLast{ws:List W}{vs:List V}(r:Reps F as ws vs):Reps F as ws.dropLast vs.dropLast:=by
 rw[dropLast_eq_take,dropLast_eq_take,r.length];exact r.take _
theorem Reps.eraseIdx:∀{ws:List W} {vs:List V} (n:Nat),Reps F as ws vs->Reps F as (ws.eraseIdx n) (vs.eraseIdx n)
 | [],_,_,r=>by simp only[Reps] at r;subst r;exact .nil
 | _::_,_,0,r=>by
  simp only[Reps] at r
  obtain⟨v,r',rfl,q,t⟩:=r
  exact t
 | _::_,_,n+1,r=>by
  simp only[Reps] at r
  obtain⟨v,r',rfl,q,t⟩:=r
  exact .cons q (Reps.eraseIdx n t)
theorem Reps.rep{ws:List W}{vs:List V}(r:Reps F as ws vs):∀n,Reps F as (List.replicate n ws).flatten (List.replicate n vs).flatten
 | 0=>.nil
 | n+1=>by rw[replicate_succ,replicate_succ,flatten_cons,flatten_cons];exact r.append (r.rep n)
theorem Reps.ints:∀(ns:List Int),Reps F as (ns.map W.int) (ns.map V.int)
 | []=>.nil
 | n::r=>.cons (by simp only[Rep]) (Reps.ints r)
theorem Reps.of_ints:∀{ns:List Int} {vs:List V},Reps F as (ns.map W.int) vs->vs=ns.map V.int
 | [],_,r=>by simpa only[map_nil,Reps] using r
 | n::ns,_,r=>by
  simp only[map_cons,Reps,Rep] at r
  obtain⟨v,r',rfl,rfl,t⟩:=r
  rw[Reps.of_ints t,map_cons]
theorem Reps.of_bools:∀{bs:List Bool} {vs:List V},Reps F as (bs.map W.bl) vs->vs=bs.map V.bl
 | [],_,r=>by simpa only[map_nil,Reps] using r
 | n::ns,_,r=>by
  simp only[map_cons,Reps,Rep] at r
  obtain⟨v,r',rfl,rfl,t⟩:=r
  rw[Reps.of_bools t,map_cons]
end
theorem el6{α β γ δ:Type}{p q:α->β->γ->δ->Prop}{g:Prop}(h:∃a b c d,p a b c d/\q a b c d)(k:∀a b c d,p a b c d->q a b c d->g):g:=by
 obtain⟨a,b,c,d,h1,h2⟩:=h
 exact k a b c d h1 h2
theorem el8{α β γ δ:Type}{p q r s:α->β->γ->δ->Prop}{g:Prop}(h:∃a b c d,p a b c d/\q a b c d/\r a b c d/\s a b c d)(k:∀a b c d,p a b c d->q a b c d->r a b c d->s a b c d->g):g:=by
 obtain⟨a,b,c,d,h1,h2,h3,h4⟩:=h
 exact k a b c d h1 h2 h3 h4
def RepKV{κ:Type}(F:Hp)(as:List Addr)(kvs:List (κ×W))(ps:List (κ×V)):Prop:=Paired (fun(p:κ×W) (q:κ×V)=>p.1=q.1/\Rep F as p.2 q.2) kvs ps
theorem RepKV.le{κ:Type}{F F':Hp}{as as':List Addr}(h:Le F as F' as'){kvs:List (κ×W)}{ps:List (κ×V)}(r:RepKV F as kvs ps):RepKV F' as' kvs ps:=Paired.mapP r fun _ _ z=>⟨z.1,z.2.le h⟩
def zuC(a:Addr)(cls:Value)(h:Heap):Prop:=∃o vs,h.get? a=some o/\o.cls=cls/\o.data=.fields vs
def CRep(G:Ga)(F:Hp)(as:List Addr)(H:Hp)(a:Addr):C->Prop
 | .lst xs=>∃vs,H a=some (.lst vs)/\Reps F as xs vs
 | .dct kvs=>∃ps,H a=some (.dK ps)/\RepKV F as kvs ps
 | .ins c fs=>∃dx ps,H a=some (.ins (G.cl c) dx ps)/\RepKV F as fs ps
 | .exn c=>H a=some (.ext (zuC a (.ref (G.cl c))))
 | .dead=>∃o,H a=some o
 | .fzd kvs=>∃o ps,F a=some (.frz o (.dK ps))/\H a=some (.frz o (.dK ps))/\RepKV F as kvs ps
 | .dtp kvs=>∃ps,H a=some (.dT ps)/\RepKV F as kvs ps
structure Store (G:Ga) (F:Hp) (as:List Addr) (H:Hp) (ce:Ce):Prop where
 sub:∀a o,F a=some o->H a=some o
 nd:as.Nodup
 len:as.length=ce.length
 cell:∀(k:Nat) (a:Addr) (c:C),as[k]?=some a->ce[k]?=some c->(c.nf=true->F a=none)/\CRep G F as H a c
structure SR (G:Ga) (F:Hp) (as:List Addr) (H:Hp) (σ:VS.St) (sl:Sl) (ce:Ce):Prop where
 st:Store G F as H ce
 len:σ.length=sl.length
 slot:∀(i:Nat) (w:W),sl[i]?=some (some w)->∃v,σ[i]?=some (some v)/\Rep F as w v
section
variable {G:Ga} {F F':Hp} {as as':List Addr} {H H':Hp} {σ:VS.St} {sl:Sl} {ce ce':Ce} {a p:Addr} {k:Nat} {o:HO}
theorem CRep.tracked{c:C}(h:CRep G F as H a c):∃o,H a=some o:=by
 cases c with
 | lst xs=>obtain⟨vs,e,_⟩:=h;exact⟨_,e⟩
 | dct xs=>obtain⟨vs,e,_⟩:=h;exact⟨_,e⟩
 | ins c xs=>obtain⟨dx,vs,e,_⟩:=h;exact⟨_,e⟩
 | exn c=>exact⟨_,h⟩
 | dead=>exact h
 | fzd xs=>obtain⟨o,ps,_,e,_⟩:=h;exact⟨_,e⟩
 | dtp xs=>obtain⟨vs,e,_⟩:=h;exact⟨_,e⟩
theorem CRep.le{c:C}(l:Le F as F' as')(hH:H' a=H a)(h:CRep G F as H a c):CRep G F' as' H' a c:=by
 cases c with
 | lst xs=>obtain⟨vs,e,r⟩:=h;exact⟨vs,hH.trans e,r.le l⟩
 | dct xs=>obtain⟨vs,e,r⟩:=h;exact⟨vs,hH.trans e,r.le l⟩
 | ins c xs=>obtain⟨dx,vs,e,r⟩:=h;exact⟨dx,vs,hH.trans e,r.le l⟩
 | exn c=>exact hH.trans h
 | dead=>obtain⟨o,e⟩:=h;exact⟨o,hH.trans e⟩
 | fzd xs=>obtain⟨o,ps,e1,e2,r⟩:=h;exact⟨o,ps,l.f _ _ e1,hH.trans e2,r.le l⟩
 | dtp xs=>obtain⟨vs,e,r⟩:=h;exact⟨vs,hH.trans e,r.le l⟩
theorem Store.at(S:Store G F as H ce){c:C}(h:ce[k]?=some c):∃a,as[k]?=some a/\(c.nf=true->F a=none)/\CRep G F as H a c:=by
 have hk:k<ce.length:=zaE h
 have e:as[k]?=some (as[k]'(by rw[S.len];exact hk)):=getElem?_eq_getElem _
 exact⟨_,e,S.cell _ _ _ e h⟩
theorem Store.tracked(S:Store G F as H ce)(h:as[k]?=some a):∃o,H a=some o:=by
 have hk:k<as.length:=zaE h
 have e:ce[k]?=some (ce[k]'(by rw[<- S.len];exact hk)):=getElem?_eq_getElem _
 exact(S.cell _ _ _ h e).2.tracked
theorem SR.slots(S:SR G F as H σ sl ce)(S':Store G F' as' H' ce')(l:Le F as F' as'):SR G F' as' H' σ sl ce' :=
 ⟨S',S.len,fun i w e=>let ⟨v,h1,h2⟩:=S.slot i w e;⟨v,h1,h2.le l⟩⟩
theorem SR.var(S:SR G F as H σ sl ce){i:Nat}{w:W}(h:sl[i]?=some (some w)):∃v,σ[i]?=some (some v)/\Rep F as w v:=S.slot i w h
theorem SR.put(S:SR G F as H σ sl ce){w:W}{v:V}(r:Rep F as w v)(i:Nat):SR G F as H (σ.set i (some v)) (sl.set i (some w)) ce:=by
 refine⟨S.st,by rw[length_set,length_set];exact S.len,fun j u e=>?_⟩
 by_cases hj:i=j
 ·subst hj
  have hi:i<sl.length:=by have:=zaE e;rwa [length_set] at this
  rw[getElem?_set_self hi] at e
  cases e
  exact⟨v,by rw[getElem?_set_self (by rw[S.len];exact hi)],r⟩
 ·rw[getElem?_set_ne hj] at e
  obtain⟨v',h1,h2⟩:=S.slot j u e
  exact⟨v',by rw[getElem?_set_ne hj];exact h1,h2⟩
theorem upd_sub(hF:F p=none):∀a u,F a=some u->upd F p o a=some u:=fun a u e=>by
 rw[zaJ (zaH e hF)];exact e
theorem Store.freeze(S:Store G F as H ce)(hp:H p=none):Store G (upd F p o) as (upd H p o) ce/\Le F as (upd F p o) as:=by
 have hF:F p=none:=by
  cases e:F p with
  | none=>rfl
  | some u=>rw[S.sub _ _ e] at hp;cases hp
 have l:Le F as (upd F p o) as:=⟨upd_sub hF,fun _ _ h=>h⟩
 refine⟨⟨fun a u e=>?_,S.nd,S.len,fun k a c h1 h2=>?_⟩,l⟩
 ·by_cases ha:a=p
  ·subst ha;rw[zaK] at e ⊢;exact e
  ·rw[zaJ ha] at e ⊢;exact S.sub _ _ e
 ·obtain⟨q1,q2⟩:=S.cell k a c h1 h2
  obtain⟨u,hu⟩:=q2.tracked
  have ha:a≠p:=zaH hu hp
  exact⟨fun hn=>by rw[zaJ ha];exact q1 hn,q2.le l (zaJ ha)⟩
theorem Store.alloc(S:Store G F as H ce)(hp:H p=none){c:C}(hc:∀as',Le F as F as'->CRep G F as' (upd H p o) p c):Store G F (as++[p]) (upd H p o) (ce++[c])/\Le F as F (as++[p]):=by
 have hF:F p=none:=by
  cases e:F p with
  | none=>rfl
  | some u=>rw[S.sub _ _ e] at hp;cases hp
 have l:Le F as F (as++[p]):=⟨fun _ _ h=>h,fun k a h=>by
  have hk:k<as.length:=zaE h
  rw[getElem?_append_left hk];exact h⟩
 refine⟨⟨fun a u e=>?_,?_,by rw[length_append,length_append,S.len];rfl,fun k a c' h1 h2=>?_⟩,l⟩
 ·rw[zaJ (zaH (S.sub _ _ e) hp)];exact S.sub _ _ e
 ·rw[nodup_append]
  refine⟨S.nd,by simp,fun a ha b hb=>?_⟩
  obtain⟨k,hk⟩:=getElem?_of_mem ha
  obtain⟨u,hu⟩:=S.tracked hk
  rw[mem_singleton] at hb
  subst hb
  exact zaH hu hp
 ·by_cases hk:k<ce.length
  ·rw[getElem?_append_left (by rw[S.len];exact hk)] at h1
   rw[getElem?_append_left hk] at h2
   obtain⟨q1,q2⟩:=S.cell k a c' h1 h2
   obtain⟨u,hu⟩:=q2.tracked
   exact⟨q1,q2.le l (zaJ (zaH hu hp))⟩
  ·rw[getElem?_append_right (by rw[S.len];omega)] at h1
   rw[getElem?_append_right (by omega)] at h2
   have e:k-as.length=0:=by
    cases q:k-as.length with
    | zero=>rfl
    | succ n=>rw[q] at h1;simp at h1
   rw[e] at h1
   rw[<- S.len,e] at h2
   simp at h1 h2
   subst h1;subst h2
   exact⟨fun _=>hF,hc _ l⟩
theorem Store.write(S:Store G F as H ce)(h1:as[k]?=some a){c:C}(hc:CRep G F as (upd H a o) a c)(hm:∃o',H a=some o'/\nfz o'=true:=by exact⟨_,by assumption,rfl⟩):Store G F as (upd H a o) (ce.set k c):=by
 have hk:k<ce.length:=by rw[<- S.len];exact zaE h1
 have e:ce[k]?=some ce[k]:=getElem?_eq_getElem hk
 obtain⟨q1,q2⟩:=S.cell k a _ h1 e
 have q1:F a=none:=by
  cases ek:ce[k] with
  | fzd xs =>
   rw[ek] at q2
   obtain⟨o1,ps,_,e2,_⟩:=q2
   obtain⟨o',e3,hn⟩:=hm
   rw[e2] at e3
   cases e3
   cases hn
  | _=>exact q1 (by rw[ek];rfl)
 refine⟨fun b u e'=>?_,S.nd,by rw[length_set];exact S.len,fun j b c' h1' h2'=>?_⟩
 ·rw[zaJ (fun z=>by subst z;rw[q1] at e';cases e')];exact S.sub _ _ e'
 ·by_cases hj:k=j
  ·subst hj
   rw[getElem?_set_self hk] at h2'
   rw[h1] at h1'
   cases h1';cases h2'
   exact⟨fun _=>q1,hc⟩
  ·rw[getElem?_set_ne hj] at h2'
   obtain⟨p1,p2⟩:=S.cell j b c' h1' h2'
   have hb:b≠a:=fun z=>by
    subst z
    have hj':j<as.length:=zaE h1'
    have hk':k<as.length:=by rw[S.len];exact hk
    have e1:as[k]=as[j]:=by
     rw[getElem?_eq_getElem hk'] at h1
     rw[getElem?_eq_getElem hj'] at h1'
     exact(Option.some.inj h1).trans (Option.some.inj h1').symm
    exact hj (zgN S.nd hk' hj' e1)
   exact⟨p1,p2.le .refl (zaJ hb)⟩
end
def bnd{α β:Type}(m:M α)(f:α->M β):M β:=fun ce=>match m ce with
 | some (.ok a ce')=>f a ce'
 | some (.ex x ce')=>some (.ex x ce')
 | none=>none
def ret{α:Type}(a:α):M α:=fun ce=>some (.ok a ce)
def look{α:Type}(f:Ce->Option α):M α:=fun ce=>(f ce).map fun a=>R.ok a ce
def zhD{α:Type}:M α:=fun _=>none
def Post{α β:Type}(G:Ga)(E:XK)(RP:Hp->List Addr->α->β->Prop)(F:Hp)(as:List Addr)(σ:VS.St)(sl:Sl)(Q:β->Hp->Prop):Option (R α)->Prop
 | some (.ok a ce')=>∀b H' F' as',Le F as F' as'->SR G F' as' H' σ sl ce'->RP F' as' a b->Q b H'
 | some (.ex x ce')=>∀H' F' as' cv od,Le F as F' as'->Store G F' as' H' ce'->G.xr x cv od H'->E cv od H'
 | none=>False
def toT{α β:Type}(G:Ga)(E:XK)(RP:Hp->List Addr->α->β->Prop)(d:Sl->M α):VS.St->Hp->(β->Hp->Prop)->Prop :=
 fun σ H Q=>∃F as sl ce,SR G F as H σ sl ce/\Post G E RP F as σ sl Q (d sl ce)
def rB:Hp->List Addr->Bool->Bool->Prop:=fun _ _ a b=>a=b
abbrev zaz(G:Ga)(E:XK)(d:Sl->M W):TE:=toT G E Rep d
abbrev zco(G:Ga)(E:XK)(d:Sl->M Bool):TT:=toT G E rB d
abbrev zfv(G:Ga)(E:XK)(d:Sl->M (List W)):TA:=toT G E Reps d
section
variable {α β γ δ:Type} {G:Ga} {E:XK} {RP:Hp->List Addr->α->β->Prop} {RQ:Hp->List Addr->γ->δ->Prop} {F F':Hp} {as as':List Addr} {H:Hp} {σ:VS.St} {sl:Sl} {ce:Ce}
theorem Post.le{Q:β->Hp->Prop}{r:Option (R α)}(l:Le F as F' as')(P:Post G E RP F as σ sl Q r):Post G E RP F' as' σ sl Q r:=by
 cases r with
 | none=>exact P
 | some r=>cases r with
  | ok a ce'=>exact fun b H' F2 as2 l2=>P b H' F2 as2 (l.trans l2)
  | ex x ce'=>exact fun H' F2 as2 cv od l2=>P H' F2 as2 cv od (l.trans l2)
theorem toT.mono{d:Sl->M α}{Q Q':β->Hp->Prop}(h:toT G E RP d σ H Q)(q:∀b H1,Q b H1->Q' b H1):toT G E RP d σ H Q':=by
 obtain⟨F,as,sl,ce,S,P⟩:=h
 refine⟨F,as,sl,ce,S,?_⟩
 revert P
 cases d sl ce with
 | none=>exact fun P=>P
 | some r=>cases r with
  | ok a ce'=>exact fun P b H' F' as' l S' r=>q _ _ (P b H' F' as' l S' r)
  | ex x ce'=>exact fun P=>P
theorem step{d:Sl->M α}{f:α->M γ}{Q:δ->Hp->Prop}(S:SR G F as H σ sl ce)(P:Post G E RQ F as σ sl Q (bnd (d sl) f ce)) :
  toT G E RP d σ H fun b H2=>∃a F' as' ce',Le F as F' as'/\SR G F' as' H2 σ sl ce'/\RP F' as' a b/\Post G E RQ F' as' σ sl Q (f a ce'):=by
 refine⟨F,as,sl,ce,S,?_⟩
 revert P
 unfold bnd
 cases d sl ce with
 | none=>exact fun P=>P
 | some r=>cases r with
  | ok a ce'=>exact fun P b H' F' as' l S' r=>⟨a,F',as',ce',l,S',r,P.le l⟩
  | ex x ce'=>exact fun P=>P
theorem zbX{f:Ce->Option α}{Q:β->Hp->Prop}(P:Post G E RP F as σ sl Q (look f ce)):∃a,f ce=some a/\Post G E RP F as σ sl Q (some (.ok a ce)):=by
 revert P
 unfold look
 cases f ce with
 | none=>exact fun P=>P.elim
 | some a=>exact fun P=>⟨a,rfl,P⟩
theorem Post.done{a:α}{b:β}{Q:β->Hp->Prop}(S:SR G F as H σ sl ce)(P:Post G E RP F as σ sl Q (some (.ok a ce)))(r:RP F as a b):Q b H:=P b H F as .refl S r
end
theorem PE.imp{X:Cx}{e:Expr}{t t':TE}(h:PE X e t)(q:∀σ H Q,t' σ H Q->t σ H Q):PE X e t':=fun pins s σ H Q I z=>h pins s σ H Q I (q _ _ _ z)
theorem PT.imp{X:Cx}{e:Expr}{t t':TT}(h:PT X e t)(q:∀σ H Q,t' σ H Q->t σ H Q):PT X e t':=fun pins s σ H Q I z=>h pins s σ H Q I (q _ _ _ z)
theorem PW.imp{X:Cx}{e:Expr}{t t':TT}(h:PW X e t)(q:∀σ H Q,t' σ H Q->t σ H Q):PW X e t':=fun wh pins s σ H Q I z=>h wh pins s σ H Q I (q _ _ _ z)
theorem PA.imp{X:Cx}{e:List Expr}{t t':TA}(h:PA X e t)(q:∀σ H Q,t' σ H Q->t σ H Q):PA X e t':=fun pos pins s σ H Q I z=>h pos pins s σ H Q I (q _ _ _ z)
theorem PS.imp{X:Cx}{e:Stmt}{t t':TS}(h:PS X e t)(q:∀D σ H,t' D σ H->t D σ H):PS X e t':=fun pins s σ H Q I z=>h pins s σ H Q I (q _ _ _ z)
theorem PSs.imp{X:Cx}{e:List Stmt}{t t':TS}(h:PSs X e t)(q:∀D σ H,t' D σ H->t D σ H):PSs X e t':=fun pins s σ H Q I z=>h pins s σ H Q I (q _ _ _ z)
def zaf(i:Nat):Sl->M W:=fun sl ce=>match sl[i]? with
 | some (some w)=>some (.ok w ce)
 | _=>none
def dC(w:W):Sl->M W:=fun _=>ret w
def dOp(f:W->W->Option W)(a b:Sl->M W):Sl->M W:=fun sl=>bnd (a sl) fun x=>bnd (b sl) fun y=>look fun _=>f x y
def dUn(f:W->Option W)(a:Sl->M W):Sl->M W:=fun sl=>bnd (a sl) fun x=>look fun _=>f x
def scV:W->Option V
 | .non=>some .non
 | .bl b=>some (.bl b)
 | .int i=>some (.int i)
 | .str x=>some (.str x)
 | .ty n=>some (.ty n)
 | _=>none
theorem Rep.sc{F:Hp}{as:List Addr}{w:W}{v u:V}(r:Rep F as w v)(e:scV w=some u):v=u:=by
 cases w<;>simp only[scV,Option.some.injEq,reduceCtorEq] at e<;>simp only[Rep] at r<;>(subst e;exact r)
theorem Rep.of_sc{F:Hp}{as:List Addr}{w:W}{u:V}(e:scV w=some u):Rep F as w u:=by
 cases w<;>simp only[scV,Option.some.injEq,reduceCtorEq] at e<;>simp only[Rep]<;>exact e.symm
def Sc2(r:R2)(f:W->W->Option W):Prop:=∀x y w,f x y=some w->∃vx vy vw,scV x=some vx/\scV y=some vy/\scV w=some vw/\∀H Q,Q vw H->r vx vy H Q
def i2(g:Int->Int->W):W->W->Option W
 | .int i,.int j=>some (g i j)
 | _,_=>none
open Classical in
def i2c(c:Int->Int->Prop)(g:Int->Int->W):W->W->Option W
 | .int i,.int j=>if c i j then some (g i j) else none
 | _,_=>none
section
variable {X:Cx} {G:Ga} {E:XK} {a b c:Expr} {da db dc:Sl->M W} {pos:Pos}
theorem zab(i:Nat){x:Str}{pos:Pos}(hN:X.N[i]?=some x:=by rfl)(hv:Vis X.env.scope x:=by first|exact Or.inl rfl|exact Or.inr (Or.inl rfl)|exact Or.inr (Or.inr rfl))(hd:(x==("__debug__" : Str))=false:=by decide)(hcd:(x==("__classdict__" : Str))=false:=by decide):PE X (.Name x pos) (zaz G E (zaf i)):=by
 refine PE.imp (zm3 hN hv hd hcd) fun σ H Q h=>?_
 obtain⟨F,as,sl,ce,S,P⟩:=h
 revert P
 unfold zaf
 split
 ·rename_i w e
  intro P
  obtain⟨v,h1,h2⟩:=S.var e
  exact⟨v,h1,P.done S h2⟩
 ·exact fun P=>P.elim
theorem zqv{e:Expr}{w:W}{v:V}(h:PE X e (tC v))(hs:scV w=some v):PE X e (zaz G E (dC w)):=by
 refine PE.imp h fun σ H Q h=>?_
 obtain⟨F,as,sl,ce,S,P⟩:=h
 exact P.done S (Rep.of_sc hs)
theorem zaj{i j pos}:PE X (.Constant (.int i) j pos) (zaz G E (dC (.int i))):=zqv zpL rfl
theorem zgO{i j pos}:PE X (.Constant (.bool i) j pos) (zaz G E (dC (.bl i))):=zqv zsf rfl
theorem zcp{j pos}:PE X (.Constant .none j pos) (zaz G E (dC .non)):=zqv zpM rfl
theorem znb{x j pos}:PE X (.Constant (.str x) j pos) (zaz G E (dC (.str x))):=zqv zpN rfl
theorem zgP{r:R2}{f:W->W->M W}{σ:VS.St}{H:Hp}{Q:VK}(h:zaz G E (fun sl=>bnd (da sl) fun x=>bnd (db sl) fun y=>f x y) σ H Q)(k:∀F as sl ce H2 x y wx wy,SR G F as H2 σ sl ce->Rep F as wx x->Rep F as wy y->Post G E Rep F as σ sl Q (f wx wy ce)->r x y H2 Q):tOp r (zaz G E da) (zaz G E db) σ H Q:=by
 obtain⟨F,as,sl,ce,S,P⟩:=h
 refine(step S P).mono fun x H1 zz_=>el8 zz_ fun wx F1 as1 ce1 l1 S1 rx P1=>(step S1 P1).mono fun y H2 zz_=>el8 zz_ fun wy F2 as2 ce2 l2 S2 ry P2=>?_
 exact k F2 as2 sl ce2 H2 x y wx wy S2 (rx.le l2) ry P2
theorem zl3{op:Operator}{r:R2}{f:W->W->Option W}(ho:OpR X (binaryOp op) r)(hf:Sc2 r f)(ha:PE X a (zaz G E da))(hb:PE X b (zaz G E db)):PE X (.BinOp a op b pos) (zaz G E (dOp f da db)):=by
 refine PE.imp (zlK ho ha hb) fun σ H Q h=>zgP h fun F as sl ce H2 x y wx wy S rx ry P=>?_
 revert P
 unfold look
 cases e:f wx wy with
 | none=>exact fun P=>P.elim
 | some w =>
  intro P
  obtain⟨vx,vy,vw,e1,e2,e3,k⟩:=hf _ _ _ e
  rw[rx.sc e1,ry.sc e2]
  exact k _ _ (P.done S (Rep.of_sc e3))
theorem zkf{op:CmpOp}{r:R2}{f:W->W->Option W}(ho:OpR X (compareOp op) r)(hf:Sc2 r f)(ha:PE X a (zaz G E da))(hb:PE X b (zaz G E db))(hm:behindInMarks op b=false):PE X (.Compare a [op] [b] pos) (zaz G E (dOp f da db)):=by
 refine PE.imp (zjR ho ha hb hm) fun σ H Q h=>zgP h fun F as sl ce H2 x y wx wy S rx ry P=>?_
 revert P
 unfold look
 cases e:f wx wy with
 | none=>exact fun P=>P.elim
 | some w =>
  intro P
  obtain⟨vx,vy,vw,e1,e2,e3,k⟩:=hf _ _ _ e
  rw[rx.sc e1,ry.sc e2]
  exact k _ _ (P.done S (Rep.of_sc e3))
theorem zhE{g:Int->Int->W}{h:Int->Int->V}(q:∀i j,scV (g i j)=some (h i j)):Sc2 (rI0 h) (i2 g):=by
 intro x y w e
 cases x<;>cases y<;>simp only[i2,Option.some.injEq,reduceCtorEq] at e
 subst e
 exact⟨_,_,_,rfl,rfl,q _ _,fun H Q hq=>⟨_,_,rfl,rfl,hq⟩⟩
theorem znc{c:Int->Int->Prop}{g:Int->Int->W}{h:Int->Int->V}(q:∀i j,scV (g i j)=some (h i j)):Sc2 (rI c h) (i2c c g):=by
 intro x y w e
 cases x<;>cases y<;>simp only[i2c,reduceCtorEq] at e
 split at e
 ·rename_i hc
  cases e
  exact⟨_,_,_,rfl,rfl,q _ _,fun H Q hq=>⟨_,_,rfl,rfl,hc,hq⟩⟩
 ·cases e
def zcc:W->W->Option W:=i2 fun i j=>.int (i+j)
def zjC:W->W->Option W:=i2 fun i j=>.int (i-j)
def zeE:W->W->Option W:=i2c CMul fun i j=>.int (i*j)
def zdQ:W->W->Option W:=i2c (fun _ j=>0<j) fun i j=>.int (i % j)
def zuW:W->W->Option W:=i2c zur fun i j=>.int (i / j)
def fLt:W->W->Option W:=i2 fun i j=>.bl (decide (i<j))
def fLe:W->W->Option W:=i2 fun i j=>.bl (decide (i<=j))
def fGt:W->W->Option W:=i2 fun i j=>.bl (decide (j<i))
def fGe:W->W->Option W:=i2 fun i j=>.bl (decide (j<=i))
theorem zbz(ha:PE X a (zaz G E da))(hb:PE X b (zaz G E db)):PE X (.BinOp a .Add b pos) (zaz G E (dOp zcc da db)):=zl3 zp5 (zhE fun _ _=>rfl) ha hb
theorem zdq(ha:PE X a (zaz G E da))(hb:PE X b (zaz G E db)):PE X (.BinOp a .Sub b pos) (zaz G E (dOp zjC da db)):=zl3 zp6 (zhE fun _ _=>rfl) ha hb
theorem zbY(ha:PE X a (zaz G E da))(hb:PE X b (zaz G E db)):PE X (.BinOp a .Mult b pos) (zaz G E (dOp zeE da db)):=zl3 zp7 (znc fun _ _=>rfl) ha hb
theorem zbo(ha:PE X a (zaz G E da))(hb:PE X b (zaz G E db)):PE X (.BinOp a .Mod b pos) (zaz G E (dOp zdQ da db)):=zl3 zp8 (znc fun _ _=>rfl) ha hb
theorem zsU(ha:PE X a (zaz G E da))(hb:PE X b (zaz G E db)):PE X (.Compare a [.Lt] [b] pos) (zaz G E (dOp fLt da db)):=zkf zqb (zhE fun _ _=>rfl) ha hb (zcn _)
theorem zqw(ha:PE X a (zaz G E da))(hb:PE X b (zaz G E db)):PE X (.Compare a [.Gt] [b] pos) (zaz G E (dOp fGt da db)):=zkf zqc (zhE fun _ _=>rfl) ha hb (zcn _)
def zjD:W->Option W
 | .int i=>some (.int (-i))
 | _=>none
theorem zeF(ha:PE X a (zaz G E da)):PE X (.UnaryOp .USub a pos) (zaz G E (dUn zjD da)):=by
 refine PE.imp (zsv zp9 ha) fun σ H Q zz_=>el6 zz_ fun F as sl ce S P=>(step S P).mono fun x H1 zz_=>el8 zz_ fun wx F1 as1 ce1 l1 S1 rx P1=>?_
 revert P1
 unfold look zjD
 cases wx<;>first|exact fun P=>P.elim|skip
 simp only[Rep] at rx
 subst rx
 exact fun P=>⟨_,rfl,P.done S1 (by simp only[Rep])⟩
def isNon:W->Bool
 | .non=>true
 | _=>false
def zqx:W->Option W:=fun w=>some (.bl (isNon w))
def zqy:W->Option W:=fun w=>some (.bl (!isNon w))
theorem Rep.isN{F:Hp}{as:List Addr}{w:W}{v:V}(r:Rep F as w v):decide (v=.non)=isNon w:=by
 cases w<;>simp only[Rep] at r<;>first|(subst r;rfl)|(obtain⟨_,_,rfl,_⟩:=r;rfl)|(obtain⟨_,rfl,_⟩:=r;rfl)
def zhF(ce:Ce):W->Option Bool
 | .non=>some false
 | .bl b=>some b
 | .int i=>some (i != 0)
 | .str x=>if x.length<=sizeLine then some ((x.length:Int) != 0) else none
 | .lst xs=>some (!xs.isEmpty)
 | .tup xs=>some (!xs.isEmpty)
 | .cel k=>match ce[k]? with
  | some (.lst xs)=>some (!xs.isEmpty)
  | some (.dct xs)=>some (!xs.isEmpty)
  | _=>none
 | _=>none
theorem Reps.empty{F:Hp}{as:List Addr}{ws:List W}{vs:List V}(r:Reps F as ws vs):vs.isEmpty=ws.isEmpty:=by
 have:=r.length
 cases ws<;>cases vs<;>simp_all
theorem Rd.sub{G:Ga}{F:Hp}{as:List Addr}{H:Hp}{ce:Ce}(S:Store G F as H ce){a:Addr}{o:HO}(r:Rd F a o):Rd H a o:=by
 rcases r with r|⟨u,r⟩
 ·exact .inl (S.sub _ _ r)
 ·exact .inr ⟨u,S.sub _ _ r⟩
theorem zox{F:Hp}{as:List Addr}{H:Hp}{ce:Ce}{w:W}{v:V}{k:Bool}(S:Store G F as H ce)(r:Rep F as w v)(e:zhF ce w=some k)(K:PySem.W.Frag):zr4 K v H k:=by
 cases w with
 | non=>simp only[Rep] at r;simp only[zhF,Option.some.injEq] at e;subst r;exact e.symm
 | bl b=>simp only[Rep] at r;simp only[zhF,Option.some.injEq] at e;subst r;exact e.symm
 | int i=>simp only[Rep] at r;simp only[zhF,Option.some.injEq] at e;subst r;exact e.symm
 | str x =>
  simp only[Rep] at r
  subst r
  simp only[zhF] at e
  split at e
  ·rename_i h
   exact⟨h,(Option.some.inj e).symm⟩
  ·cases e
 | ty n=>simp only[zhF,reduceCtorEq] at e
 | lst xs =>
  simp only[Rep] at r
  obtain⟨a,vs,rfl,h,rs⟩:=r
  simp only[zhF,Option.some.injEq] at e
  exact .inl ⟨vs,.inl (Rd.sub S h),by rw[<- e,rs.empty]⟩
 | tup xs =>
  simp only[Rep] at r
  obtain⟨a,vs,rfl,h,rs⟩:=r
  simp only[zhF,Option.some.injEq] at e
  exact .inr (.inl ⟨vs,.inl (.inl (S.sub _ _ h)),by rw[<- e,rs.empty]⟩)
 | cel n =>
  simp only[Rep] at r
  obtain⟨a,rfl,h⟩:=r
  simp only[zhF] at e
  split at e
  ·rename_i xs hc
   obtain⟨_,vs,h2,rs⟩:=S.cell _ _ _ h hc
   exact .inl ⟨vs,.inl (.inl h2),by rw[<- Option.some.inj e,rs.empty]⟩
  ·rename_i xs hc
   obtain⟨_,vs,h2,rs⟩:=S.cell _ _ _ h hc
   refine .inr (.inr ⟨vs,h2,?_⟩)
   rw[<- Option.some.inj e]
   cases rs<;>rfl
  ·cases e
def zly(d:Sl->M W):Sl->M Bool:=fun sl=>bnd (d sl) fun w=>look fun ce=>zhF ce w
theorem zkg{da:Sl->M W}(ha:PE X a (zaz G E da))(he:∀whole,isTrue a X.env whole=(do let v <- whole;standAt a.pos;holding [v] (truthy v)):=by intro _;rfl):PT X a (zco G E (zly da)):=by
 refine PT.imp (zsP (K:=X.K) ha he) fun σ H Q zz_=>el6 zz_ fun F as sl ce S P=>(step S P).mono fun x H1 zz_=>el8 zz_ fun wx F1 as1 ce1 l1 S1 rx P1=>?_
 obtain⟨k,e,P⟩:=zbX P1
 exact⟨k,zox S1.st rx e _,Post.done (RP:=rB) S1 P rfl⟩
def dB(d:Sl->M W):Sl->M Bool:=fun sl=>bnd (d sl) fun w=>look fun _=>match w with|.bl b=>some b|_=>none
theorem zoy{t:TE}{σ:VS.St}{H:Hp}{Q:Bool->Hp->Prop}{d:Sl->M W}(h:zco G E (dB d) σ H Q):tB (zaz G E d) σ H Q:=by
 obtain⟨F,as,sl,ce,S,P⟩:=h
 refine(step S P).mono fun x H1 zz_=>el8 zz_ fun wx F1 as1 ce1 l1 S1 rx P1=>?_
 revert P1
 unfold look
 cases wx<;>first|exact fun P=>P.elim|skip
 simp only[Rep] at rx
 subst rx
 exact fun P=>⟨_,rfl,P.done S1 rfl⟩
theorem zfw{e:Expr}{d:Sl->M W}(h:PE X e (zaz G E d))(he:∀whole,isTrue e X.env whole=(do let v <- whole;standAt e.pos;holding [v] (truthy v)):=by intro _;rfl):PT X e (zco G E (dB d)) :=
 PT.imp (zpQ h he) fun σ H Q q=>zoy (t:=zaz G E d) q
theorem zfP{op:CmpOp}{d:Sl->M W}{r:R2}(ho:OpR X (compareOp op) r)(ha:PE X a (zaz G E da))(hb:PE X b (zaz G E db))(hm:behindInMarks op b=false)(q:∀σ H Q,zaz G E d σ H Q->tOp r (zaz G E da) (zaz G E db) σ H Q):PT X (.Compare a [op] [b] pos) (zco G E (dB d)):=by
 refine PT.imp (zob ho ha hb hm) fun σ H Q h=>?_
 exact q σ H _ (zoy (t:=zaz G E d) h)
theorem zoz{op:CmpOp}{d:Sl->M W}(h:∃t,PC X op a b t/\∀σ H Q,zaz G E d σ H Q->t σ H Q)(h1:behindInMarks op b=false):PT X (.Compare a [op] [b] pos) (zco G E (dB d)):=by
 obtain⟨t,h,q⟩:=h
 exact PT.imp (zpP h h1) fun σ H Q z=>q _ _ _ (zoy (t:=zaz G E d) z)
end
mutual
def peq:W->W->Bool
 | .non,y=>match y with|.non=>true|_=>false
 | .bl a,y=>match y with|.bl b=>a==b|.int b=>(if a then 1 else 0)==b|_=>false
 | .int a,y=>match y with|.int b=>a==b|.bl b=>a==(if b then 1 else 0)|_=>false
 | .str a,y=>match y with|.str b=>a==b|_=>false
 | .lst xs,y=>match y with|.lst ys=>peqs xs ys|_=>false
 | .tup xs,y=>match y with|.tup ys=>peqs xs ys|_=>false
 | .ty _,_=>false
 | .cel _,_=>false
def peqs:List W->List W->Bool
 | [],ys=>match ys with|[]=>true|_=>false
 | x::xs,ys=>match ys with|y::ys=>peq x y&&peqs xs ys|[]=>false
end
def cln:Nat->W->Bool
 | _,.non=>true
 | _,.bl _=>true
 | _,.int _=>true
 | _,.str _=>true
 | _,.ty _=>false
 | _,.cel _=>false
 | 0,.lst _=>false
 | 0,.tup _=>false
 | n+1,.lst xs=>xs.all (cln n)
 | n+1,.tup xs=>xs.all (cln n)
theorem zjd{F:Hp}{a:Addr}{vs us:List V}(h:Rd F a (.lst vs))(h':Rd F a (.lst us)):vs=us:=by
 rcases h with h|⟨o,h⟩<;>rcases h' with h'|⟨o',h'⟩<;>(first|(rw[h] at h';cases h';rfl)|(rw[h] at h';cases h'))
theorem zje{F:Hp}{a:Addr}{vs us:List V}(h:Rd F a (.tup vs))(h':Rd F a (.tup us)):vs=us:=by
 rcases h with h|⟨o,h⟩<;>rcases h' with h'|⟨o',h'⟩<;>(first|(rw[h] at h';cases h';rfl)|(rw[h] at h';cases h'))
theorem zig{F:Hp}{a:Addr}{vs us:List V}(h:Rd F a (.lst vs))(h':Rd F a (.tup us)):False:=by
 rcases h with h|⟨o,h⟩<;>rcases h' with h'|⟨o',h'⟩<;>(rw[h] at h';cases h')
theorem zkh{F:Hp}{as:List Addr}:∀(n:Nat) {w w':W} {v:V},cln n w=true->cln n w'=true->Rep F as w v->Rep F as w' v->w=w':=by
 intro n
 induction n with
 | zero =>
  intro w w' v c c' r r'
  cases w<;>cases w'<;>simp only[cln,reduceCtorEq] at c c'<;>simp only[Rep] at r r'<;>(subst r;cases r')<;>rfl
 | succ n ih =>
  have its:∀{ws ws':List W} {vs:List V},ws.all (cln n)=true->ws'.all (cln n)=true->Reps F as ws vs->Reps F as ws' vs->ws=ws':=by
   intro ws
   induction ws with
   | nil =>
    intro ws' vs _ _ r r'
    simp only[Reps] at r
    subst r
    cases ws' with
    | nil=>rfl
    | cons y ys=>simp only[Reps] at r';obtain⟨v,r,e,_⟩:=r';cases e
   | cons x xs ihx =>
    intro ws' vs c c' r r'
    simp only[Reps] at r
    obtain⟨v,vs',rfl,h1,h2⟩:=r
    cases ws' with
    | nil=>simp only[Reps] at r';cases r'
    | cons y ys =>
     simp only[Reps] at r'
     obtain⟨v',r',e,h3,h4⟩:=r'
     cases e
     simp only[all_cons,and_eq_true] at c c'
     rw[ih c.1 c'.1 h1 h3,ihx c.2 c'.2 h2 h4]
  intro w w' v c c' r r'
  cases w<;>cases w'<;>simp only[cln,reduceCtorEq] at c c'<;>simp only[Rep] at r r'<;>first
   | (subst r;cases r';rfl)
   | (subst r;cases r';done)
   | (subst r;obtain⟨_,_,e,_⟩:=r';cases e)
   | (subst r';obtain⟨_,_,e,_⟩:=r;cases e)
   | (obtain⟨a,vs,rfl,q,s⟩:=r
      obtain⟨b,us,e,q',s'⟩:=r'
      cases e
      first
       | exact(zig q (.inl q')).elim
       | exact(zig q' (.inl q)).elim
       | (cases zjd q q';rw[its c c' s s'])
       | (cases zje (.inl q) (.inl q');rw[its c c' s s']))
theorem zih:∀(n:Nat) {w:W},cln n w=true->peq w w=true:=by
 intro n
 induction n with
 | zero=>intro w c;cases w<;>simp_all[cln,peq]
 | succ n ih =>
  have its:∀{ws:List W},ws.all (cln n)=true->peqs ws ws=true:=by
   intro ws
   induction ws with
   | nil=>intro _;simp[peqs]
   | cons x xs ihx =>
    intro c
    simp only[all_cons,and_eq_true] at c
    simp only[peqs,ih c.1,ihx c.2,Bool.and_self]
  intro w c
  cases w<;>simp only[cln,reduceCtorEq] at c<;>first|(simp only[peq];exact its c)|simp[peq]
theorem zfQ:∀(xs ys:List W),xs.length=ys.length->peqs xs ys=(List.range xs.length).all fun j=>match xs[j]?,ys[j]? with|some a,some b=>peq a b|_,_=>false
 | [],[],_=>by simp[peqs]
 | x::xs,y::ys,h=>by
  have e:xs.length=ys.length:=by simpa using h
  simp only[peqs]
  rw[zfQ xs ys e,length_cons,range_succ_eq_map,all_cons,all_map]
  rfl
 | [],_::_,h=>by simp at h
 | _::_,[],h=>by simp at h
theorem zii:∀{xs ys:List W},peqs xs ys=true->xs.length=ys.length
 | [],[],_=>rfl
 | x::xs,y::ys,h=>by
  simp only[peqs,and_eq_true] at h
  simp only[length_cons,zii h.2]
 | [],_::_,h=>by simp[peqs] at h
 | _::_,[],h=>by simp[peqs] at h
theorem zki{xs ys:List W}(h:xs.length≠ys.length):peqs xs ys=false:=by
 cases e:peqs xs ys with
 | false=>rfl
 | true=>exact absurd (zii e) h
section
variable {X:Cx} {pins:List (Addr×Obj)} {σ:VS.St} {H F:Hp} {as:List Addr} {s:Shared}
theorem zkj{A:Around}{ws zs:List W}{vs us:List V}{ps qs:List Value}(it:∀{w z:W} {v u:V} {p q:Value},w∈ws->z∈zs->Rep F as w v->Rep F as z u->L2.RelV v p->L2.RelV u q->SeqAt.EqAt A s p q (peq w z))(h1:Reps F as ws vs)(h2:Reps F as zs us)(r1:Vals vs ps)(r2:Vals us qs) :
  ∀j (k1:j<ps.toArray.size) (k2:j<qs.toArray.size),SeqAt.EqAt A s ps.toArray[j] qs.toArray[j] (match ws[j]?,zs[j]? with|some a,some b=>peq a b|_,_=>false):=by
 intro j k1 k2
 have k1':j<ps.length:=by simpa using k1
 have k2':j<qs.length:=by simpa using k2
 have l1:=r1.length
 have l2:=r2.length
 have e1:vs[j]?=some (vs[j]'(by omega)):=by simp
 have e2:us[j]?=some (us[j]'(by omega)):=by simp
 obtain⟨u,hu1,ru⟩:=r1.get e1
 obtain⟨z,hz1,rz⟩:=r2.get e2
 obtain⟨a,ha,ra⟩:=h1.get' e1
 obtain⟨b,hb,rb⟩:=h2.get' e2
 have eu:ps.toArray[j]=u:=by
  have:ps[j]?=some ps[j]:=by simp
  rw[hu1] at this
  simpa using (Option.some.inj this).symm
 have ez:qs.toArray[j]=z:=by
  have:qs[j]?=some qs[j]:=by simp
  rw[hz1] at this
  simpa using (Option.some.inj this).symm
 rw[eu,ez,ha,hb]
 exact it (mem_of_getElem? ha) (mem_of_getElem? hb) ra rb ru rz
theorem zl4{A:Around}{ws zs:List W}{vs us:List V}{a b:Addr}(I:Inv X pins σ H s)(hu:A.units<cLine)(ha:SqL X.K H a vs)(hb:SqL X.K H b us)(h1:Reps F as ws vs)(h2:Reps F as zs us)(it:∀{w z:W} {v u:V} {p q:Value},w∈ws->z∈zs->Rep F as w v->Rep F as z u->L2.RelV v p->L2.RelV u q->SeqAt.EqAt A.in1 s p q (peq w z)) :
  SeqAt.RcAt A s (.ref a) (.ref b) (peqs ws zs)/\SeqAt.RcNeAt A s (.ref a) (.ref b) (!peqs ws zs):=by
 obtain⟨ps,r1,p1,z1⟩:=I.list ha
 obtain⟨qs,r2,p2,z2⟩:=I.list hb
 have l1:=r1.length
 have l2:=r2.length
 have l3:=h1.length
 have l4:=h2.length
 by_cases hl:ws.length=zs.length
 ·have hsz:ps.toArray.size=qs.toArray.size:=by rw[size_toArray,size_toArray];omega
  have ia:=zkj (A:=A.in1) it h1 h2 r1 r2
  have a1:=SeqAt.RcAt.lists p1.isList p2.isList hsz hu ia
  have a2:=SeqAt.RcNeAt.lists p1.isList p2.isList hsz hu ia
  rw[size_toArray,show ps.length=ws.length by omega,<- zfQ ws zs hl] at a1 a2
  exact⟨a1,a2⟩
 ·have hne:(ps.toArray.size != qs.toArray.size)=true:=by
   rw[size_toArray,size_toArray]
   simp
   omega
  rw[zki hl]
  exact⟨SeqAt.RcAt.lists_lengths p1.isList p2.isList hne hu,SeqAt.RcNeAt.lists_lengths p1.isList p2.isList hne hu⟩
theorem zoA{A:Around}{ws zs:List W}{vs us:List V}{a b:Addr}(I:Inv X pins σ H s)(hu:A.units<cLine)(ha:SqT X.K H a vs)(hb:SqT X.K H b us)(h1:Reps F as ws vs)(h2:Reps F as zs us)(it:∀{w z:W} {v u:V} {p q:Value},w∈ws->z∈zs->Rep F as w v->Rep F as z u->L2.RelV v p->L2.RelV u q->SeqAt.EqAt A.in1 s p q (peq w z)) :
  SeqAt.RcAt A s (.ref a) (.ref b) (peqs ws zs)/\SeqAt.RcNeAt A s (.ref a) (.ref b) (!peqs ws zs):=by
 obtain⟨ps,r1,p1,z1⟩:=I.tuple ha
 obtain⟨qs,r2,p2,z2⟩:=I.tuple hb
 have l1:=r1.length
 have l2:=r2.length
 have l3:=h1.length
 have l4:=h2.length
 have ia:=zkj (A:=A.in1) it h1 h2 r1 r2
 have e:((List.range (min ps.toArray.size qs.toArray.size)).all (fun j=>match ws[j]?,zs[j]? with|some a,some b=>peq a b|_,_=>false)&&ps.toArray.size==qs.toArray.size)=peqs ws zs:=by
  rw[size_toArray,size_toArray]
  by_cases hl:ws.length=zs.length
  ·have h1:ps.length=ws.length:=by omega
   have h2:qs.length=ws.length:=by omega
   rw[h1,h2,min_self,zfQ ws zs hl]
   simp
  ·have e1:(ps.length==qs.length)=false:=by simp;omega
   rw[e1,Bool.and_false,zki hl]
 have a1:=SeqAt.RcAt.tuples p1 p2 hu ia
 have a2:=SeqAt.RcNeAt.tuples p1 p2 hu ia
 rw[e] at a1 a2
 exact⟨a1,a2⟩
inductive Sh (F:Hp) (as:List Addr):W->V->Value->Prop where
 | non:Sh F as .non .non .none
 | bl (b:Bool):Sh F as (.bl b) (.bl b) (.bool b)
 | int (i:Int) (t:Tok):Sh F as (.int i) (.int i) (.int i t)
 | str (x:Str) (t:Tok):Sh F as (.str x) (.str x) (.str x t)
 | lst {xs:List W} {a:Addr} {vs:List V} (h:Rd F a (.lst vs)) (r:Reps F as xs vs):Sh F as (.lst xs) (.ref a) (.ref a)
 | tup {xs:List W} {a:Addr} {vs:List V} (h:Rd F a (.tup vs)) (r:Reps F as xs vs):Sh F as (.tup xs) (.ref a) (.ref a)
theorem zl5{n:Nat}{w:W}{v:V}{p:Value}(c:cln n w=true)(r:Rep F as w v)(rv:L2.RelV v p):Sh F as w v p:=by
 cases w with
 | non=>simp only[Rep] at r;subst r;cases rv;exact .non
 | bl b=>simp only[Rep] at r;subst r;cases rv;exact .bl b
 | int i=>simp only[Rep] at r;subst r;obtain⟨t,rfl⟩:=rv;exact .int i t
 | str i=>simp only[Rep] at r;subst r;obtain⟨t,rfl⟩:=rv;exact .str i t
 | ty i=>cases n<;>simp only[cln,reduceCtorEq] at c
 | cel i=>cases n<;>simp only[cln,reduceCtorEq] at c
 | lst xs=>simp only[Rep] at r;obtain⟨a,vs,rfl,h,q⟩:=r;cases rv;exact .lst h q
 | tup xs=>simp only[Rep] at r;obtain⟨a,vs,rfl,h,q⟩:=r;cases rv;exact .tup (.inl h) q
set_option maxHeartbeats 0 in
theorem zsV(hs:∀a o,F a=some o->H a=some o)(I:Inv X pins σ H s):∀(n:Nat) {A:Around} {w z:W} {v u:V} {p q:Value},A.units+n<cLine->cln n w=true->cln n z=true->Rep F as w v->Rep F as z u->L2.RelV v p->L2.RelV u q ->
  SeqAt.RcAt A s p q (peq w z)/\SeqAt.RcNeAt A s p q (!peq w z)/\SeqAt.EqAt A s p q (peq w z):=by
 have sub:∀{a:Addr} {o:HO},Rd F a o->Rd H a o:=fun {a o} r=>by
  rcases r with r|⟨u,r⟩
  ·exact .inl (hs _ _ r)
  ·exact .inr ⟨u,hs _ _ r⟩
 have isL:∀{a:Addr} {vs:List V},Rd F a (.lst vs)->∃its,s.heap.IsList a its:=fun {a vs} h=>by
  obtain⟨its,_,p,_⟩:=I.list (.inl (sub h))
  exact⟨_,p.isList⟩
 have isT:∀{a:Addr} {vs:List V},Rd F a (.tup vs)->∃its,s.heap.IsTuple a its:=fun {a vs} h=>by
  obtain⟨its,_,p,_⟩:=I.tuple (.inl (sub h))
  exact⟨_,p⟩
 intro n
 induction n with
 | zero =>
  intro A w z v u p q hu c c' r r' rv ru
  have sh:=zl5 c r rv
  have sh':=zl5 c' r' ru
  cases sh with
  | non =>
   cases sh' with
   | non =>
    simp only[peq]
    exact⟨SeqAt.RcAt.none_none ,SeqAt.RcNeAt.none_none ,SeqAt.EqAt.same _⟩
   | bl b2 =>
    simp only[peq]
    exact⟨SeqAt.RcAt.none_bool _,SeqAt.RcNeAt.none_bool _,SeqAt.EqAt.none_bool _⟩
   | int i2 t2 =>
    simp only[peq]
    exact⟨SeqAt.RcAt.none_int _ _,SeqAt.RcNeAt.none_int _ _,SeqAt.EqAt.none_int _ _⟩
   | str x2 t2 =>
    simp only[peq]
    exact⟨SeqAt.RcAt.none_str _ _,SeqAt.RcNeAt.none_str _ _,SeqAt.EqAt.none_str _ _⟩
   | lst q2 s2 =>
    simp only[cln,reduceCtorEq] at c'
   | tup q2 s2 =>
    simp only[cln,reduceCtorEq] at c'
  | bl b =>
   cases sh' with
   | non =>
    simp only[peq]
    exact⟨SeqAt.RcAt.bool_none _,SeqAt.RcNeAt.bool_none _,SeqAt.EqAt.bool_none _⟩
   | bl b2 =>
    simp only[peq]
    exact⟨SeqAt.RcAt.bool_bool _ _,SeqAt.RcNeAt.bool_bool _ _,SeqAt.EqAt.bool_bool _ _⟩
   | int i2 t2 =>
    simp only[peq]
    exact⟨SeqAt.RcAt.bool_int _ _ _,SeqAt.RcNeAt.bool_int _ _ _,SeqAt.EqAt.bool_int _ _ _⟩
   | str x2 t2 =>
    simp only[peq]
    exact⟨SeqAt.RcAt.bool_str _ _ _,SeqAt.RcNeAt.bool_str _ _ _,SeqAt.EqAt.bool_str _ _ _⟩
   | lst q2 s2 =>
    simp only[cln,reduceCtorEq] at c'
   | tup q2 s2 =>
    simp only[cln,reduceCtorEq] at c'
  | int i t =>
   cases sh' with
   | non =>
    simp only[peq]
    exact⟨SeqAt.RcAt.int_none _ _,SeqAt.RcNeAt.int_none _ _,SeqAt.EqAt.int_none _ _⟩
   | bl b2 =>
    simp only[peq]
    exact⟨SeqAt.RcAt.int_bool _ _ _,SeqAt.RcNeAt.int_bool _ _ _,SeqAt.EqAt.int_bool _ _ _⟩
   | int i2 t2 =>
    simp only[peq]
    exact⟨SeqAt.RcAt.int_int _ _ _ _,SeqAt.RcNeAt.int_int _ _ _ _,SeqAt.EqAt.int_int _ _ _ _⟩
   | str x2 t2 =>
    simp only[peq]
    exact⟨SeqAt.RcAt.int_str _ _ _ _,SeqAt.RcNeAt.int_str _ _ _ _,SeqAt.EqAt.int_str _ _ _ _⟩
   | lst q2 s2 =>
    simp only[cln,reduceCtorEq] at c'
   | tup q2 s2 =>
    simp only[cln,reduceCtorEq] at c'
  | str x t =>
   cases sh' with
   | non =>
    simp only[peq]
    exact⟨SeqAt.RcAt.str_none _ _,SeqAt.RcNeAt.str_none _ _,SeqAt.EqAt.str_none _ _⟩
   | bl b2 =>
    simp only[peq]
    exact⟨SeqAt.RcAt.str_bool _ _ _,SeqAt.RcNeAt.str_bool _ _ _,SeqAt.EqAt.str_bool _ _ _⟩
   | int i2 t2 =>
    simp only[peq]
    exact⟨SeqAt.RcAt.str_int _ _ _ _,SeqAt.RcNeAt.str_int _ _ _ _,SeqAt.EqAt.str_int _ _ _ _⟩
   | str x2 t2 =>
    simp only[peq]
    exact⟨SeqAt.RcAt.str_str _ _ _ _,SeqAt.RcNeAt.str_str _ _ _ _,SeqAt.EqAt.str_str _ _ _ _⟩
   | lst q2 s2 =>
    simp only[cln,reduceCtorEq] at c'
   | tup q2 s2 =>
    simp only[cln,reduceCtorEq] at c'
  | lst q1 s1 =>
   simp only[cln,reduceCtorEq] at c
  | tup q1 s1 =>
   simp only[cln,reduceCtorEq] at c
 | succ n ih =>
  intro A w z v u p q hu c c' r r' rv ru
  have hu0:A.units<cLine:=by omega
  have hu1:A.in1.units+n<cLine:=by show A.units+1+n<cLine;omega
  have ref:∀{a b:Addr},v=.ref a->u=.ref b->(SeqAt.RcAt A s (.ref a) (.ref b) (peq w z)/\SeqAt.RcNeAt A s (.ref a) (.ref b) (!peq w z))->SeqAt.RcAt A s (.ref a) (.ref b) (peq w z)/\SeqAt.RcNeAt A s (.ref a) (.ref b) (!peq w z)/\SeqAt.EqAt A s (.ref a) (.ref b) (peq w z):=by
   intro a b e1 e2 ⟨h1,h2⟩
   subst e1 e2
   refine⟨h1,h2,?_⟩
   by_cases e:a=b
   ·subst e
    rw[zkh (n+1) c c' r r',zih (n+1) c']
    exact SeqAt.EqAt.same _
   ·exact SeqAt.EqAt.of_refs e h1
  have sh:=zl5 c r rv
  have sh':=zl5 c' r' ru
  cases sh with
  | non =>
   cases sh' with
   | non =>
    simp only[peq]
    exact⟨SeqAt.RcAt.none_none ,SeqAt.RcNeAt.none_none ,SeqAt.EqAt.same _⟩
   | bl b2 =>
    simp only[peq]
    exact⟨SeqAt.RcAt.none_bool _,SeqAt.RcNeAt.none_bool _,SeqAt.EqAt.none_bool _⟩
   | int i2 t2 =>
    simp only[peq]
    exact⟨SeqAt.RcAt.none_int _ _,SeqAt.RcNeAt.none_int _ _,SeqAt.EqAt.none_int _ _⟩
   | str x2 t2 =>
    simp only[peq]
    exact⟨SeqAt.RcAt.none_str _ _,SeqAt.RcNeAt.none_str _ _,SeqAt.EqAt.none_str _ _⟩
   | lst q2 s2 =>
    obtain⟨_,p1⟩:=isL q2
    simp only[peq]
    exact⟨SeqAt.RcAt.none_list p1 hu0,SeqAt.RcNeAt.none_list p1 hu0,SeqAt.EqAt.none_list p1 hu0⟩
   | tup q2 s2 =>
    obtain⟨_,p1⟩:=isT q2
    simp only[peq]
    exact⟨SeqAt.RcAt.none_tuple p1 hu0,SeqAt.RcNeAt.none_tuple p1 hu0,SeqAt.EqAt.none_tuple p1 hu0⟩
  | bl b =>
   cases sh' with
   | non =>
    simp only[peq]
    exact⟨SeqAt.RcAt.bool_none _,SeqAt.RcNeAt.bool_none _,SeqAt.EqAt.bool_none _⟩
   | bl b2 =>
    simp only[peq]
    exact⟨SeqAt.RcAt.bool_bool _ _,SeqAt.RcNeAt.bool_bool _ _,SeqAt.EqAt.bool_bool _ _⟩
   | int i2 t2 =>
    simp only[peq]
    exact⟨SeqAt.RcAt.bool_int _ _ _,SeqAt.RcNeAt.bool_int _ _ _,SeqAt.EqAt.bool_int _ _ _⟩
   | str x2 t2 =>
    simp only[peq]
    exact⟨SeqAt.RcAt.bool_str _ _ _,SeqAt.RcNeAt.bool_str _ _ _,SeqAt.EqAt.bool_str _ _ _⟩
   | lst q2 s2 =>
    obtain⟨_,p1⟩:=isL q2
    simp only[peq]
    exact⟨SeqAt.RcAt.bool_list _ p1 hu0,SeqAt.RcNeAt.bool_list _ p1 hu0,SeqAt.EqAt.bool_list _ p1 hu0⟩
   | tup q2 s2 =>
    obtain⟨_,p1⟩:=isT q2
    simp only[peq]
    exact⟨SeqAt.RcAt.bool_tuple _ p1 hu0,SeqAt.RcNeAt.bool_tuple _ p1 hu0,SeqAt.EqAt.bool_tuple _ p1 hu0⟩
  | int i t =>
   cases sh' with
   | non =>
    simp only[peq]
    exact⟨SeqAt.RcAt.int_none _ _,SeqAt.RcNeAt.int_none _ _,SeqAt.EqAt.int_none _ _⟩
   | bl b2 =>
    simp only[peq]
    exact⟨SeqAt.RcAt.int_bool _ _ _,SeqAt.RcNeAt.int_bool _ _ _,SeqAt.EqAt.int_bool _ _ _⟩
   | int i2 t2 =>
    simp only[peq]
    exact⟨SeqAt.RcAt.int_int _ _ _ _,SeqAt.RcNeAt.int_int _ _ _ _,SeqAt.EqAt.int_int _ _ _ _⟩
   | str x2 t2 =>
    simp only[peq]
    exact⟨SeqAt.RcAt.int_str _ _ _ _,SeqAt.RcNeAt.int_str _ _ _ _,SeqAt.EqAt.int_str _ _ _ _⟩
   | lst q2 s2 =>
    obtain⟨_,p1⟩:=isL q2
    simp only[peq]
    exact⟨SeqAt.RcAt.int_list _ _ p1 hu0,SeqAt.RcNeAt.int_list _ _ p1 hu0,SeqAt.EqAt.int_list _ _ p1 hu0⟩
   | tup q2 s2 =>
    obtain⟨_,p1⟩:=isT q2
    simp only[peq]
    exact⟨SeqAt.RcAt.int_tuple _ _ p1 hu0,SeqAt.RcNeAt.int_tuple _ _ p1 hu0,SeqAt.EqAt.int_tuple _ _ p1 hu0⟩
  | str x t =>
   cases sh' with
   | non =>
    simp only[peq]
    exact⟨SeqAt.RcAt.str_none _ _,SeqAt.RcNeAt.str_none _ _,SeqAt.EqAt.str_none _ _⟩
   | bl b2 =>
    simp only[peq]
    exact⟨SeqAt.RcAt.str_bool _ _ _,SeqAt.RcNeAt.str_bool _ _ _,SeqAt.EqAt.str_bool _ _ _⟩
   | int i2 t2 =>
    simp only[peq]
    exact⟨SeqAt.RcAt.str_int _ _ _ _,SeqAt.RcNeAt.str_int _ _ _ _,SeqAt.EqAt.str_int _ _ _ _⟩
   | str x2 t2 =>
    simp only[peq]
    exact⟨SeqAt.RcAt.str_str _ _ _ _,SeqAt.RcNeAt.str_str _ _ _ _,SeqAt.EqAt.str_str _ _ _ _⟩
   | lst q2 s2 =>
    obtain⟨_,p1⟩:=isL q2
    simp only[peq]
    exact⟨SeqAt.RcAt.str_list _ _ p1 hu0,SeqAt.RcNeAt.str_list _ _ p1 hu0,SeqAt.EqAt.str_list _ _ p1 hu0⟩
   | tup q2 s2 =>
    obtain⟨_,p1⟩:=isT q2
    simp only[peq]
    exact⟨SeqAt.RcAt.str_tuple _ _ p1 hu0,SeqAt.RcNeAt.str_tuple _ _ p1 hu0,SeqAt.EqAt.str_tuple _ _ p1 hu0⟩
  | lst q1 s1 =>
   cases sh' with
   | non =>
    obtain⟨_,p1⟩:=isL q1
    simp only[peq]
    exact⟨SeqAt.RcAt.list_none p1 hu0,SeqAt.RcNeAt.list_none p1 hu0,SeqAt.EqAt.list_none p1 hu0⟩
   | bl b2 =>
    obtain⟨_,p1⟩:=isL q1
    simp only[peq]
    exact⟨SeqAt.RcAt.list_bool _ p1 hu0,SeqAt.RcNeAt.list_bool _ p1 hu0,SeqAt.EqAt.list_bool _ p1 hu0⟩
   | int i2 t2 =>
    obtain⟨_,p1⟩:=isL q1
    simp only[peq]
    exact⟨SeqAt.RcAt.list_int _ _ p1 hu0,SeqAt.RcNeAt.list_int _ _ p1 hu0,SeqAt.EqAt.list_int _ _ p1 hu0⟩
   | str x2 t2 =>
    obtain⟨_,p1⟩:=isL q1
    simp only[peq]
    exact⟨SeqAt.RcAt.list_str _ _ p1 hu0,SeqAt.RcNeAt.list_str _ _ p1 hu0,SeqAt.EqAt.list_str _ _ p1 hu0⟩
   | lst q2 s2 =>
    refine ref rfl rfl ?_
    simp only[peq]
    simp only[cln] at c c'
    exact zl4 I hu0 (.inl (sub q1)) (.inl (sub q2)) s1 s2 fun {w z v u p q} m m' r r' rv ru=>(ih hu1 (all_eq_true.mp c _ m) (all_eq_true.mp c' _ m') r r' rv ru).2.2
   | tup q2 s2 =>
    refine ref rfl rfl ?_
    simp only[peq]
    obtain⟨_,p1⟩:=isL q1
    obtain⟨_,p2⟩:=isT q2
    exact⟨SeqAt.RcAt.list_tuple p1 p2 hu0,SeqAt.RcNeAt.list_tuple p1 p2 hu0⟩
  | tup q1 s1 =>
   cases sh' with
   | non =>
    obtain⟨_,p1⟩:=isT q1
    simp only[peq]
    exact⟨SeqAt.RcAt.tuple_none p1 hu0,SeqAt.RcNeAt.tuple_none p1 hu0,SeqAt.EqAt.tuple_none p1 hu0⟩
   | bl b2 =>
    obtain⟨_,p1⟩:=isT q1
    simp only[peq]
    exact⟨SeqAt.RcAt.tuple_bool _ p1 hu0,SeqAt.RcNeAt.tuple_bool _ p1 hu0,SeqAt.EqAt.tuple_bool _ p1 hu0⟩
   | int i2 t2 =>
    obtain⟨_,p1⟩:=isT q1
    simp only[peq]
    exact⟨SeqAt.RcAt.tuple_int _ _ p1 hu0,SeqAt.RcNeAt.tuple_int _ _ p1 hu0,SeqAt.EqAt.tuple_int _ _ p1 hu0⟩
   | str x2 t2 =>
    obtain⟨_,p1⟩:=isT q1
    simp only[peq]
    exact⟨SeqAt.RcAt.tuple_str _ _ p1 hu0,SeqAt.RcNeAt.tuple_str _ _ p1 hu0,SeqAt.EqAt.tuple_str _ _ p1 hu0⟩
   | lst q2 s2 =>
    refine ref rfl rfl ?_
    simp only[peq]
    obtain⟨_,p1⟩:=isT q1
    obtain⟨_,p2⟩:=isL q2
    exact⟨SeqAt.RcAt.tuple_list p1 p2 hu0,SeqAt.RcNeAt.tuple_list p1 p2 hu0⟩
   | tup q2 s2 =>
    refine ref rfl rfl ?_
    simp only[peq]
    simp only[cln] at c c'
    exact zoA I hu0 (.inl (sub q1)) (.inl (sub q2)) s1 s2 fun {w z v u p q} m m' r r' rv ru=>(ih hu1 (all_eq_true.mp c _ m) (all_eq_true.mp c' _ m') r r' rv ru).2.2
end
def drf(ce:Ce):W->W
 | .cel k=>match ce[k]? with
  | some (.lst xs)=>.lst xs
  | _=>.cel k
 | w=>w
def zdr(ce:Ce):W->Option (List W)
 | .lst xs=>some xs
 | .cel k=>match ce[k]? with
  | some (.lst xs)=>some xs
  | _=>none
 | _=>none
def zfR(ce:Ce):W->Option (List W)
 | .tup xs=>some xs
 | w=>zdr ce w
def zpD(ce:Ce):W->Option (List (Key×W))
 | .cel k=>match ce[k]? with
  | some (.dct xs)=>some xs
  | _=>none
 | _=>none
def zpE(ce:Ce):W->Option (List (Key×W))
 | .cel k=>match ce[k]? with
  | some (.dct xs)=>some xs
  | some (.fzd xs)=>some xs
  | _=>none
 | _=>none
def zjE:W->Option Key
 | .int i=>some (.inl i)
 | .str x=>some (.inr x)
 | _=>none
section
variable {G:Ga} {F:Hp} {as:List Addr} {H:Hp} {ce:Ce} {w:W} {v:V}
theorem Store.toH(S:Store G F as H ce):Le F as H as:=⟨S.sub,fun _ _ h=>h⟩
theorem zhG(S:Store G F as H ce)(r:Rep F as w v):Rep H as (drf ce w) v:=by
 cases w with
 | cel k =>
  simp only[drf]
  split
  ·rename_i xs hc
   simp only[Rep] at r ⊢
   obtain⟨a,rfl,h⟩:=r
   obtain⟨_,vs,h2,rs⟩:=S.cell _ _ _ h hc
   exact⟨a,vs,rfl,.inl h2,rs.le S.toH⟩
  ·exact r.le S.toH
 | _=>exact r.le S.toH
theorem zci{xs:List W}(S:Store G F as H ce)(r:Rep F as w v)(e:zdr ce w=some xs):∃a vs,v=.ref a/\Rd H a (.lst vs)/\Reps F as xs vs:=by
 cases w<;>simp only[zdr,reduceCtorEq,Option.some.injEq] at e
 ·subst e
  simp only[Rep] at r
  obtain⟨a,vs,rfl,h,q⟩:=r
  exact⟨a,vs,rfl,Rd.sub S h,q⟩
 ·split at e
  ·rename_i xs' hc
   cases e
   simp only[Rep] at r
   obtain⟨a,rfl,h⟩:=r
   obtain⟨_,vs,h2,rs⟩:=S.cell _ _ _ h hc
   exact⟨a,vs,rfl,.inl h2,rs⟩
  ·cases e
theorem zfS{xs:List W}(S:Store G F as H ce)(r:Rep F as w v)(e:zfR ce w=some xs):∃a vs,v=.ref a/\(Rd H a (.lst vs)\/Rd H a (.tup vs))/\Reps F as xs vs:=by
 cases w with
 | tup ys =>
  simp only[zfR,Option.some.injEq] at e
  subst e
  simp only[Rep] at r
  obtain⟨a,vs,rfl,h,q⟩:=r
  exact⟨a,vs,rfl,.inr (.inl (S.sub _ _ h)),q⟩
 | _ =>
  obtain⟨a,vs,h1,h2,h3⟩:=zci S r e
  exact⟨a,vs,h1,.inl h2,h3⟩
theorem zkk{xs:List (Key×W)}(S:Store G F as H ce)(r:Rep F as w v)(e:zpD ce w=some xs):∃k a ps,w=.cel k/\v=.ref a/\as[k]?=some a/\H a=some (.dK ps)/\RepKV F as xs ps:=by
 cases w<;>simp only[zpD,reduceCtorEq] at e
 split at e
 ·rename_i k xs' hc
  cases e
  simp only[Rep] at r
  obtain⟨a,rfl,h⟩:=r
  obtain⟨_,ps,h2,rs⟩:=S.cell _ _ _ h hc
  exact⟨_,a,ps,rfl,rfl,h,h2,rs⟩
 ·cases e
theorem zij{xs:List (Key×W)}(S:Store G F as H ce)(r:Rep F as w v)(e:zpE ce w=some xs):∃k a ps,w=.cel k/\v=.ref a/\as[k]?=some a/\Rd H a (.dK ps)/\RepKV F as xs ps:=by
 cases w<;>simp only[zpE,reduceCtorEq] at e
 split at e
 ·rename_i k xs' hc
  cases e
  simp only[Rep] at r
  obtain⟨a,rfl,h⟩:=r
  obtain⟨_,ps,h2,rs⟩:=S.cell _ _ _ h hc
  exact⟨_,a,ps,rfl,rfl,h,.inl h2,rs⟩
 ·rename_i k xs' hc
  cases e
  simp only[Rep] at r
  obtain⟨a,rfl,h⟩:=r
  obtain⟨_,o,ps,_,h2,rs⟩:=S.cell _ _ _ h hc
  exact⟨_,a,ps,rfl,rfl,h,.inr ⟨o,h2⟩,rs⟩
 ·cases e
theorem zhH{k:Key}(r:Rep F as w v)(e:zjE w=some k):v=kV k:=by
 cases w<;>simp only[zjE,reduceCtorEq,Option.some.injEq] at e<;>subst e<;>simp only[Rep] at r<;>exact r
end
def zsW(ng:Bool):R2:=fun x y H Q=>∃as w z,Rep H as w x/\Rep H as z y/\cln 8 w=true/\cln 8 z=true/\Q (.bl (if ng then !peq w z else peq w z)) H
def zsX(K:PySem.W.Frag)(ng:Bool):R2:=fun x y H Q=>∃as w ys a vs,Rep H as w x/\y=.ref a/\(SqL K H a vs\/SqT K H a vs)/\Reps H as ys vs/\cln 8 w=true/\ys.all (cln 8)=true/\Q (.bl (if ng then !ys.any (peq · w) else ys.any (peq · w))) H
section
variable {X:Cx}
theorem znd(hu:X.A.units+8<cLine):OpR X (compareOp .Eq) (zsW false):=by
 intro pins s σ H x y v u Q I rx ry ⟨as,w,z,r1,r2,c1,c2,q⟩
 exact(zsV (fun _ _ h=>h) I 8 hu c1 c2 r1 r2 rx ry).1 X.prog X.w X.xe _ ⟨.bl _,H,I,rfl,q⟩
theorem zqz(hu:X.A.units+8<cLine):OpR X (compareOp .NotEq) (zsW true):=by
 intro pins s σ H x y v u Q I rx ry ⟨as,w,z,r1,r2,c1,c2,q⟩
 exact(zsV (fun _ _ h=>h) I 8 hu c1 c2 r1 r2 rx ry).2.1 X.prog X.w X.xe _ ⟨.bl _,H,I,rfl,q⟩
open Classical in
theorem zcx{pins:List (Addr×Obj)}{σ:VS.St}{H:Hp}{s:Shared}{as:List Addr}{A:Around}{w:W}{x:V}{u:Value}{ys:List W}{vs:List V}{ps:List Value}(I:Inv X pins σ H s)(hu:A.units+8<cLine)(rw':Rep H as w x)(c:cln 8 w=true)(cs:ys.all (cln 8)=true)(ru:L2.RelV x u)(rs:Reps H as ys vs)(rp:Vals vs ps):∃e:Value->Bool,(∀y,y∈ps.toArray->SeqAt.EqAt A s y u (e y))/\ps.toArray.any e=ys.any (peq · w):=by
 have hl:=rs.length
 have hl2:=rp.length
 have key:∀{j:Nat} {p:Value},ps[j]?=some p->∃y v,ys[j]?=some y/\Rep H as y v/\L2.RelV v p/\cln 8 y=true:=fun {j p} hp=>by
  have hj:=zaE hp
  have e1:vs[j]?=some (vs[j]'(by omega)):=by simp
  obtain⟨q,hq,rq⟩:=rp.get e1
  rw[hp] at hq
  cases hq
  obtain⟨y,hy,ry⟩:=rs.get' e1
  exact⟨y,_,hy,ry,rq,all_eq_true.mp cs _ (mem_of_getElem? hy)⟩
 have uniq:∀{j j':Nat} {p:Value} {y y':W},ps[j]?=some p->ps[j']?=some p->ys[j]?=some y->ys[j']?=some y'->y=y':=fun {j j' p y y'} h1 h2 h3 h4=>by
  obtain⟨z,v,hz,rz,rv,cz⟩:=key h1
  obtain⟨z',v',hz',rz',rv',cz'⟩:=key h2
  rw[h3] at hz;cases hz
  rw[h4] at hz';cases hz'
  cases rv.inj rv'
  exact zkh 8 cz cz' rz rz'
 refine⟨fun p=>decide (∃(j:Nat) (y:W),ps[j]?=some p/\ys[j]?=some y/\peq y w=true),fun p hp=>?_,?_⟩
 ·have hp':p∈ps:=by simpa using hp
  obtain⟨j,hj⟩:=getElem?_of_mem hp'
  obtain⟨y,v,hy,ry,rv,cy⟩:=key hj
  have q:=(zsV (fun _ _ h=>h) I 8 hu cy c ry rw' rv ru).2.2
  have e:decide (∃(j:Nat) (y:W),ps[j]?=some p/\ys[j]?=some y/\peq y w=true)=peq y w:=by
   rw[Bool.eq_iff_iff,decide_eq_true_iff]
   constructor
   ·rintro⟨j',y',h1,h2,h3⟩
    rw[uniq hj h1 hy h2];exact h3
   ·intro h
    exact⟨j,y,hj,hy,h⟩
  show SeqAt.EqAt A s p u (decide (∃(j:Nat) (y:W),ps[j]?=some p/\ys[j]?=some y/\peq y w=true))
  rw[e];exact q
 ·rw[Bool.eq_iff_iff,any_eq_true',any_eq_true]
  constructor
  ·rintro⟨p,_,hp⟩
   obtain⟨j,y,h1,h2,h3⟩:=of_decide_eq_true hp
   exact⟨y,mem_of_getElem? h2,h3⟩
  ·rintro⟨y,hy,h⟩
   obtain⟨j,hj⟩:=getElem?_of_mem hy
   have hlt:=zaE hj
   have e1:ps[j]?=some (ps[j]'(by omega)):=by simp
   refine⟨ps[j]'(by omega),by simp,decide_eq_true ⟨j,y,e1,hj,h⟩⟩
theorem zqA{K:PySem.W.Frag}(hu:X.A.units+9<cLine)(hK:X.K=K:=by rfl):OpR X (compareOp .In) (zsX K false):=by
 subst hK
 intro pins s σ H x y v u Q I rx ry ⟨as,w,ys,a,vs,r1,ey,sq,rs,c1,c2,q⟩
 subst ey
 cases ry
 rcases sq with sq|sq
 ·obtain⟨ps,rp,pl,_⟩:=I.list sq
  obtain⟨e,he,ea⟩:=zcx (A:=X.A.in1) I (by show X.A.units+1+8<cLine;omega) r1 c1 c2 rx rs rp
  exact SeqAt.in_listAt e pl.isList he ⟨.bl _,H,I,rfl,by rw[ea];exact q⟩
 ·obtain⟨ps,rp,pl,_⟩:=I.tuple sq
  obtain⟨e,he,ea⟩:=zcx (A:=X.A.in1) I (by show X.A.units+1+8<cLine;omega) r1 c1 c2 rx rs rp
  exact SeqAt.in_tupleAt e pl he ⟨.bl _,H,I,rfl,by rw[ea];exact q⟩
theorem zkl{K:PySem.W.Frag}(hu:X.A.units+9<cLine)(hK:X.K=K:=by rfl):OpR X (compareOp .NotIn) (zsX K true):=by
 subst hK
 intro pins s σ H x y v u Q I rx ry ⟨as,w,ys,a,vs,r1,ey,sq,rs,c1,c2,q⟩
 subst ey
 cases ry
 rcases sq with sq|sq
 ·obtain⟨ps,rp,pl,_⟩:=I.list sq
  obtain⟨e,he,ea⟩:=zcx (A:=X.A.in1) I (by show X.A.units+1+8<cLine;omega) r1 c1 c2 rx rs rp
  exact SeqAt.notIn_listAt e pl.isList he ⟨.bl _,H,I,rfl,by rw[ea];exact q⟩
 ·obtain⟨ps,rp,pl,_⟩:=I.tuple sq
  obtain⟨e,he,ea⟩:=zcx (A:=X.A.in1) I (by show X.A.units+1+8<cLine;omega) r1 c1 c2 rx rs rp
  exact SeqAt.notIn_tupleAt e pl he ⟨.bl _,H,I,rfl,by rw[ea];exact q⟩
end
def eqW(ng:Bool)(ce:Ce)(x y:W):Option W:=if (cln 8 (drf ce x)&&cln 8 (drf ce y))=true then some (.bl (if ng then !peq (drf ce x) (drf ce y) else peq (drf ce x) (drf ce y))) else none
def inW(ng:Bool)(ce:Ce)(x y:W):Option W:=match zfR ce y with
 | some ys=>if (cln 8 (drf ce x)&&ys.all (cln 8))=true then some (.bl (if ng then !ys.any (peq · (drf ce x)) else ys.any (peq · (drf ce x)))) else none
 | none=>none
def zaD(f:Ce->W->W->Option W)(a b:Sl->M W):Sl->M W:=fun sl=>bnd (a sl) fun x=>bnd (b sl) fun y=>look fun ce=>f ce x y
section
variable {X:Cx} {G:Ga} {E:XK} {a b c:Expr} {da db dc:Sl->M W} {pos:Pos}
def OpC(r:R2)(f:Ce->W->W->Option W):Prop:=∀(G:Ga) F as H ce x y wx wy w,Store G F as H ce->Rep F as wx x->Rep F as wy y->f ce wx wy=some w->∀Q:VK,(∀v,Rep F as w v->Q v H)->r x y H Q
theorem zbZ{r:R2}{f:Ce->W->W->Option W}(hf:OpC r f)(σ:L2.St)(H:Hp)(Q:VK)(h:zaz G E (zaD f da db) σ H Q):tOp r (zaz G E da) (zaz G E db) σ H Q:=by
 refine zgP h fun F as sl ce H2 x y wx wy S rx ry P=>?_
 obtain⟨w,e,P⟩:=zbX P
 exact hf G F as H2 ce x y wx wy w S.st rx ry e Q fun v r=>P.done S r
theorem zkm(ng:Bool):OpC (zsW ng) (eqW ng):=by
 intro G F as H ce x y wx wy w S rx ry e Q q
 unfold eqW at e
 split at e
 ·rename_i hc
  rw[and_eq_true] at hc
  cases e
  exact⟨as,_,_,zhG S rx,zhG S ry,hc.1,hc.2,q _ (by simp only[Rep])⟩
 ·cases e
theorem zne(K:PySem.W.Frag)(ng:Bool):OpC (zsX K ng) (inW ng):=by
 intro G F as H ce x y wx wy w S rx ry e Q q
 unfold inW at e
 split at e
 ·rename_i ys hy
  split at e
  ·rename_i hc
   rw[and_eq_true] at hc
   cases e
   obtain⟨a,vs,rfl,h,rs⟩:=zfS S ry hy
   exact⟨as,_,ys,a,vs,zhG S rx,rfl,h.imp .inl .inl,rs.le S.toH,hc.1,hc.2,q _ (by simp only[Rep])⟩
  ·cases e
 ·cases e
theorem zqB(hu:X.A.units+8<cLine)(ha:PE X a (zaz G E da))(hb:PE X b (zaz G E db)):PE X (.Compare a [.Eq] [b] pos) (zaz G E (zaD (eqW false) da db)):=PE.imp (zjR (znd hu) ha hb (zcn _)) (zbZ (zkm false))
theorem zc6(hu:X.A.units+8<cLine)(ha:PE X a (zaz G E da))(hb:PE X b (zaz G E db)):PT X (.Compare a [.Eq] [b] pos) (zco G E (dB (zaD (eqW false) da db))):=zfP (znd hu) ha hb (zcn _) (zbZ (zkm false))
theorem zl6(hu:X.A.units+8<cLine)(ha:PE X a (zaz G E da))(hb:PE X b (zaz G E db)):PT X (.Compare a [.NotEq] [b] pos) (zco G E (dB (zaD (eqW true) da db))):=zfP (zqz hu) ha hb (zcn _) (zbZ (zkm true))
theorem zsY(hu:X.A.units+9<cLine)(ha:PE X a (zaz G E da))(hb:PE X b (zaz G E db))(hm:behindInMarks .In b=false):PT X (.Compare a [.In] [b] pos) (zco G E (dB (zaD (inW false) da db))):=zfP (zqA hu rfl) ha hb hm (zbZ (zne _ false))
theorem zfT(hu:X.A.units+9<cLine)(ha:PE X a (zaz G E da))(hb:PE X b (zaz G E db))(hm:behindInMarks .NotIn b=false):PT X (.Compare a [.NotIn] [b] pos) (zco G E (dB (zaD (inW true) da db))):=zfP (zkl hu rfl) ha hb hm (zbZ (zne _ true))
theorem zgQ{r:R2}{f:W->W->Option W}(hf:Sc2 r f):OpC r (fun _=>f):=by
 intro G F as H ce x y wx wy w S rx ry e Q q
 obtain⟨vx,vy,vw,e1,e2,e3,k⟩:=hf _ _ _ e
 rw[rx.sc e1,ry.sc e2]
 exact k _ _ (q _ (Rep.of_sc e3))
theorem zoB(ha:PE X a (zaz G E da))(hb:PE X b (zaz G E db)):PT X (.Compare a [.Lt] [b] pos) (zco G E (dB (dOp fLt da db))):=zfP zqb ha hb (zcn _) (zbZ (zgQ (zhE fun _ _=>rfl)))
theorem zoC(ha:PE X a (zaz G E da))(hb:PE X b (zaz G E db)):PT X (.Compare a [.Gt] [b] pos) (zco G E (dB (dOp fGt da db))):=zfP zqc ha hb (zcn _) (zbZ (zgQ (zhE fun _ _=>rfl)))
theorem zsZ(ha:PE X a (zaz G E da))(hb:PE X b (zaz G E db)):PT X (.Compare a [.GtE] [b] pos) (zco G E (dB (dOp fGe da db))):=zfP zsy ha hb (zcn _) (zbZ (zgQ (zhE fun _ _=>rfl)))
theorem znf{j pos'}(ha:PE X a (zaz G E da)):PT X (.Compare a [.Is] [.Constant .none j pos'] pos) (zco G E (dB (dUn zqx da))) :=
 zoz ⟨_,zpO ha,fun σ H Q zz_=>el6 zz_ fun F as sl ce S P=>(step S P).mono fun x H1 zz_=>el8 zz_ fun wx F1 as1 ce1 l1 S1 rx P1=>Post.done S1 (a:=W.bl _) P1 (by simp only[Rep];rw[rx.isN])⟩ (zcn _)
theorem zoD{j pos'}(ha:PE X a (zaz G E da)):PT X (.Compare a [.IsNot] [.Constant .none j pos'] pos) (zco G E (dB (dUn zqy da))) :=
 zoz ⟨_,zn3 ha,fun σ H Q zz_=>el6 zz_ fun F as sl ce S P=>(step S P).mono fun x H1 zz_=>el8 zz_ fun wx F1 as1 ce1 l1 S1 rx P1=>Post.done S1 (a:=W.bl _) P1 (by simp only[Rep];rw[rx.isN])⟩ (zcn _)
def zoE(a b:Sl->M W):Sl->M W:=fun sl=>bnd (a sl) fun x=>match x with
 | .bl true=>b sl
 | .bl false=>ret (.bl false)
 | _=>zhD
def dOr(a b:Sl->M W):Sl->M W:=fun sl=>bnd (a sl) fun x=>match x with
 | .bl true=>ret (.bl true)
 | .bl false=>b sl
 | _=>zhD
def zqC(a:Sl->M W):Sl->M W:=fun sl=>bnd (a sl) fun x=>match x with
 | .bl b=>ret (.bl (!b))
 | _=>zhD
def zfb(a b:Sl->M Bool):Sl->M Bool:=fun sl=>bnd (a sl) fun x=>match x with
 | true=>b sl
 | false=>ret false
def zlz(a b:Sl->M Bool):Sl->M Bool:=fun sl=>bnd (a sl) fun x=>match x with
 | true=>ret true
 | false=>b sl
def zfc(a:Sl->M Bool):Sl->M Bool:=fun sl=>bnd (a sl) fun x=>ret (!x)
def zoF(c:Sl->M Bool)(a b:Sl->M W):Sl->M W:=fun sl=>bnd (c sl) fun x=>match x with
 | true=>a sl
 | false=>b sl
variable {rest:List Expr} {ta tb:Sl->M Bool}
theorem zik{op}(h:PE X a (zaz G E da)):PE X (.BoolOp op [a] pos) (zaz G E da):=zpU h
theorem zng(ha:PE X a (zaz G E da))(hb:PE X (.BoolOp .And (b::rest) pos) (zaz G E db)):PE X (.BoolOp .And (a::b::rest) pos) (zaz G E (zoE da db)):=by
 refine PE.imp (zpV ha hb) fun σ H Q zz_=>el6 zz_ fun F as sl ce S P=>(step S P).mono fun x H1 zz_=>el8 zz_ fun wx F1 as1 ce1 l1 S1 rx P1=>?_
 cases wx<;>first|exact(show False from P1).elim|skip
 rename_i k
 simp only[Rep] at rx
 subst rx
 cases k
 ·exact⟨false,rfl,by rw[if_neg Bool.false_ne_true];exact Post.done S1 (a:=W.bl false) P1 (by simp only[Rep])⟩
 ·exact⟨true,rfl,by rw[if_pos rfl];exact⟨F1,as1,sl,ce1,S1,P1⟩⟩
theorem zqD(ha:PE X a (zaz G E da))(hb:PE X (.BoolOp .Or (b::rest) pos) (zaz G E db)):PE X (.BoolOp .Or (a::b::rest) pos) (zaz G E (dOr da db)):=by
 refine PE.imp (zsk ha hb) fun σ H Q zz_=>el6 zz_ fun F as sl ce S P=>(step S P).mono fun x H1 zz_=>el8 zz_ fun wx F1 as1 ce1 l1 S1 rx P1=>?_
 cases wx<;>first|exact(show False from P1).elim|skip
 rename_i k
 simp only[Rep] at rx
 subst rx
 cases k
 ·exact⟨false,rfl,by rw[if_neg Bool.false_ne_true];exact⟨F1,as1,sl,ce1,S1,P1⟩⟩
 ·exact⟨true,rfl,by rw[if_pos rfl];exact Post.done S1 (a:=W.bl true) P1 (by simp only[Rep])⟩
theorem zqE(ha:PE X a (zaz G E da)):PE X (.UnaryOp .Not a pos) (zaz G E (zqC da)):=by
 refine PE.imp (zpW ha) fun σ H Q zz_=>el6 zz_ fun F as sl ce S P=>(step S P).mono fun x H1 zz_=>el8 zz_ fun wx F1 as1 ce1 l1 S1 rx P1=>?_
 cases wx<;>first|exact(show False from P1).elim|skip
 rename_i k
 simp only[Rep] at rx
 subst rx
 exact⟨k,rfl,Post.done S1 (a:=W.bl (!k)) P1 (by simp only[Rep])⟩
theorem zeG(ha:PT X a (zco G E ta)):PW X (.BoolOp .And [a] pos) (zco G E ta):=zn4 ha
theorem zgR(ha:PT X a (zco G E ta)):PW X (.BoolOp .Or [a] pos) (zco G E ta):=zpR ha
theorem zgS(ha:PT X a (zco G E ta))(hb:PW X (.BoolOp .And (b::rest) pos) (zco G E tb)):PW X (.BoolOp .And (a::b::rest) pos) (zco G E (zfb ta tb)):=by
 refine PW.imp (zpS ha hb) fun σ H Q zz_=>el6 zz_ fun F as sl ce S P=>(step (RP:=rB) S P).mono fun x H1 zz_=>el8 zz_ fun wx F1 as1 ce1 l1 S1 rx P1=>?_
 have rx:wx=x:=rx
 subst rx
 cases wx
 ·rw[if_neg Bool.false_ne_true];exact Post.done (RP:=rB) S1 (a:=false) P1 rfl
 ·rw[if_pos rfl];exact⟨F1,as1,sl,ce1,S1,P1⟩
theorem zkn(ha:PT X a (zco G E ta))(hb:PW X (.BoolOp .Or (b::rest) pos) (zco G E tb)):PW X (.BoolOp .Or (a::b::rest) pos) (zco G E (zlz ta tb)):=by
 refine PW.imp (zsh ha hb) fun σ H Q zz_=>el6 zz_ fun F as sl ce S P=>(step (RP:=rB) S P).mono fun x H1 zz_=>el8 zz_ fun wx F1 as1 ce1 l1 S1 rx P1=>?_
 have rx:wx=x:=rx
 subst rx
 cases wx
 ·rw[if_neg Bool.false_ne_true];exact⟨F1,as1,sl,ce1,S1,P1⟩
 ·rw[if_pos rfl];exact Post.done (RP:=rB) S1 (a:=true) P1 rfl
theorem zko(ha:PT X a (zco G E ta)):PT X (.UnaryOp .Not a pos) (zco G E (zfc ta)):=by
 refine PT.imp (zpT ha) fun σ H Q zz_=>el6 zz_ fun F as sl ce S P=>(step (RP:=rB) S P).mono fun x H1 zz_=>el8 zz_ fun wx F1 as1 ce1 l1 S1 rx P1=>?_
 have rx:wx=x:=rx
 subst rx
 exact Post.done (RP:=rB) S1 (a:=!wx) P1 rfl
theorem zkp{c:Expr}(hc:PT X c (zco G E ta))(ha:PE X a (zaz G E da))(hb:PE X b (zaz G E db)):PE X (.IfExp c a b pos) (zaz G E (zoF ta da db)):=by
 refine PE.imp (zlF hc ha hb) fun σ H Q zz_=>el6 zz_ fun F as sl ce S P=>(step (RP:=rB) S P).mono fun x H1 zz_=>el8 zz_ fun wx F1 as1 ce1 l1 S1 rx P1=>?_
 have rx:wx=x:=rx
 subst rx
 cases wx
 ·rw[if_neg Bool.false_ne_true];exact⟨F1,as1,sl,ce1,S1,P1⟩
 ·rw[if_pos rfl];exact⟨F1,as1,sl,ce1,S1,P1⟩
end
section
def zan:Sl->M (List W):=fun _=>ret []
def zad(a:Sl->M W)(r:Sl->M (List W)):Sl->M (List W):=fun sl=>bnd (a sl) fun x=>bnd (r sl) fun xs=>ret (x::xs)
open Classical in
def mkF(w:W)(n:Nat):M W:=fun ce=>if n<=sizeLine then some (.ok w ce) else none
open Classical in
def mkC(c:C)(n:Nat):M W:=fun ce=>if n<=sizeLine then some (.ok (.cel ce.length) (ce++[c])) else none
def zbT(r:Sl->M (List W)):Sl->M W:=fun sl=>bnd (r sl) fun xs=>mkF (.tup xs) xs.length
def zc7(r:Sl->M (List W)):Sl->M W:=fun sl=>bnd (r sl) fun xs=>mkF (.lst xs) xs.length
def zcq(r:Sl->M (List W)):Sl->M W:=fun sl=>bnd (r sl) fun xs=>mkC (.lst xs) xs.length
section
variable {X:Cx} {G:Ga} {E:XK} {e:Expr} {es:List Expr} {da:Sl->M W} {dr:Sl->M (List W)} {pos:Pos} {F:Hp} {as:List Addr} {H:Hp} {σ:VS.St} {sl:Sl} {ce:Ce} {Q:VK}
theorem zag:PA X [] (zfv G E zan):=PA.imp zm6 fun σ H Q zz_=>el6 zz_ fun F as sl ce S P=>Post.done (RP:=Reps) S (a:=[]) P Reps.nil
theorem zaa(ha:PE X e (zaz G E da))(hr:PA X es (zfv G E dr))(hs:starEach (e::es) X.env=(false,eval e X.env)::starEach es X.env:=by rfl):PA X (e::es) (zfv G E (zad da dr)):=by
 refine PA.imp (zjW ha hr hs) fun σ H Q zz_=>el6 zz_ fun F as sl ce S P=>(step S P).mono fun x H1 zz_=>el8 zz_ fun wx F1 as1 ce1 l1 S1 rx P1=>(step (RP:=Reps) S1 P1).mono fun y H2 zz_=>el8 zz_ fun wy F2 as2 ce2 l2 S2 ry P2=>?_
 exact Post.done (RP:=Reps) S2 (a:=wx::wy) P2 (.cons (rx.le l2) ry)
theorem zkq{xs:List W}{vs:List V}{n:Nat}(S:SR G F as H σ sl ce)(rs:Reps F as xs vs)(P:Post G E Rep F as σ sl Q (mkF (.lst xs) n ce)):n<=sizeLine/\∀p,H p=none->Q (.ref p) (upd H p (.lst vs)):=by
 revert P
 unfold mkF
 split
 ·rename_i h
  intro P
  refine⟨h,fun p hp=>?_⟩
  obtain⟨S',l⟩:=S.st.freeze (o:=.lst vs) hp
  exact P _ _ _ _ l (S.slots S' l) (by simp only[Rep];exact⟨p,vs,rfl,.inl zaK,rs.le l⟩)
 ·exact fun P=>P.elim
theorem zfU{xs:List W}{vs:List V}{n:Nat}(S:SR G F as H σ sl ce)(rs:Reps F as xs vs)(P:Post G E Rep F as σ sl Q (mkF (.tup xs) n ce)):n<=sizeLine/\∀p,H p=none->Q (.ref p) (upd H p (.tup vs)):=by
 revert P
 unfold mkF
 split
 ·rename_i h
  intro P
  refine⟨h,fun p hp=>?_⟩
  obtain⟨S',l⟩:=S.st.freeze (o:=.tup vs) hp
  exact P _ _ _ _ l (S.slots S' l) (by simp only[Rep];exact⟨p,vs,rfl,zaK,rs.le l⟩)
 ·exact fun P=>P.elim
theorem zkr{c:C}{o:HO}{n:Nat}(S:SR G F as H σ sl ce)(hc:∀p as',Le F as F as'->CRep G F as' (upd H p o) p c)(P:Post G E Rep F as σ sl Q (mkC c n ce)):n<=sizeLine/\∀p,H p=none->Q (.ref p) (upd H p o):=by
 revert P
 unfold mkC
 split
 ·rename_i h
  intro P
  refine⟨h,fun p hp=>?_⟩
  obtain⟨S',l⟩:=S.st.alloc (c:=c) hp (hc p)
  exact P _ _ _ _ l (S.slots S' l) (by simp only[Rep];exact⟨p,rfl,by rw[<- S.st.len];simp⟩)
 ·exact fun P=>P.elim
theorem zks{xs:List W}{vs:List V}{n:Nat}(S:SR G F as H σ sl ce)(rs:Reps F as xs vs)(P:Post G E Rep F as σ sl Q (mkC (.lst xs) n ce)):n<=sizeLine/\∀p,H p=none->Q (.ref p) (upd H p (.lst vs)) :=
 zkr (c:=.lst xs) S (fun p as' l=>⟨vs,zaK,rs.le l⟩) P
theorem zaT{x1}(h:PA X es (zfv G E dr)):PE X (.Tuple es x1 pos) (zaz G E (zbT dr)):=by
 refine PE.imp (zqh h) fun σ H Q zz_=>el6 zz_ fun F as sl ce S P=>(step (RP:=Reps) S P).mono fun x H1 zz_=>el8 zz_ fun wx F1 as1 ce1 l1 S1 rx P1=>?_
 have:=zfU S1 rx P1
 rwa [<- Reps.length rx] at this
theorem zbp(h:PA X es (zfv G E dr)):PE X (.List es pos) (zaz G E (zc7 dr)):=by
 refine PE.imp (zjX h) fun σ H Q zz_=>el6 zz_ fun F as sl ce S P=>(step (RP:=Reps) S P).mono fun x H1 zz_=>el8 zz_ fun wx F1 as1 ce1 l1 S1 rx P1=>?_
 have:=zkq S1 rx P1
 rwa [<- Reps.length rx] at this
theorem zcj(h:PA X es (zfv G E dr)):PE X (.List es pos) (zaz G E (zcq dr)):=by
 refine PE.imp (zjX h) fun σ H Q zz_=>el6 zz_ fun F as sl ce S P=>(step (RP:=Reps) S P).mono fun x H1 zz_=>el8 zz_ fun wx F1 as1 ce1 l1 S1 rx P1=>?_
 have:=zks S1 rx P1
 rwa [<- Reps.length rx] at this
def zjf:Sl->M W:=fun _=>mkC (.dct []) 0
theorem zkt:PE X (.Dict [] [] pos) (zaz G E zjf):=by
 refine PE.imp zl0 fun σ H Q zz_=>el6 zz_ fun F as sl ce S P=>?_
 exact(zkr (c:=.dct []) (o:=.dK []) S (fun p as' l=>⟨[],zaK,.nil⟩) P).2
end
def zjg(kvs:List (Key×W))(k:Key):Option W:=(kvs.find? fun kv=>decide (kv.1=k)).map (·.2)
def zjh(kvs:List (Key×W))(k:Key)(v:W):List (Key×W) :=
 if (kvs.any fun kv=>decide (kv.1=k))=true then kvs.map (fun kv=>if kv.1=k then (kv.1,v) else kv) else kvs++[(k,v)]
section
variable {F:Hp} {as:List Addr} {kvs:List (Key×W)} {ps:List (Key×V)}
theorem RepKV.val(r:RepKV F as kvs ps)(k:Key):(zjg kvs k=none/\zjb ps k=none)\/∃w v,zjg kvs k=some w/\zjb ps k=some v/\Rep F as w v:=by
 induction r with
 | nil=>exact .inl ⟨rfl,rfl⟩
 | @cons p q l1 l2 h t ih =>
  obtain⟨e,rv⟩:=h
  by_cases hk:p.1=k
  ·refine .inr ⟨p.2,q.2,?_,zeo (by rw[<- e];exact hk),rv⟩
   simp[zjg,find?_cons,hk]
  ·have e1:zjg (p::l1) k=zjg l1 k:=by simp only[zjg,find?_cons,hk,decide_false]
   rw[e1,zep (by rw[<- e];exact hk)]
   exact ih
theorem RepKV.any(r:RepKV F as kvs ps)(k:Key):(kvs.any fun kv=>decide (kv.1=k))=(ps.any fun kv=>decide (kv.1=k)):=by
 induction r with
 | nil=>rfl
 | cons h t ih=>rw[any_cons,any_cons,ih,h.1]
theorem RepKV.mapPut{w:W}{v:V}(k:Key)(rv:Rep F as w v)(r:RepKV F as kvs ps):RepKV F as (kvs.map fun kv=>if kv.1=k then (kv.1,w) else kv) (ps.map fun kv=>if kv.1=k then (kv.1,v) else kv):=by
 induction r with
 | nil=>exact .nil
 | @cons p q l1 l2 h t ih =>
  rw[map_cons,map_cons]
  refine .cons ?_ ih
  by_cases hk:p.1=k
  ·rw[if_pos hk,if_pos (by rw[<- h.1];exact hk)]
   exact⟨h.1,rv⟩
  ·rw[if_neg hk,if_neg (by rw[<- h.1];exact hk)]
   exact h
theorem RepKV.put{w:W}{v:V}(r:RepKV F as kvs ps)(k:Key)(rv:Rep F as w v):RepKV F as (zjh kvs k w) (zgx ps k v):=by
 unfold zjh zgx
 rw[r.any k]
 split
 ·exact r.mapPut k rv
 ·exact Paired.app r (.cons ⟨rfl,rv⟩ .nil)
theorem RepKV.length(r:RepKV F as kvs ps):kvs.length=ps.length:=Paired.length r
end
def znh(ng:Bool)(ce:Ce)(x y:W):Option W:=match zjE x,zpD ce y with
 | some k,some kvs=>some (.bl (if ng then !(zjg kvs k).isSome else (zjg kvs k).isSome))
 | _,_=>none
section
variable {X:Cx} {G:Ga} {E:XK} {a b c:Expr} {da db dc:Sl->M W} {pos:Pos}
theorem zoG(ng:Bool)(σ:L2.St)(H:Hp)(Q:VK)(h:zaz G E (zaD (znh ng) da db) σ H Q) :
  zaz G E da σ H fun y H1=>zaz G E db σ H1 fun x H2=>∃a o,x=.ref a/\DGet H2 a y o/\Q (.bl (if ng then !o.isSome else o.isSome)) H2:=by
 obtain⟨F,as,sl,ce,S,P⟩:=h
 refine(step S P).mono fun x H1 zz_=>el8 zz_ fun wx F1 as1 ce1 l1 S1 rx P1=>(step S1 P1).mono fun y H2 zz_=>el8 zz_ fun wy F2 as2 ce2 l2 S2 ry P2=>?_
 obtain⟨w,e,P3⟩:=zbX P2
 unfold znh at e
 split at e
 ·rename_i k kvs hk hd
  cases e
  obtain⟨n,a,ps,rfl,rfl,ha,hH,rk⟩:=zkk S2.st ry hd
  rw[zhH rx hk]
  refine⟨a,_,rfl,DGet.k hH,?_⟩
  rcases rk.val k with ⟨e1,e2⟩|⟨w,v,e1,e2,_⟩
  ·rw[e1] at P3;rw[e2];exact P3.done S2 (by simp only[Rep];cases ng<;>rfl)
  ·rw[e1] at P3;rw[e2];exact P3.done S2 (by simp only[Rep];cases ng<;>rfl)
 ·cases e
theorem zgT(hu:X.A.units+1<cLine)(ha:PE X a (zaz G E da))(hb:PE X b (zaz G E db))(h1:behindInMarks .NotIn b=false):PT X (.Compare a [.NotIn] [b] pos) (zco G E (dB (zaD (znh true) da db))):=zoz ⟨_,zkb hu ha hb,zoG true⟩ h1
def ixW(ce:Ce)(x y:W):Option W:=match zfR ce x,y with
 | some xs,.int i=>atI xs i
 | _,_=>none
theorem Reps.atI{F:Hp}{as:List Addr}{ws:List W}{vs:List V}{i:Int}{w:W}(r:Reps F as ws vs)(h:L2.atI ws i=some w):∃v,L2.atI vs i=some v/\Rep F as w v:=by
 unfold L2.atI at h ⊢
 rw[r.length]
 cases e:ixN ws.length i with
 | none=>rw[e] at h;cases h
 | some j=>rw[e] at h;exact r.get h
theorem zqF(K:PySem.W.Frag):OpC (fun x y H Q=>zsH K x y H Q\/zsI K x y H Q) ixW:=by
 intro G F as H ce x y wx wy w S rx ry e Q q
 unfold ixW at e
 split at e
 ·rename_i xs i hs
  obtain⟨a,vs,rfl,h,rs⟩:=zfS S rx hs
  obtain⟨v,hv,rv⟩:=rs.atI e
  simp only[Rep] at ry
  subst ry
  rcases h with h|h
  ·exact .inl ⟨a,vs,i,v,rfl,rfl,.inl h,hv,q _ rv⟩
  ·exact .inr ⟨a,vs,i,v,rfl,rfl,.inl h,hv,q _ rv⟩
 ·cases e
theorem zaA(ha:PE X a (zaz G E da))(hb:PE X b (zaz G E db))(hs:zj2 b):PE X (.Subscript a b pos) (zaz G E (zaD ixW da db)):=PE.imp (zsG (IxR.or (ixL X.K rfl) (ixT X.K rfl)) ha hb hs) (zbZ (zqF _))
def zku:Sl->M (Option Int):=fun _=>ret none
def zl7(d:Sl->M W):Sl->M (Option Int):=fun sl=>bnd (d sl) fun w=>match w with
 | .int i=>ret (some i)
 | _=>zhD
def rO:Hp->List Addr->Option Int->Option Int->Prop:=fun _ _ a b=>a=b
abbrev zr5(G:Ga)(E:XK)(d:Sl->M (Option Int)):TO:=toT G E rO d
theorem PO.imp{e:Option Expr}{t t':TO}(h:PO X e t)(q:∀σ H Q,t' σ H Q->t σ H Q):PO X e t':=fun pins s σ H Q I z=>h pins s σ H Q I (q _ _ _ z)
theorem zoH:PO X none (zr5 G E zku):=PO.imp zok fun σ H Q zz_=>el6 zz_ fun F as sl ce S P=>Post.done (RP:=rO) S (a:=none) P rfl
theorem zoI(h:PE X a (zaz G E da)):PO X (some a) (zr5 G E (zl7 da)):=by
 refine PO.imp (zol h) fun σ H Q zz_=>el6 zz_ fun F as sl ce S P=>(step S P).mono fun x H1 zz_=>el8 zz_ fun wx F1 as1 ce1 l1 S1 rx P1=>?_
 cases wx<;>first|exact(show False from P1).elim|skip
 simp only[Rep] at rx
 exact⟨_,rx,Post.done (RP:=rO) S1 (a:=some _) P1 rfl⟩
def zkv(xs:List W)(lo hi:Option Int):List W:=(xs.drop (HT.sIx xs.length 0 lo)).take (HT.sIx xs.length xs.length hi-HT.sIx xs.length 0 lo)
theorem Reps.cut{F:Hp}{as:List Addr}{ws:List W}{vs:List V}(r:Reps F as ws vs)(lo hi:Option Int):Reps F as (zkv ws lo hi) (zom vs lo hi):=by
 unfold zkv zom
 rw[r.length]
 exact(r.drop _).take _
def zb0(xs:List W):M W:=mkF (.lst xs) xs.length
def zfx(xs:List W):M W:=mkC (.lst xs) xs.length
def zoJ(xs:List W):M W:=mkF (.tup xs) xs.length
def MkL(G:Ga)(E:XK)(mk:List W->M W):Prop:=∀{F:Hp} {as:List Addr} {H:Hp} {σ:VS.St} {sl:Sl} {ce:Ce} {Q:VK} {xs:List W} {vs:List V},SR G F as H σ sl ce->Reps F as xs vs->Post G E Rep F as σ sl Q (mk xs ce)->xs.length<=sizeLine/\∀p,H p=none->Q (.ref p) (upd H p (.lst vs))
theorem ze8:MkL G E zb0:=fun S rs P=>zkq S rs P
theorem zkw:MkL G E zfx:=fun S rs P=>zks S rs P
def slT(x:W)(lo hi:Option Int):M W:=fun ce=>match x with
 | .tup xs=>if HT.sIx xs.length 0 lo=0/\HT.sIx xs.length xs.length hi=xs.length then none else zoJ (zkv xs lo hi) ce
 | _=>none
open Classical in
def zs0(mk:List W->M W)(x y:W):M W:=fun ce=>match zdr ce x,zdr ce y with
 | some xs,some ys=>if xs.length+ys.length<=sizeLine then mk (xs++ys) ce else none
 | _,_=>none
def zlA(mk:List W->M W)(a b:Sl->M W):Sl->M W:=fun sl=>bnd (a sl) fun x=>bnd (b sl) fun y=>zs0 mk x y
def zs1:R2:=fun x y H Q=>∃l b xs zs,x=.ref l/\y=.ref b/\Rd H l (.lst xs)/\Rd H b (.lst zs)/\xs.length+zs.length<=sizeLine/\∀p,H p=none->Q (.ref p) (upd H p (.lst (xs++zs)))
theorem Inv.lstR{pins:List (Addr×Obj)}{σ:VS.St}{H:Hp}{s:Shared}{l:Addr}{xs:List V}(I:Inv X pins σ H s)(hH:Rd H l (.lst xs)):xs.length<=sizeLine/\∃(its:List Value) (n:Nat),Vals xs its/\xs.length=its.length/\s.heap.get? l=some { cls:=.type "list",data:=.seq its.toArray n }:=by
 obtain⟨z,its,n,r,e⟩:=hH.ok I.hok
 exact⟨z,its,n,r,r.length,e⟩
theorem zoK:OpR X (binaryOp .Add) zs1:=by
 intro pins s σ H x y v u Q I rx ry h
 obtain⟨l,b,xs,zs,rfl,rfl,hH,hB,hz,q⟩:=h
 cases rx
 cases ry
 obtain⟨z,its,n,r,hl,e⟩:=Inv.lstR I hH
 obtain⟨z2,its2,n2,r2,hl2,e2⟩:=Inv.lstR I hB
 refine PySem.P.add_list e e2 ?_ (by rw[size_toArray,size_toArray];omega)
 have ea:its.toArray++its2.toArray=(its++its2).toArray:=by simp
 rw[ea]
 exact⟨.ref _,_,I.lnew (t':=s.toks) (r.append r2) (by rw[length_append];omega),rfl,q _ I.fresh⟩
theorem zkx{mk:List W->M W}(hm:MkL G E mk)(ha:PE X a (zaz G E da))(hb:PE X b (zaz G E db)):PE X (.BinOp a .Add b pos) (zaz G E (zlA mk da db)):=by
 refine PE.imp (zlK zoK ha hb) fun σ H Q h=>zgP h fun F as sl ce H2 x y wx wy S rx ry P=>?_
 unfold zs0 at P
 split at P
 ·rename_i xs ys h1 h2
  split at P
  ·rename_i hl
   obtain⟨p,vs,rfl,q1,r1⟩:=zci S.st rx h1
   obtain⟨p',us,rfl,q2,r2⟩:=zci S.st ry h2
   exact⟨p,p',vs,us,rfl,rfl,q1,q2,by rw[r1.length,r2.length];exact hl,(hm S (r1.append r2) P).2⟩
  ·exact(show False from P).elim
 ·exact(show False from P).elim
end
end
section
inductive Fl where
 | nx|bk|ct|rt (w:W)
inductive O where
 | go (f:Fl) (sl:Sl) (ce:Ce)|ex (x:Exn) (ce:Ce)
abbrev DS:=Sl->Ce->Option O
def zs2(D:Ends)(F:Hp)(as:List Addr)(σ:VS.St)(H:Hp):Fl->Prop
 | .nx=>D.nx σ H
 | .bk=>D.bk σ H
 | .ct=>D.ct σ H
 | .rt w=>∀v,Rep F as w v->D.rt v H
def PostS(G:Ga)(E:XK)(D:Ends)(F:Hp)(as:List Addr):Option O->Prop
 | some (.go f sl' ce')=>∀σ' H' F' as',Le F as F' as'->SR G F' as' H' σ' sl' ce'->zs2 D F' as' σ' H' f
 | some (.ex x ce')=>∀H' F' as' cv od,Le F as F' as'->Store G F' as' H' ce'->G.xr x cv od H'->E cv od H'
 | none=>False
def toTS(G:Ga)(E:XK)(d:DS):TS:=fun D σ H=>∃F as sl ce,SR G F as H σ sl ce/\PostS G E D F as (d sl ce)
def lft{α:Type}(m:Option (R α))(k:α->Ce->Option O):Option O:=match m with
 | some (.ok a ce')=>k a ce'
 | some (.ex x ce')=>some (.ex x ce')
 | none=>none
section
variable {α β:Type} {G:Ga} {E:XK} {RP:Hp->List Addr->α->β->Prop} {F F':Hp} {as as':List Addr} {H:Hp} {σ:VS.St} {sl:Sl} {ce:Ce} {D D':Ends}
theorem PostS.le{r:Option O}(l:Le F as F' as')(P:PostS G E D F as r):PostS G E D F' as' r:=by
 cases r with
 | none=>exact P
 | some r=>cases r with
  | go f sl' ce'=>exact fun σ' H' F2 as2 l2=>P σ' H' F2 as2 (l.trans l2)
  | ex x ce'=>exact fun H' F2 as2 cv od l2=>P H' F2 as2 cv od (l.trans l2)
theorem zc8{d:Sl->M α}{k:α->Ce->Option O}(S:SR G F as H σ sl ce)(P:PostS G E D F as (lft (d sl ce) k)) :
  toT G E RP d σ H fun b H2=>∃a F' as' ce',Le F as F' as'/\SR G F' as' H2 σ sl ce'/\RP F' as' a b/\PostS G E D F' as' (k a ce'):=by
 refine⟨F,as,sl,ce,S,?_⟩
 revert P
 unfold lft
 cases d sl ce with
 | none=>exact fun P=>P
 | some r=>cases r with
  | ok a ce'=>exact fun P b H' F' as' l S' r=>⟨a,F',as',ce',l,S',r,P.le l⟩
  | ex x ce'=>exact fun P=>P
theorem PostS.nxt(S:SR G F as H σ sl ce)(P:PostS G E D F as (some (.go .nx sl ce))):D.nx σ H:=P σ H F as .refl S
end
def za4:DS:=fun sl ce=>some (.go .nx sl ce)
def ztL:DS:=fun sl ce=>some (.go .ct sl ce)
def zax(a b:DS):DS:=fun sl ce=>match a sl ce with
 | some (.go .nx sl' ce')=>b sl' ce'
 | r=>r
def dEx(d:Sl->M W):DS:=fun sl ce=>lft (d sl ce) fun _ ce'=>some (.go .nx sl ce')
def zbq(d:Sl->M W):DS:=fun sl ce=>lft (d sl ce) fun w ce'=>some (.go (.rt w) sl ce')
def dIf(c:Sl->M Bool)(a b:DS):DS:=fun sl ce=>lft (c sl ce) fun t ce'=>match t with
 | true=>a sl ce'
 | false=>b sl ce'
abbrev DG:=W->Sl->Ce->Option (Sl×Ce)
def gN(i:Nat):DG:=fun w sl ce=>some (sl.set i (some w),ce)
def zil(d:Sl->M W)(g:DG):DS:=fun sl ce=>lft (d sl ce) fun w ce'=>match g w sl ce' with
 | some (sl',ce'')=>some (.go .nx sl' ce'')
 | none=>none
def zaU(i:Nat)(d:Sl->M W):DS:=fun sl ce=>lft (d sl ce) fun w ce'=>some (.go .nx (sl.set i (some w)) ce')
def PGv(G:Ga)(X:Cx)(tg:Expr)(g:DG):Prop:=∃t:TG,PG X tg t/\∀F as H σ sl ce w v sl' ce' (Q:VS.St->Hp->Prop),SR G F as H σ sl ce->Rep F as w v->g w sl ce=some (sl',ce') ->
 (∀σ' H' F' as',Le F as F' as'->SR G F' as' H' σ' sl' ce'->Q σ' H')->t v σ H Q
def zr6(G:Ga)(X:Cx)(tgs:List Expr)(g:List W->Sl->Ce->Option (Sl×Ce)):Prop:=∃t:TGs,PGs X tgs t/\∀F as H σ sl ce ws vs sl' ce' (Q:VS.St->Hp->Prop),SR G F as H σ sl ce->Reps F as ws vs->g ws sl ce=some (sl',ce') ->
 (∀σ' H' F' as',Le F as F' as'->SR G F' as' H' σ' sl' ce'->Q σ' H')->t vs σ H Q
def zoL:List W->Sl->Ce->Option (Sl×Ce):=fun ws sl ce=>match ws with
 | []=>some (sl,ce)
 | _=>none
def zfy(g:DG)(r:List W->Sl->Ce->Option (Sl×Ce)):List W->Sl->Ce->Option (Sl×Ce):=fun ws sl ce=>match ws with
 | w::ws=>match g w sl ce with
  | some (sl',ce')=>r ws sl' ce'
  | none=>none
 | []=>none
def gT(n:Nat)(r:List W->Sl->Ce->Option (Sl×Ce)):DG:=fun w sl ce=>match w with
 | .tup ws=>if ws.length=n then r ws sl ce else none
 | _=>none
section
variable {X:Cx} {G:Ga} {E:XK} {st:Stmt} {rest:List Stmt} {a b:DS} {e tg:Expr} {d da db dc:Sl->M W} {c:Sl->M Bool} {g:DG} {pos:Pos}
theorem zaL:PSs X [] (toTS G E za4):=PSs.imp zn5 fun D σ H zz_=>el6 zz_ fun F as sl ce S P=>P.nxt S
theorem zhI:PS X (.Continue pos) (toTS G E ztL):=PS.imp zhx fun D σ H zz_=>el6 zz_ fun F as sl ce S P=>P σ H F as .refl S
theorem zal(h:PS X st (toTS G E a)):PSs X [st] (toTS G E a):=zn6 h
theorem zah(h1:PS X st (toTS G E a))(h2:PSs X rest (toTS G E b)):PSs X (st::rest) (toTS G E (zax a b)):=by
 refine PSs.imp (zlG h1 h2) fun D σ H zz_=>el6 zz_ fun F as sl ce S P=>⟨F,as,sl,ce,S,?_⟩
 revert P
 unfold zax
 cases a sl ce with
 | none=>exact fun P=>P.elim
 | some r=>cases r with
  | ex x ce'=>exact fun P=>P
  | go f sl' ce'=>cases f with
   | nx=>exact fun P σ' H' F' as' l S'=>⟨F',as',sl',ce',S',P.le l⟩
   | bk=>exact fun P=>P
   | ct=>exact fun P=>P
   | rt w=>exact fun P=>P
theorem zbx(he:PE X e (zaz G E d))(hs:swapsWith e none pos.line X.env=pure false:=by rfl):PS X (.Expr e pos) (toTS G E (dEx d)) :=
 PS.imp (zn7 he hs) fun D σ H zz_=>el6 zz_ fun F as sl ce S P=>(zc8 S P).mono fun x H1 zz_=>el8 zz_ fun wx F1 as1 ce1 l1 S1 rx P1=>P1.nxt S1
theorem zaC(he:PE X e (zaz G E d)):PS X (.Return (some e) pos) (toTS G E (zbq d)) :=
 PS.imp (zpX he) fun D σ H zz_=>el6 zz_ fun F as sl ce S P=>(zc8 S P).mono fun x H1 zz_=>el8 zz_ fun wx F1 as1 ce1 l1 S1 rx P1=>P1 σ H1 F1 as1 .refl S1 x rx
theorem zbw{t:Expr}{sa sb:List Stmt}(hc:PT X t (zco G E c))(ha:PSs X sa (toTS G E a))(hb:PSs X sb (toTS G E b)):PS X (.If t sa sb pos) (toTS G E (dIf c a b)):=by
 refine PS.imp (zso hc ha hb) fun D σ H zz_=>el6 zz_ fun F as sl ce S P=>(zc8 (RP:=rB) S P).mono fun x H1 zz_=>el8 zz_ fun wx F1 as1 ce1 l1 S1 rx P1=>?_
 have rx:wx=x:=rx
 subst rx
 cases wx
 ·rw[if_neg Bool.false_ne_true];exact⟨F1,as1,sl,ce1,S1,P1⟩
 ·rw[if_pos rfl];exact⟨F1,as1,sl,ce1,S1,P1⟩
theorem zas{i:Nat}{x:Str}{pos':Pos}(hN:X.N.Nodup)(hi:X.N[i]?=some x)(hx:Loc X.env.scope x)(he:PE X e (zaz G E d))(hs:swapsWith e (some (.Name x pos')) pos.line X.env=pure false:=by rfl)(hf:X.fn x=true\/X.env.scope.names.lookup x=some .local:=by first|exact .inl rfl|exact .inr rfl|assumption):PS X (.Assign [.Name x pos'] e pos) (toTS G E (zaU i d)) :=
 PS.imp (zp1 hN hi hx he hs hf) fun D σ H zz_=>el6 zz_ fun F as sl ce S P=>(zc8 S P).mono fun x H1 zz_=>el8 zz_ fun wx F1 as1 ce1 l1 S1 rx P1=>P1 _ H1 F1 as1 .refl (S1.put rx i)
theorem zaS{i:Nat}{x:Str}(hN:X.N.Nodup)(hi:X.N[i]?=some x)(hx:Loc X.env.scope x)(hf:X.fn x=true\/X.env.scope.names.lookup x=some .local:=by first|exact .inl rfl|exact .inr rfl|assumption):PGv G X (.Name x pos) (gN i) :=
 ⟨gName i,zhy hN hi hx hf,fun F as H σ sl ce w v sl' ce' Q S r e k=>by
  cases e
  exact k _ _ _ _ .refl (S.put r i)⟩
theorem zoM:zr6 G X [] zoL:=⟨_,zn8,fun F as H σ sl ce ws vs sl' ce' Q S r e k=>by
 cases ws with
 | nil=>cases e;simp only[Reps] at r;exact⟨r,k _ _ _ _ .refl S⟩
 | cons w ws=>cases e⟩
theorem zim{es:List Expr}{r:List W->Sl->Ce->Option (Sl×Ce)}(h1:PGv G X e g)(h2:zr6 G X es r)(hs:(assignEach (e::es) X.env).map (·.2)=assign e X.env::(assignEach es X.env).map (·.2):=by rfl):zr6 G X (e::es) (zfy g r):=by
 obtain⟨t,h1,q1⟩:=h1
 obtain⟨u,h2,q2⟩:=h2
 refine⟨_,zlH h1 h2 hs,fun F as H σ sl ce ws vs sl' ce' Q S rs e k=>?_⟩
 cases ws with
 | nil=>cases e
 | cons w ws =>
  simp only[Reps] at rs
  obtain⟨v,vs',rfl,rv,rs⟩:=rs
  simp only[zfy] at e
  split at e
  ·rename_i sl1 ce1 eg
   refine⟨v,vs',rfl,q1 F as H σ sl ce w v sl1 ce1 _ S rv eg fun σ' H' F' as' l S'=>?_⟩
   exact q2 F' as' H' σ' sl1 ce1 ws vs' sl' ce' Q S' (rs.le l) e fun σ2 H2 F2 as2 l2 S2=>k _ _ _ _ (l.trans l2) S2
  ·cases e
theorem zqG{es:List Expr}{k n:Nat}{r:List W->Sl->Ce->Option (Sl×Ce)}(hc:X.calm=true)(h:zr6 G X es r)(hn:(assignEach es X.env).length=n:=by rfl)(hst:(assignEach es X.env).findIdx? (·.1)=none:=by rfl):PGv G X (.Tuple es k pos) (gT n r):=by
 obtain⟨t,h,q⟩:=h
 refine⟨_,zpY hc h hn hst,fun F as H σ sl ce w v sl' ce' Q S rw' e k=>?_⟩
 cases w<;>simp only[gT,reduceCtorEq] at e
 split at e
 ·rename_i ws hl
  simp only[Rep] at rw'
  obtain⟨a,vs,rfl,ha,rs⟩:=rw'
  exact⟨a,vs,rfl,.inl (.inl (S.st.sub _ _ ha)),by rw[rs.length];exact hl,q F as H σ sl ce _ vs sl' ce' Q S rs e k⟩
 ·cases e
theorem zeH(he:PE X e (zaz G E d))(hg:PGv G X tg g)(hs:swapsWithSole [tg] e pos.line X.env=pure false:=by rfl)(hw:swappedStores [tg] e X.env=pure none:=by rfl)(h1:(assignEach [tg] X.env).map (·.2)=[assign tg X.env]:=by rfl):PS X (.Assign [tg] e pos) (toTS G E (zil d g)):=by
 obtain⟨t,hg,q⟩:=hg
 refine PS.imp (zp0 he hg hs hw h1) fun D σ H zz_=>el6 zz_ fun F as sl ce S P=>(zc8 S P).mono fun x H1 zz_=>el8 zz_ fun wx F1 as1 ce1 l1 S1 rx P1=>?_
 split at P1
 ·rename_i sl' ce'' eg
  exact q F1 as1 H1 σ sl ce1 wx x sl' ce'' _ S1 rx eg fun σ' H' F' as' l S'=>P1 σ' H' F' as' l S'
 ·exact(show False from P1).elim
def zky(ce:Ce):W->Option (Nat×List W)
 | .cel k=>match ce[k]? with
  | some (.lst xs)=>some (k,xs)
  | _=>none
 | _=>none
def zni(ce:Ce):W->Option (Nat×List (Key×W))
 | .cel k=>match ce[k]? with
  | some (.dct xs)=>some (k,xs)
  | _=>none
 | _=>none
theorem zds{F:Hp}{as:List Addr}{H:Hp}{ce:Ce}{w:W}{v:V}{k:Nat}{xs:List W}(S:Store G F as H ce)(r:Rep F as w v)(e:zky ce w=some (k,xs)):∃a vs,v=.ref a/\as[k]?=some a/\H a=some (.lst vs)/\Reps F as xs vs:=by
 cases w<;>simp only[zky,reduceCtorEq] at e
 split at e
 ·rename_i hc
  cases e
  simp only[Rep] at r
  obtain⟨a,rfl,h⟩:=r
  obtain⟨_,vs,h2,rs⟩:=S.cell _ _ _ h hc
  exact⟨a,vs,rfl,h,h2,rs⟩
 ·cases e
theorem zl8{F:Hp}{as:List Addr}{H:Hp}{ce:Ce}{w:W}{v:V}{k:Nat}{xs:List (Key×W)}(S:Store G F as H ce)(r:Rep F as w v)(e:zni ce w=some (k,xs)):∃a ps,v=.ref a/\as[k]?=some a/\H a=some (.dK ps)/\RepKV F as xs ps:=by
 cases w<;>simp only[zni,reduceCtorEq] at e
 split at e
 ·rename_i hc
  cases e
  simp only[Rep] at r
  obtain⟨a,rfl,h⟩:=r
  obtain⟨_,ps,h2,rs⟩:=S.cell _ _ _ h hc
  exact⟨a,ps,rfl,h,h2,rs⟩
 ·cases e
def zeg(o i:Sl->M W):DG:=fun w sl ce=>match o sl ce with
 | some (.ok ow ce1)=>match i sl ce1 with
  | some (.ok (.int j) ce2)=>match zky ce2 ow with
   | some (k,xs)=>match ixN xs.length j with
    | some n=>some (sl,ce2.set k (.lst (xs.set n w)))
    | none=>none
   | none=>none
  | _=>none
 | _=>none
theorem zdU{o i:Expr}(ho:PE X o (zaz G E da))(hi:PE X i (zaz G E db))(hA:∀v,assign (.Subscript o i pos) X.env v=(do
   let ov <- holding [v] (eval o X.env)
   let iv <- holding [v,ov] (eval i X.env)
   standAt pos
   holding [v,ov,iv] (setItem ov iv v)
   release [v,ov,iv] []):=by intro _;rfl):PGv G X (.Subscript o i pos) (zeg da db):=by
 refine⟨_,zpZ ho hi zlU hA,fun F as H σ sl ce w v sl' ce' Q S rw' e k=>?_⟩
 unfold zeg at e
 refine⟨F,as,sl,ce,S,?_⟩
 cases e1:da sl ce with
 | none=>rw[e1] at e;cases e
 | some r1=>cases r1 with
  | ex x c=>rw[e1] at e;cases e
  | ok ow ce1 =>
   rw[e1] at e
   intro ov H1 F1 as1 l1 S1 ro
   refine⟨F1,as1,sl,ce1,S1,?_⟩
   dsimp only at e
   cases e2:db sl ce1 with
   | none=>rw[e2] at e;cases e
   | some r2=>cases r2 with
    | ex x c=>rw[e2] at e;cases e
    | ok iw ce2 =>
     rw[e2] at e
     intro iv H2 F2 as2 l2 S2 ri
     cases iw<;>simp only[reduceCtorEq] at e
     rename_i j
     split at e
     ·rename_i kk xs hk
      split at e
      ·rename_i n hn
       cases e
       simp only[Rep] at ri
       subst ri
       obtain⟨a,vs,rfl,ha,hH,rs⟩:=zds S2.st (ro.le l2) hk
       have rset:=rs.set n ((rw'.le l1).le l2)
       refine⟨a,vs,j,n,rfl,rfl,hH,by rw[rs.length];exact hn,?_⟩
       exact k _ _ _ _ (l1.trans l2) (S2.slots (S2.st.write (o:=.lst (vs.set n v)) (c:=.lst (xs.set n w)) ha ⟨_,zaK,rset⟩) .refl)
      ·cases e
     ·cases e
open Classical in
def znj(o i v:Sl->M W):DS:=fun sl ce=>lft (v sl ce) fun w ce1=>lft (o sl ce1) fun ow ce2=>lft (i sl ce2) fun iw ce3=>match zjE iw,zni ce3 ow with
 | some key,some (k,kvs)=>if kvs.length<sizeLine then some (.go .nx sl (ce3.set k (.dct (zjh kvs key w)))) else none
 | _,_=>none
theorem zkz{o i value:Expr}{pos':Pos}(hu:X.A.units+1<cLine)(ho:PE X o (zaz G E da))(hi:PE X i (zaz G E db))(hv:PE X value (zaz G E dc))(hs:swapsWith value (some (.Subscript o i pos')) pos.line X.env=pure false:=by rfl) :
  PS X (.Assign [.Subscript o i pos'] value pos) (toTS G E (znj da db dc)):=by
 refine PS.imp (zou hu ho hi hv hs) fun D σ H zz_=>el6 zz_ fun F as sl ce S P=>(zc8 S P).mono fun x H1 zz_=>el8 zz_ fun wx F1 as1 ce1 l1 S1 rx P1=>(zc8 S1 P1).mono fun y H2 zz_=>el8 zz_ fun wy F2 as2 ce2 l2 S2 ry P2=>(zc8 S2 P2).mono fun z H3 zz_=>el8 zz_ fun wz F3 as3 ce3 l3 S3 rz P3=>?_
 split at P3
 ·rename_i key kk kvs hk hc
  split at P3
  ·rename_i hl
   obtain⟨a,ps,rfl,ha,hH,rk⟩:=zl8 S3.st (ry.le l3) hc
   rw[zhH rz hk]
   have rput:=rk.put key ((rx.le l2).le l3)
   refine⟨a,_,rfl,DPut.k hH (by rw[<- rk.length];exact hl),?_⟩
   exact P3 _ _ _ _ .refl (S3.slots (S3.st.write (o:=.dK (zgx ps key x)) (c:=.dct (zjh kvs key wx)) ha ⟨_,zaK,rput⟩) .refl)
  ·exact(show False from P3).elim
 ·exact(show False from P3).elim
end
end
section
inductive Src where
 | lst (xs:List W)|tup (xs:List W)|cell (k:Nat) (xs:List W)|rng (lo:Int) (n:Nat)|dky (xs:List W)
def kW:Key->W
 | .inl i=>.int i
 | .inr x=>.str x
def Src.items:Src->List W
 | .lst xs=>xs
 | .tup xs=>xs
 | .cell _ xs=>xs
 | .rng lo n=>(List.range n).map fun(i:Nat)=>W.int (lo+(i:Int))
 | .dky xs=>xs
def Src.Stays(ce:Ce):Src->Prop
 | .cell k xs=>ce[k]?=some (.lst xs)
 | _=>True
def IRep(K:PySem.W.Frag)(F:Hp)(as:List Addr):Src->It->Prop
 | .lst xs,J=>∃a vs,J=Itl K a/\Rd F a (.lst vs)/\Reps F as xs vs
 | .tup xs,J=>∃a vs,J=Itt K a/\Rd F a (.tup vs)/\Reps F as xs vs
 | .cell k _,J=>∃a,J=Itl K a/\as[k]?=some a
 | .rng lo n,J=>J=Itr lo n
 | .dky xs,J=>∃a o ps,J=Itd a o ps/\F a=some (.frz o (.dK ps))/\xs=ps.map fun p=>kW p.1
theorem IRep.le{K:PySem.W.Frag}{F F':Hp}{as as':List Addr}{s:Src}{J:It}(l:Le F as F' as')(h:IRep K F as s J):IRep K F' as' s J:=by
 cases s with
 | lst xs=>obtain⟨a,vs,e,h,r⟩:=h;exact⟨a,vs,e,l.rd h,r.le l⟩
 | tup xs=>obtain⟨a,vs,e,h,r⟩:=h;exact⟨a,vs,e,l.rd h,r.le l⟩
 | cell k xs=>obtain⟨a,e,h⟩:=h;exact⟨a,e,l.c _ _ h⟩
 | rng lo n=>exact h
 | dky xs=>obtain⟨a,o,ps,e,h,q⟩:=h;exact⟨a,o,ps,e,l.f _ _ h,q⟩
theorem IRep.turn{G:Ga}{K:PySem.W.Frag}{F:Hp}{as:List Addr}{H:Hp}{ce:Ce}{s:Src}{J:It}(S:Store G F as H ce)(h:IRep K F as s J)(hs:s.Stays ce)(i:Nat) :
  (i<s.items.length->J.go i H/\∀x H',J.yld i H x H'->H'=H/\∃w,s.items[i]?=some w/\Rep F as w x)/\(i=s.items.length->J.stop i H):=by
 have lst:∀{a:Addr} {vs:List V} {xs:List W},SqL K H a vs->Reps F as xs vs->(i<xs.length->(Itl K a).go i H/\∀x H',(Itl K a).yld i H x H'->H'=H/\∃w,xs[i]?=some w/\Rep F as w x)/\(i=xs.length->(Itl K a).stop i H):=by
  intro a vs xs hq rs
  have hl:=rs.length
  refine⟨fun hi=>⟨⟨vs,vs[i]'(by omega),hq,by simp⟩,fun x H' y=>?_⟩,fun hi=>⟨vs,hq,by omega⟩⟩
  obtain⟨e,y⟩:=y
  exact⟨e,rs.get' (y vs hq)⟩
 cases s with
 | lst xs=>obtain⟨a,vs,rfl,h,r⟩:=h;exact lst (.inl (Rd.sub S h)) r
 | cell k xs =>
  obtain⟨a,rfl,h⟩:=h
  obtain⟨_,vs,h2,rs⟩:=S.cell _ _ _ h hs
  exact lst (.inl (.inl h2)) rs
 | tup xs =>
  obtain⟨a,vs,rfl,h,rs⟩:=h
  have hq:SqT K H a vs:=.inl (Rd.sub S h)
  have hl:=rs.length
  refine⟨fun hi=>⟨⟨vs,vs[i]'(by show i<_;simp only[Src.items] at hi;omega),hq,by simp⟩,fun x H' y=>?_⟩,fun hi=>⟨vs,hq,by simp only[Src.items] at hi;omega⟩⟩
  obtain⟨e,y⟩:=y
  exact⟨e,rs.get' (y vs hq)⟩
 | rng lo n =>
  cases h
  have hl:(Src.rng lo n).items.length=n:=by simp[Src.items]
  rw[hl]
  refine⟨fun hi=>⟨hi,fun x H' y=>?_⟩,fun hi=>by rw[hi];exact le_refl _⟩
  obtain⟨e,rfl⟩:=y
  refine⟨e,.int (lo+i),?_,by simp only[Rep]⟩
  simp[Src.items,hi]
 | dky xs =>
  obtain⟨a,o,ps,rfl,h,rfl⟩:=h
  have hH:=S.sub _ _ h
  have hl:(Src.dky (ps.map fun p=>kW p.1)).items.length=ps.length:=by simp[Src.items]
  rw[hl]
  refine⟨fun hi=>⟨⟨hH,hi⟩,fun x H' y=>?_⟩,fun hi=>⟨hH,hi.symm⟩⟩
  obtain⟨e,p,hp,rfl⟩:=y
  refine⟨e,kW p.1,by simp only[Src.items,getElem?_map,hp,map_some],?_⟩
  cases p.1<;>simp only[kW,kV,Rep]
abbrev zoN(G:Ga)(E:XK)(K:PySem.W.Frag)(d:Sl->M Src):TI:=toT G E (IRep K) d
theorem PI.imp{X:Cx}{tg e:Expr}{t t':TI}(h:PI X tg e t)(q:∀σ H R,t' σ H R->t σ H R):PI X tg e t':=fun pins s σ H Q I z=>h pins s σ H Q I (q _ _ _ z)
def zin(ce:Ce):W->Option Src
 | .lst xs=>some (.lst xs)
 | .cel k=>match ce[k]? with
  | some (.lst xs)=>some (.cell k xs)
  | _=>none
 | _=>none
def zs3:W->Option Src
 | .tup xs=>some (.tup xs)
 | _=>none
def dIL(d:Sl->M W):Sl->M Src:=fun sl=>bnd (d sl) fun w=>look fun ce=>zin ce w
def dIT(d:Sl->M W):Sl->M Src:=fun sl=>bnd (d sl) fun w=>look fun _=>zs3 w
open Classical in
def zjF:List W->Option Src
 | [.int j]=>@ite _ (-4611686018427387904<=j/\j<4611686018427387904) (Classical.propDecidable _) (some (.rng 0 j.toNat)) none
 | _=>none
def zgy(d:Sl->M (List W)):Sl->M Src:=fun sl=>bnd (d sl) fun ws=>look fun _=>zjF ws
section
variable {X:Cx} {G:Ga} {E:XK} {tg a b:Expr} {da:Sl->M W} {dr:Sl->M (List W)} {p pos:Pos}
theorem zgU(hl:PE X a (zaz G E da)):PI X tg a (zoN G E X.K (dIL da)):=by
 refine PI.imp (zoa hl) fun σ H R zz_=>el6 zz_ fun F as sl ce S P=>(step S P).mono fun x H1 zz_=>el8 zz_ fun wx F1 as1 ce1 l1 S1 rx P1=>?_
 obtain⟨src,e,P2⟩:=zbX P1
 cases wx<;>simp only[zin,reduceCtorEq,Option.some.injEq] at e
 ·subst e
  simp only[Rep] at rx
  obtain⟨a,vs,rfl,h,rs⟩:=rx
  exact⟨a,rfl,⟨vs,.inl (Rd.sub S1.st h)⟩,Post.done (RP:=IRep X.K) S1 P2 ⟨a,vs,rfl,h,rs⟩⟩
 ·split at e
  ·rename_i hc
   cases e
   simp only[Rep] at rx
   obtain⟨a,rfl,h⟩:=rx
   obtain⟨_,vs,h2,rs⟩:=S1.st.cell _ _ _ h hc
   exact⟨a,rfl,⟨vs,.inl (.inl h2)⟩,Post.done (RP:=IRep X.K) S1 P2 ⟨a,rfl,h⟩⟩
  ·cases e
theorem zlB(hl:PE X a (zaz G E da)):PI X tg a (zoN G E X.K (dIT da)):=by
 refine PI.imp (zp3 hl) fun σ H R zz_=>el6 zz_ fun F as sl ce S P=>(step S P).mono fun x H1 zz_=>el8 zz_ fun wx F1 as1 ce1 l1 S1 rx P1=>?_
 obtain⟨src,e,P2⟩:=zbX P1
 cases wx<;>simp only[zs3,reduceCtorEq,Option.some.injEq] at e
 subst e
 simp only[Rep] at rx
 obtain⟨a,vs,rfl,h,rs⟩:=rx
 exact⟨a,rfl,⟨vs,.inl (.inl (S1.st.sub _ _ h))⟩,Post.done (RP:=IRep X.K) S1 P2 ⟨a,vs,rfl,.inl h,rs⟩⟩
theorem zdV(hg:Gl X "range")(hm:X.mg "range" = none)(ha:PA X [a] (zfv G E dr))(hs:starEach [a] X.env=[(false,eval a X.env)]:=by rfl):PI X tg (.Call (.Name "range" p) [a] [] pos) (zoN G E X.K (zgy dr)):=by
 refine PI.imp (zjM hg hm ha hs) fun σ H R zz_=>el6 zz_ fun F as sl ce S P=>(step (RP:=Reps) S P).mono fun x H1 zz_=>el8 zz_ fun wx F1 as1 ce1 l1 S1 rx P1=>?_
 obtain⟨src,e,P2⟩:=zbX P1
 unfold zjF at e
 split at e
 ·rename_i j
  split at e
  ·rename_i hj
   cases e
   simp only[Reps,Rep] at rx
   obtain⟨v,r,rfl,rfl,rfl⟩:=rx
   exact⟨j,rfl,by omega,by omega,Post.done (RP:=IRep X.K) S1 P2 rfl⟩
  ·cases e
 ·cases e
end
open Classical in
def zfV(s:Src)(g:DG)(body:DS):List W->DS
 | []=>fun sl ce=>if s.Stays ce then some (.go .nx sl ce) else none
 | x::r=>fun sl ce=>if s.Stays ce then (match g x sl ce with
  | some (sl1,ce1)=>match body sl1 ce1 with
   | some (.go .nx sl2 ce2)=>zfV s g body r sl2 ce2
   | some (.go .ct sl2 ce2)=>zfV s g body r sl2 ce2
   | some (.go .bk sl2 ce2)=>some (.go .nx sl2 ce2)
   | o=>o
  | none=>none) else none
def zde(i:Sl->M Src)(g:DG)(body:DS):DS:=fun sl ce=>lft (i sl ce) fun s ce'=>zfV s g body s.items sl ce'
def zcF(c:Sl->M Bool)(body:DS):Nat->DS
 | 0=>fun _ _=>none
 | n+1=>fun sl ce=>lft (c sl ce) fun t ce1=>match t with
  | false=>some (.go .nx sl ce1)
  | true=>match body sl ce1 with
   | some (.go .nx sl2 ce2)=>zcF c body n sl2 ce2
   | some (.go .ct sl2 ce2)=>zcF c body n sl2 ce2
   | some (.go .bk sl2 ce2)=>some (.go .nx sl2 ce2)
   | o=>o
section
variable {X:Cx} {G:Ga} {E:XK} {tg iter t:Expr} {body:List Stmt} {di:Sl->M Src} {g:DG} {b:DS} {c:Sl->M Bool} {pos:Pos}
theorem zgV{D:Ends}{F:Hp}{as:List Addr}{N:VS.St->Hp->Prop}{k:DS}{r:Option O}(P:PostS G E D F as (match r with
   | some (.go .nx sl2 ce2)=>k sl2 ce2
   | some (.go .ct sl2 ce2)=>k sl2 ce2
   | some (.go .bk sl2 ce2)=>some (.go .nx sl2 ce2)
   | o=>o))(hN:∀σ H F' as' sl ce,Le F as F' as'->SR G F' as' H σ sl ce->PostS G E D F' as' (k sl ce)->N σ H):PostS G E { D with nx:=N,ct:=N,bk:=D.nx } F as r:=by
 cases r with
 | none=>exact P
 | some r=>cases r with
  | ex x ce'=>exact P
  | go f sl' ce'=>cases f with
   | nx=>exact fun σ' H' F' as' l S'=>hN σ' H' F' as' sl' ce' l S' (P.le l)
   | ct=>exact fun σ' H' F' as' l S'=>hN σ' H' F' as' sl' ce' l S' (P.le l)
   | bk=>exact fun σ' H' F' as' l S'=>P σ' H' F' as' l S'
   | rt w=>exact fun σ' H' F' as' l S'=>P σ' H' F' as' l S'
theorem zbi(hp:PassesOwn (model X.prog X.w) X.A X.env X.xe)(hc:X.calm=true)(hi:PI X tg iter (zoN G E X.K di))(hg:PGv G X tg g)(hb:PSs X body (toTS G E b))(hs:∀x,foldedSetIterable iter X.env x=pure x:=by intro _;rfl):PS X (.For tg iter body [] pos) (toTS G E (zde di g b)):=by
 obtain⟨tgt,hg,qg⟩:=hg
 refine PS.imp (zp4 hp hc hi hg hb hs) fun D σ H zz_=>el6 zz_ fun F as sl ce S P=>(zc8 (RP:=IRep X.K) S P).mono fun J H1 zz_=>el8 zz_ fun s F1 as1 ce1 l1 S1 rJ P1=>?_
 refine⟨fun i m σ H=>∃F as sl ce,SR G F as H σ sl ce/\IRep X.K F as s J/\m=s.items.length-i/\i<=s.items.length/\PostS G E D F as (zfV s g b (s.items.drop i) sl ce),⟨s.items.length,F1,as1,sl,ce1,S1,rJ,rfl,zero_le _,P1⟩,?_⟩
 rintro i m σ H ⟨F,as,sl,ce,S,rJ,rfl,hi,P⟩
 by_cases hlt:i<s.items.length
 ·rw[drop_eq_getElem_cons hlt] at P
  simp only[zfV] at P
  split at P
  ·rename_i hst
   obtain⟨t1,t2⟩:=rJ.turn S.st hst i
   obtain⟨go,yl⟩:=t1 hlt
   refine .inr ⟨go,_,fun σ' H' h=>h,fun x H' y=>?_⟩
   obtain⟨rfl,w,hw,rw'⟩:=yl x H' y
   rw[getElem?_eq_getElem hlt] at hw
   cases hw
   split at P
   ·rename_i sl1 ce1 eg
    refine qg F as H' σ sl ce _ x sl1 ce1 _ S rw' eg fun σ' H2 F' as' l S'=>⟨F',as',sl1,ce1,S',?_⟩
    refine zgV (P.le l) fun σ3 H3 F3 as3 sl3 ce3 l3 S3 P3=>?_
    exact⟨s.items.length-(i+1),by omega,F3,as3,sl3,ce3,S3,rJ.le (l.trans l3),rfl,hlt,P3⟩
   ·exact(show False from P).elim
  ·exact(show False from P).elim
 ·have e:i=s.items.length:=by omega
  subst e
  rw[drop_length] at P
  simp only[zfV] at P
  split at P
  ·rename_i hst
   exact .inl ⟨(rJ.turn S.st hst _).2 rfl,P.nxt S⟩
  ·exact(show False from P).elim
theorem zio(n:Nat)(hp:PassesOwn (model X.prog X.w) X.A X.env X.xe)(hc:PT X t (zco G E c))(hb:PSs X body (toTS G E b)):PS X (.While t body [] pos) (toTS G E (zcF c b n)):=by
 refine PS.imp (zlI hp hc hb) fun D σ H zz_=>el6 zz_ fun F as sl ce S P=>?_
 refine⟨fun m σ H=>∃F as sl ce,SR G F as H σ sl ce/\PostS G E D F as (zcF c b m sl ce),⟨n,F,as,sl,ce,S,P⟩,?_⟩
 rintro m σ H ⟨F,as,sl,ce,S,P⟩
 cases m with
 | zero=>exact(show False from P).elim
 | succ m =>
  refine(zc8 (RP:=rB) S P).mono fun x H1 zz_=>el8 zz_ fun wx F1 as1 ce1 l1 S1 rx P1=>?_
  have rx:wx=x:=rx
  subst rx
  cases wx
  ·rw[if_neg Bool.false_ne_true];exact P1.nxt S1
  ·rw[if_pos rfl]
   refine⟨fun σ' H'=>∃F as sl ce,SR G F as H' σ' sl ce/\PostS G E D F as (zcF c b m sl ce),fun σ' H' h=>⟨m,lt_succ_self _,h⟩,F1,as1,sl,ce1,S1,?_⟩
   exact zgV P1 fun σ3 H3 F3 as3 sl3 ce3 l3 S3 P3=>⟨F3,as3,sl3,ce3,S3,P3⟩
end
def zdR(js:List Nat)(sl:Sl):Sl:=js.map fun j=>sl.getD j none
open Classical in
def lcL(s:Src)(cs:Sl)(c:Sl->M Bool)(e:Sl->M W):List W->List W->M (List W)
 | [],ys=>fun ce=>if s.Stays ce then some (.ok ys ce) else none
 | x::r,ys=>fun ce=>if s.Stays ce/\ys.length<sizeLine then bnd (c (some x::cs)) (fun t=>match t with
   | true=>bnd (e (some x::cs)) fun y=>lcL s cs c e r (ys++[y])
   | false=>lcL s cs c e r ys) ce else none
def dLC(mk:List W->M W)(js:List Nat)(i:Sl->M Src)(c:Sl->M Bool)(e:Sl->M W):Sl->M W:=fun sl=>bnd (i sl) fun s=>bnd (lcL s (zdR js sl) c e s.items []) mk
def zd4:Sl->M Bool:=fun _=>ret true
section
variable {X:Cx} {G:Ga} {E:XK} {elt iter:Expr} {x:Str} {px pos:Pos} {ifs:List Expr} {scope:Scope} {js:List Nat} {caps:List Str} {di:Sl->M Src} {c:Sl->M Bool} {e:Sl->M W} {mk:List W->M W}
theorem PIfs.imp{Y:Cx}{ifs:List Expr}{t t':TT}(h:PIfs Y ifs t)(q:∀σ H Q,t' σ H Q->t σ H Q):PIfs Y ifs t':=fun pins s σ H Q I z=>h pins s σ H Q I (q _ _ _ z)
theorem zbF{Y:Cx}:PIfs Y [] (zco G E zd4):=PIfs.imp zlX fun σ H Q zz_=>el6 zz_ fun F as sl ce S P=>Post.done (RP:=rB) S (a:=true) P rfl
theorem zcd{Y:Cx}{t:Expr}(h:PT Y t (zco G E c)):PIfs Y [t] (zco G E c):=zlY h
theorem SR.cap{F:Hp}{as:List Addr}{H:Hp}{σ:VS.St}{sl:Sl}{ce:Ce}(S:SR G F as H σ sl ce)(js:List Nat){w:W}{v:V}(r:Rep F as w v):SR G F as H (some v::zi9 js σ) (some w::zdR js sl) ce:=by
 refine⟨S.st,by simp[zi9,zdR],fun i u h=>?_⟩
 cases i with
 | zero=>simp at h;subst h;exact⟨v,rfl,r⟩
 | succ i =>
  simp only[zdR,getElem?_cons_succ,getElem?_map] at h
  cases e:js[i]? with
  | none=>rw[e] at h;cases h
  | some j =>
   rw[e] at h
   have hj:sl[j]?=some (some u):=by
    have h':sl.getD j none=some u:=by simpa using h
    rw[getD_eq_getElem?_getD] at h'
    cases q:sl[j]? with
    | none=>rw[q] at h';cases h'
    | some z=>rw[q] at h';simp at h';rw[h']
   obtain⟨v',h1,h2⟩:=S.slot j u hj
   refine⟨v',?_,h2⟩
   simp only[zi9,getElem?_cons_succ,getElem?_map,e,map_some,getD_eq_getElem?_getD,h1,getD_some]
theorem zqH{α β γ δ:Type}{RP:Hp->List Addr->α->β->Prop}{RQ:Hp->List Addr->γ->δ->Prop}{F:Hp}{as:List Addr}{H:Hp}{σ σ':VS.St}{sl sl':Sl}{ce:Ce}{d:Sl->M α}{f:α->M γ}{Q:δ->Hp->Prop}(S:SR G F as H σ sl ce)(S':SR G F as H σ' sl' ce)(P:Post G E RQ F as σ sl Q (bnd (d sl') f ce)) :
  toT G E RP d σ' H fun b H2=>∃a F' as' ce',Le F as F' as'/\SR G F' as' H2 σ sl ce'/\SR G F' as' H2 σ' sl' ce'/\RP F' as' a b/\Post G E RQ F' as' σ sl Q (f a ce'):=by
 refine⟨F,as,sl',ce,S',?_⟩
 revert P
 unfold bnd
 cases d sl' ce with
 | none=>exact fun P=>P
 | some r=>cases r with
  | ok a ce'=>exact fun P b H' F' as' l S2 r=>⟨a,F',as',ce',l,S.slots S2.st l,S2,r,P.le l⟩
  | ex x ce'=>exact fun P=>P
theorem zgW{α β γ:Type}(m:M α)(f:α->M β)(g:β->M γ):bnd (bnd m f) g=bnd m fun a=>bnd (f a) g:=by
 funext ce
 unfold bnd
 cases m ce with
 | none=>rfl
 | some r=>cases r<;>rfl
theorem zkA{α β:Type}{m m':M α}{g:α->M β}{ce:Ce}(h:m ce=m' ce):bnd m g ce=bnd m' g ce:=by simp only[bnd,h]
theorem zfW{s:Src}{cs:Sl}{c:Sl->M Bool}{e:Sl->M W}{x:W}{r ys:List W}{ce:Ce}(h:s.Stays ce/\ys.length<sizeLine):lcL s cs c e (x::r) ys ce=bnd (c (some x::cs)) (fun t=>match t with
   | true=>bnd (e (some x::cs)) fun y=>lcL s cs c e r (ys++[y])
   | false=>lcL s cs c e r ys) ce:=by simp only[lcL,if_pos h]
theorem zqI{s:Src}{cs:Sl}{c:Sl->M Bool}{e:Sl->M W}{x:W}{r ys:List W}{ce:Ce}(h:¬(s.Stays ce/\ys.length<sizeLine)):lcL s cs c e (x::r) ys ce=none:=by simp only[lcL,if_neg h]
theorem znk(hm:MkL G E mk)(σ:L2.St)(H:Hp)(Q:VK)(h:zaz G E (dLC mk js di c e) σ H Q):tLC js (zoN G E X.K di) (zco G E c) (zaz G E e) σ H Q:=by
 obtain⟨F,as,sl,ce,S,P⟩:=h
 refine(step (RP:=IRep X.K) S P).mono fun J H1 zz_=>el8 zz_ fun s F1 as1 ce1 l1 S1 rJ P1=>?_
 refine⟨fun i m ys H=>∃F as ce ws,SR G F as H σ sl ce/\IRep X.K F as s J/\m=s.items.length-i/\i<=s.items.length/\Reps F as ws ys/\Post G E Rep F as σ sl Q (bnd (lcL s (zdR js sl) c e (s.items.drop i) ws) mk ce),⟨s.items.length,F1,as1,ce1,[],S1,rJ,rfl,zero_le _,.nil,P1⟩,?_⟩
 rintro i m ys H ⟨F,as,ce,ws,S,rJ,rfl,hi,rs,P⟩
 by_cases hlt:i<s.items.length
 ·rw[drop_eq_getElem_cons hlt] at P
  by_cases hst:s.Stays ce/\ws.length<sizeLine
  ·obtain⟨go,yl⟩:=(rJ.turn S.st hst.1 i).1 hlt
   refine .inr ⟨go,by rw[rs.length];exact hst.2,_,fun ys' H' h=>h,fun x H' y=>?_⟩
   obtain⟨rfl,w,hw,rw'⟩:=yl x H' y
   rw[getElem?_eq_getElem hlt] at hw
   cases hw
   have P':=P
   rw[zkA (zfW hst)] at P'
   rw[zgW] at P'
   refine(zqH (RP:=rB) S (S.cap js rw') P').mono fun b H2 ⟨t,F2,as2,ce2,l2,S2,S2',rt,P2⟩=>?_
   have rt:t=b:=rt
   subst rt
   cases t
   ·rw[if_neg Bool.false_ne_true]
    exact⟨s.items.length-(i+1),by omega,F2,as2,ce2,ws,S2,rJ.le l2,rfl,hlt,rs.le l2,P2⟩
   ·rw[if_pos rfl]
    dsimp only at P2
    rw[zgW] at P2
    refine(zqH (RP:=Rep) S2 S2' P2).mono fun y H3 ⟨wy,F3,as3,ce3,l3,S3,S3',ry,P3⟩=>?_
    exact⟨s.items.length-(i+1),by omega,F3,as3,ce3,ws++[wy],S3,rJ.le (l2.trans l3),rfl,hlt,(rs.le (l2.trans l3)).append (.cons ry .nil),P3⟩
  ·have P':=P
   simp only[bnd,zqI hst] at P'
   exact(show False from P').elim
 ·have e':i=s.items.length:=by omega
  subst e'
  rw[drop_length] at P
  by_cases hst:s.Stays ce
  ·have eq:bnd (lcL s (zdR js sl) c e [] ws) mk ce=mk ws ce:=by simp only[bnd,lcL,if_pos hst]
   rw[eq] at P
   exact .inl ⟨(rJ.turn S.st hst _).2 rfl,(hm S rs P).2⟩
  ·have eq:bnd (lcL s (zdR js sl) c e [] ws) mk ce=none:=by simp only[bnd,lcL,if_neg hst]
   rw[eq] at P
   exact(show False from P).elim
theorem zeh(hm:MkL G E mk)(B:BlkS X.N X.env.scope js (x::caps) scope)(hc:X.calm=true)(hx:scope.names.lookup x=some .local)(hi:PI X (.Name x px) iter (zoN G E X.K di))(ht:∀C fp s₀ H₀,PIfs (blk X (x::caps) scope C fp s₀ H₀) ifs (zco G E c))(he:∀C fp s₀ H₀,PE (blk X (x::caps) scope C fp s₀ H₀) elt (zaz G E e))(hs:∀v,foldedSetIterable iter X.env v=pure v:=by intro _;rfl):PE X (.ListComp elt [⟨.Name x px,iter,ifs,0⟩] scope pos) (zaz G E (dLC mk js di c e)):=PE.imp (zsM B hc hx hi ht he hs) (znk hm)
theorem zji{y:Str}{py spos:Pos}{k:Nat}(hm:MkL G E mk)(B:BlkS X.N X.env.scope js (x::caps) scope)(hc:X.calm=true)(hx:scope.names.lookup x=some .local)(hi:PI X (.Name x px) iter (zoN G E X.K di))(ht:∀C fp s₀ H₀,PIfs (blk X (x::caps) scope C fp s₀ H₀) ifs (zco G E c))(he:∀C fp s₀ H₀,PE (blk X (x::caps) scope C fp s₀ H₀) elt (zaz G E e))(hN:X.N.Nodup)(hk:X.N[k]?=some y)(hy:X.env.scope.names.lookup y=some .local)(hsw:swapsWith (.ListComp elt [⟨.Name x px,iter,ifs,0⟩] scope pos) (some (.Name y py)) spos.line X.env=pure true)(hs:∀v,foldedSetIterable iter X.env v=pure v:=by intro _;rfl):PS X (.Assign [.Name y py] (.ListComp elt [⟨.Name x px,iter,ifs,0⟩] scope pos) spos) (toTS G E (zaU k (dLC mk js di c e))):=by
 refine PS.imp (zsN B hc hx hi ht he hN hk hy hsw hs) fun D σ H zz_=>el6 zz_ fun F as sl ce S P=>?_
 refine znk (X:=X) hm σ H _ ((zc8 S P).mono fun x H1 zz_=>el8 zz_ fun wx F1 as1 ce1 l1 S1 rx P1=>?_)
 exact P1 _ H1 F1 as1 .refl (S1.put rx k)
end
end
section
mutual
def Bel(n:Nat):W->Prop
 | .cel k=>k<n
 | .lst xs=>zda n xs
 | .tup xs=>zda n xs
 | .non=>True
 | .bl _=>True
 | .int _=>True
 | .str _=>True
 | .ty _=>True
def zda(n:Nat):List W->Prop
 | []=>True
 | x::xs=>Bel n x/\zda n xs
end
mutual
theorem Rep.bel{F:Hp}{as:List Addr}:∀{w:W} {v:V},Rep F as w v->Bel as.length w
 | .non,_,_=>by simp only[Bel]
 | .bl _,_,_=>by simp only[Bel]
 | .int _,_,_=>by simp only[Bel]
 | .str _,_,_=>by simp only[Bel]
 | .ty _,_,_=>by simp only[Bel]
 | .lst xs,_,r=>by
  simp only[Rep] at r
  obtain⟨a,vs,_,_,s⟩:=r
  simp only[Bel]
  exact Reps.bel s
 | .tup xs,_,r=>by
  simp only[Rep] at r
  obtain⟨a,vs,_,_,s⟩:=r
  simp only[Bel]
  exact Reps.bel s
 | .cel k,_,r=>by
  simp only[Rep] at r
  obtain⟨a,_,h⟩:=r
  simp only[Bel]
  exact zaE h
theorem Reps.bel{F:Hp}{as:List Addr}:∀{ws:List W} {vs:List V},Reps F as ws vs->zda as.length ws
 | [],_,_=>by simp only[zda]
 | _::_,_,r=>by
  simp only[Reps] at r
  obtain⟨v,vs',_,h,t⟩:=r
  simp only[zda]
  exact⟨Rep.bel h,Reps.bel t⟩
end
mutual
theorem Rep.cut{F:Hp}{as as':List Addr}{n:Nat}(hl:∀k,k<n->as'[k]?=as[k]?):∀{w:W} {v:V},Bel n w->Rep F as w v->Rep F as' w v
 | .non,_,_,r=>by simpa only[Rep] using r
 | .bl _,_,_,r=>by simpa only[Rep] using r
 | .int _,_,_,r=>by simpa only[Rep] using r
 | .str _,_,_,r=>by simpa only[Rep] using r
 | .ty _,_,_,r=>by simpa only[Rep] using r
 | .lst xs,_,b,r=>by
  simp only[Rep] at r ⊢
  simp only[Bel] at b
  obtain⟨a,vs,h1,h2,s⟩:=r
  exact⟨a,vs,h1,h2,Reps.cutS hl b s⟩
 | .tup xs,_,b,r=>by
  simp only[Rep] at r ⊢
  simp only[Bel] at b
  obtain⟨a,vs,h1,h2,s⟩:=r
  exact⟨a,vs,h1,h2,Reps.cutS hl b s⟩
 | .cel k,_,b,r=>by
  simp only[Rep] at r ⊢
  simp only[Bel] at b
  obtain⟨a,h1,h⟩:=r
  exact⟨a,h1,by rw[hl k b];exact h⟩
theorem Reps.cutS{F:Hp}{as as':List Addr}{n:Nat}(hl:∀k,k<n->as'[k]?=as[k]?):∀{ws:List W} {vs:List V},zda n ws->Reps F as ws vs->Reps F as' ws vs
 | [],_,_,r=>by simpa only[Reps] using r
 | _::_,_,b,r=>by
  simp only[Reps] at r ⊢
  simp only[zda] at b
  obtain⟨v,vs',h1,h,t⟩:=r
  exact⟨v,vs',h1,Rep.cut hl b.1 h,Reps.cutS hl b.2 t⟩
end
def ze9(n:Nat):C->Prop
 | .lst xs=>zda n xs
 | .dct kvs=>∀p∈kvs,Bel n p.2
 | .ins _ fs=>∀p∈fs,Bel n p.2
 | .exn _=>True
 | .dead=>True
 | .fzd kvs=>∀p∈kvs,Bel n p.2
 | .dtp kvs=>∀p∈kvs,Bel n p.2
theorem RepKV.bel{κ:Type}{F:Hp}{as:List Addr}{kvs:List (κ×W)}{ps:List (κ×V)}(r:RepKV F as kvs ps):∀p∈kvs,Bel as.length p.2:=by
 induction r with
 | nil=>simp
 | cons h t ih =>
  intro p hp
  rcases mem_cons.mp hp with rfl|hp
  ·exact h.2.bel
  ·exact ih p hp
theorem RepKV.cut{κ:Type}{F:Hp}{as as':List Addr}{n:Nat}(hl:∀k,k<n->as'[k]?=as[k]?){kvs:List (κ×W)}{ps:List (κ×V)}(b:∀p∈kvs,Bel n p.2)(r:RepKV F as kvs ps):RepKV F as' kvs ps:=by
 induction r with
 | nil=>exact .nil
 | cons h t ih=>exact .cons ⟨h.1,h.2.cut hl (b _ mem_cons_self)⟩ (ih fun p hp=>b p (mem_cons_of_mem _ hp))
section
variable {G:Ga} {F:Hp} {as as':List Addr} {H:Hp} {a:Addr} {c:C} {n:Nat}
theorem CRep.bel(h:CRep G F as H a c):ze9 as.length c:=by
 cases c with
 | lst xs=>obtain⟨vs,_,r⟩:=h;exact r.bel
 | dct xs=>obtain⟨vs,_,r⟩:=h;exact r.bel
 | ins c xs=>obtain⟨dx,vs,_,r⟩:=h;exact r.bel
 | exn c=>trivial
 | dead=>trivial
 | fzd xs=>obtain⟨o,ps,_,_,r⟩:=h;exact r.bel
 | dtp xs=>obtain⟨vs,_,r⟩:=h;exact r.bel
theorem CRep.cut(hl:∀k,k<n->as'[k]?=as[k]?)(b:ze9 n c)(h:CRep G F as H a c):CRep G F as' H a c:=by
 cases c with
 | lst xs=>obtain⟨vs,e,r⟩:=h;exact⟨vs,e,r.cutS hl b⟩
 | dct xs=>obtain⟨vs,e,r⟩:=h;exact⟨vs,e,RepKV.cut hl b r⟩
 | ins c xs=>obtain⟨dx,vs,e,r⟩:=h;exact⟨dx,vs,e,RepKV.cut hl b r⟩
 | exn c=>exact h
 | dead=>exact h
 | fzd xs=>obtain⟨o,ps,e1,e2,r⟩:=h;exact⟨o,ps,e1,e2,RepKV.cut hl b r⟩
 | dtp xs=>obtain⟨vs,e,r⟩:=h;exact⟨vs,e,RepKV.cut hl b r⟩
end
def zfX(ce ce':Ce):Prop:=ce.length<=ce'.length/\∀(k:Nat) (c:C),k<ce.length->ce'[k]?=some c->ce[k]?=some c\/ze9 ce.length c
section
variable {G:Ga} {F F':Hp} {as as':List Addr} {H H':Hp} {ce ce':Ce}
theorem zbG{α:Type}{l:List α}{n k:Nat}(h:k<n):(l.take n)[k]?=l[k]?:=getElem?_take_of_lt h
theorem Store.cut(S:Store G F as H ce)(S':Store G F' as' H' ce')(l:Le F as F' as')(h:zfX ce ce'):Store G F' (as'.take ce.length) H' (ce'.take ce.length)/\Le F as F' (as'.take ce.length):=by
 have hl:∀k,k<ce.length->(as'.take ce.length)[k]?=as'[k]?:=fun k hk=>zbG hk
 refine⟨⟨S'.sub,S'.nd.sublist (take_sublist _ _),by rw[length_take,length_take,S'.len],fun k a c h1 h2=>?_⟩,l.f,fun k a e=>?_⟩
 ·have hk:k<ce.length:=by have:=zaE h2;rw[length_take] at this;omega
  rw[zbG hk] at h1 h2
  obtain⟨q1,q2⟩:=S'.cell k a c h1 h2
  refine⟨q1,q2.cut hl ?_⟩
  rcases h.2 k c hk h2 with h3|h3
  ·obtain⟨a0,e0,_,q0⟩:=S.at h3
   rw[<- S.len];exact q0.bel
  ·exact h3
 ·have hk:k<ce.length:=by rw[<- S.len];exact zaE e
  rw[zbG hk];exact l.c k a e
end
open Classical in
def finC(ce ce':Ce)(w:W):Option (R W):=if zfX ce ce'/\Bel ce.length w then some (.ok w (ce'.take ce.length)) else none
open Classical in
def finO(ce ce':Ce)(w:W):Option (R W):=match w with
 | .cel k=>match ce'[k]? with
  | some c=>if zfX ce ce'/\ce.length<=k/\ze9 ce.length c then some (.ok (.cel ce.length) (ce'.take ce.length++[c])) else none
  | none=>none
 | _=>none
def zqJ(_ce ce':Ce)(w:W):Option (R W):=some (.ok w ce')
def zl9(G:Ga)(fin:Ce->Ce->W->Option (R W)):Prop:=∀(F F':Hp) (as as':List Addr) (H H':Hp) (ce ce':Ce) (w:W) (v:V) (r:R W),Store G F as H ce->Store G F' as' H' ce'->Le F as F' as'->Rep F' as' w v->fin ce ce' w=some r ->
 ∃w2 ce2 as2,r=.ok w2 ce2/\Le F as F' as2/\Store G F' as2 H' ce2/\Rep F' as2 w2 v
theorem zqK{G:Ga}:zl9 G zqJ:=fun F F' as as' H H' ce ce' w v r S S' l rw' e=>by
 cases e
 exact⟨w,ce',as',rfl,l,S',rw'⟩
theorem zbL{G:Ga}:zl9 G finC:=fun F F' as as' H H' ce ce' w v r S S' l rw' e=>by
 unfold finC at e
 split at e
 ·rename_i h
  cases e
  obtain⟨S2,l2⟩:=S.cut S' l h.1
  exact⟨w,_,_,rfl,l2,S2,rw'.cut (fun k hk=>zbG hk) h.2⟩
 ·cases e
theorem zei{G:Ga}:zl9 G finO:=fun F F' as as' H H' ce ce' w v r S S' l rw' e=>by
 cases w<;>simp only[finO,reduceCtorEq] at e
 rename_i k
 split at e
 ·rename_i c hc
  split at e
  ·rename_i h
   obtain⟨h1,h2,h3⟩:=h
   cases e
   obtain⟨S2,l2⟩:=S.cut S' l h1
   simp only[Rep] at rw'
   obtain⟨a,rfl,ha⟩:=rw'
   obtain⟨q1,q2⟩:=S'.cell k a c ha hc
   have hlen:(as'.take ce.length).length=ce.length:=by rw[length_take,S'.len];exact min_eq_left h1.1
   have hlen2:(ce'.take ce.length).length=ce.length:=by rw[length_take];exact min_eq_left h1.1
   have l3:Le F' (as'.take ce.length) F' (as'.take ce.length++[a]):=⟨fun _ _ h=>h,fun j b hb=>by rw[getElem?_append_left (zaE hb)];exact hb⟩
   refine⟨_,_,as'.take ce.length++[a],rfl,l2.trans l3,⟨S'.sub,?_,by rw[length_append,length_append,hlen,hlen2];rfl,fun j b c' e1 e2=>?_⟩,?_⟩
   ·rw[nodup_append]
    refine⟨S2.nd,by simp,fun b hb d hd=>?_⟩
    rw[mem_singleton] at hd
    subst hd
    rintro rfl
    obtain⟨j,hj⟩:=getElem?_of_mem hb
    have hj1:j<ce.length:=by have:=zaE hj;omega
    rw[zbG hj1] at hj
    have ha':=zaE ha
    have hj':=zaE hj
    rw[getElem?_eq_getElem ha'] at ha
    rw[getElem?_eq_getElem hj'] at hj
    have:=zgN S'.nd ha' hj' ((Option.some.inj ha).trans (Option.some.inj hj).symm)
    omega
   ·by_cases hj:j<ce.length
    ·rw[getElem?_append_left (by omega)] at e1 e2
     obtain⟨p1,p2⟩:=S2.cell j b c' e1 e2
     exact⟨p1,p2.le l3 rfl⟩
    ·rw[getElem?_append_right (by omega),hlen] at e1
     rw[getElem?_append_right (by omega),hlen2] at e2
     have hz:j-ce.length=0:=by
      cases q:j-ce.length with
      | zero=>rfl
      | succ m=>rw[q] at e1;simp at e1
     rw[hz] at e1 e2
     simp at e1 e2
     subst e1;subst e2
     exact⟨q1,(q2.cut (n:=ce.length) (fun i hi=>zbG hi) h3).le l3 rfl⟩
   ·simp only[Rep]
    exact⟨a,rfl,by rw[getElem?_append_right (by omega),hlen];simp⟩
  ·cases e
 ·cases e
open Classical in
def dFn(fin:Ce->Ce->W->Option (R W))(n:Nat)(body:DS):List W->M W:=fun ws ce=>match body (ws.map some++List.replicate (n-ws.length) none) ce with
 | some (.go (.rt w) _ ce')=>fin ce ce' w
 | some (.go .nx _ ce')=>fin ce ce' .non
 | some (.ex x ce')=>if zfX ce ce' then some (.ex x (ce'.take ce.length)) else none
 | _=>none
def PostF(G:Ga)(E:XK)(F:Hp)(as:List Addr)(Q:VK):Option (R W)->Prop
 | some (.ok w ce')=>∀v H' F' as',Le F as F' as'->Store G F' as' H' ce'->Rep F' as' w v->Q v H'
 | some (.ex x ce')=>∀H' F' as' cv od,Le F as F' as'->Store G F' as' H' ce'->G.xr x cv od H'->E cv od H'
 | none=>False
def spV(G:Ga)(fe:XK->XK)(n:Nat)(d:List W->M W):Sp:=fun vs H Q E=>vs.length=n/\∃F as ws ce,Store G F as H ce/\Reps F as ws vs/\PostF G (fe E) F as Q (d ws ce)
theorem zma{G:Ga}{F:Hp}{as:List Addr}{H:Hp}{ce:Ce}{ws:List W}{vs:List V}(S:Store G F as H ce)(rs:Reps F as ws vs)(N:List Str):SR G F as H (L2.start N vs) (ws.map some++List.replicate (N.length-ws.length) none) ce:=by
 have hl:=rs.length
 refine⟨S,by unfold L2.start;simp[hl],fun i w h=>?_⟩
 have hi:i<ws.length:=by
  by_cases hi:i<ws.length
  ·exact hi
  ·rw[getElem?_append_right (by simpa using hi),getElem?_replicate] at h
   split at h<;>cases h
 rw[getElem?_append_left (by simpa using hi),getElem?_map] at h
 cases e:ws[i]? with
 | none=>rw[e] at h;cases h
 | some w' =>
  rw[e] at h
  simp only[map_some,Option.some.injEq] at h
  subst h
  obtain⟨v,h1,h2⟩:=rs.get e
  refine⟨v,?_,h2⟩
  unfold L2.start
  rw[getElem?_append_left (by simp;omega),getElem?_map,h1]
  rfl
theorem zay{G:Ga}{E:XK}{F:Hp}{as:List Addr}{H:Hp}{ce:Ce}{ws:List W}{vs:List V}{Q:VK}{fin:Ce->Ce->W->Option (R W)}{body:DS}(hf:zl9 G fin)(N:List Str)(S:Store G F as H ce)(rs:Reps F as ws vs)(P:PostF G E F as Q (dFn fin N.length body ws ce)) :
  toTS G E body { nx:=fun _ H'=>Q .non H',rt:=Q } (L2.start N vs) H:=by
 refine⟨F,as,_,ce,zma S rs N,?_⟩
 revert P
 unfold dFn
 have key:∀{w:W} {ce':Ce},PostF G E F as Q (fin ce ce' w)->∀v H' F' as',Le F as F' as'->Store G F' as' H' ce'->Rep F' as' w v->Q v H':=by
  intro w ce' P v H' F' as' l S' rw'
  cases e:fin ce ce' w with
  | none=>rw[e] at P;exact P.elim
  | some r =>
   obtain⟨w2,ce2,as2,rfl,l2,S2,r2⟩:=hf F F' as as' H H' ce ce' w v r S S' l rw' e
   rw[e] at P
   exact P v H' F' as2 l2 S2 r2
 cases body (ws.map some++List.replicate (N.length-ws.length) none) ce with
 | none=>exact fun P=>P
 | some o=>cases o with
  | ex x ce' =>
   intro P H' F' as' cv od l S' hx
   dsimp only at P
   split at P
   ·rename_i h
    obtain⟨S2,l2⟩:=S.cut S' l h
    exact P H' F' _ cv od l2 S2 hx
   ·exact P.elim
  | go f sl' ce'=>cases f with
   | nx=>exact fun P σ' H' F' as' l S'=>key P .non H' F' as' l S'.st (by simp only[Rep])
   | bk=>exact fun P=>P.elim
   | ct=>exact fun P=>P.elim
   | rt w=>exact fun P σ' H' F' as' l S' v r=>key P v H' F' as' l S'.st r
def zar(n:Nat)(f:List W->M W)(args:Sl->M (List W)):Sl->M W:=fun sl=>bnd (args sl) fun ws=>if ws.length=n then f ws else zhD
section
variable {X:Cx} {G:Ga} {E E1:XK} {CX:CXT} {k n:Nat} {f:Addr} {fd:FuncData} {ps:List Str} {df:List W->M W} {x:Str} {p pos:Pos} {e:Expr} {es:List Expr} {dr:Sl->M (List W)} {fe:XK->XK}
theorem PostF.of{F:Hp}{as:List Addr}{H:Hp}{σ:VS.St}{sl:Sl}{ce:Ce}{Q:VK}{r:Option (R W)}(S:SR G F as H σ sl ce)(P:Post G E Rep F as σ sl Q r):PostF G E F as Q r:=by
 cases r with
 | none=>exact P
 | some r=>cases r with
  | ok w ce'=>exact fun v H' F' as' l S' rv=>P v H' F' as' l (S.slots S' l) rv
  | ex y ce'=>exact P
theorem zao(Fk:FnOk X.prog X.w X.K X.mg X.base CX k f fd ps (spV G fe n df))(hr:Room k X.A)(hg:Gl X x)(hm:X.mg x=some (.ref f))(hk:PySem.W.keepIn X.K (.ref f)=true)(hb:Binds X.K fd ps [])(hx:zcD CX X E1)(ha:PA X (e::es) (zfv G E dr))(hfe:fe E1=E:=by rfl)(hdb:(x==("__debug__" : Str))=false:=by decide)(he:starEach (e::es) X.env=(false,eval e X.env)::starEach es X.env:=by rfl)(hpl:(backTo pos (starEach es X.env)).any (·.1)=false:=by rfl) :
  PE X (.Call (.Name x p) (e::es) [] pos) (zaz G E (zar n df dr)):=by
 refine PE.imp (zog Fk hr hg hm hk hb .nil hx ha hdb he hpl) fun σ H Q zz_=>el6 zz_ fun F as sl ce S P=>(step (RP:=Reps) S P).mono fun vs H1 zz_=>el8 zz_ fun ws F1 as1 ce1 l1 S1 rs P1=>?_
 split at P1
 ·rename_i hn
  rw[append_nil]
  exact⟨by rw[rs.length];exact hn,F1,as1,ws,ce1,S1.st,rs,by rw[hfe];exact PostF.of S1 P1⟩
 ·exact(show False from P1).elim
end
open Classical in
def zcr(d:List W->M W):List W->M W:=fun ws ce=>match d ws ce with
 | some (.ok (.cel k) ce')=>match ce'[k]? with
  | some (.lst xs)=>if zfX ce ce'/\k=ce.length/\zda ce.length xs then some (.ok (.lst xs) (ce'.take ce.length)) else none
  | _=>none
 | some (.ok w ce')=>some (.ok w ce')
 | r=>r
theorem zbJ{P:Program}{w:World}{K:PySem.W.Frag}{mg:Str->Option Value}{base:Heap}{CX:CXT}{k n:Nat}{f:Addr}{fd:FuncData}{ps:List Str}{G:Ga}{fe:XK->XK}{d:List W->M W}(h:FnOk P w K mg base CX k f fd ps (spV G fe n d)):FnOk P w K mg base CX k f fd ps (spV G fe n (zcr d)):=by
 refine h.imp fun vs H Q E ⟨hl,F,as,ws,ce,S,rs,Pf⟩=>⟨hl,F,as,ws,ce,S,rs,?_⟩
 revert Pf
 unfold zcr
 cases d ws ce with
 | none=>exact fun P=>P
 | some r=>cases r with
  | ex x ce'=>exact fun P=>P
  | ok w ce' =>
   cases w<;>first|exact fun P=>P|skip
   rename_i j
   dsimp only
   intro Pf v H' F' as' l S' rv
   simp only[Rep] at rv
   obtain⟨a,rfl,ha⟩:=rv
   split at Pf
   ·rename_i xs hc
    split at Pf
    ·rename_i h
     obtain⟨h1,h2,h3⟩:=h
     obtain⟨q1,vs',hH,rs'⟩:=S'.cell j a _ ha hc
     have q1:=q1 rfl
     obtain⟨S2,l2⟩:=S.cut S' l h1
     have rs2:Reps F' (as'.take ce.length) xs vs':=rs'.cutS (fun i hi=>zbG hi) h3
     have l3:Le F' (as'.take ce.length) (upd F' a (.lst vs')) (as'.take ce.length):=⟨upd_sub q1,fun _ _ h=>h⟩
     refine Pf (.ref a) H' (upd F' a (.lst vs')) (as'.take ce.length) (l2.trans l3) ⟨fun b o e=>?_,S2.nd,S2.len,fun i b c e1 e2=>?_⟩ (by simp only[Rep];exact⟨a,vs',rfl,.inl zaK,rs2.le l3⟩)
     ·by_cases hb:b=a
      ·subst hb;rw[zaK] at e;cases e;exact hH
      ·rw[zaJ hb] at e;exact S2.sub _ _ e
     ·obtain⟨p1,p2⟩:=S2.cell i b c e1 e2
      have hb:b≠a:=by
       rintro rfl
       have hi:i<ce.length:=by have:=zaE e2;rw[length_take] at this;omega
       rw[zbG hi] at e1
       have a1:=zaE ha
       have a2:=zaE e1
       rw[getElem?_eq_getElem a1] at ha
       rw[getElem?_eq_getElem a2] at e1
       have:=zgN S'.nd a1 a2 ((Option.some.inj ha).trans (Option.some.inj e1).symm)
       omega
      exact⟨fun hn=>by rw[zaJ hb];exact p1 hn,p2.le l3 rfl⟩
    ·exact Pf.elim
   ·exact Pf.elim
end
section
def zeI:List W->Option (List Int)
 | []=>some []
 | .int i::r=>(zeI r).map (i::·)
 | _=>none
def zd5:List W->Option (List Bool)
 | []=>some []
 | .bl i::r=>(zd5 r).map (i::·)
 | _=>none
def zgX:List (Key×W)->Option (List Int)
 | []=>some []
 | (.inl i,_)::r=>(zgX r).map (i::·)
 | _=>none
theorem zdt:∀ns:List Int,zeI (ns.map W.int)=some ns
 | []=>rfl
 | n::r=>by simp only[map_cons,zeI,zdt r,map_some]
theorem zfz:∀ns:List Bool,zd5 (ns.map W.bl)=some ns
 | []=>rfl
 | n::r=>by simp only[map_cons,zd5,zfz r,map_some]
theorem zeq:∀{ws:List W} {ns:List Int},zeI ws=some ns->ws=ns.map W.int
 | [],ns,h=>by simp only[zeI,Option.some.injEq] at h;subst h;rfl
 | w::r,ns,h=>by
  cases w<;>simp only[zeI,reduceCtorEq,map_eq_some_iff] at h
  obtain⟨ms,h1,rfl⟩:=h
  rw[zeq h1,map_cons]
theorem zgY:∀{ws:List W} {ns:List Bool},zd5 ws=some ns->ws=ns.map W.bl
 | [],ns,h=>by simp only[zd5,Option.some.injEq] at h;subst h;rfl
 | w::r,ns,h=>by
  cases w<;>simp only[zd5,reduceCtorEq,map_eq_some_iff] at h
  obtain⟨ms,h1,rfl⟩:=h
  rw[zgY h1,map_cons]
theorem zfY:∀{kvs:List (Key×W)} {ns:List Int},zgX kvs=some ns->kvs.map (·.1)=ns.map Sum.inl
 | [],ns,h=>by simp only[zgX,Option.some.injEq] at h;subst h;rfl
 | (k,w)::r,ns,h=>by
  cases k<;>simp only[zgX,reduceCtorEq,map_eq_some_iff] at h
  obtain⟨ms,h1,rfl⟩:=h
  rw[map_cons,zfY h1,map_cons]
def srt(ns:List Int):List Int:=ns.mergeSort fun a b=>decide (a<=b)
theorem zbH(ns:List Int):(srt ns).Perm ns:=mergeSort_perm ns _
theorem zc1(ns:List Int):(srt ns).Pairwise (·<=·):=by
 have:=pairwise_mergeSort (le:=fun a b:Int=>decide (a<=b)) (fun a b c=>by simp;omega) (fun a b=>by simp;omega) ns
 exact this.imp fun h=>by simpa using h
theorem zcy:∀{a b:List Int},a.Perm b->a.Pairwise (·<=·)->b.Pairwise (·<=·)->a=b
 | [],b,p,_,_=>by rw[nil_perm] at p;exact p.symm
 | x::a,[],p,_,_=>by have:=p.length_eq;simp at this
 | x::a,y::b,p,sa,sb=>by
  rw[pairwise_cons] at sa sb
  have h1:x=y:=by
   have hx:x∈y::b:=p.subset mem_cons_self
   have hy:y∈x::a:=p.symm.subset mem_cons_self
   rcases mem_cons.mp hx with e|hx
   ·exact e
   ·rcases mem_cons.mp hy with e|hy
    ·exact e.symm
    ·have:=sb.1 x hx
     have:=sa.1 y hy
     omega
  subst h1
  rw[zcy (List.Perm.cons_inv p) sa.2 sb.2]
theorem znl{ms ns:List Int}(p:ms.Perm ns)(s:ms.Pairwise (·<=·)):ms=srt ns:=zcy (p.trans (zbH ns).symm) s (zc1 ns)
def dBi(f:List W->M W)(args:Sl->M (List W)):Sl->M W:=fun sl=>bnd (args sl) f
def Bi(G:Ga)(E:XK)(r:List V->Hp->VK->Prop)(f:List W->M W):Prop:=∀F as H σ sl ce ws vs Q,SR G F as H σ sl ce->Reps F as ws vs->Post G E Rep F as σ sl Q (f ws ce)->r vs H Q
open Classical in
def zcG:List W->M W:=fun ws ce=>match ws with
 | [.str x]=>if x.length<=sizeLine then some (.ok (.int x.length) ce) else none
 | [w]=>match zfR ce w with
  | some xs=>some (.ok (.int xs.length) ce)
  | none=>match zpD ce w with
   | some kvs=>some (.ok (.int kvs.length) ce)
   | none=>none
 | _=>none
open Classical in
def za0(mk:List W->M W):List W->M W:=fun ws ce=>match ws with
 | [w]=>match zdr ce w with
  | some xs=>match zeI xs with
   | some ns=>if ns.length<64 then mk ((srt ns).map W.int) ce else none
   | none=>none
  | none=>match zpE ce w with
   | some kvs=>match zgX kvs with
    | some ns=>if ns.length<64 then mk ((srt ns).map W.int) ce else none
    | none=>none
   | none=>none
 | _=>none
def zjj(mk:List W->M W):List W->M W:=fun ws ce=>match ws with
 | [w]=>match zfR ce w with
  | some xs=>mk xs ce
  | none=>match zpE ce w with
   | some kvs=>match zgX kvs with
    | some ns=>mk (ns.map W.int) ce
    | none=>none
   | none=>none
 | _=>none
def zbd:List W->M W:=fun ws ce=>match ws with
 | [.tup xs]=>some (.ok (.tup xs) ce)
 | [w]=>match zdr ce w with
  | some xs=>zoJ xs ce
  | none=>none
 | _=>none
def zuX:List W->M W:=fun ws ce=>match ws with
 | [w]=>match zdr ce w with
  | some xs=>match zd5 xs with
   | some bs=>some (.ok (.bl (bs.all id)) ce)
   | none=>none
  | none=>none
 | _=>none
def zqL:List W->M W:=fun ws ce=>match ws with
 | [w]=>match zdr ce w with
  | some xs=>match zd5 xs with
   | some bs=>some (.ok (.bl (bs.any id)) ce)
   | none=>none
  | none=>none
 | _=>none
def zuY:List W->M W:=fun ws ce=>match ws with
 | [.int i,.int j]=>some (.ok (.int (if j<i then j else i)) ce)
 | _=>none
def zuZ:List W->M W:=fun ws ce=>match ws with
 | [.int i,.int j]=>some (.ok (.int (if j>i then j else i)) ce)
 | _=>none
def tyW(ce:Ce):W->Option String
 | .non=>some "NoneType"
 | .bl _=>some "bool"
 | .int _=>some "int"
 | .str _=>some "str"
 | .lst _=>some "list"
 | .tup _=>some "tuple"
 | .cel k=>match ce[k]? with
  | some (.lst _)=>some "list"
  | some (.dct _)=>some "dict"
  | _=>none
 | .ty _=>none
def zs4(a b:String):Bool:=a==b||(a == "bool" && b == "int")
def kinds:List String:=["NoneType", "bool", "int", "str", "list", "tuple", "dict"]
def zu0:List W->M W:=fun ws ce=>match ws with
 | [w,.ty T]=>match tyW ce w with
  | some t=>if (kinds.contains t&&["int", "bool", "list", "tuple", "str", "dict"].contains T)=true then some (.ok (.bl (zs4 t T)) ce) else none
  | none=>none
 | _=>none
section
variable {X:Cx} {G:Ga} {E:XK} {F:Hp} {as:List Addr} {H:Hp} {ce:Ce} {w:W} {v:V}
theorem CallR.or{f:Value}{r r':List V->Hp->VK->Prop}(h:CallR X f r)(h':CallR X f r'):CallR X f (fun xs H Q=>r xs H Q\/r' xs H Q):=by
 intro pins s σ H xs us Q I rx q
 rcases q with q|q
 ·exact h pins s σ H xs us Q I rx q
 ·exact h' pins s σ H xs us Q I rx q
theorem zbl{vs:List V}(h:Reps F as [w] vs):∃v,vs=[v]/\Rep F as w v:=by
 simp only[Reps] at h
 obtain⟨v,r,rfl,h1,rfl⟩:=h
 exact⟨v,rfl,h1⟩
def zqM(K:PySem.W.Frag):List V->Hp->VK->Prop:=fun xs H Q=>(∃x n,xs=[x]/\ztE K x H n/\Q (.int n) H)\/∃a kvs,xs=[V.ref a]/\H a=some (.dK kvs)/\Q (.int kvs.length) H
theorem zcM{K:PySem.W.Frag}(hK:X.K=K:=by rfl):CallR X (.builtin "len") (zqM K):=by subst hK;exact CallR.or zlM zkd
theorem zcN(K:PySem.W.Frag):Bi G E (zqM K) zcG:=by
 intro F as H σ sl ce ws vs Q S rs P
 unfold zcG at P
 split at P
 ·rename_i x
  split at P
  ·rename_i hl
   obtain⟨v,rfl,r⟩:=zbl rs
   simp only[Rep] at r
   subst r
   exact .inl ⟨_,_,rfl,⟨hl,rfl⟩,P.done S (by simp only[Rep])⟩
  ·exact P.elim
 ·rename_i w _
  obtain⟨v,rfl,r⟩:=zbl rs
  split at P
  ·rename_i xs hx
   obtain⟨a,us,rfl,h,rs'⟩:=zfS S.st r hx
   refine .inl ⟨_,us.length,rfl,?_,P.done S (by simp only[Rep];rw[rs'.length])⟩
   rcases h with h|h
   ·exact .inl ⟨us,.inl h,rfl⟩
   ·exact .inr ⟨us,.inl h,rfl⟩
  ·split at P
   ·rename_i kvs hd
    obtain⟨n,a,ps,rfl,rfl,ha,hH,rk⟩:=zkk S.st r hd
    exact .inr ⟨a,ps,rfl,hH,P.done S (by simp only[Rep];rw[rk.length])⟩
   ·exact P.elim
 ·exact P.elim
def ztM(K:PySem.W.Frag):List V->Hp->VK->Prop:=fun xs H Q=>zoq K xs H Q\/∃(a:Addr) (kvs:List (Key×V)) (ns:List Int),xs=[.ref a]/\Rd H a (.dK kvs)/\kvs.map (·.1)=ns.map Sum.inl/\ns.length<64 /\
  ∀ms:List Int,ms.Perm ns->ms.Pairwise (·<=·)->∀l,H l=none->Q (.ref l) (upd H l (.lst (ms.map V.int)))
theorem zjk{K:PySem.W.Frag}(hc:X.calm=true:=by rfl)(hK:X.K=K:=by rfl):CallR X (.builtin "sorted") (ztM K):=by subst hK;exact CallR.or zhB (zgL hc)
theorem RepKV.keys{kvs:List (Key×W)}{ps:List (Key×V)}(r:RepKV F as kvs ps):ps.map (·.1)=kvs.map (·.1):=by
 induction r with
 | nil=>rfl
 | cons h t ih=>rw[map_cons,map_cons,ih,h.1]
theorem zjl{mk:List W->M W}(K:PySem.W.Frag)(hm:MkL G E mk):Bi G E (ztM K) (za0 mk):=by
 intro F as H σ sl ce ws vs Q S rs P
 unfold za0 at P
 split at P
 ·rename_i w
  obtain⟨v,rfl,r⟩:=zbl rs
  split at P
  ·rename_i xs hx
   split at P
   ·rename_i ns hi
    split at P
    ·rename_i h64
     obtain⟨a,us,rfl,h,rs'⟩:=zci S.st r hx
     cases zeq hi
     cases rs'.of_ints
     refine .inl ⟨a,ns,rfl,.inl h,h64,fun ms p s l hl=>?_⟩
     rw[znl p s]
     exact(hm S (Reps.ints (srt ns)) P).2 l hl
    ·exact P.elim
   ·exact P.elim
  ·split at P
   ·rename_i kvs hd
    split at P
    ·rename_i ns hk
     split at P
     ·rename_i h64
      obtain⟨n,a,ps,rfl,rfl,ha,hH,rk⟩:=zij S.st r hd
      refine .inr ⟨a,ps,ns,rfl,hH,by rw[rk.keys];exact zfY hk,h64,fun ms p s l hl=>?_⟩
      rw[znl p s]
      exact(hm S (Reps.ints (srt ns)) P).2 l hl
     ·exact P.elim
    ·exact P.elim
   ·exact P.elim
 ·exact P.elim
def zqN(K:PySem.W.Frag):List V->Hp->VK->Prop:=fun xs H Q=>zor K xs H Q\/∃(a:Addr) (kvs:List (Key×V)) (ns:List Int),xs=[.ref a]/\Rd H a (.dK kvs)/\kvs.map (·.1)=ns.map Sum.inl/\∀l,H l=none->Q (.ref l) (upd H l (.lst (ns.map V.int)))
theorem znm{K:PySem.W.Frag}(hc:X.calm=true:=by rfl)(hK:X.K=K:=by rfl):CallR X (.type "list") (zqN K):=by subst hK;exact CallR.or zgG (zjc hc)
theorem znn{mk:List W->M W}(K:PySem.W.Frag)(hm:MkL G E mk):Bi G E (zqN K) (zjj mk):=by
 intro F as H σ sl ce ws vs Q S rs P
 unfold zjj at P
 split at P
 ·rename_i w
  obtain⟨v,rfl,r⟩:=zbl rs
  split at P
  ·rename_i xs hx
   obtain⟨a,us,rfl,h,rs'⟩:=zfS S.st r hx
   exact .inl ⟨a,us,rfl,h.imp .inl .inl,(hm S rs' P).2⟩
  ·split at P
   ·rename_i kvs hd
    split at P
    ·rename_i ns hk
     obtain⟨n,a,ps,rfl,rfl,ha,hH,rk⟩:=zij S.st r hd
     exact .inr ⟨a,ps,ns,rfl,hH,by rw[rk.keys];exact zfY hk,(hm S (Reps.ints ns) P).2⟩
    ·exact P.elim
   ·exact P.elim
 ·exact P.elim
theorem zb1(K:PySem.W.Frag):Bi G E (zm9 K) zbd:=by
 intro F as H σ sl ce ws vs Q S rs P
 unfold zbd at P
 split at P
 ·rename_i xs
  obtain⟨v,rfl,r⟩:=zbl rs
  have r':=r
  simp only[Rep] at r
  obtain⟨a,us,rfl,h,rs'⟩:=r
  exact⟨a,us,rfl,.inr ⟨.inl (.inl (S.st.sub _ _ h)),P.done S r'⟩⟩
 ·rename_i w _
  obtain⟨v,rfl,r⟩:=zbl rs
  split at P
  ·rename_i xs hx
   obtain⟨a,us,rfl,h,rs'⟩:=zci S.st r hx
   exact⟨a,us,rfl,.inl ⟨.inl h,(zfU S rs' P).2⟩⟩
  ·exact P.elim
 ·exact P.elim
def ztN(K:PySem.W.Frag):List V->Hp->VK->Prop:=fun xs H Q=>∃(a:Addr) (bs:List Bool),xs=[.ref a]/\SqL K H a (bs.map V.bl)/\Q (.bl (bs.any id)) H
theorem zs5{K:PySem.W.Frag}(hc:X.calm=true:=by rfl)(hK:X.K=K:=by rfl):CallR X (.builtin "any") (ztN K):=by subst hK;exact zl2 hc
theorem zs6(K:PySem.W.Frag):Bi G E (ztN K) zqL:=by
 intro F as H σ sl ce ws vs Q S rs P
 unfold zqL at P
 split at P
 ·obtain⟨v,rfl,r⟩:=zbl rs
  split at P
  ·rename_i xs hx
   split at P
   ·rename_i bs hb
    obtain⟨a,us,rfl,h,rs'⟩:=zci S.st r hx
    cases zgY hb
    cases rs'.of_bools
    exact⟨a,bs,rfl,.inl h,P.done S (by simp only[Rep])⟩
   ·exact P.elim
  ·exact P.elim
 ·exact P.elim
end
end
section
section
variable {X:Cx} {G:Ga} {E:XK} {x:Str} {p pos:Pos} {e:Expr} {es:List Expr} {dr:Sl->M (List W)} {id T:String} {r:List V->Hp->VK->Prop} {f:List W->M W}
theorem zaG(hc:CallR X (.builtin id) r)(hf:Bi G E r f)(hg:Gl X x)(hm:X.mg x=none)(hv:bootBuiltins x=some (.builtin id))(ha:PA X (e::es) (zfv G E dr))(hn:x ≠ "__name__" := by decide)(hdb:(x==("__debug__" : Str))=false:=by decide)(he:starEach (e::es) X.env=(false,eval e X.env)::starEach es X.env:=by rfl)(hpl:(backTo pos (starEach es X.env)).any (·.1)=false:=by rfl):PE X (.Call (.Name x p) (e::es) [] pos) (zaz G E (dBi f dr)) :=
 PE.imp (zlR hc hg hm hv ha hn hdb he hpl) fun σ H Q zz_=>el6 zz_ fun F as sl ce S P=>(step (RP:=Reps) S P).mono fun vs H1 zz_=>el8 zz_ fun ws F1 as1 ce1 l1 S1 rs P1=>hf F1 as1 H1 σ sl ce1 ws vs Q S1 rs P1
theorem zaX(hc:CallR X (.type T) r)(hf:Bi G E r f)(hg:Gl X x)(hm:X.mg x=none)(hv:bootBuiltins x=some (.type T))(ha:PA X (e::es) (zfv G E dr))(hn:x ≠ "__name__" := by decide)(hdb:(x==("__debug__" : Str))=false:=by decide)(he:starEach (e::es) X.env=(false,eval e X.env)::starEach es X.env:=by rfl)(hpl:(backTo pos (starEach es X.env)).any (·.1)=false:=by rfl):PE X (.Call (.Name x p) (e::es) [] pos) (zaz G E (dBi f dr)) :=
 PE.imp (zgF hc hg hm hv ha hn hdb he hpl) fun σ H Q zz_=>el6 zz_ fun F as sl ce S P=>(step (RP:=Reps) S P).mono fun vs H1 zz_=>el8 zz_ fun ws F1 as1 ce1 l1 S1 rs P1=>hf F1 as1 H1 σ sl ce1 ws vs Q S1 rs P1
open Classical in
def zfZ(mk:List W->M W):List W->M W:=fun ws ce=>match zjF ws with
 | some (.rng lo n)=>if n<=sizeLine then mk ((List.range n).map fun(i:Nat)=>W.int (lo+(i:Int))) ce else none
 | _=>none
theorem Reps.rng{F:Hp}{as:List Addr}(lo:Int):∀(l:List Nat),Reps F as (l.map fun(i:Nat)=>W.int (lo+(i:Int))) (l.map fun(i:Nat)=>V.int (lo+(i:Int)))
 | []=>.nil
 | a::r=>.cons (by simp only[Rep]) (Reps.rng lo r)
theorem zkB{a:Expr}{p2 pos2:Pos}{mk:List W->M W}(hmk:MkL G E mk)(hc:X.calm=true)(hgl:Gl X "list")(hml:X.mg "list" = none)(hg:Gl X "range")(hm:X.mg "range" = none)(ha:PA X [a] (zfv G E dr))(hs:starEach [a] X.env=[(false,eval a X.env)]:=by rfl)(he:starEach [.Call (.Name "range" p2) [a] [] pos2] X.env=[(false,eval (.Call (.Name "range" p2) [a] [] pos2) X.env)]:=by rfl) :
  PE X (.Call (.Name "list" p) [.Call (.Name "range" p2) [a] [] pos2] [] pos) (zaz G E (dBi (zfZ mk) dr)):=by
 refine PE.imp (zgF (zgM hc) hgl hml boot_list (zjW (zke hg hm ha hs) zm6 (by rw[he];rfl)) (by decide) (by decide) (by rw[he];rfl) rfl) fun σ H Q zz_=>el6 zz_ fun F as sl ce S P=>(step (RP:=Reps) S P).mono fun vs H1 zz_=>el8 zz_ fun ws F1 as1 ce1 l1 S1 rs P1=>?_
 unfold zfZ at P1
 split at P1
 ·rename_i lo n hr
  unfold zjF at hr
  split at hr
  ·rename_i j
   split at hr
   ·rename_i hj
    cases hr
    split at P1
    ·rename_i hz
     obtain⟨v,rfl,r1⟩:=zbl rs
     simp only[Rep] at r1
     subst r1
     refine⟨j,rfl,fun q hq=>?_⟩
     refine⟨q,0,j,rfl,zaK,by omega,by omega,by omega,by omega,by rw[sub_zero];exact hz,fun l hl=>?_⟩
     rw[sub_zero]
     obtain⟨S2,l2⟩:=S1.st.freeze (o:=.rng 0 j) hq
     exact(hmk (S1.slots S2 l2) (Reps.rng 0 _) (P1.le l2)).2 l hl
    ·exact(show False from P1).elim
   ·cases hr
  ·cases hr
 ·exact(show False from P1).elim
def zlC(ce:Ce)(w:W):Option Unit:=(zdr ce w).map fun _=>()
def dMt(f:W->List W->M W)(o:Sl->M W)(args:Sl->M (List W)):Sl->M W:=fun sl=>bnd (o sl) fun x=>bnd (look fun ce=>zlC ce x) fun _=>bnd (args sl) fun ws=>f x ws
def Mt(G:Ga)(E:XK)(r:V->List V->Hp->VK->Prop)(f:W->List W->M W):Prop:=∀F as H σ sl ce w v ws vs Q,SR G F as H σ sl ce->Rep F as w v->Reps F as ws vs->Post G E Rep F as σ sl Q (f w ws ce)->r v vs H Q
variable {o:Expr} {name:Str} {apos cpos:Pos} {do':Sl->M W} {rm:V->List V->Hp->VK->Prop} {fm:W->List W->M W}
theorem zgZ{F:Hp}{as:List Addr}{σ:VS.St}{sl:Sl}{ce:Ce}{Q:VK}{w:W}{k:Unit->M W}(P:Post G E Rep F as σ sl Q (bnd (look fun ce=>zlC ce w) k ce)):∃xs,zdr ce w=some xs/\Post G E Rep F as σ sl Q (k () ce):=by
 revert P
 simp only[bnd,look,zlC]
 cases zdr ce w with
 | none=>exact fun P=>P.elim
 | some xs=>exact fun P=>⟨xs,rfl,P⟩
theorem zdu(slot:Slot "list" name id)(hty:typeOf (.builtin id)=pure (.type "method_descriptor"))(hm:MtR X id rm)(hf:Mt G E rm fm)(ho:PE X o (zaz G E do'))(ha:PA X (e::es) (zfv G E dr))(hbase:attributeBase o name X.env (eval o X.env)=eval o X.env:=by rfl)(hfew:((backTo cpos (starEach (e::es) X.env)).all (fun x=>!x.1)&&(backToKw cpos (keywordEach [] X.env)).all (fun x=>x.1.isSome)
   && decide ((e::es).length+([]:List Keyword).length+(if ([]:List Keyword).isEmpty then 0 else 1)<30))=true:=by rfl)(hline:(apos.endLine==cpos.line)=true:=by rfl)(hs:starEach (e::es) X.env=(false,eval e X.env)::starEach es X.env:=by rfl)(hplain:(backTo cpos (starEach es X.env)).any (·.1)=false:=by rfl) :
  PE X (.Call (.Attribute o name apos) (e::es) [] cpos) (zaz G E (dMt fm do' dr)):=by
 refine PE.imp (zsK PySem.F.plainAttrs_list slot hty hm ho ha hbase hfew hline hs hplain) fun σ H Q zz_=>el6 zz_ fun F as sl ce S P=>(step S P).mono fun x H1 zz_=>el8 zz_ fun wx F1 as1 ce1 l1 S1 rx P1=>?_
 obtain⟨xs,hx,P2⟩:=zgZ P1
 obtain⟨a,us,rfl,h,_⟩:=zci S1.st rx hx
 refine⟨.inl ⟨rfl,us,.inl h⟩,(step (RP:=Reps) S1 P2).mono fun vs H2 zz_=>el8 zz_ fun ws F2 as2 ce2 l2 S2 rs P3=>?_⟩
 exact hf F2 as2 H2 σ sl ce2 wx _ ws vs Q S2 (rx.le l2) rs P3
def zqO(f:W->List W->M W)(o:Sl->M W):Sl->M W:=fun sl=>bnd (o sl) fun x=>bnd (look fun ce=>zlC ce x) fun _=>f x []
theorem zqP(slot:Slot "list" name id)(hty:typeOf (.builtin id)=pure (.type "method_descriptor"))(hm:MtR X id rm)(hf:Mt G E rm fm)(ho:PE X o (zaz G E do'))(hbase:attributeBase o name X.env (eval o X.env)=eval o X.env:=by rfl)(hline:(apos.endLine==cpos.line)=true:=by rfl):PE X (.Call (.Attribute o name apos) [] [] cpos) (zaz G E (zqO fm do')):=by
 refine PE.imp (zqm PySem.F.plainAttrs_list slot hty hm ho hbase hline) fun σ H Q zz_=>el6 zz_ fun F as sl ce S P=>(step S P).mono fun x H1 zz_=>el8 zz_ fun wx F1 as1 ce1 l1 S1 rx P1=>?_
 obtain⟨xs,hx,P2⟩:=zgZ P1
 obtain⟨a,us,rfl,h,_⟩:=zci S1.st rx hx
 exact⟨.inl ⟨rfl,us,.inl h⟩,hf F1 as1 H1 σ sl ce1 wx _ [] [] Q S1 rx Reps.nil P2⟩
open Classical in
def zer:W->List W->M W:=fun w ws ce=>match zky ce w,ws with
 | some (k,xs),[y]=>if xs.length<sizeLine then some (.ok .non (ce.set k (.lst (xs++[y])))) else none
 | _,_=>none
def zqQ:W->List W->M W:=fun w ws ce=>match zky ce w,ws with
 | some (k,xs),[]=>match xs[xs.length-1]? with
  | some y=>some (.ok y (ce.set k (.lst xs.dropLast)))
  | none=>none
 | _,_=>none
open Classical in
def zpF:W->List W->M W:=fun w ws ce=>match zky ce w,ws with
 | some (k,xs),[y]=>match zdr ce y with
  | some ys=>if xs.length+ys.length<=sizeLine then some (.ok .non (ce.set k (.lst (xs++ys)))) else none
  | none=>none
 | _,_=>none
theorem zeJ:Mt G E zj3 zer:=by
 intro F as H σ sl ce w v ws vs Q S rw' rs P
 unfold zer at P
 split at P
 ·rename_i k xs y hk
  split at P
  ·rename_i hl
   obtain⟨a,us,rfl,ha,hH,r⟩:=zds S.st rw' hk
   obtain⟨u,rfl,ry⟩:=zbl rs
   refine⟨a,us,u,rfl,rfl,hH,by rw[r.length];exact hl,?_⟩
   exact P .non _ F as .refl (S.slots (S.st.write (o:=.lst (us++[u])) (c:=.lst (xs++[y])) ha ⟨_,zaK,r.append (.cons ry .nil)⟩) .refl) (by simp only[Rep])
  ·exact(show False from P).elim
 ·exact(show False from P).elim
theorem zs7:Mt G E ztI zqQ:=by
 intro F as H σ sl ce w v ws vs Q S rw' rs P
 unfold zqQ at P
 split at P
 ·rename_i k xs hk
  split at P
  ·rename_i y hy
   obtain⟨a,us,rfl,ha,hH,r⟩:=zds S.st rw' hk
   simp only[Reps] at rs
   obtain⟨u,hu,ru⟩:=r.get hy
   refine⟨a,us,u,rfl,rs,hH,by rw[r.length];exact hu,?_⟩
   exact P u _ F as .refl (S.slots (S.st.write (o:=.lst us.dropLast) (c:=.lst xs.dropLast) ha ⟨_,zaK,r.dropLast⟩) .refl) ru
  ·exact(show False from P).elim
 ·exact(show False from P).elim
def zqR:V->List V->Hp->VK->Prop:=fun x vs H Q=>∃l b xs zs,x=.ref l/\vs=[.ref b]/\H l=some (.lst xs)/\Rd H b (.lst zs)/\xs.length+zs.length<=sizeLine/\Q .non (upd H l (.lst (xs++zs)))
theorem zkC:MtR X "list.extend" zqR:=by
 intro pins s σ H x vs v us Q I rx rv h
 obtain⟨l,b,xs,zs,rfl,rfl,hH,hB,hz,q⟩:=h
 cases rx
 obtain⟨u,rfl,ru⟩:=rv.one
 cases ru
 obtain⟨z,its,n,r,hl,e⟩:=I.lstM hH
 obtain⟨z2,its2,n2,r2,hl2,e2⟩:=Inv.lstR I hB
 have hsz:its.toArray.size+its2.toArray.size<=sizeLine:=by rw[size_toArray,size_toArray];omega
 have hlong:¬(!its.toArray.isEmpty&&Builtin.List.listTooLong (its.toArray.size+its2.toArray.size))=true:=by
  rw[zic hsz,Bool.and_false]
  exact Bool.false_ne_true
 refine call_meets F.slot_list_extend ⟨_,e,rfl⟩ F.entry_list_extend (F.args_list_extend_2 _ _)
  (AutoSeq1.list_extend_list_list_0 l its.toArray n b its2.toArray n2 hlong (by rw[size_toArray];omega) (by omega)) ⟨e,e2,?_⟩
 refine⟨.non,_,I.lset (its':=its++its2) hH e (by simp) (r.append r2) ?_,rfl,q⟩
 rw[length_append]
 omega
theorem zqS:Mt G E zqR zpF:=by
 intro F as H σ sl ce w v ws vs Q S rw' rs P
 unfold zpF at P
 split at P
 ·rename_i k xs y hk
  split at P
  ·rename_i ys hy
   split at P
   ·rename_i hl
    obtain⟨a,us,rfl,ha,hH,r⟩:=zds S.st rw' hk
    obtain⟨u,rfl,ry⟩:=zbl rs
    obtain⟨b,zs,rfl,hb,r2⟩:=zci S.st ry hy
    refine⟨a,b,us,zs,rfl,rfl,hH,hb,by rw[r.length,r2.length];exact hl,?_⟩
    exact P .non _ F as .refl (S.slots (S.st.write (o:=.lst (us++zs)) (c:=.lst (xs++ys)) ha ⟨_,zaK,r.append r2⟩) .refl) (by simp only[Rep])
   ·exact(show False from P).elim
  ·exact(show False from P).elim
 ·exact(show False from P).elim
variable {a b:Expr} {da db:Sl->M W}
open Classical in
def zr7(mk:List W->M W)(xs:List W)(y:W):M W:=fun ce=>match y with
 | .int k=>@ite _ (-9223372036854775808<=k/\k<9223372036854775808/\xs.length*k.toNat<=sizeLine) (Classical.propDecidable _) (mk (List.replicate k.toNat xs).flatten ce) none
 | _=>none
open Classical in
def zs8(n:Nat):M Unit:=fun ce=>if n<=sizeLine then some (.ok () ce) else none
def zkD(mk:List W->M W)(a:Sl->M (List W))(b:Sl->M W):Sl->M W:=fun sl=>bnd (a sl) fun xs=>bnd (zs8 xs.length) fun _=>bnd (b sl) fun y=>zr7 mk xs y
theorem zkE{mk:List W->M W}{es:List Expr}{ds:Sl->M (List W)}{lpos:Pos}(hm:MkL G E mk)(ha:PA X es (zfv G E ds))(hb:PE X b (zaz G E db)):PE X (.BinOp (.List es lpos) .Mult b pos) (zaz G E (zkD mk ds db)):=by
 refine PE.imp (zlK zqo (zjX ha) hb) fun σ H Q zz_=>el6 zz_ fun F as sl ce S P=>(step (RP:=Reps) S P).mono fun vs H1 zz_=>el8 zz_ fun ws F1 as1 ce1 l1 S1 rs P1=>?_
 have q:ws.length<=sizeLine/\Post G E Rep F1 as1 σ sl Q (bnd (db sl) (fun y=>zr7 mk ws y) ce1):=by
  revert P1
  unfold zs8
  by_cases hl:ws.length<=sizeLine
  ·simp only[bnd,if_pos hl];exact fun P=>⟨hl,P⟩
  ·simp only[bnd,if_neg hl];exact fun P=>P.elim
 obtain⟨hlen,P1⟩:=q
 rw[<- rs.length] at hlen
 refine⟨hlen,fun p hp=>?_⟩
 obtain⟨S2,l2⟩:=S1.st.freeze (o:=.lst vs) hp
 refine(step (S1.slots S2 l2) (P1.le l2)).mono fun y H2 zz_=>el8 zz_ fun wy F2 as2 ce2 l3 S3 ry P2=>?_
 unfold zr7 at P2
 cases wy<;>first|exact(show False from P2).elim|skip
 rename_i k
 dsimp only at P2
 split at P2
 ·rename_i hk
  simp only[Rep] at ry
  refine⟨p,k,vs,rfl,ry,S3.st.sub _ _ (l3.f _ _ zaK),by omega,by omega,by rw[rs.length];exact hk.2.2,?_⟩
  exact(hm S3 (((rs.le l2).le l3).rep k.toNat) P2).2
 ·exact(show False from P2).elim
theorem zmb{i:Int}(hg:Gl X x)(hm:∃t,X.mg x=some (.int i t))(hd:(x==("__debug__" : Str))=false:=by decide):PE X (.Name x pos) (zaz G E (dC (.int i))):=by
 obtain⟨t,hm⟩:=hm
 exact zqv (zn2 (v:=.int i) hg hm ⟨t,rfl⟩ hd) rfl
end
end
section
section
variable {X:Cx} {G:Ga} {E:XK} {a b:Expr} {da db:Sl->M W} {pos:Pos}
def zf0:W->W->Option W:=i2 fun i j=>.bl (decide (i=j))
def zoO:W->W->Option W:=i2 fun i j=>.bl (!decide (i=j))
theorem zno:Sc2 rEq zf0:=by
 intro x y w e
 cases x<;>cases y<;>simp only[zf0,i2,Option.some.injEq,reduceCtorEq] at e
 subst e
 exact⟨_,_,_,rfl,rfl,rfl,fun H Q hq=>⟨rfl,by simpa using hq⟩⟩
theorem zqT:Sc2 rNe zoO:=by
 intro x y w e
 cases x<;>cases y<;>simp only[zoO,i2,Option.some.injEq,reduceCtorEq] at e
 subst e
 exact⟨_,_,_,rfl,rfl,rfl,fun H Q hq=>⟨rfl,by simpa using hq⟩⟩
theorem ziq(ha:PE X a (zaz G E da))(hb:PE X b (zaz G E db)):PE X (.Compare a [.Eq] [b] pos) (zaz G E (dOp zf0 da db)):=zkf zqa zno ha hb (zcn _)
theorem zeK(ha:PE X a (zaz G E da))(hb:PE X b (zaz G E db)):PT X (.Compare a [.Eq] [b] pos) (zco G E (dB (dOp zf0 da db))):=zfP zqa ha hb (zcn _) (zbZ (zgQ zno))
theorem znp(ha:PE X a (zaz G E da))(hb:PE X b (zaz G E db)):PT X (.Compare a [.NotEq] [b] pos) (zco G E (dB (dOp zoO da db))):=zfP zsx ha hb (zcn _) (zbZ (zgQ zqT))
def zg0(k v:Sl->M W):Sl->M W:=fun sl ce=>match bnd (k sl) (fun kw=>bnd (v sl) fun vw=>ret (kw,vw)) (ce++[.dct []]) with
 | some (.ok (kw,vw) ce2)=>match zjE kw,ce2[ce.length]? with
  | some key,some (.dct [])=>some (.ok (.cel ce.length) (ce2.set ce.length (.dct [(key,vw)])))
  | _,_=>none
 | some (.ex x ce2)=>some (.ex x ce2)
 | none=>none
theorem zmc{k v:Expr}{dk dv:Sl->M W}(hk:PE X k (zaz G E dk))(hv:PE X v (zaz G E dv)):PE X (.Dict [some k] [v] pos) (zaz G E (zg0 dk dv)):=by
 refine PE.imp (zow (zl1 hk hv zov) rfl rfl (by intro h;cases h) (by simp)) fun σ H Q zz_=>el6 zz_ fun F as sl ce S P=>?_
 intro p hp
 obtain⟨S1,l1⟩:=S.st.alloc (o:=.dK []) (c:=.dct []) hp (fun as' l=>⟨[],zaK,.nil⟩)
 have hlen:as.length=ce.length:=S.st.len
 have P':Post G E (fun F as (a:W×W) (b:V×V)=>Rep F as a.1 b.1/\Rep F as a.2 b.2) F (as++[p]) σ sl (fun b H2=>H2 p=some (.dK [])/\∃kvs:List (Key×V),[b]=kvs.map (fun kv=>(kV kv.1,kv.2))/\kvs.length<=15/\Q (.ref p) (upd H2 p (.dK (zeD [] kvs))))
   (bnd (dk sl) (fun kw=>bnd (dv sl) fun vw=>ret (kw,vw)) (ce++[.dct []])):=by
  unfold zg0 at P
  cases e:bnd (dk sl) (fun kw=>bnd (dv sl) fun vw=>ret (kw,vw)) (ce++[.dct []]) with
  | none=>rw[e] at P;exact P.elim
  | some r=>cases r with
   | ex x ce2=>rw[e] at P;exact fun H' F' as' cv od l=>P H' F' as' cv od (l1.trans l)
   | ok a ce2 =>
    obtain⟨kw,vw⟩:=a
    rw[e] at P
    dsimp only at P
    split at P
    ·rename_i key hkey hcell
     intro b H' F' as' l S' r
     obtain⟨kv,vv⟩:=b
     have hp':as'[ce.length]?=some p:=l.c _ _ (by rw[<- hlen];simp)
     obtain⟨_,ps,h2,rk⟩:=S'.st.cell _ _ _ hp' hcell
     cases rk
     have rput:RepKV F' as' [(key,vw)] [(key,vv)]:=.cons ⟨rfl,r.2⟩ .nil
     refine⟨h2,[(key,vv)],?_,by simp,?_⟩
     ·simp only[map_cons,map_nil];rw[show kv=kV key from zhH r.1 hkey]
     ·exact P (.ref p) _ F' as' (l1.trans l) (S'.slots (S'.st.write (o:=.dK (zeD [] [(key,vv)])) (c:=.dct [(key,vw)]) hp' ⟨_,zaK,rput⟩) .refl) (by simp only[Rep];exact⟨p,rfl,hp'⟩)
    ·exact P.elim
 refine(step (S.slots S1 l1) P').mono fun x H1 zz_=>el8 zz_ fun wx F1 as1 ce1 l2 S2 rx P1=>(step S2 P1).mono fun y H2 zz_=>el8 zz_ fun wy F2 as2 ce2 l3 S3 ry P2=>?_
 exact Post.done (RP:=fun F as (a:W×W) (b:V×V)=>Rep F as a.1 b.1/\Rep F as a.2 b.2) (a:=(wx,wy)) (b:=(x,y)) S3 P2 ⟨rx.le l3,ry⟩
end
end
section
def noL(K:PySem.W.Frag):Bool:=K.all fun p=>match p.2.cls with
 | .type "list" => false
 | _=>true
theorem zqU{K:PySem.W.Frag}(h:noL K=true){a:Addr}{o:Obj}(e:K.lookup a=some o):o.cls≠.type "list" := by
 intro hc
 have hm:∀{l:PySem.W.Frag},l.lookup a=some o->(a,o)∈l:=by
  intro l
  induction l with
  | nil=>intro e;cases e
  | cons p r ih =>
   intro e
   obtain⟨b,q⟩:=p
   by_cases hb:a=b
   ·subst hb
    have:List.lookup a ((a,q)::r)=some q:=by simp[List.lookup]
    rw[this] at e;cases e;exact mem_cons_self
   ·have:List.lookup a ((b,q)::r)=List.lookup a r:=by
     have hb':(a==b)=false:=by simpa using hb
     simp[List.lookup,hb']
    rw[this] at e
    exact mem_cons_of_mem _ (ih e)
 have:=all_eq_true.mp h _ (hm e)
 simp only[hc] at this
 cases this
def spLaw(G:PySem.W.Frag->Ga)(d:List W->M W)(K:PySem.W.Frag):Sp:=fun vs H Q E=>noL K=true->spV (G K) (fun _=>E0) 1 d vs H Q E
theorem law_sp{G:PySem.W.Frag->Ga}{d:List W->M W}{n:Nat}(main:∀ns:List Int,ns.length<=n->∃ce',d [.lst (ns.map W.int)] []=some (.ok (.bl true) ce'))(K:PySem.W.Frag)(H:Hp)(a:Addr)(ns:List Int)(hl:ns.length<=n)(_hO:zqp H)(hS:SqL K H a (ns.map V.int)):spLaw G d K [.ref a] H (fun v _=>v=.bl true) fun _ _ _=>False:=by
 intro nl
 rcases hS with hS|⟨o,its,m,hk,hc,_⟩
 ·obtain⟨ce',e⟩:=main ns hl
  refine⟨rfl,H,[],[.lst (ns.map W.int)],[],⟨fun _ _ h=>h,by simp,rfl,fun k a c h _=>by simp at h⟩,.cons (by simp only[Rep];exact⟨a,_,rfl,hS,Reps.ints ns⟩) .nil,?_⟩
  rw[e]
  intro v H' F' as' _ _ r
  simpa only[Rep] using r
 ·exact absurd hc (zqU nl hk)
section
variable {α β:Type}
theorem zce{m:M α}{f:α->M β}{ce ce':Ce}{a:α}(h:m ce=some (.ok a ce')):bnd m f ce=f a ce':=by simp only[bnd,h]
theorem zkF{a b:DS}{sl sl':Sl}{ce ce':Ce}(h:a sl ce=some (.go .nx sl' ce')):zax a b sl ce=b sl' ce':=by simp only[zax,h]
end
section
variable {ce l:Ce} {c:C} {n:Nat}
theorem zr8(ce l:Ce)(j:Nat):(ce++l)[ce.length+j]?=l[j]?:=by rw[getElem?_append_right (le_add_right _ _),add_sub_cancel_left]
theorem zqV(ce l:Ce):(ce++l)[ce.length]?=l[0]?:=zr8 ce l 0
theorem ztO(ce l:Ce)(j:Nat)(c:C):(ce++l).set (ce.length+j) c=ce++l.set j c:=by rw[set_append_right _ _ (le_add_right _ _),add_sub_cancel_left]
theorem zs9(ce l:Ce)(c:C):(ce++l).set ce.length c=ce++l.set 0 c:=ztO ce l 0 c
theorem cutOk_app(ce l:Ce):zfX ce (ce++l):=⟨by rw[length_append];omega,fun k c hk h=>.inl (by rwa [getElem?_append_left hk] at h)⟩
theorem zf1(ce l:Ce):(ce++l).take ce.length=ce:=take_left
theorem belInts(n:Nat):∀ns:List Int,zda n (ns.map W.int)
 | []=>by simp only[map_nil,zda]
 | a::r=>by simp only[map_cons,zda,Bel];exact⟨trivial,belInts n r⟩
end
theorem zmd{ce l:Ce}{j:Nat}{c:C}(h:l[j]?=some c)(hb:ze9 ce.length c):finO ce (ce++l) (.cel (ce.length+j))=some (.ok (.cel ce.length) (ce++[c])):=by
 have e:(ce++l)[ce.length+j]?=some c:=by rw[zr8];exact h
 simp only[finO,e]
 rw[if_pos ⟨cutOk_app ce l,le_add_right _ _,hb⟩,zf1]
theorem zes{ce l:Ce}{w:W}(hb:Bel ce.length w):finC ce (ce++l) w=some (.ok w ce):=by
 unfold finC
 rw[if_pos ⟨cutOk_app ce l,hb⟩,zf1]
theorem zaB{ce:Ce}{w:W}(hb:Bel ce.length w):finC ce ce w=some (.ok w ce):=by
 have:=zes (l:=[]) hb
 rwa [append_nil] at this
theorem zbM{d:List W->M W}{ws:List W}{ce:Ce}{xs:List W}(h:d ws ce=some (.ok (.cel ce.length) (ce++[.lst xs])))(hb:zda ce.length xs):zcr d ws ce=some (.ok (.lst xs) ce):=by
 have e:(ce++[C.lst xs])[ce.length]?=some (.lst xs):=by rw[zqV];rfl
 simp only[zcr,h,e]
 rw[if_pos ⟨cutOk_app ce _,rfl,hb⟩,zf1]
end
end VS
namespace VS
open L2
section
variable {α β:Type}
@[simp] theorem zme(m:M α)(f:α->M β)(ce:Ce):bnd m f ce=match m ce with|some (.ok a ce')=>f a ce'|some (.ex x ce')=>some (.ex x ce')|none=>none:=rfl
@[simp] theorem zta(m:Option (R α))(k:α->Ce->Option O):lft m k=match m with|some (.ok a ce')=>k a ce'|some (.ex x ce')=>some (.ex x ce')|none=>none:=rfl
@[simp] theorem zqW(a:α)(ce:Ce):ret a ce=some (.ok a ce):=rfl
@[simp] theorem znq(f:Ce->Option α)(ce:Ce):look f ce=(f ce).map fun a=>R.ok a ce:=rfl
end
variable (a b c:Sl->M W) (ta tb:Sl->M Bool) (s t:DS) (sl:Sl) (ce:Ce) (i:Nat) (w:W)
@[simp] theorem zir:zaf i sl ce=match sl[i]? with|some (some w)=>some (.ok w ce)|_=>none:=rfl
@[simp] theorem zu1:dC w sl ce=some (.ok w ce):=rfl
@[simp] theorem zuD(f:W->W->Option W):dOp f a b sl ce=bnd (a sl) (fun x=>bnd (b sl) fun y=>look fun _=>f x y) ce:=rfl
@[simp] theorem zqX(f:Ce->W->W->Option W):zaD f a b sl ce=bnd (a sl) (fun x=>bnd (b sl) fun y=>look fun ce=>f ce x y) ce:=rfl
@[simp] theorem zuE(f:W->Option W):dUn f a sl ce=bnd (a sl) (fun x=>look fun _=>f x) ce:=rfl
@[simp] theorem zu2:dB a sl ce=bnd (a sl) (fun w=>look fun _=>match w with|.bl b=>some b|_=>none) ce:=rfl
@[simp] theorem ztP:zly a sl ce=bnd (a sl) (fun w=>look fun ce=>zhF ce w) ce:=rfl
@[simp] theorem ztb:zfb ta tb sl ce=bnd (ta sl) (fun x=>match x with|true=>tb sl|false=>ret false) ce:=rfl
@[simp] theorem ztQ:zlz ta tb sl ce=bnd (ta sl) (fun x=>match x with|true=>ret true|false=>tb sl) ce:=rfl
@[simp] theorem ztc:zfc ta sl ce=bnd (ta sl) (fun x=>ret (!x)) ce:=rfl
@[simp] theorem ztR:zax s t sl ce=match s sl ce with|some (.go .nx sl' ce')=>t sl' ce'|r=>r:=rfl
@[simp] theorem ztd:za4 sl ce=some (.go .nx sl ce):=rfl
@[simp] theorem ztS:zaU i a sl ce=lft (a sl ce) fun w ce'=>some (.go .nx (sl.set i (some w)) ce'):=rfl
@[simp] theorem ztT:zbq a sl ce=lft (a sl ce) fun w ce'=>some (.go (.rt w) sl ce'):=rfl
@[simp] theorem zte:dEx a sl ce=lft (a sl ce) fun _ ce'=>some (.go .nx sl ce'):=rfl
@[simp] theorem zuF:dIf ta s t sl ce=lft (ta sl ce) fun x ce'=>match x with|true=>s sl ce'|false=>t sl ce':=rfl
@[simp] theorem znr:zan sl ce=some (.ok [] ce):=rfl
@[simp] theorem zkG(r:Sl->M (List W)):zad a r sl ce=bnd (a sl) (fun x=>bnd (r sl) fun xs=>ret (x::xs)) ce:=rfl
@[simp] theorem ztf(f:List W->M W)(r:Sl->M (List W)):dBi f r sl ce=bnd (r sl) f ce:=rfl
@[simp] theorem ztg(n:Nat)(f:List W->M W)(r:Sl->M (List W)):zar n f r sl ce=bnd (r sl) (fun ws=>if ws.length=n then f ws else zhD) ce:=rfl
@[simp] theorem ztU(r:Sl->M (List W)):zbT r sl ce=bnd (r sl) (fun xs=>mkF (.tup xs) xs.length) ce:=rfl
@[simp] theorem ztV(r:Sl->M (List W)):zc7 r sl ce=bnd (r sl) (fun xs=>mkF (.lst xs) xs.length) ce:=rfl
@[simp] theorem zth(r:Sl->M (List W)):zcq r sl ce=bnd (r sl) (fun xs=>mkC (.lst xs) xs.length) ce:=rfl
@[simp] theorem zti:zjf sl ce=mkC (.dct []) 0 ce:=rfl
@[simp] theorem zuG{n:Nat}(h:n<=PySem.sizeLine):mkF w n ce=some (.ok w ce):=if_pos h
@[simp] theorem zuH(c:C){n:Nat}(h:n<=PySem.sizeLine):mkC c n ce=some (.ok (.cel ce.length) (ce++[c])):=if_pos h
@[simp] theorem zkH{xs:List W}(h:xs.length<=PySem.sizeLine):zb0 xs ce=some (.ok (.lst xs) ce):=if_pos h
@[simp] theorem ztW{xs:List W}(h:xs.length<=PySem.sizeLine):zfx xs ce=some (.ok (.cel ce.length) (ce++[.lst xs])):=if_pos h
@[simp] theorem zqY{xs:List W}(h:xs.length<=PySem.sizeLine):zoJ xs ce=some (.ok (.tup xs) ce):=if_pos h
@[simp] theorem ztj(f:W->List W->M W)(r:Sl->M (List W)):dMt f a r sl ce=bnd (a sl) (fun x=>bnd (look fun ce=>zlC ce x) fun _=>bnd (r sl) fun ws=>f x ws) ce:=rfl
@[simp] theorem ztX(f:W->List W->M W):zqO f a sl ce=bnd (a sl) (fun x=>bnd (look fun ce=>zlC ce x) fun _=>f x []) ce:=rfl
@[simp] theorem zu3:gN i w sl ce=some (sl.set i (some w),ce):=rfl
theorem zns{o i v:Sl->M W}{sl:Sl}{ce ce1 ce2 ce3:Ce}{w ow iw:W}{key:Key}{k:Nat}{kvs:List (Key×W)}(h1:v sl ce=some (.ok w ce1))(h2:o sl ce1=some (.ok ow ce2))(h3:i sl ce2=some (.ok iw ce3))(h4:zjE iw=some key)(h5:zni ce3 ow=some (k,kvs))(h6:kvs.length<PySem.sizeLine) :
  znj o i v sl ce=some (.go .nx sl (ce3.set k (.dct (zjh kvs key w)))):=by
 simp only[znj,lft,h1,h2,h3,h4,h5,if_pos h6]
theorem zqZ{w y:W}{ce:Ce}{k:Nat}{xs:List W}(h:zky ce w=some (k,xs))(hl:xs.length<PySem.sizeLine):zer w [y] ce=some (.ok .non (ce.set k (.lst (xs++[y])))):=by simp only[zer,h,if_pos hl]
@[simp] theorem ztY(x y:Int):zcc (.int x) (.int y)=some (.int (x+y)):=rfl
@[simp] theorem ztZ(x y:Int):zjC (.int x) (.int y)=some (.int (x-y)):=rfl
@[simp] theorem zuI(x y:Int):fLt (.int x) (.int y)=some (.bl (decide (x<y))):=rfl
@[simp] theorem zuJ(x y:Int):fLe (.int x) (.int y)=some (.bl (decide (x<=y))):=rfl
@[simp] theorem zuK(x y:Int):fGt (.int x) (.int y)=some (.bl (decide (y<x))):=rfl
@[simp] theorem zuL(x y:Int):fGe (.int x) (.int y)=some (.bl (decide (y<=x))):=rfl
@[simp] theorem zt0(x y:Int):zf0 (.int x) (.int y)=some (.bl (decide (x=y))):=rfl
@[simp] theorem zt1(x y:Int):zoO (.int x) (.int y)=some (.bl (!decide (x=y))):=rfl
@[simp] theorem zt2(x:Int):zjD (.int x)=some (.int (-x)):=rfl
theorem zq0{x y:Int}(h:CMul x y):zeE (.int x) (.int y)=some (.int (x*y)):=by simp only[zeE,i2c,if_pos h]
theorem znt{x y:Int}(h:0<y):zdQ (.int x) (.int y)=some (.int (x % y)):=by simp only[zdQ,i2c,if_pos h]
@[simp] theorem zt3(xs:List W):zfR ce (.tup xs)=some xs:=rfl
@[simp] theorem zt4(xs:List W):zfR ce (.lst xs)=some xs:=rfl
@[simp] theorem zq1(xs:List W):zdr ce (.lst xs)=some xs:=rfl
theorem zcH{ce:Ce}{k:Nat}{xs:List W}(h:ce[k]?=some (.lst xs)):zdr ce (.cel k)=some xs:=by simp only[zdr,h]
theorem zis{ce:Ce}{k:Nat}{xs:List W}(h:ce[k]?=some (.lst xs)):zfR ce (.cel k)=some xs:=by simp only[zfR,zdr,h]
theorem zq2{ce:Ce}{k:Nat}{xs:List (Key×W)}(h:ce[k]?=some (.dct xs)):zpD ce (.cel k)=some xs:=by simp only[zpD,h]
theorem zfA{ce:Ce}{k:Nat}{xs:List W}(h:ce[k]?=some (.lst xs)):zky ce (.cel k)=some (k,xs):=by simp only[zky,h]
theorem zkI{ce:Ce}{k:Nat}{xs:List (Key×W)}(h:ce[k]?=some (.dct xs)):zni ce (.cel k)=some (k,xs):=by simp only[zni,h]
@[simp] theorem zt5(j:Int):zjE (.int j)=some (.inl j):=rfl
theorem zmf{α:Type}{xs:List α}{j:Nat}:atI xs (j:Int)=xs[j]?:=by
 unfold atI ixN
 by_cases h:j<xs.length
 ·rw[if_pos (by omega),if_pos (by omega)];simp
 ·rw[if_pos (by omega),if_neg (by omega),getElem?_eq_none (by omega)];rfl
theorem zdv{xs:List W}{x y:W}{ce:Ce}{j:Nat}(h:zfR ce x=some xs)(hy:y=.int j):ixW ce x y=xs[j]?:=by
 subst hy
 simp only[ixW,h]
 exact zmf
theorem zcQ(c0:C):(ce++[c0])[ce.length]?=some c0:=by rw[zqV];rfl
def nW(n:Nat):W:=.int (n:Int)
def wT(l:List Nat):W:=.tup (l.map nW)
def wB(b:List (List Nat)):W:=.tup (b.map wT)
def kvs(F:List Nat):List (Key×W):=F.map fun(x:Nat)=>((Sum.inl (x:Int):Key),W.bl true)
def toI(F:List Nat):List Int:=F.map fun(x:Nat)=>(x:Int)
theorem zoP(F:List Nat)(y:Nat):(zjg (kvs F) (.inl (y:Int))).isSome=decide (y∈F):=by
 induction F with
 | nil=>rfl
 | cons x F ih =>
  by_cases h:x=y
  ·subst h;simp[kvs,zjg]
  ·have h':¬((x:Int)=(y:Int)):=by omega
   have e:zjg (kvs (x::F)) (.inl (y:Int))=zjg (kvs F) (.inl (y:Int)):=by simp[kvs,zjg,find?_cons,h']
   have hm:(y∈x::F)↔y∈F:=by simp[Ne.symm h]
   rw[e,ih]
   simp[hm]
theorem zhJ(F:List Nat)(y:Nat)(h:y∉F):zjh (kvs F) (.inl (y:Int)) (.bl true)=kvs (F++[y]):=by
 have e:((kvs F).any fun kv=>decide (kv.1=(.inl (y:Int):Key)))=false:=by
  rw[eq_false_iff]
  intro q
  obtain⟨p,hp,e⟩:=any_eq_true.mp q
  obtain⟨x,hx,rfl⟩:=mem_map.mp hp
  have e:=of_decide_eq_true e
  have:(x:Int)=y:=Sum.inl.inj e
  exact h (by rw[<- ofNat_inj.mp this];exact hx)
 unfold zjh
 rw[e]
 simp[kvs]
theorem zdW(F:List Nat):(kvs F).length=F.length:=by simp[kvs]
theorem zmg(F:List Nat):zgX (kvs F)=some (toI F):=by
 induction F with
 | nil=>rfl
 | cons x F ih=>simp only[kvs,toI,map_cons,zgX] at ih ⊢;rw[ih];rfl
theorem zbU(F:List Nat):(toI F).length=F.length:=by simp[toI]
theorem zkJ(F:List Nat):F.map nW=(toI F).map W.int:=by simp[toI,nW]
theorem zf2(F:List Nat):zeI (F.map nW)=some (toI F):=by rw[zkJ,zdt]
theorem zkK{F F':List Nat}(h:F.Perm F'):srt (toI F)=srt (toI F') :=
 zcy ((zbH _).trans ((show(toI F).Perm (toI F') from h.map _).trans (zbH _).symm)) (zc1 _) (zc1 _)
theorem zcz{F F':List Nat}(h:F.Nodup)(h':F'.Nodup)(e:∀x,x∈F↔x∈F'):F.Perm F':=by
 rw[perm_iff_count]
 intro x
 rw[h.count,h'.count]
 simp[e x]
theorem zaQ:∀{n:Nat} {F:List Nat},F.Nodup->(∀x∈F,x<n)->F.length<=n
 | 0,F,_,hl=>by
  cases F with
  | nil=>simp
  | cons a r=>exact absurd (hl a mem_cons_self) (not_lt_zero _)
 | n+1,F,h,hl=>by
  by_cases hn:n∈F
  ·have h1:=zaQ (n:=n) (h.erase n) fun x hx=>by
    have hx':=(List.Nodup.mem_erase_iff h).mp hx
    have:=hl x hx'.2
    have:=hx'.1
    omega
   rw[length_erase_of_mem hn] at h1
   have:=length_pos_of_mem hn
   omega
  ·have h1:=zaQ (n:=n) h fun x hx=>by
    have:=hl x hx
    have:x≠n:=fun e=>hn (e▸hx)
    omega
   omega
inductive Reach (b:List (List Nat)) (ok:Nat->Prop) (s:Nat):Nat->Prop where
 | refl:Reach b ok s s
 | step {x y:Nat} (h:Reach b ok s x) (hy:y∈b.getD x []) (o:ok y):Reach b ok s y
structure Comp (b:List (List Nat)) (ok:Nat->Prop) (s:Nat) (F:List Nat):Prop where
 nd:F.Nodup
 st:s∈F
 lt:∀x∈F,x<b.length
 cl:∀x∈F,∀y∈b.getD x [],ok y->y∈F
 re:∀x∈F,Reach b ok s x
theorem Comp.mem{b:List (List Nat)}{ok:Nat->Prop}{s:Nat}{F:List Nat}(h:Comp b ok s F)(x:Nat):x∈F↔Reach b ok s x:=by
 refine⟨h.re x,fun r=>?_⟩
 induction r with
 | refl=>exact h.st
 | step _ hy o ih=>exact h.cl _ ih _ hy o
def Bd(b:List (List Nat)):Prop:=∀r∈b,∀x∈r,x<b.length
theorem Bd.get{b:List (List Nat)}(h:Bd b){x y:Nat}(hy:y∈b.getD x []):y<b.length:=by
 rw[getD_eq_getElem?_getD] at hy
 cases e:b[x]? with
 | none=>rw[e] at hy;simp at hy
 | some r=>rw[e] at hy;exact h r (mem_of_getElem? e) y (by simpa using hy)
structure Row (row:List Nat) (ok:Nat->Prop) (F F':List Nat) (r new:List Nat):Prop where
 app:F'=F++new
 nd:F'.Nodup
 mem:∀y∈new,y∈row/\ok y
 done:∃d,row=d++r/\∀y∈d,ok y->y∈F'
theorem zg1{ce:Ce}{x:W}{xs:List W}{j:Nat}(h:zfR ce x=some xs):ixW ce x (nW j)=xs[j]?:=zdv h rfl
theorem zq3(T:List Nat)(y:Nat):(T.map nW).any (fun z=>peq z (nW y))=decide (y∈T):=by
 induction T with
 | nil=>rfl
 | cons x T ih =>
  rw[map_cons,any_cons,ih]
  by_cases h:x=y
  ·subst h;simp[nW,peq]
  ·have h':¬((x:Int)=(y:Int)):=by omega
   simp[nW,peq,h',Ne.symm h]
theorem zq4(T:List Nat):(T.map nW).all (cln 8)=true:=by
 rw[all_eq_true]
 intro w hw
 obtain⟨x,_,rfl⟩:=mem_map.mp hw
 rfl
theorem zcf(T:List Int)(n:Nat):(T.map W.int).all (cln n)=true:=by
 rw[all_eq_true]
 intro w hw
 obtain⟨x,_,rfl⟩:=mem_map.mp hw
 cases n<;>rfl
theorem zq5{ce:Ce}{x:W}{T:List Nat}{y:Nat}(h:zfR ce x=some (T.map nW))(ng:Bool):inW ng ce (nW y) x=some (.bl (if ng then !decide (y∈T) else decide (y∈T))):=by
 have c:cln 8 (nW y)=true:=rfl
 have e:drf ce (nW y)=nW y:=rfl
 simp only[inW,h,e,c,zq4,Bool.and_self,if_true,zq3]
theorem zf3(a b:Int):peq (.int a) (.int b)=decide (a=b):=by simp[peq];rfl
theorem zeL:∀(l m:List Int),peqs (l.map W.int) (m.map W.int)=decide (l=m)
 | [],[]=>by simp[peqs]
 | [],_::_=>by simp[peqs]
 | _::_,[]=>by simp[peqs]
 | a::l,b::m=>by
  simp only[map_cons,peqs,zf3,zeL l m]
  by_cases h1:a=b<;>by_cases h2:l=m<;>simp[h1,h2]
theorem zmh(l m:List Int):peq (.lst (l.map W.int)) (.lst (m.map W.int))=decide (l=m):=by simp only[peq,zeL]
theorem sl36:(36:Nat)<PySem.sizeLine:=by decide
theorem znu{s:Src}{cs:Sl}{e:Sl->M W}{ce:Ce}(hst:s.Stays ce)(P:W->W->Prop):∀(l ys:List W),(∀x∈l,∃y,P x y/\e (some x::cs) ce=some (.ok y ce))->ys.length+l.length<=PySem.sizeLine ->
  ∃zs,lcL s cs zd4 e l ys ce=some (.ok (ys++zs) ce)/\PySem.Paired P l zs
 | [],ys,_,_=>⟨[],by simp only[lcL,if_pos hst,append_nil],.nil⟩
 | x::r,ys,h,hz=>by
  have hl:ys.length<PySem.sizeLine:=by simp only[length_cons] at hz;omega
  obtain⟨y,py,ey⟩:=h x mem_cons_self
  obtain⟨zs,ez,pz⟩:=znu hst P r (ys++[y]) (fun z hz=>h z (mem_cons_of_mem _ hz)) (by simp only[length_append,length_cons,length_nil] at hz ⊢;omega)
  refine⟨y::zs,?_,.cons py pz⟩
  rw[zfW ⟨hst,hl⟩]
  show bnd (ret true) _ ce=_
  rw[zce (m:=ret true) rfl]
  show bnd (e (some x::cs)) (fun y=>lcL s cs zd4 e r (ys++[y])) ce=_
  rw[zce ey,ez,append_assoc]
  rfl
theorem zq6{mk:List W->M W}{js:List Nat}{di:Sl->M Src}{e:Sl->M W}{sl:Sl}{ce ce0:Ce}{s:Src}(hi:di sl ce0=some (.ok s ce))(hst:s.Stays ce)(P:W->W->Prop)(h:∀x∈s.items,∃y,P x y/\e (some x::zdR js sl) ce=some (.ok y ce))(hz:s.items.length<=PySem.sizeLine) :
  ∃zs,dLC mk js di zd4 e sl ce0=mk zs ce/\PySem.Paired P s.items zs:=by
 obtain⟨zs,e1,p⟩:=znu hst P s.items [] h (by simpa using hz)
 refine⟨zs,?_,p⟩
 show bnd (di sl) (fun s=>bnd (lcL s (zdR js sl) zd4 e s.items []) mk) ce0=_
 rw[zce hi,zce e1,nil_append]
theorem zg2{s:Src}{cs:Sl}(hst:∀ce,s.Stays ce):∀(l ys:List W) (ce:Ce),ys.length+l.length<=PySem.sizeLine ->
  lcL s cs zd4 (zcq zan) l ys ce=some (.ok (ys++(List.range l.length).map fun i=>W.cel (ce.length+i)) (ce++List.replicate l.length (C.lst [])))
 | [],ys,ce,_=>by simp[lcL,if_pos (hst ce)]
 | x::r,ys,ce,hz=>by
  have hl:ys.length<PySem.sizeLine:=by simp only[length_cons] at hz;omega
  have ih:=zg2 (s:=s) (cs:=cs) hst r (ys++[W.cel ce.length]) (ce++[C.lst []]) (by simp only[length_append,length_cons,length_nil] at hz ⊢;omega)
  rw[zfW ⟨hst ce,hl⟩]
  show bnd (ret true) _ ce=_
  rw[zce (m:=ret true) rfl]
  have ex:zcq zan (some x::cs) ce=some (.ok (W.cel ce.length) (ce++[C.lst []])):=by simp
  show bnd (zcq zan (some x::cs)) (fun y=>lcL s cs zd4 (zcq zan) r (ys++[y])) ce=_
  rw[zce ex,ih]
  have e1:(List.range (r.length+1)).map (fun i=>W.cel (ce.length+i))=W.cel ce.length::(List.range r.length).map fun i=>W.cel ((ce++[C.lst []]).length+i):=by
   rw[range_succ_eq_map,map_cons,map_map]
   congr 1
   apply map_congr_left
   intro i _
   simp only[Function.comp,length_append,length_cons,length_nil]
   congr 1
   omega
  have e2:ce++List.replicate (r.length+1) (C.lst [])=ce++[C.lst []]++List.replicate r.length (C.lst []):=by
   rw[replicate_succ,append_assoc];rfl
  rw[length_cons,e1,e2,append_assoc]
  rfl
theorem zq7{n:Nat}(h:n<=1000):zjF [nW n]=some (.rng 0 n):=by
 have h1:(-4611686018427387904:Int)<=(n:Int)/\(n:Int)<4611686018427387904:=by omega
 simp only[zjF,nW,if_pos h1,toNat_natCast]
theorem zq8{d:Sl->M (List W)}{sl:Sl}{ce ce':Ce}{n:Nat}(hd:d sl ce=some (.ok [nW n] ce'))(h:n<=1000):zgy d sl ce=some (.ok (.rng 0 n) ce'):=by
 show bnd (d sl) (fun ws=>look (fun _=>zjF ws)) ce=_
 rw[zce hd]
 show(zjF [nW n]).map _=_
 rw[zq7 h]
 rfl
theorem zkL(k:Int){n:Nat}(h:0<n):∃j:Nat,j<n/\k % (n:Int)=j:=by
 have h1:=emod_nonneg k (b:=(n:Int)) (by omega)
 have h2:=emod_lt_of_pos k (b:=(n:Int)) (by omega)
 exact⟨(k % (n:Int)).toNat,by omega,by omega⟩
theorem znv{k:Int}{n j:Nat}(h:0<n)(e:k % (n:Int)=j):zdQ (.int k) (.int (n:Int))=some (nW j):=by rw[znt (by omega),e];rfl
theorem znw{fin:Ce->Ce->W->Option (R W)}{n:Nat}{body:DS}{ws:List W}{ce ce':Ce}{sl:Sl}{w:W}{r:Option (R W)}(h:body (ws.map some++List.replicate (n-ws.length) none) ce=some (.go (.rt w) sl ce'))(hf:fin ce ce' w=r):dFn fin n body ws ce=r:=by
 unfold dFn
 rw[h]
 exact hf
theorem zit{s:Src}{g:DG}{body:DS}{sl:Sl}{ce:Ce}(hst:s.Stays ce):zfV s g body [] sl ce=some (.go .nx sl ce):=by
 simp only[zfV,if_pos hst]
theorem zkM{di:Sl->M Src}{g:DG}{body:DS}{sl:Sl}{ce ce0:Ce}{src:Src}(hi:di sl ce=some (.ok src ce0)):zde di g body sl ce=zfV src g body src.items sl ce0:=by simp only[zde,lft,hi]
theorem zkN{i:Nat}{d:Sl->M W}{sl:Sl}{ce ce':Ce}{w:W}(h:d sl ce=some (.ok w ce')):zaU i d sl ce=some (.go .nx (sl.set i (some w)) ce'):=by simp only[zaU,lft,h]
theorem zq9{c:Sl->M Bool}{a b:DS}{sl:Sl}{ce ce':Ce}(h:c sl ce=some (.ok true ce')):dIf c a b sl ce=a sl ce':=by simp only[dIf,lft,h]
theorem zra{c:Sl->M Bool}{a b:DS}{sl:Sl}{ce ce':Ce}(h:c sl ce=some (.ok false ce')):dIf c a b sl ce=b sl ce':=by simp only[dIf,lft,h]
theorem zeM(n:Nat):(Src.rng 0 n).items=(List.range n).map nW:=by
 simp only[Src.items,Int.zero_add]
 rfl
theorem bels_nW(n:Nat):∀l:List Nat,zda n (l.map nW)
 | []=>by simp only[map_nil,zda]
 | a::r=>by simp only[map_cons,zda,nW,Bel];exact⟨trivial,bels_nW n r⟩
theorem zg3(n:Nat)(b:List (List Nat)):Bel n (wB b):=by
 simp only[wB,Bel]
 induction b with
 | nil=>simp only[map_nil,zda]
 | cons r b ih=>simp only[map_cons,zda,wT,Bel];exact⟨bels_nW n r,ih⟩
def zcb(r:List Nat):List Nat:=(srt (toI r)).map Int.toNat
theorem zdw(r:List Nat):(srt (toI r)).map W.int=(zcb r).map nW:=by
 unfold zcb
 rw[map_map]
 apply map_congr_left
 intro x hx
 have hx':=(zbH (toI r)).subset hx
 obtain⟨y,_,rfl⟩:=mem_map.mp hx'
 show W.int (y:Int)=W.int (((y:Int).toNat:Nat):Int)
 simp
theorem zdx(r:List Nat)(x:Nat):x∈zcb r↔x∈r:=by
 unfold zcb
 constructor
 ·intro h
  obtain⟨z,hz,rfl⟩:=mem_map.mp h
  obtain⟨y,hy,rfl⟩:=mem_map.mp ((zbH (toI r)).subset hz)
  simpa using hy
 ·intro h
  refine mem_map.mpr ⟨(x:Int),(zbH (toI r)).symm.subset (mem_map.mpr ⟨x,h,rfl⟩),by simp⟩
theorem Reach.trans{b:List (List Nat)}{ok:Nat->Prop}{s x y:Nat}(h:Reach b ok s x)(h':Reach b ok x y):Reach b ok s y:=by
 induction h' with
 | refl=>exact h
 | step _ hy o ih=>exact .step ih hy o
theorem Reach.okOf{b:List (List Nat)}{ok:Nat->Prop}{s x:Nat}(hs:ok s)(h:Reach b ok s x):ok x:=by
 cases h with
 | refl=>exact hs
 | step _ _ o=>exact o
theorem Reach.symm{b:List (List Nat)}{ok:Nat->Prop}{s x:Nat}(sym:∀i j,j∈b.getD i []->i∈b.getD j [])(hs:ok s)(h:Reach b ok s x):Reach b ok x s:=by
 induction h with
 | refl=>exact .refl
 | step h hy o ih=>exact Reach.trans (.step .refl (sym _ _ hy) (h.okOf hs)) ih
theorem Paired.nth{α β:Type}{P:α->β->Prop}{l:List α}{m:List β}(h:PySem.Paired P l m):l.length=m.length/\∀(i:Nat) (a:α) (b:β),l[i]?=some a->m[i]?=some b->P a b:=by
 refine⟨PySem.Paired.length h,fun i a b h1 h2=>?_⟩
 obtain⟨b',e,p⟩:=L2.Paired.at2 h i a h1
 rw[h2] at e;cases e;exact p
def Run(s:DS)(sl:Sl)(ce:Ce)(Q:O->Prop):Prop:=∃o,s sl ce=some o/\Q o
def Nx(P:Sl->Ce->Prop):O->Prop
 | .go .nx sl ce=>P sl ce
 | .go .ct sl ce=>P sl ce
 | _=>False
def Rt(P:W->Ce->Prop):O->Prop
 | .go (.rt w) _ ce=>P w ce
 | _=>False
def NR(P:Sl->Ce->Prop)(T:W->Ce->Prop):O->Prop
 | .go .nx sl ce=>P sl ce
 | .go .ct sl ce=>P sl ce
 | .go (.rt w) _ ce=>T w ce
 | _=>False
section
variable {s a b:DS} {sl sl':Sl} {ce ce' c1 c2 c3:Ce} {Q Q':O->Prop} {d e:Sl->M W} {w x y:W} {i:Nat} {p q:Bool} {ta tb:Sl->M Bool}
theorem Run.mono(h:Run s sl ce Q)(m:∀o,Q o->Q' o):Run s sl ce Q':=by
 obtain⟨o,e,q⟩:=h;exact⟨o,e,m o q⟩
theorem znx{o:O}(h:s sl ce=some o)(q:Q o):Run s sl ce Q:=⟨o,h,q⟩
theorem zbk(q:Q (.go .nx sl ce)):Run za4 sl ce Q:=⟨_,rfl,q⟩
theorem zeN(h:e sl ce=some (.ok w ce'))(q:Q (.go .nx (sl.set i (some w)) ce')):Run (zaU i e) sl ce Q:=⟨_,zkN h,q⟩
theorem zau(h:e sl ce=some (.ok w ce'))(q:Q (.go (.rt w) sl ce')):Run (zbq e) sl ce Q:=⟨_,by simp only[zbq,lft,h],q⟩
theorem zg4(h:e sl ce=some (.ok w ce'))(q:Q (.go .nx sl ce')):Run (dEx e) sl ce Q:=⟨_,by simp only[dEx,lft,h],q⟩
theorem zbO(h:ta sl ce=some (.ok p ce'))(ht:p=true->Run a sl ce' Q)(hf:p=false->Run b sl ce' Q):Run (dIf ta a b) sl ce Q:=by
 cases p with
 | true=>obtain⟨o,e,q⟩:=ht rfl;exact⟨o,by rw[zq9 h];exact e,q⟩
 | false=>obtain⟨o,e,q⟩:=hf rfl;exact⟨o,by rw[zra h];exact e,q⟩
theorem zcg(h:a sl ce=some (.go .nx sl' ce'))(q:Run b sl' ce' Q):Run (zax a b) sl ce Q:=by
 obtain⟨o,e,q⟩:=q;exact⟨o,by rw[zkF h];exact e,q⟩
theorem zap(h:e sl ce=some (.ok w ce'))(q:Run b (sl.set i (some w)) ce' Q):Run (zax (zaU i e) b) sl ce Q:=zcg (zkN h) q
theorem ziu(h:e sl ce=some (.ok w ce'))(q:Run b sl ce' Q):Run (zax (dEx e) b) sl ce Q:=zcg (by simp only[dEx,lft,h]) q
theorem zjm{c:DS}:zax (zax a b) c=zax a (zax b c):=by
 funext sl ce
 simp only[zax]
 cases a sl ce with
 | none=>rfl
 | some o=>cases o with
  | ex x c=>rfl
  | go f sl' ce'=>cases f<;>rfl
theorem zkO{c:DS}(h:Run (zax a (zax b c)) sl ce Q):Run (zax (zax a b) c) sl ce Q:=by rw[zjm];exact h
theorem zaV{c:DS}(h:Run c sl ce Q):Run (zax za4 c) sl ce Q:=h
theorem zb2{c:DS}(h:Run (zbq e) sl ce Q):Run (zax (zbq e) c) sl ce Q:=by
 obtain⟨o,e',q⟩:=h
 refine⟨o,?_,q⟩
 simp only[zax]
 simp only[zbq,lft] at e' ⊢
 cases h:e sl ce with
 | none=>rw[h] at e';cases e'
 | some r=>rw[h] at e';cases r<;>exact e'
theorem zbe{c:DS}(h:ta sl ce=some (.ok p ce'))(ht:p=true->Run (zax a c) sl ce' Q)(hf:p=false->Run (zax b c) sl ce' Q):Run (zax (dIf ta a b) c) sl ce Q:=by
 cases p with
 | true=>obtain⟨o,e,q⟩:=ht rfl;exact⟨o,by rw[<- e];simp only[zax,zq9 h],q⟩
 | false=>obtain⟨o,e,q⟩:=hf rfl;exact⟨o,by rw[<- e];simp only[zax,zra h],q⟩
end
section
variable {α:Type} {en:α->W} {src:Src} {g:DG} {body b:DS} {Q:O->Prop}
theorem ziv(xs:List α)(R:List α->Sl->Ce->Prop)(T:W->Ce->Prop)(step:∀d x r sl ce,d++x::r=xs->R d sl ce->src.Stays ce/\∃sl1,g (en x) sl ce=some (sl1,ce)/\Run body sl1 ce (NR (R (d++[x])) T))(hst:∀sl ce,R xs sl ce->src.Stays ce) :
  ∀(r d:List α) (sl:Sl) (ce:Ce),d++r=xs->R d sl ce->Run (zfV src g body (r.map en)) sl ce fun o=>(∃sl' ce',o=.go .nx sl' ce'/\R xs sl' ce')\/∃w sl' ce',o=.go (.rt w) sl' ce'/\T w ce'
 | [],d,sl,ce,e,h=>by
  rw[append_nil] at e
  subst e
  exact⟨_,zit (hst _ _ h),.inl ⟨_,_,rfl,h⟩⟩
 | x::r,d,sl,ce,e,h=>by
  obtain⟨hs,sl1,e1,o,e2,q⟩:=step d x r sl ce e h
  have go:∀sl2 ce2,R (d++[x]) sl2 ce2->Run (zfV src g body (r.map en)) sl2 ce2 fun o=>(∃sl' ce',o=.go .nx sl' ce'/\R xs sl' ce')\/∃w sl' ce',o=.go (.rt w) sl' ce'/\T w ce':=fun sl2 ce2 h2=>ziv xs R T step hst r (d++[x]) sl2 ce2 (by rw[append_assoc];exact e) h2
  cases o with
  | ex x c=>exact q.elim
  | go f sl2 ce2 =>
   cases f with
   | nx =>
    obtain⟨o,e3,q3⟩:=go sl2 ce2 q
    exact⟨o,by simp only[map_cons,zfV,if_pos hs,e1,e2];exact e3,q3⟩
   | ct =>
    obtain⟨o,e3,q3⟩:=go sl2 ce2 q
    exact⟨o,by simp only[map_cons,zfV,if_pos hs,e1,e2];exact e3,q3⟩
   | bk=>exact q.elim
   | rt w=>exact⟨.go (.rt w) sl2 ce2,by simp only[map_cons,zfV,if_pos hs,e1,e2],.inr ⟨w,sl2,ce2,rfl,q⟩⟩
theorem zkP{di:Sl->M Src}{sl:Sl}{ce ce0:Ce}{i:Nat}{xs:List α}(hi:di sl ce=some (.ok src ce0))(hx:src.items=xs.map en)(R:List α->Sl->Ce->Prop)(h0:R [] sl ce0)(step:∀d x r sl ce,d++x::r=xs->x∈xs->R d sl ce->src.Stays ce/\Run body (sl.set i (some (en x))) ce (Nx (R (d++[x]))))(hst:∀sl ce,R xs sl ce->src.Stays ce)(fin:∀sl ce,R xs sl ce->Q (.go .nx sl ce)):Run (zde di (gN i) body) sl ce Q:=by
 obtain⟨o,e,q⟩:=ziv (g:=gN i) (body:=body) (en:=en) (src:=src) xs R (fun _ _=>False) (fun d x r sl ce e h=>by
  obtain⟨h1,h2⟩:=step d x r sl ce e (by rw[<- e];simp) h
  exact⟨h1,_,rfl,h2.mono fun o q=>by
   cases o with
   | ex x c=>exact q.elim
   | go f sl2 ce2=>cases f<;>first|exact q|exact q.elim⟩) hst xs [] sl ce0 rfl h0
 rcases q with ⟨sl',ce',rfl,h⟩|⟨w,sl',ce',rfl,h⟩
 ·exact⟨_,by rw[zkM hi,hx];exact e,fin _ _ h⟩
 ·exact h.elim
theorem zhK{di:Sl->M Src}{sl:Sl}{ce ce0:Ce}{i:Nat}{xs:List α}(hi:di sl ce=some (.ok src ce0))(hx:src.items=xs.map en)(R:List α->Sl->Ce->Prop)(h0:R [] sl ce0)(step:∀d x r sl ce,d++x::r=xs->x∈xs->R d sl ce->src.Stays ce/\Run body (sl.set i (some (en x))) ce (Nx (R (d++[x]))))(hst:∀sl ce,R xs sl ce->src.Stays ce)(fin:∀sl ce,R xs sl ce->Run b sl ce Q):Run (zax (zde di (gN i) body) b) sl ce Q:=by
 obtain⟨o,e,q⟩:=zkP (Q:=fun o=>∃sl' ce',o=.go .nx sl' ce'/\Run b sl' ce' Q) (body:=body) (i:=i) hi hx R h0 step hst fun sl ce h=>⟨sl,ce,rfl,fin sl ce h⟩
 obtain⟨sl',ce',rfl,h⟩:=q
 exact zcg e h
theorem zkQ{σ:Type}{c:Sl->M Bool}{sl:Sl}{ce:Ce}{fu:Nat}(R:σ->Sl->Ce->Prop)(m:σ->Nat)(s0:σ)(h0:R s0 sl ce)(hm:m s0<fu)(step:∀s sl ce,R s sl ce->∃p,c sl ce=some (.ok p ce)/\(p=true->Run body sl ce (Nx fun sl2 ce2=>∃s2,m s2<m s/\R s2 sl2 ce2))/\(p=false->Q (.go .nx sl ce))):Run (zcF c body fu) sl ce Q:=by
 induction fu generalizing s0 sl ce with
 | zero=>exact absurd hm (not_lt_zero _)
 | succ fu ih =>
  obtain⟨p,e,ht,hf⟩:=step s0 sl ce h0
  cases p with
  | false=>exact⟨_,by simp only[zcF,lft,e],hf rfl⟩
  | true =>
   obtain⟨o,e2,q⟩:=ht rfl
   cases o with
   | ex x c=>exact q.elim
   | go f sl2 ce2 =>
    cases f with
    | nx =>
     obtain⟨s2,hs,r⟩:=q
     obtain⟨o,e3,q3⟩:=ih s2 r (by omega)
     exact⟨o,by simp only[zcF,lft,e,e2];exact e3,q3⟩
    | ct =>
     obtain⟨s2,hs,r⟩:=q
     obtain⟨o,e3,q3⟩:=ih s2 r (by omega)
     exact⟨o,by simp only[zcF,lft,e,e2];exact e3,q3⟩
    | bk=>exact q.elim
    | rt w=>exact q.elim
theorem zoQ{a b:DS}{sl:Sl}{ce:Ce}(h:Run a sl ce fun o=>∃sl' ce',o=.go .nx sl' ce'/\Run b sl' ce' Q):Run (zax a b) sl ce Q:=by
 obtain⟨o,e,sl',ce',rfl,q⟩:=h
 exact zcg e q
end
section
variable {sl:Sl} {ce c1 c2 c3:Ce} {a b:Sl->M W} {w x y:W} {i:Nat} {p q:Bool} {ta tb:Sl->M Bool} {ra:Sl->M (List W)} {xs ws:List W} {src:Src}
theorem zac(h:sl[i]?=some (some w)):zaf i sl ce=some (.ok w ce):=by simp only[zaf,h]
theorem zaI:dC w sl ce=some (.ok w ce):=rfl
theorem zaF{f:W->W->Option W}(ha:a sl ce=some (.ok x c1))(hb:b sl c1=some (.ok y c2))(h:f x y=some w):dOp f a b sl ce=some (.ok w c2):=by simp only[dOp,bnd,look,ha,hb,h,map_some]
theorem zaq{f:Ce->W->W->Option W}(ha:a sl ce=some (.ok x c1))(hb:b sl c1=some (.ok y c2))(h:f c2 x y=some w):zaD f a b sl ce=some (.ok w c2):=by simp only[zaD,bnd,look,ha,hb,h,map_some]
theorem zdX{f:W->Option W}(ha:a sl ce=some (.ok x c1))(h:f x=some w):dUn f a sl ce=some (.ok w c1):=by simp only[dUn,bnd,look,ha,h,map_some]
theorem zca(ha:a sl ce=some (.ok (.bl p) c1)):dB a sl ce=some (.ok p c1):=by simp only[dB,bnd,look,ha,map_some]
theorem zkR(ha:a sl ce=some (.ok x c1))(h:zhF c1 x=some p):zly a sl ce=some (.ok p c1):=by simp only[zly,bnd,look,ha,h,map_some]
theorem zf4(ha:ta sl ce=some (.ok p c1))(hb:p=true->tb sl c1=some (.ok q c1)):zfb ta tb sl ce=some (.ok (p&&q) c1):=by
 cases p with
 | true=>simp only[zfb,bnd,ha,hb rfl,Bool.true_and]
 | false=>simp only[zfb,bnd,ha,Bool.false_and];rfl
theorem zeO(ha:ta sl ce=some (.ok p c1))(hb:p=false->tb sl c1=some (.ok q c1)):zlz ta tb sl ce=some (.ok (p||q) c1):=by
 cases p with
 | true=>simp only[zlz,bnd,ha,Bool.true_or];rfl
 | false=>simp only[zlz,bnd,ha,hb rfl,Bool.false_or]
theorem zf5(ha:ta sl ce=some (.ok p c1)):zfc ta sl ce=some (.ok (!p) c1):=by simp only[zfc,bnd,ha];rfl
theorem ziw(hc:ta sl ce=some (.ok p c1))(ht:p=true->a sl c1=some (.ok x c1))(hf:p=false->b sl c1=some (.ok y c1)):zoF ta a b sl ce=some (.ok (if p=true then x else y) c1):=by
 cases p with
 | true=>simp only[zoF,bnd,hc,ht rfl,if_true]
 | false=>simp[zoF,bnd,hc,hf rfl]
theorem zak:zan sl ce=some (.ok [] ce):=rfl
theorem zae(ha:a sl ce=some (.ok x c1))(hr:ra sl c1=some (.ok xs c2)):zad a ra sl ce=some (.ok (x::xs) c2):=by simp only[zad,bnd,ha,hr];rfl
theorem zbb{f:List W->M W}(hr:ra sl ce=some (.ok ws c1))(h:f ws c1=some (.ok w c2)):dBi f ra sl ce=some (.ok w c2):=by simp only[dBi,bnd,hr,h]
theorem zat{f:List W->M W}{n:Nat}(hr:ra sl ce=some (.ok ws c1))(hl:ws.length=n)(h:f ws c1=some (.ok w c2)):zar n f ra sl ce=some (.ok w c2):=by simp only[zar,bnd,hr,if_pos hl,h]
theorem zbf(hr:ra sl ce=some (.ok ws c1))(hl:ws.length<=PySem.sizeLine):zbT ra sl ce=some (.ok (.tup ws) c1):=by simp only[zbT,bnd,hr,mkF,if_pos hl]
theorem zbj(hr:ra sl ce=some (.ok ws c1))(hl:ws.length<=PySem.sizeLine):zc7 ra sl ce=some (.ok (.lst ws) c1):=by simp only[zc7,bnd,hr,mkF,if_pos hl]
theorem zdf(hr:ra sl ce=some (.ok ws c1))(hl:ws.length<=PySem.sizeLine):zcq ra sl ce=some (.ok (.cel c1.length) (c1++[.lst ws])):=by simp only[zcq,bnd,hr,mkC,if_pos hl]
theorem zoR:zjf sl ce=some (.ok (.cel ce.length) (ce++[.dct []])):=by simp[zjf,mkC]
theorem zg5{f:W->List W->M W}{ys:List W}(ha:a sl ce=some (.ok x c1))(hl:zdr c1 x=some ys)(hr:ra sl c1=some (.ok ws c2))(h:f x ws c2=some (.ok w c3)):dMt f a ra sl ce=some (.ok w c3):=by simp only[dMt,bnd,ha,look,zlC,hl,hr,h,map_some]
theorem zrb{f:W->List W->M W}{ys:List W}(ha:a sl ce=some (.ok x c1))(hl:zdr c1 x=some ys)(h:f x [] c1=some (.ok w c3)):zqO f a sl ce=some (.ok w c3):=by simp only[zqO,bnd,ha,look,zlC,hl,h,map_some]
theorem zmi(ha:a sl ce=some (.ok x c1))(h:zin c1 x=some src):dIL a sl ce=some (.ok src c1):=by simp only[dIL,bnd,ha,look,h,map_some]
theorem zrc(ha:a sl ce=some (.ok x c1))(h:zs3 x=some src):dIT a sl ce=some (.ok src c1):=by simp only[dIT,bnd,ha,look,h,map_some]
theorem zix{n:Nat}(ha:ra sl ce=some (.ok [nW n] c1))(h:n<=1000):zgy ra sl ce=some (.ok (.rng 0 n) c1):=zq8 ha h
theorem zrd{α:Type}{mk:List W->M W}{js:List Nat}{di:Sl->M Src}{c:Sl->M Bool}{e:Sl->M W}{en:α->W}{zs:List α}{t:α->Bool}{g:α->W}(hi:di sl ce=some (.ok src c1))(hx:src.items=zs.map en)(hst:src.Stays c1)(hc:∀x∈zs,c (some (en x)::zdR js sl) c1=some (.ok (t x) c1))(he:∀x∈zs,t x=true->e (some (en x)::zdR js sl) c1=some (.ok (g x) c1))(hz:zs.length<=PySem.sizeLine)(hm:mk ((zs.filter t).map g) c1=some (.ok w c2)):dLC mk js di c e sl ce=some (.ok w c2):=by
 have key:∀(l:List α) (ys:List W),(∀x∈l,x∈zs)->ys.length+l.length<=PySem.sizeLine->lcL src (zdR js sl) c e (l.map en) ys c1=some (.ok (ys++(l.filter t).map g) c1):=by
  intro l
  induction l with
  | nil=>intro ys _ _;simp only[map_nil,lcL,if_pos hst,filter_nil,append_nil]
  | cons x r ih =>
   intro ys hl hz
   simp only[length_cons] at hz
   rw[map_cons,zfW ⟨hst,by omega⟩,zce (hc x (hl x mem_cons_self))]
   cases ht:t x with
   | true =>
    show bnd (e (some (en x)::zdR js sl)) (fun y=>lcL src (zdR js sl) c e (r.map en) (ys++[y])) c1=_
    rw[zce (he x (hl x mem_cons_self) ht),ih _ (fun y hy=>hl y (mem_cons_of_mem _ hy)) (by simp only[length_append,length_cons,length_nil];omega),filter_cons_of_pos ht,map_cons,append_assoc]
    rfl
   | false =>
    show lcL src (zdR js sl) c e (r.map en) ys c1=_
    rw[ih _ (fun y hy=>hl y (mem_cons_of_mem _ hy)) (by omega),filter_cons_of_neg (by simp[ht])]
 show bnd (di sl) (fun s=>bnd (lcL s (zdR js sl) c e s.items []) mk) ce=_
 rw[zce hi,hx,zce (key zs [] (fun _ h=>h) (by simpa using hz)),nil_append]
 exact hm
theorem zf6(h:xs.length<=PySem.sizeLine):zb0 xs ce=some (.ok (.lst xs) ce):=if_pos h
theorem zcR(h:xs.length<=PySem.sizeLine):zfx xs ce=some (.ok (.cel ce.length) (ce++[.lst xs])):=if_pos h
theorem zre{o i v:Sl->M W}{ow iw:W}{key:Key}{k:Nat}{kvs:List (Key×W)}{Q:O->Prop}(h1:v sl ce=some (.ok w c1))(h2:o sl c1=some (.ok ow c2))(h3:i sl c2=some (.ok iw c3))(h4:zjE iw=some key)(h5:zni c3 ow=some (k,kvs))(h6:kvs.length<PySem.sizeLine)(q:Q (.go .nx sl (c3.set k (.dct (zjh kvs key w))))):Run (znj o i v) sl ce Q:=⟨_,zns h1 h2 h3 h4 h5 h6,q⟩
theorem zoS{o i v:Sl->M W}{s:DS}{ow iw:W}{key:Key}{k:Nat}{kvs:List (Key×W)}{Q:O->Prop}(h1:v sl ce=some (.ok w c1))(h2:o sl c1=some (.ok ow c2))(h3:i sl c2=some (.ok iw c3))(h4:zjE iw=some key)(h5:zni c3 ow=some (k,kvs))(h6:kvs.length<PySem.sizeLine)(q:Run s sl (c3.set k (.dct (zjh kvs key w))) Q):Run (zax (znj o i v) s) sl ce Q:=zcg (zns h1 h2 h3 h4 h5 h6) q
end
structure Own (b ce:Ce) (l:List (Nat×C)):Prop where
 cut:∃t,ce=b++t
 get:∀p∈l,ce[p.1]?=some p.2
 ge:∀p∈l,b.length<=p.1
 nd:(l.map Prod.fst).Nodup
namespace Own
variable {b ce:Ce} {l:List (Nat×C)} {k k1 k2 k3:Nat} {c c' q1 q2 q3:C}
theorem start(b:Ce):Own b b []:=⟨⟨[],by simp⟩,by simp,by simp,by simp⟩
theorem alloc(h:Own b ce l)(c:C):Own b (ce++[c]) ((ce.length,c)::l):=by
 obtain⟨⟨t,e⟩,h2,h3,h4⟩:=h
 have lt:∀p∈l,p.1<ce.length:=fun p hp=>by
  have:=h2 p hp
  exact(List.getElem?_eq_some_iff.mp this).1
 refine⟨⟨t++[c],by rw[e,append_assoc]⟩,fun p hp=>?_,fun p hp=>?_,?_⟩
 ·rcases mem_cons.mp hp with rfl|hp
  ·exact zcQ _ _
  ·rw[getElem?_append_left (lt p hp)];exact h2 p hp
 ·rcases mem_cons.mp hp with rfl|hp
  ·simp[e]
  ·exact h3 p hp
 ·simp only[map_cons,nodup_cons]
  exact⟨fun q=>by obtain⟨p,hp,e⟩:=mem_map.mp q;have:=lt p hp;omega,h4⟩
theorem perm{l':List (Nat×C)}(h:Own b ce l)(p:l.Perm l'):Own b ce l' :=
 ⟨h.cut,fun q hq=>h.get q (p.symm.subset hq),fun q hq=>h.ge q (p.symm.subset hq),(p.map _).nodup h.nd⟩
theorem g0(h:Own b ce ((k,c)::l)):ce[k]?=some c:=h.get _ mem_cons_self
theorem g1(h:Own b ce ((k1,q1)::(k,c)::l)):ce[k]?=some c:=h.get (k,c) (by simp)
theorem set0(h:Own b ce ((k,c)::l))(c':C):Own b (ce.set k c') ((k,c')::l):=by
 have hk:k<ce.length:=(List.getElem?_eq_some_iff.mp h.g0).1
 obtain⟨⟨t,e⟩,h2,h3,h4⟩:=h
 have hb:=h3 (k,c) mem_cons_self
 have hn:∀p∈l,p.1≠k:=fun p hp q=>(nodup_cons.mp h4).1 (mem_map.mpr ⟨p,hp,q⟩)
 refine⟨⟨t.set (k-b.length) c',?_⟩,fun p hp=>?_,fun p hp=>?_,h4⟩
 ·rw[e,set_append_right _ _ hb]
 ·rcases mem_cons.mp hp with rfl|hp
  ·simp[hk]
  ·rw[getElem?_set_ne (Ne.symm (hn p hp))];exact h2 p (mem_cons_of_mem _ hp)
 ·rcases mem_cons.mp hp with rfl|hp
  ·exact hb
  ·exact h3 p (mem_cons_of_mem _ hp)
theorem set1(h:Own b ce ((k1,q1)::(k,c)::l))(c':C):Own b (ce.set k c') ((k1,q1)::(k,c')::l):=((h.perm (.swap _ _ _)).set0 c').perm (.swap _ _ _)
theorem finC(h:Own b ce l){w:W}(hb:Bel b.length w):finC b ce w=some (.ok w b):=by
 obtain⟨t,rfl⟩:=h.cut
 exact zes hb
theorem finO(h:Own b ce ((k,c)::l))(hb:ze9 b.length c):finO b ce (.cel k)=some (.ok (.cel b.length) (b++[c])):=by
 have g:=h.g0
 have ge:=h.ge _ mem_cons_self
 obtain⟨t,rfl⟩:=h.cut
 obtain⟨j,hj⟩:=exists_eq_add_of_le ge
 have hj':k=b.length+j:=hj
 subst hj'
 exact zmd (by rw[<- zr8 b t j];exact g) hb
end Own
theorem zfo{fin:Ce->Ce->W->Option (R W)}{n:Nat}{body:DS}{ws:List W}{ce:Ce}{r:Option (R W)}(h:Run body (ws.map some++List.replicate (n-ws.length) none) ce (Rt fun w ce'=>fin ce ce' w=r)):dFn fin n body ws ce=r:=by
 obtain⟨o,e,q⟩:=h
 cases o with
 | ex x c=>exact q.elim
 | go f sl c=>cases f with
  | rt w=>exact znw e q
  | nx=>exact q.elim
  | bk=>exact q.elim
  | ct=>exact q.elim
section
variable {ce:Ce} {k n p j:Nat} {b:List (List Nat)} {is:List Int} {l:List Nat} {xs:List W}
abbrev wS(is:List Int):W:=.tup (is.map W.int)
abbrev wL(l:List Nat):W:=.lst (l.map nW)
abbrev sW(ns:List Int):W:=.lst (ns.map W.int)
theorem ziy(h:p<b.length):ixW ce (wB b) (nW p)=some (wT (b.getD p [])):=by
 rw[zg1 (xs:=b.map wT) rfl,getElem?_map,getD_eq_getElem?_getD,getElem?_eq_getElem h];rfl
theorem zdb(h:p<l.length):ixW ce (wL l) (nW p)=some (nW (l.getD p 0)):=by
 rw[zg1 (xs:=l.map nW) rfl,getElem?_map,getD_eq_getElem?_getD,getElem?_eq_getElem h];rfl
theorem zbP(h:p<is.length):ixW ce (wS is) (nW p)=some (.int (is.getD p 0)):=by
 rw[zg1 (xs:=is.map W.int) rfl,getElem?_map,getD_eq_getElem?_getD,getElem?_eq_getElem h];rfl
theorem zny(g:ce[k]?=some (.lst (l.map nW)))(h:p<l.length):ixW ce (.cel k) (nW p)=some (nW (l.getD p 0)):=by
 rw[zg1 (zis g),getElem?_map,getD_eq_getElem?_getD,getElem?_eq_getElem h];rfl
theorem zkS(g:ce[k]?=some (.lst (l.map nW))):zcG [.cel k] ce=some (.ok (nW l.length) ce):=by simp only[zcG,zis g,length_map];rfl
theorem zf7:zcG [wL l] ce=some (.ok (nW l.length) ce):=by simp[zcG];rfl
theorem zcS:zcG [wB b] ce=some (.ok (nW b.length) ce):=by simp[zcG,wB];rfl
theorem zhL:zcG [wS is] ce=some (.ok (nW is.length) ce):=by simp[zcG];rfl
theorem zrf(g:ce[k]?=some (.lst (l.map nW))){ng:Bool}:inW ng ce (nW p) (.cel k)=some (.bl (if ng then !decide (p∈l) else decide (p∈l))):=zq5 (zis g) ng
theorem zoT{F:List Nat}(g:ce[k]?=some (.dct (kvs F))){ng:Bool}:znh ng ce (nW p) (.cel k)=some (.bl (if ng then !decide (p∈F) else decide (p∈F))):=by
 have ky:zjE (nW p)=some (.inl (p:Int)):=rfl
 simp only[znh,ky,zq2 g,zoP]
theorem zg6{y:W}(g:ce[k]?=some (.lst xs))(h:xs.length<PySem.sizeLine):zer (.cel k) [y] ce=some (.ok .non (ce.set k (.lst (xs++[y])))):=zqZ (zfA g) h
end
open L2
def ins(F:List Nat)(y:Nat):List Nat:=if y∈F then F else F++[y]
theorem ins_mem{F:List Nat}{y x:Nat}:x∈ins F y↔x∈F\/x=y:=by
 unfold ins
 split
 ·rename_i h
  exact⟨.inl,fun q=>q.elim id fun e=>e▸h⟩
 ·simp
theorem znz{F:List Nat}{y:Nat}(h:F.Nodup):(ins F y).Nodup:=by
 unfold ins
 split
 ·exact h
 ·rename_i hn
  rw[nodup_append]
  exact⟨h,by simp,fun a ha b hb=>by rw[mem_singleton] at hb;subst hb;intro q;subst q;exact hn ha⟩
theorem zkT(F:List Nat)(y:Nat):zjh (kvs F) (.inl (y:Int)) (.bl true)=kvs (ins F y):=by
 unfold ins
 split
 ·rename_i h
  have e:((kvs F).any fun kv=>decide (kv.1=(.inl (y:Int):Key)))=true:=any_eq_true.mpr ⟨(.inl (y:Int),.bl true),mem_map.mpr ⟨y,h,rfl⟩,by simp⟩
  unfold zjh
  rw[e]
  simp only[if_true]
  conv=>rhs;rw[<- map_id (kvs F)]
  apply map_congr_left
  intro p hp
  obtain⟨x,hx,rfl⟩:=mem_map.mp hp
  simp only[id]
  split
  ·rename_i q;simp at q;rw[q]
  ·rfl
 ·rename_i h;exact zhJ F y h
theorem zf8{F:List Nat}{n:Nat}(nd:F.Nodup)(lt:∀x∈F,x<n):zcb F=(List.range n).filter fun x=>decide (x∈F):=by
 have h:srt (toI F)=toI ((List.range n).filter fun x=>decide (x∈F)):=by
  refine zcy ((zbH _).trans ?_) (zc1 _) ?_
  ·refine List.Perm.map _ (zcz nd (List.Pairwise.filter _ nodup_range) fun x=>?_)
   simp only[mem_filter,mem_range,decide_eq_true_eq]
   exact⟨fun h=>⟨lt x h,h⟩,fun h=>h.2⟩
  ·unfold toI
   rw[pairwise_map]
   exact(List.Pairwise.filter _ pairwise_lt_range).imp fun h=>by omega
 unfold zcb
 rw[h]
 unfold toI
 rw[map_map]
 conv=>rhs;rw[<- map_id (List.filter _ _)]
 apply map_congr_left
 intro x _
 simp
theorem ziz{ce:Ce}{k:Nat}{F:List Nat}{mk:List W->M W}(g:ce[k]?=some (.dct (kvs F)))(h:F.length<64):za0 mk [.cel k] ce=mk ((zcb F).map nW) ce:=by
 have l:zdr ce (.cel k)=none:=by simp only[zdr,g]
 have g':zpE ce (.cel k)=some (kvs F):=by simp only[zpE,g]
 simp only[za0,l,g',zmg,zbU,if_pos h,zdw]
theorem zmj{ce:Ce}{k:Nat}{l:List Nat}{mk:List W->M W}(g:ce[k]?=some (.lst (l.map nW)))(h:l.length<64):za0 mk [.cel k] ce=mk ((zcb l).map nW) ce:=by
 simp only[za0,zcH g,zf2,zbU,if_pos h,zdw]
inductive LstOf (ce:Ce):W->List W->Prop where
 | fr (xs:List W):LstOf ce (.lst xs) xs
 | cl {k:Nat} {xs:List W} (h:ce[k]?=some (.lst xs)):LstOf ce (.cel k) xs
namespace LstOf
variable {ce:Ce} {w:W} {xs:List W}
theorem drf(h:LstOf ce w xs):drf ce w=.lst xs:=by
 cases h with
 | fr=>rfl
 | cl h=>simp only[VS.drf,h]
theorem src(h:LstOf ce w xs):∃s,zin ce w=some s/\s.items=xs/\s.Stays ce:=by
 cases h with
 | fr=>exact⟨.lst xs,rfl,rfl,trivial⟩
 | cl h=>exact⟨.cell _ xs,by simp only[zin,h],rfl,h⟩
theorem eqI{w':W}{l m:List Int}(h:LstOf ce w (l.map W.int))(h':LstOf ce w' (m.map W.int))(ng:Bool):eqW ng ce w w'=some (.bl (if ng then !decide (l=m) else decide (l=m))):=by
 have c1:cln 8 (.lst (l.map W.int))=true:=zcf l 7
 have c2:cln 8 (.lst (m.map W.int))=true:=zcf m 7
 simp only[eqW,h.drf,h'.drf,c1,c2,zmh,Bool.and_self,if_true]
theorem eqN{w':W}{l m:List Nat}(h:LstOf ce w (l.map nW))(h':LstOf ce w' (m.map nW))(ng:Bool):eqW ng ce w w'=some (.bl (if ng then !decide (l=m) else decide (l=m))):=by
 rw[zkJ] at h h'
 rw[h.eqI h' ng]
 have inj:(toI l=toI m)↔l=m:=by
  unfold toI
  exact⟨fun h=>by simpa using List.map_inj_right (f:=fun(x:Nat)=>(x:Int)) (fun x y h=>by have h:(x:Int)=(y:Int):=h;omega) |>.mp h,fun h=>by rw[h]⟩
 simp only[inj]
end LstOf
theorem zdy{ce:Ce}{w:W}{xs:List W}(h:LstOf ce w xs)(hz:xs.length<=PySem.sizeLine):zbd [w] ce=some (.ok (.tup xs) ce):=by
 cases h with
 | fr=>exact if_pos hz
 | cl h=>simp only[zbd,zcH h];exact if_pos hz
theorem zkU{ce:Ce}{w:W}{xs:List W}{mk:List W->M W}(h:zfR ce w=some xs):zjj mk [w] ce=mk xs ce:=by simp only[zjj,h]
def zfd(di:Sl->M Src)(sl:Sl)(ce c1:Ce)(xs:List W):Prop:=∃s,di sl ce=some (.ok s c1)/\s.items=xs/\s.Stays c1
def SrcFix(di:Sl->M Src)(sl:Sl)(ce c1:Ce)(xs:List W):Prop:=∃s,di sl ce=some (.ok s c1)/\s.items=xs/\∀c,s.Stays c
section
variable {di:Sl->M Src} {sl:Sl} {ce c1 c2:Ce} {xs:List W} {a:Sl->M W} {ra:Sl->M (List W)} {w:W}
theorem SrcFix.is(h:SrcFix di sl ce c1 xs):zfd di sl ce c1 xs:=by obtain⟨s,h1,h2,h3⟩:=h;exact⟨s,h1,h2,h3 _⟩
theorem zhM(h:a sl ce=some (.ok (.lst xs) c1)):SrcFix (dIL a) sl ce c1 xs:=⟨.lst xs,zmi h rfl,rfl,fun _=>trivial⟩
theorem zhN(h:a sl ce=some (.ok (.tup xs) c1)):SrcFix (dIT a) sl ce c1 xs:=⟨.tup xs,zrc h rfl,rfl,fun _=>trivial⟩
theorem zeP{l:List Nat}(h:a sl ce=some (.ok (wT l) c1)):SrcFix (dIT a) sl ce c1 (l.map nW):=zhN h
theorem zeQ{n:Nat}(h:ra sl ce=some (.ok [nW n] c1))(hn:n<=1000):SrcFix (zgy ra) sl ce c1 ((List.range n).map nW):=⟨.rng 0 n,zix h hn,zeM n,fun _=>trivial⟩
theorem zhO(h:a sl ce=some (.ok w c1))(hw:LstOf c1 w xs):zfd (dIL a) sl ce c1 xs:=by
 obtain⟨s,h1,h2,h3⟩:=hw.src
 exact⟨s,zmi h h1,h2,h3⟩
variable {α:Type} {en:α->W} {zs:List α} {t:α->Bool} {g:α->W} {js:List Nat} {c:Sl->M Bool} {e:Sl->M W}
theorem lcF(hi:zfd di sl ce c1 (zs.map en))(hz:zs.length<=PySem.sizeLine)(hc:∀x∈zs,c (some (en x)::zdR js sl) c1=some (.ok (t x) c1))(he:∀x∈zs,t x=true->e (some (en x)::zdR js sl) c1=some (.ok (g x) c1)) :
  dLC zb0 js di c e sl ce=some (.ok (.lst ((zs.filter t).map g)) c1):=by
 obtain⟨s,h1,h2,h3⟩:=hi
 exact zrd h1 h2 h3 hc he hz (zf6 (by rw[length_map];exact le_trans (length_filter_le _ _) hz))
theorem lcC(hi:zfd di sl ce c1 (zs.map en))(hz:zs.length<=PySem.sizeLine)(hc:∀x∈zs,c (some (en x)::zdR js sl) c1=some (.ok (t x) c1))(he:∀x∈zs,t x=true->e (some (en x)::zdR js sl) c1=some (.ok (g x) c1)) :
  dLC zfx js di c e sl ce=some (.ok (.cel c1.length) (c1++[.lst ((zs.filter t).map g)])):=by
 obtain⟨s,h1,h2,h3⟩:=hi
 exact zrd h1 h2 h3 hc he hz (zcR (by rw[length_map];exact le_trans (length_filter_le _ _) hz))
theorem ziA(zs:List α):zs.filter (fun _=>true)=zs:=filter_eq_self.mpr fun _ _=>rfl
theorem zrg(hi:zfd di sl ce c1 (zs.map en))(hz:zs.length<=PySem.sizeLine)(he:∀x∈zs,e (some (en x)::zdR js sl) c1=some (.ok (g x) c1)) :
  dLC zb0 js di zd4 e sl ce=some (.ok (.lst (zs.map g)) c1):=by
 have h:=lcF (t:=fun _=>true) (js:=js) hi hz (c:=zd4) (fun _ _=>rfl) (fun x hx _=>he x hx)
 rwa [ziA] at h
theorem zt6(hi:zfd di sl ce c1 (zs.map en))(hz:zs.length<=PySem.sizeLine)(he:∀x∈zs,e (some (en x)::zdR js sl) c1=some (.ok (g x) c1)) :
  dLC zfx js di zd4 e sl ce=some (.ok (.cel c1.length) (c1++[.lst (zs.map g)])):=by
 have h:=lcC (t:=fun _=>true) (js:=js) hi hz (c:=zd4) (fun _ _=>rfl) (fun x hx _=>he x hx)
 rwa [ziA] at h
theorem zmk{f:α->Int}(hi:zfd di sl ce c1 (zs.map en))(hz:zs.length<=PySem.sizeLine)(he:∀x∈zs,e (some (en x)::zdR js sl) c1=some (.ok (.int (f x)) c1)):dLC zb0 js di zd4 e sl ce=some (.ok (sW (zs.map f)) c1):=by
 rw[zrg hi hz he,sW,map_map];rfl
theorem ztk{f:α->Nat}(hi:zfd di sl ce c1 (zs.map en))(hz:zs.length<=PySem.sizeLine)(he:∀x∈zs,e (some (en x)::zdR js sl) c1=some (.ok (nW (f x)) c1)):dLC zb0 js di zd4 e sl ce=some (.ok (wL (zs.map f)) c1):=by
 rw[zrg hi hz he,wL,map_map];rfl
theorem zrh(hi:zfd di sl ce c1 (zs.map en))(hz:zs.length<=PySem.sizeLine)(hc:∀x∈zs,c (some (en x)::zdR js sl) c1=some (.ok (t x) c1)):dLC zb0 js di c (zaf 0) sl ce=some (.ok (.lst ((zs.filter t).map en)) c1) :=
 lcF hi hz hc fun _ _ _=>rfl
theorem ztl(hi:zfd di sl ce c1 (zs.map en))(hz:zs.length<=PySem.sizeLine)(hc:∀x∈zs,c (some (en x)::zdR js sl) c1=some (.ok (t x) c1)):dLC zfx js di c (zaf 0) sl ce=some (.ok (.cel c1.length) (c1++[.lst ((zs.filter t).map en)])) :=
 lcC hi hz hc fun _ _ _=>rfl
theorem zc2{body:DS}{i:Nat}{Q:O->Prop}(hi:SrcFix di sl ce c1 (zs.map en))(R:List α->Sl->Ce->Prop)(h0:R [] sl c1)(step:∀d x r sl ce,d++x::r=zs->x∈zs->R d sl ce->Run body (sl.set i (some (en x))) ce (Nx (R (d++[x]))))(fin:∀sl ce,R zs sl ce->Q (.go .nx sl ce)):Run (zde di (gN i) body) sl ce Q:=by
 obtain⟨s,h1,h2,h3⟩:=hi
 exact zkP h1 h2 R h0 (fun d x r sl ce e m h=>⟨h3 _,step d x r sl ce e m h⟩) (fun _ _ _=>h3 _) fin
theorem zbh{body b:DS}{i:Nat}{Q:O->Prop}(hi:SrcFix di sl ce c1 (zs.map en))(R:List α->Sl->Ce->Prop)(h0:R [] sl c1)(step:∀d x r sl ce,d++x::r=zs->x∈zs->R d sl ce->Run body (sl.set i (some (en x))) ce (Nx (R (d++[x]))))(fin:∀sl ce,R zs sl ce->Run b sl ce Q):Run (zax (zde di (gN i) body) b) sl ce Q:=by
 obtain⟨s,h1,h2,h3⟩:=hi
 exact zhK h1 h2 R h0 (fun d x r sl ce e m h=>⟨h3 _,step d x r sl ce e m h⟩) (fun _ _ _=>h3 _) fin
end
theorem zkV(ce:Ce)(x y:Int)(ng:Bool):eqW ng ce (.int x) (.int y)=some (.bl (if ng then !decide (x=y) else decide (x=y))):=by
 have d1:drf ce (.int x)=.int x:=rfl
 have d2:drf ce (.int y)=.int y:=rfl
 have c:∀i:Int,cln 8 (.int i)=true:=fun _=>rfl
 simp only[eqW,d1,d2,c,Bool.and_self,if_true,zf3]
theorem zml{ce:Ce}{w:W}{l:List Int}{i:Int}(h:zfR ce w=some (l.map W.int))(ng:Bool):inW ng ce (.int i) w=some (.bl (if ng then !decide (i∈l) else decide (i∈l))):=by
 have c:cln 8 (.int i)=true:=rfl
 have d:drf ce (.int i)=.int i:=rfl
 have a:(l.map W.int).any (fun z=>peq z (.int i))=decide (i∈l):=by
  rw[Bool.eq_iff_iff,any_eq_true]
  constructor
  ·rintro⟨z,hz,q⟩
   obtain⟨x,hx,rfl⟩:=mem_map.mp hz
   rw[zf3] at q
   have:=of_decide_eq_true q
   subst this
   simpa using hx
  ·intro q
   exact⟨.int i,mem_map.mpr ⟨i,of_decide_eq_true q,rfl⟩,by rw[zf3];simp⟩
 simp only[inW,h,d,c,zcf,Bool.and_self,if_true,a]
theorem zuM{ce:Ce}{l:List Int}{i:Int}{ng:Bool}:inW ng ce (.int i) (sW l)=some (.bl (if ng then !decide (i∈l) else decide (i∈l))):=zml rfl ng
theorem zbK{fin:Ce->Ce->W->Option (R W)}{n:Nat}{body:DS}{ws:List W}{ce:Ce}{w:W}{c':Ce}(sl:Sl)(e:ws.map some++List.replicate (n-ws.length) none=sl)(h:Run body sl ce (Rt fun v ce'=>fin ce ce' v=some (.ok w c'))):dFn fin n body ws ce=some (.ok w c'):=by
 subst e
 exact zfo h
section
variable {ce:Ce} {k p:Nat} {l:List Nat} {m:List Int} {i j:Int} {w w':W}
theorem eqI0:eqW false ce (.int i) (.int j)=some (.bl (decide (i=j))):=zkV _ _ _ _
theorem zuN:eqW true ce (.int i) (.int j)=some (.bl (!decide (i=j))):=zkV _ _ _ _
theorem zri:inW false ce (.int i) (sW m)=some (.bl (decide (i∈m))):=zuM
theorem zt7(g:ce[k]?=some (.lst (l.map nW))):inW true ce (nW p) (.cel k)=some (.bl (!decide (p∈l))):=zrf g
theorem ztm(g:ce[k]?=some (.dct (kvs l))):znh true ce (nW p) (.cel k)=some (.bl (!decide (p∈l))):=zoT g
end
section
variable {x y:W} {i j:Int} {n k:Nat} {ce:Ce}
theorem zcA(hx:x=.int i)(hy:y=.int j):zcc x y=some (.int (i+j)):=by subst hx;subst hy;rfl
theorem zhP(hx:x=.int i)(hy:y=.int j):zjC x y=some (.int (i-j)):=by subst hx;subst hy;rfl
theorem zfB(hx:x=.int i)(hy:y=.int j):fLt x y=some (.bl (decide (i<j))):=by subst hx;subst hy;rfl
theorem zfC(hx:x=.int i)(hy:y=.int j):fGt x y=some (.bl (decide (j<i))):=by subst hx;subst hy;rfl
theorem zck(hx:x=.int i)(hy:y=.int j):zf0 x y=some (.bl (decide (i=j))):=by subst hx;subst hy;rfl
theorem zhQ(hx:x=.int i)(hy:y=.int j):zoO x y=some (.bl (!decide (i=j))):=by subst hx;subst hy;rfl
theorem zf9(hx:x=.int i)(hy:y=.int j)(h:0<j):zdQ x y=some (.int (i % j)):=by subst hx;subst hy;exact znt h
theorem zbm(hx:x=.int i)(hy:y=.int j)(h:CMul i j):zeE x y=some (.int (i*j)):=by subst hx;subst hy;exact zq0 h
theorem zrj(hx:x=.int i):zjE x=some (.inl i):=by subst hx;rfl
theorem zmm{mk:List W->M W}{l:List Nat}(h:l.length<64):za0 mk [wL l] ce=mk ((zcb l).map nW) ce:=by
 simp only[za0,zq1,zf2,zbU,if_pos h,zdw]
end
section
variable {ce:Ce} {l:List Nat} {m:List Int} {w:W}
theorem zoU:eqW false ce (.lst (l.map nW)) (.lst [])=some (.bl (decide (l=[]))):=(LstOf.fr _).eqN (m:=[]) (.fr _) false
theorem zbN{P:W->Ce->Prop}{sl:Sl}(h:P w ce):Rt P (.go (.rt w) sl ce):=h
end
section
variable {ce c1:Ce} {l:List Nat} {k:Nat} {sl:Sl} {a:Sl->M W} {α:Type} {en:α->W} {zs:List α}
theorem zch(l:List Nat):(zcb l).length=l.length:=by rw[zcb,length_map,(zbH _).length_eq,zbU]
theorem zg7{σ:Type}{c:Sl->M Bool}{body b:DS}{fu:Nat}{Q:O->Prop}(R:σ->Sl->Ce->Prop)(m:σ->Nat)(s0:σ)(h0:R s0 sl ce)(hm:m s0<fu)(step:∀s sl ce,R s sl ce->∃p,c sl ce=some (.ok p ce)/\(p=true->Run body sl ce (Nx fun sl2 ce2=>∃s2,m s2<m s/\R s2 sl2 ce2))/\(p=false->Run b sl ce Q)):Run (zax (zcF c body fu) b) sl ce Q :=
 zoQ (zkQ R m s0 h0 hm fun s sl ce h=>by
  obtain⟨p,e,ht,hf⟩:=step s sl ce h
  exact⟨p,e,ht,fun q=>⟨sl,ce,rfl,hf q⟩⟩)
end
theorem zeR(n:Nat):∀cs:List (List Nat),zda n (cs.map wL)
 | []=>by simp only[map_nil,zda]
 | a::r=>by simp only[map_cons,zda,wL,Bel];exact⟨bels_nW n a,zeR n r⟩
section
variable {ce:Ce} {k:Nat} {l:List Nat} {b:List (List Nat)} {m:List Int}
theorem zmn(g:ce[k]?=some (.lst (m.map W.int)))(h:m.length<=PySem.sizeLine):zbd [.cel k] ce=some (.ok (wS m) ce):=zdy (.cl g) (by rw[length_map];exact h)
theorem zoV(h:b.length<=PySem.sizeLine):zbd [.lst (b.map wT)] ce=some (.ok (wB b) ce):=zdy (.fr _) (by rw[length_map];exact h)
theorem zoW(h:m.length<=PySem.sizeLine):zbd [sW m] ce=some (.ok (wS m) ce):=zdy (.fr _) (by rw[length_map];exact h)
end
section
variable {ce:Ce} {k:Nat} {l l':List Nat} {m:List Int}
end
open PySem PySem.Spec PyProof.Rows L2
section
variable {X:Cx}
def zrk(K:PySem.W.Frag):R2:=fun x y H Q=>∃a b xs ys,x=.ref a/\y=.ref b/\SqT K H a xs/\SqT K H b ys/\xs.length+ys.length<=sizeLine /\
 (xs=[]->Q (.ref b) H)/\(ys=[]->Q (.ref a) H)/\(∀p,H p=none->Q (.ref p) (upd H p (.tup (xs++ys))))
theorem zmo:OpR X (binaryOp .Add) (zrk X.K):=by
 intro pins s σ H x y v u Q I rx ry h
 obtain⟨a,b,xs,ys,rfl,rfl,ha,hb,hz,q0,q1,q2⟩:=h
 by_cases hx:xs=[]
 ·cases rx
  cases ry
  obtain⟨its,r1,p1,_⟩:=I.tuple ha
  obtain⟨its2,r2,p2,_⟩:=I.tuple hb
  obtain⟨⟨cls,dd,data,sl⟩,ho,hc,n,hd⟩:=id p1
  obtain⟨⟨cls2,dd2,data2,sl2⟩,ho2,hc2,n2,hd2⟩:=id p2
  simp only at hc hd hc2 hd2
  subst hc hd hc2 hd2
  have he:its=[]:=r1.nil_iff.mpr hx
  exact concat_meets ⟨_,ho,rfl⟩ ⟨_,ho2,rfl⟩ noFill_tuple_add seq_tuple_add PySem.F.slot_tuple_add PySem.F.entry_tuple_add (PySem.F.args_tuple_add_2 _ _)
   (tuple_addW0 a b its.toArray its2.toArray n n2 dd dd2 sl sl2 (by simp[he])) ⟨ho,ho2,⟨.ref b,H,I,rfl,q0 hx⟩⟩
 ·exact zon pins s σ H _ _ v u Q I rx ry ⟨a,b,xs,ys,rfl,rfl,ha,hb,hx,hz,q1,fun _=>q2⟩
end
section
variable {X:Cx} {G:Ga} {E:XK} {a b:Expr} {da db:Sl->M W} {pos:Pos}
def zoX(x y:W):M W:=fun ce=>match x,y with
 | .tup xs,.tup ys=>if xs.length+ys.length<=sizeLine then some (.ok (.tup (xs++ys)) ce) else none
 | _,_=>none
def zhR(a b:Sl->M W):Sl->M W:=fun sl=>bnd (a sl) fun x=>bnd (b sl) fun y=>zoX x y
theorem zoY(ha:PE X a (zaz G E da))(hb:PE X b (zaz G E db)):PE X (.BinOp a .Add b pos) (zaz G E (zhR da db)):=by
 refine PE.imp (zlK zmo ha hb) fun σ H Q h=>zgP h fun F as sl ce H2 x y wx wy S rx ry P=>?_
 revert P
 unfold zoX
 cases wx<;>first|exact fun P=>P.elim|skip
 rename_i xs
 cases wy<;>first|exact fun P=>P.elim|skip
 rename_i ys
 dsimp only
 split
 ·rename_i hl
  intro P
  simp only[Rep] at rx ry
  obtain⟨p,vs,rfl,h1,r1⟩:=rx
  obtain⟨p',us,rfl,h2,r2⟩:=ry
  have P':Post G E Rep F as σ sl Q (mkF (.tup (xs++ys)) (xs++ys).length ce):=by
   have:mkF (.tup (xs++ys)) (xs++ys).length ce=some (.ok (.tup (xs++ys)) ce):=if_pos (by rw[length_append];exact hl)
   rw[this];exact P
  refine⟨p,p',vs,us,rfl,rfl,.inl (.inl (S.st.sub _ _ h1)),.inl (.inl (S.st.sub _ _ h2)),by rw[r1.length,r2.length];exact hl,fun e=>?_,fun e=>?_,(zfU S (r1.append r2) P').2⟩
  ·have hx:xs=[]:=length_eq_zero_iff.mp (by rw[<- r1.length,e];rfl)
   subst hx
   exact P.done S (by simp only[Rep,nil_append];exact⟨p',us,rfl,h2,r2⟩)
  ·have hx:ys=[]:=length_eq_zero_iff.mp (by rw[<- r2.length,e];rfl)
   subst hx
   exact P.done S (by simp only[Rep,append_nil];exact⟨p,vs,rfl,h1,r1⟩)
 ·exact fun P=>P.elim
def zu4(ng:Bool):W->W->Option W
 | .bl c,.bl d=>some (.bl (if ng then c != d else c==d))
 | _,_=>none
end
end VS
namespace VS
open L2
section
variable {sl:Sl} {ce c1 c2:Ce} {a b:Sl->M W} {w x y:W} {xs ys:List W} {k n:Nat} {i:Int} {p q:Bool}
theorem zmp{key:Key}(ha:a sl (ce++[.dct []])=some (.ok x (ce++[.dct []])))(hb:b sl (ce++[.dct []])=some (.ok y (ce++[.dct []])))(hk:zjE x=some key):zg0 a b sl ce=some (.ok (.cel ce.length) (ce++[.dct [(key,y)]])):=by
 have g:(ce++[C.dct []])[ce.length]?=some (.dct []):=zcQ _ _
 have s:(ce++[C.dct []]).set ce.length (.dct [(key,y)])=ce++[.dct [(key,y)]]:=by rw[zs9];rfl
 simp only[zg0,bnd,ha,hb,ret,hk,g,s]
theorem zrl(g:ce[k]?=some (.lst xs))(e:xs=ys++[y]):zqQ (.cel k) [] ce=some (.ok y (ce.set k (.lst ys))):=by
 subst e
 simp[zqQ,zfA g]
theorem zoZ(g:ce[k]?=some (.lst xs)):zhF ce (.cel k)=some (!xs.isEmpty):=by simp only[zhF,g]
theorem zkW(g:ce[k]?=some (.lst xs))(h:zdr ce w=some ys)(hz:xs.length+ys.length<=PySem.sizeLine):zpF (.cel k) [w] ce=some (.ok .non (ce.set k (.lst (xs++ys)))):=by simp only[zpF,zfA g,h,if_pos hz]
theorem zo0(ha:a sl ce=some (.ok (.tup xs) c1))(hb:b sl c1=some (.ok (.tup ys) c2))(hz:xs.length+ys.length<=PySem.sizeLine):zhR a b sl ce=some (.ok (.tup (xs++ys)) c2):=by
 simp only[zhR,bnd,ha,hb,zoX,if_pos hz]
theorem zo1(h:xs.length<=PySem.sizeLine):zoJ xs ce=some (.ok (.tup xs) ce):=if_pos h
theorem zo2(ha:a sl ce=some (.ok (.int i) c1)):zl7 a sl ce=some (.ok (some i) c1):=by simp only[zl7,bnd,ha];rfl
theorem znA{bs:List Bool}:zqL [.lst (bs.map W.bl)] ce=some (.ok (.bl (bs.any id)) ce):=by simp only[zqL,zdr,zfz]
variable {α:Type} {en:α->W} {zs:List α} {di:Sl->M Src} {e:Sl->M W} {js:List Nat}
end
inductive SetAt:Sl->Nat->Option W->Sl->Prop where
 | zero {x w:Option W} {r:Sl}:SetAt (x::r) 0 w (w::r)
 | succ {x w:Option W} {r r':Sl} {i:Nat} (h:SetAt r i w r'):SetAt (x::r) (i+1) w (x::r')
theorem SetAt.eq{sl sl':Sl}{i:Nat}{w:Option W}(h:SetAt sl i w sl'):sl.set i w=sl':=by
 induction h with
 | zero=>rfl
 | succ _ ih=>rw[set_cons_succ,ih]
theorem zam{b:DS}{sl sl':Sl}{i:Nat}{w:Option W}{ce:Ce}{Q:O->Prop}(hs:SetAt sl i w sl')(h:Run b sl' ce Q):Run b (sl.set i w) ce Q:=by rw[hs.eq];exact h
section
variable {b:List (List Nat)} {vl:Nat->Int} {s x y:Nat}
abbrev okV(vl:Nat->Int)(s y:Nat):Prop:=vl y=vl s
abbrev Sym(b:List (List Nat)):Prop:=∀i j,j∈b.getD i []->i∈b.getD j []
open Classical in
def cpt(b:List (List Nat))(vl:Nat->Int)(s:Nat):List Nat:=(List.range b.length).filter fun y=>decide (Reach b (okV vl s) s y)
def zbQ(b:List (List Nat))(vl:Nat->Int)(s:Nat):Bool:=(cpt b vl s).all fun y=>decide (s<=y)
def ptc(b:List (List Nat))(vl:Nat->Int):List (List Nat):=((List.range b.length).filter (zbQ b vl)).map (cpt b vl)
theorem Reach.lt(hb:Bd b)(hs:s<b.length){ok:Nat->Prop}(h:Reach b ok s x):x<b.length:=by
 cases h with
 | refl=>exact hs
 | step _ hy _=>exact hb.get hy
open Classical in
theorem zcl(hb:Bd b)(hs:s<b.length):x∈cpt b vl s↔Reach b (okV vl s) s x:=by
 unfold cpt
 rw[mem_filter,mem_range,decide_eq_true_eq]
 exact⟨fun h=>h.2,fun h=>⟨h.lt hb hs,h⟩⟩
theorem cpt_lt(h:x∈cpt b vl s):x<b.length:=mem_range.mp (mem_filter.mp h).1
theorem znB:(cpt b vl s).Nodup:=List.Pairwise.filter _ nodup_range
theorem zo3:(cpt b vl s).length<=b.length:=by
 have:=length_filter_le (fun y=>@decide (Reach b (okV vl s) s y) (Classical.propDecidable _)) (List.range b.length)
 rw[length_range] at this
 exact this
theorem zcB(hb:Bd b)(hs:s<b.length):s∈cpt b vl s:=(zcl hb hs).mpr .refl
theorem cpt_val(hb:Bd b)(hs:s<b.length)(h:x∈cpt b vl s):vl x=vl s:=Reach.okOf (ok:=okV vl s) rfl ((zcl hb hs).mp h)
open Classical in
theorem zo4{F:List Nat}(c:Comp b (okV vl s) s F):zcb F=cpt b vl s:=by
 rw[zf8 c.nd c.lt]
 unfold cpt
 apply filter_congr
 intro x _
 rw[Bool.eq_iff_iff,decide_eq_true_eq,decide_eq_true_eq]
 exact c.mem x
theorem znC(h:vl x=vl s):okV vl x=okV vl s:=by funext y;unfold okV;rw[h]
open Classical in
theorem zdz(hb:Bd b)(sym:Sym b)(hs:s<b.length)(h:x∈cpt b vl s):cpt b vl x=cpt b vl s:=by
 have v:=cpt_val hb hs h
 have r:=(zcl hb hs).mp h
 unfold cpt
 apply filter_congr
 intro y _
 rw[Bool.eq_iff_iff,decide_eq_true_eq,decide_eq_true_eq,znC v]
 exact⟨fun q=>r.trans q,fun q=>(Reach.symm (ok:=okV vl s) sym rfl r).trans q⟩
theorem ziB(hb:Bd b)(sym:Sym b)(hs:s<b.length)(h:x∈cpt b vl s):s∈cpt b vl x:=by rw[zdz hb sym hs h];exact zcB hb hs
theorem zdA(hb:Bd b)(sym:Sym b)(hs:s<b.length):∃m,m∈cpt b vl s/\zbQ b vl m=true/\cpt b vl m=cpt b vl s:=by
 have key:∀(k:Nat) (s:Nat),s<=k->s<b.length->∃m,m∈cpt b vl s/\zbQ b vl m=true/\cpt b vl m=cpt b vl s:=by
  intro k
  induction k with
  | zero =>
   intro s hk hs
   refine⟨s,zcB hb hs,?_,rfl⟩
   unfold zbQ
   rw[all_eq_true]
   intro y _
   exact decide_eq_true (by omega)
  | succ k ih =>
   intro s hk hs
   by_cases h:zbQ b vl s=true
   ·exact⟨s,zcB hb hs,h,rfl⟩
   ·unfold zbQ at h
    rw[all_eq_true] at h
    obtain⟨y,hy⟩:=Classical.not_forall.mp h
    obtain⟨hy,hn⟩:=Classical.not_imp.mp hy
    have hn':¬s<=y:=fun q=>hn (decide_eq_true q)
    obtain⟨m,h1,h2,h3⟩:=ih y (by omega) (cpt_lt hy)
    have e:=zdz hb sym hs hy
    exact⟨m,by rw[<- e];exact h1,h2,by rw[h3,e]⟩
 exact key s s (le_refl _) hs
theorem zdg(hb:Bd b){c:List Nat}:c∈ptc b vl↔∃s,s<b.length/\zbQ b vl s=true/\c=cpt b vl s:=by
 unfold ptc
 rw[mem_map]
 constructor
 ·rintro⟨s,hs,rfl⟩
  obtain⟨h1,h2⟩:=mem_filter.mp hs
  exact⟨s,mem_range.mp h1,h2,rfl⟩
 ·rintro⟨s,h1,h2,rfl⟩
  exact⟨s,mem_filter.mpr ⟨mem_range.mpr h1,h2⟩,rfl⟩
theorem ptc_of(hb:Bd b)(sym:Sym b)(hs:s<b.length):cpt b vl s∈ptc b vl:=by
 obtain⟨m,h1,h2,h3⟩:=zdA (vl:=vl) hb sym hs
 exact(zdg hb).mpr ⟨m,cpt_lt h1,h2,h3.symm⟩
theorem zhS:(ptc b vl).length<=b.length:=by
 unfold ptc
 rw[length_map]
 have:=length_filter_le (zbQ b vl) (List.range b.length)
 rw[length_range] at this
 exact this
theorem zc3(hb:Bd b)(hs:s<b.length)(h:zbQ b vl s=true):(cpt b vl s).getD 0 0=s:=by
 have hmem:=zcB (vl:=vl) hb hs
 unfold zbQ at h
 rw[all_eq_true] at h
 have srt:(cpt b vl s).Pairwise (·<·):=List.Pairwise.filter _ pairwise_lt_range
 cases e:cpt b vl s with
 | nil=>rw[e] at hmem;simp at hmem
 | cons a r =>
  rw[e] at hmem h srt
  have h1:s<=a:=of_decide_eq_true (h a (by simp))
  rcases mem_cons.mp hmem with h2|h2
  ·simp[h2]
  ·have:=(pairwise_cons.mp srt).1 s h2
   omega
end
end VS
namespace VS
open PySem PySem.Spec PyProof.Rows L2
mutual
def zga(n:Nat)(ce:Ce):Nat->W->Option W
 | 0,.cel k=>if k<n then some (.cel k) else none
 | 0,.lst _=>none
 | 0,.tup _=>none
 | d+1,.cel k=>if k<n then some (.cel k) else match ce[k]? with
  | some (.lst xs)=>(zdh n ce d xs).map .lst
  | _=>none
 | d+1,.lst xs=>(zdh n ce d xs).map .lst
 | d+1,.tup xs=>(zdh n ce d xs).map .tup
 | _,w=>some w
def zdh(n:Nat)(ce:Ce):Nat->List W->Option (List W)
 | _,[]=>some []
 | d,x::xs=>match zga n ce d x,zdh n ce d xs with
  | some y,some ys=>some (y::ys)
  | _,_=>none
end
section
variable {G:Ga} {F F2:Hp} {as as2:List Addr} {H:Hp} {ce:Ce} {n:Nat}
theorem ziC(h:∀{w w2:W} {v:V},zga n ce d w=some w2->Rep F as w v->Rep F2 as2 w2 v):∀{ws ws2:List W} {vs:List V},zdh n ce d ws=some ws2->Reps F as ws vs->Reps F2 as2 ws2 vs
 | [],ws2,vs,e,r=>by
  simp only[zdh,Option.some.injEq] at e
  subst e
  simp only[Reps] at r
  subst r
  exact .nil
 | x::xs,ws2,vs,e,r=>by
  simp only[zdh] at e
  simp only[Reps] at r
  obtain⟨v,r',rfl,q,s⟩:=r
  split at e
  ·rename_i y ys e1 e2
   cases e
   exact .cons (h e1 q) (ziC h e2 s)
  ·cases e
theorem zmq(S:Store G F as H ce)(hF:∀a o,F a=some o->F2 a=some o)(hc:∀(k:Nat) (a:Addr) (xs:List W) (vs:List V),n<=k->as[k]?=some a->ce[k]?=some (.lst xs)->H a=some (.lst vs)->F2 a=some (.lst vs))(ha:∀(k:Nat) (a:Addr),k<n->as[k]?=some a->as2[k]?=some a):∀(d:Nat) {w w2:W} {v:V},zga n ce d w=some w2->Rep F as w v->Rep F2 as2 w2 v:=by
 have rd:∀{a:Addr} {o:HO},Rd F a o->Rd F2 a o:=fun r=>by
  rcases r with r|⟨u,r⟩
  ·exact .inl (hF _ _ r)
  ·exact .inr ⟨u,hF _ _ r⟩
 have low:∀{k:Nat} {v:V},k<n->Rep F as (.cel k) v->Rep F2 as2 (.cel k) v:=fun hk r=>by
  simp only[Rep] at r ⊢
  obtain⟨a,rfl,q⟩:=r
  exact⟨a,rfl,ha _ _ hk q⟩
 intro d
 induction d with
 | zero =>
  intro w w2 v e r
  cases w<;>simp only[zga,Option.some.injEq,reduceCtorEq] at e
  case cel k =>
   split at e
   ·rename_i hk
    cases e
    exact low hk r
   ·cases e
  all_goals (subst e;simp only[Rep] at r ⊢;exact r)
 | succ d ih =>
  have ihs:∀{ws ws2:List W} {vs:List V},zdh n ce d ws=some ws2->Reps F as ws vs->Reps F2 as2 ws2 vs:=fun e r=>ziC ih e r
  intro w w2 v e r
  cases w<;>simp only[zga,Option.some.injEq] at e
  case cel k =>
   split at e
   ·rename_i hk
    cases e
    exact low hk r
   ·rename_i hk
    split at e
    ·rename_i xs hx
     obtain⟨ys,e1,rfl⟩:=map_eq_some_iff.mp e
     simp only[Rep] at r
     obtain⟨a,rfl,q⟩:=r
     obtain⟨_,vs,h2,rs⟩:=S.cell _ _ _ q hx
     simp only[Rep]
     exact⟨a,vs,rfl,.inl (hc k a xs vs (by omega) q hx h2),ihs e1 rs⟩
    ·cases e
  case lst xs =>
   obtain⟨ys,e1,rfl⟩:=map_eq_some_iff.mp e
   simp only[Rep] at r ⊢
   obtain⟨a,vs,rfl,h2,rs⟩:=r
   exact⟨a,vs,rfl,rd h2,ihs e1 rs⟩
  case tup xs =>
   obtain⟨ys,e1,rfl⟩:=map_eq_some_iff.mp e
   simp only[Rep] at r ⊢
   obtain⟨a,vs,rfl,h2,rs⟩:=r
   exact⟨a,vs,rfl,hF _ _ h2,ihs e1 rs⟩
  all_goals (subst e;simp only[Rep] at r ⊢;exact r)
end
open Classical in
def ziD(d:List W->M W):List W->M W:=fun ws ce=>match d ws ce with
 | some (.ok w ce')=>if zfX ce ce' then match zga ce.length ce' 6 w with
  | some w2=>some (.ok w2 (ce'.take ce.length))
  | none=>none
  else none
 | r=>r
open Classical in
theorem zhT{P:Program}{w:World}{K:PySem.W.Frag}{mg:Str->Option Value}{base:Heap}{CX:CXT}{k n:Nat}{f:Addr}{fd:FuncData}{ps:List Str}{G:Ga}{fe:XK->XK}{d:List W->M W}(h:FnOk P w K mg base CX k f fd ps (spV G fe n d)):FnOk P w K mg base CX k f fd ps (spV G fe n (ziD d)):=by
 refine h.imp fun vs H Q E ⟨hl,F,as,ws,ce,S,rs,Pf⟩=>⟨hl,F,as,ws,ce,S,rs,?_⟩
 revert Pf
 unfold ziD
 cases d ws ce with
 | none=>exact fun P=>P
 | some r=>cases r with
  | ex x ce'=>exact fun P=>P
  | ok w ce' =>
   dsimp only
   intro Pf v H' F' as' l S' rv
   split at Pf
   ·rename_i h1
    split at Pf
    ·rename_i w2 e2
     obtain⟨S2,l2⟩:=S.cut S' l h1
     let isC:Addr->Prop:=fun a=>∃(k:Nat) (xs:List W),ce.length<=k/\as'[k]?=some a/\ce'[k]?=some (.lst xs)
     let F2:Hp:=fun a=>if isC a then H' a else F' a
     have sub:∀a o,F' a=some o->F2 a=some o:=fun a o e=>by
      have:¬isC a:=by
       rintro⟨k,xs,_,e1,e3⟩
       have:=(S'.cell k a _ e1 e3).1 rfl
       rw[this] at e
       cases e
      show(if isC a then H' a else F' a)=_
      rw[if_neg this];exact e
     have l3:Le F' (as'.take ce.length) F2 (as'.take ce.length):=⟨sub,fun _ _ h=>h⟩
     refine Pf v H' F2 (as'.take ce.length) (l2.trans l3) ⟨fun b o e=>?_,S2.nd,S2.len,fun i b c e1 e3=>?_⟩ ?_
     ·have e:(if isC b then H' b else F' b)=some o:=e
      split at e
      ·exact e
      ·exact S'.sub _ _ e
     ·obtain⟨p1,p2⟩:=S2.cell i b c e1 e3
      refine⟨fun hn=>?_,p2.le l3 rfl⟩
      show(if isC b then H' b else F' b)=none
      rw[if_neg]
      ·exact p1 hn
      ·rintro⟨k,xs,hk,e4,_⟩
       have hi:i<ce.length:=by have:=zaE e3;rw[length_take] at this;omega
       rw[zbG hi] at e1
       have a1:=zaE e4
       have a2:=zaE e1
       rw[getElem?_eq_getElem a1] at e4
       rw[getElem?_eq_getElem a2] at e1
       have:=zgN S'.nd a1 a2 ((Option.some.inj e4).trans (Option.some.inj e1).symm)
       omega
     ·refine zmq S' sub (fun k a xs vs hk e1 e3 e4=>?_) (fun k a hk e1=>by rw[zbG hk];exact e1) 6 e2 rv
      show(if isC a then H' a else F' a)=_
      rw[if_pos ⟨k,xs,hk,e1,e3⟩]
      exact e4
    ·exact Pf.elim
   ·exact Pf.elim
section
variable {X:Cx} {G:Ga} {E:XK} {a b:Expr} {da db:Sl->M W} {pos:Pos}
end
end VS
namespace VS
open L2
section
variable {sl:Sl} {ce c1 c2 c3:Ce} {e o i:Sl->M W} {w x y:W} {xs:List W} {k j:Nat} {b:DS} {Q:O->Prop} {p q:Nat} {ij:Int}
theorem zdY{n j:Nat}(h:j<n):ixN n (j:Int)=some j:=by
 unfold ixN
 rw[if_pos (by omega),if_pos (by omega)]
 simp
theorem zt8(he:e sl ce=some (.ok w c1))(ho:o sl c1=some (.ok (.cel k) c2))(hi:i sl c2=some (.ok (.int ij) c3))(g:c3[k]?=some (.lst xs))(hj:ixN xs.length ij=some j) :
  zil e (zeg o i) sl ce=some (.go .nx sl (c3.set k (.lst (xs.set j w)))):=by
 simp only[zil,lft,he,zeg,ho,hi,zfA g,hj]
theorem zet(he:e sl ce=some (.ok w c1))(ho:o sl c1=some (.ok (.cel k) c2))(hi:i sl c2=some (.ok (.int ij) c3))(g:c3[k]?=some (.lst xs))(hj:ixN xs.length ij=some j)(q:Q (.go .nx sl (c3.set k (.lst (xs.set j w))))) :
  Run (zil e (zeg o i)) sl ce Q:=⟨_,zt8 he ho hi g hj,q⟩
theorem ziE(he:e sl ce=some (.ok w c1))(ho:o sl c1=some (.ok (.cel k) c2))(hi:i sl c2=some (.ok (.int ij) c3))(g:c3[k]?=some (.lst xs))(hj:ixN xs.length ij=some j)(q:Run b sl (c3.set k (.lst (xs.set j w))) Q) :
  Run (zax (zil e (zeg o i)) b) sl ce Q:=zcg (zt8 he ho hi g hj) q
abbrev g2(p q:Nat):DG:=gT 2 (zfy (gN p) (zfy (gN q) zoL))
theorem ztn:g2 p q (.tup [x,y]) sl ce=some ((sl.set p (some x)).set q (some y),ce):=rfl
theorem zmr(he:e sl ce=some (.ok (.tup [x,y]) c1))(q':Run b ((sl.set p (some x)).set q (some y)) c1 Q):Run (zax (zil e (g2 p q)) b) sl ce Q :=
 zcg (sl':=(sl.set p (some x)).set q (some y)) (ce':=c1) (by simp only[zil,lft,he,ztn]) q'
variable {α:Type} {fa fb:α->W} {zs:List α} {di:Sl->M Src} {body:DS}
end
structure Chg (ce b:Ce):Prop where
 len:b.length=ce.length
 cell:∀(k:Nat) (c:C),b[k]?=some c->ce[k]?=some c\/ze9 ce.length c
theorem Chg.refl(ce:Ce):Chg ce ce:=⟨rfl,fun _ _ h=>.inl h⟩
theorem Chg.set{ce b:Ce}(h:Chg ce b)(k:Nat){x:C}(hx:ze9 ce.length x):Chg ce (b.set k x) :=
 ⟨by rw[length_set];exact h.len,fun j c e=>by
  by_cases hj:k=j
  ·subst hj
   have hk:k<b.length:=by have:=(List.getElem?_eq_some_iff.mp e).1;rwa [length_set] at this
   rw[getElem?_set_self hk] at e
   cases e
   exact .inr hx
  ·rw[getElem?_set_ne hj] at e
   exact h.cell j c e⟩
theorem Chg.cut{ce b t:Ce}(h:Chg ce b):zfX ce (b++t):=⟨by rw[length_append,h.len];omega,fun k c hk e=>h.cell k c (by rwa [getElem?_append_left (by rw[h.len];exact hk)] at e)⟩
theorem Chg.take{ce b t:Ce}(h:Chg ce b):(b++t).take ce.length=b:=by rw[<- h.len];exact take_left
namespace Own
variable {b ce c:Ce} {l:List (Nat×C)} {k:Nat} {x:C} {w:W}
theorem base_set(h:Own b c l)(hk:k<b.length)(x:C):Own (b.set k x) (c.set k x) l:=by
 obtain⟨⟨t,rfl⟩,h2,h3,h4⟩:=h
 refine⟨⟨t,by rw[set_append_left _ _ hk]⟩,fun p hp=>?_,fun p hp=>by rw[length_set];exact h3 p hp,h4⟩
 have:=h3 p hp
 rw[getElem?_set_ne (by omega)]
 exact h2 p hp
theorem low(h:Own b c l)(hk:k<b.length):c[k]?=b[k]?:=by
 obtain⟨⟨t,rfl⟩,_⟩:=h
 exact getElem?_append_left hk
theorem finC'(h:Own b c l)(g:Chg ce b)(hb:Bel ce.length w):VS.finC ce c w=some (.ok w b):=by
 obtain⟨⟨t,rfl⟩,_⟩:=h
 simp only[VS.finC,g.take]
 exact if_pos ⟨g.cut,hb⟩
theorem frzD'{d:List W->M W}{ws:List W}{w2:W}(e:d ws ce=some (.ok w c))(h:Own b c l)(g:Chg ce b)(ht:zga ce.length c 6 w=some w2):ziD d ws ce=some (.ok w2 b):=by
 obtain⟨⟨t,rfl⟩,_⟩:=h
 simp only[ziD,e,ht,g.take]
 exact if_pos g.cut
end Own
def pW(p:Nat×Nat):W:=.tup [nW p.1,nW p.2]
section
variable {ce:Ce} {n:Nat}
end
open L2
section
variable {ce:Ce} {n:Nat}
def Cls(ce:Ce)(ks:List Nat)(cs:List (List Nat)):Prop:=PySem.Paired (fun k c=>ce[k]?=some (.lst (c.map nW))) ks cs
end
end VS
namespace VS
open PySem PySem.Spec PyProof.Rows L2
open MeetsSeq (EqGives)
theorem zg8(l:Addr)(items:Array Value)(n:Nat)(dd:Option Addr)(sl:Array (Option Value))(x:Value)(e:Value->Bool)(he:∀y,y∈items->EqGives y x (e y)) :
  Meets (Builtin.«tuple.count» ⟨[.ref l,x],[]⟩) (fun _ R s=>s.heap.get? l=some { cls:=.type "tuple",dict:=dd,data:=.seq items n,slots:=sl }/\R (.ok (.ret (.int (items.toList.countP e:Nat) s.toks))) { s with toks:=s.toks+1 }) :=
 .of_wp fun prog w A R s h=>by
  obtain⟨hp,g,d,tk,os⟩:=s;obtain⟨hl,h⟩:=h
  have f2:=AutoSeq1.sub_tuple_tuple
  wp_walk using wpAny_loadPart' hl,MeetsSeq2.wpAny_forIn_array _ (fun rest (b:Nat) s'=>s'=⟨hp,g,d,tk,os⟩/\(∀y,y∈rest->y∈items)/\b+rest.countP e=items.toList.countP e) _
  case turn =>
   rintro y rest b s' ⟨rfl,hmem,hR⟩
   refine wpAny_bind (he y (hmem y (mem_cons_self ..)) prog w _ _ _ _ ?_)
   rw[countP_cons] at hR
   have hm2:∀z,z∈rest->z∈items:=fun z hz=>hmem z (mem_cons_of_mem _ hz)
   cases hy:e y with
   | true =>
    rw[hy] at hR
    wp_walk
    exact⟨rfl,hm2,by rw[if_pos rfl] at hR;omega⟩
   | false =>
    rw[hy] at hR
    wp_walk
    exact⟨rfl,hm2,by simpa using hR⟩
  case fin =>
   rintro b s' ⟨rfl,-,hR⟩
   simp only[countP_nil,add_zero] at hR
   subst hR
   wp_walk
   exact⟨_,rfl,h⟩
  case h =>
   exact⟨rfl,fun y hy=>by simpa using hy,by simp⟩
def zrm(K:PySem.W.Frag):V->List V->Hp->VK->Prop:=fun x vs H Q=>∃(a:Addr) (ns:List Int) (i:Int),x=.ref a/\vs=[.int i]/\SqT K H a (ns.map V.int)/\Q (.int (ns.count i:Nat)) H
theorem zo5{X:Cx}{K:PySem.W.Frag}(hK:X.K=K:=by rfl):MtR X "tuple.count" (zrm K):=by
 subst hK
 intro pins s σ H x vs v us Q I rx rv h
 obtain⟨a,ns,i,rfl,rfl,ha,q⟩:=h
 cases rx
 obtain⟨u,rfl,ru⟩:=zdS rv
 obtain⟨t,rfl⟩:=ru
 obtain⟨its,r1,p1,_⟩:=I.tuple ha
 have hI:IntsAre its ns:=zdT r1
 obtain⟨⟨cls,dd,data,sl⟩,ho,hc,n,hd⟩:=id p1
 simp only at hc hd
 subst hc hd
 refine call_meets F.slot_tuple_count ⟨_,ho,rfl⟩ F.entry_tuple_count (F.args_tuple_count_2 _ _)
  (zg8 a its.toArray n dd sl (.int i t) (isInt i) (fun y hy=>eq_isInt i t hI y (by simpa using hy))) ⟨ho,?_⟩
 have e:its.toArray.toList.countP (isInt i)=ns.count i:=countP_isInt i hI
 rw[e]
 exact⟨.int (ns.count i:Nat),H,I.tok _,⟨_,rfl⟩,q⟩
theorem zrn{X:Cx}{o e:Expr}{es:List Expr}{to:TE}{t:TA}{name:Str}{apos cpos:Pos}{id:String}{r:V->List V->Hp->VK->Prop}(slot:Slot "tuple" name id)(hty:typeOf (.builtin id)=pure (.type "method_descriptor"))(hm:MtR X id r)(ho:PE X o to)(ha:PA X (e::es) t)(hbase:attributeBase o name X.env (eval o X.env)=eval o X.env)(hfew:((backTo cpos (starEach (e::es) X.env)).all (fun x=>!x.1)&&(backToKw cpos (keywordEach [] X.env)).all (fun x=>x.1.isSome)
   && decide ((e::es).length+([]:List Keyword).length+(if ([]:List Keyword).isEmpty then 0 else 1)<30))=true)(hline:(apos.endLine==cpos.line)=true)(hs:starEach (e::es) X.env=(false,eval e X.env)::starEach es X.env)(hplain:(backTo cpos (starEach es X.env)).any (·.1)=false) :
  PE X (.Call (.Attribute o name apos) (e::es) [] cpos) (fun σ H Q=>to σ H fun x H1=>(∃p xs,x=.ref p/\Rd H1 p (.tup xs))/\t σ H1 fun xs H2=>r x xs H2 Q):=by
 intro pins s σ H Q I h
 refine wpAny_Call_method_late hbase hfew hline rfl (thn (ho pins s σ H _ I h) fun v s1 ⟨x,H1,I1,r1,ty,q1⟩=>?_)
 obtain⟨p,xs,rfl,hp⟩:=ty
 cases r1
 obtain⟨_,its,_,ob,e1,e2,_,e3⟩:=(hp.ok I1.hok)
 refine⟨"tuple",id,PySem.F.plainAttrs_tuple,slot,hty,⟨ob,e1,e2⟩,fun a ea=>⟨ob,by cases ea;exact e1,e3⟩,?_⟩
 have hA:=ha cpos pins s1 σ H1 _ I1 q1
 rw[hs] at hA ⊢
 refine Calls.callWith_builtin (by show(false||(backTo cpos (starEach es X.env)).any (·.1))=false;rw[hplain]<;>rfl) (Calls.evalArgs_plain ?_)
 exact thn hA fun us s2 ⟨vs,H2,I2,r2,q2⟩=>hm pins s2 σ H2 (.ref p) vs (.ref p) us Q I2 rfl r2 q2
section
variable {X:Cx} {G:Ga} {E:XK} {o e:Expr} {es:List Expr} {name:Str} {apos cpos:Pos} {do':Sl->M W} {dr:Sl->M (List W)} {id:String} {rm:V->List V->Hp->VK->Prop} {fm:W->List W->M W}
def zto:W->Option Unit
 | .tup _=>some ()
 | _=>none
def zr9(f:W->List W->M W)(o:Sl->M W)(args:Sl->M (List W)):Sl->M W:=fun sl=>bnd (o sl) fun x=>bnd (look fun _=>zto x) fun _=>bnd (args sl) fun ws=>f x ws
theorem zro(slot:Slot "tuple" name id)(hty:typeOf (.builtin id)=pure (.type "method_descriptor"))(hm:MtR X id rm)(hf:Mt G E rm fm)(ho:PE X o (zaz G E do'))(ha:PA X (e::es) (zfv G E dr))(hbase:attributeBase o name X.env (eval o X.env)=eval o X.env:=by rfl)(hfew:((backTo cpos (starEach (e::es) X.env)).all (fun x=>!x.1)&&(backToKw cpos (keywordEach [] X.env)).all (fun x=>x.1.isSome)
   && decide ((e::es).length+([]:List Keyword).length+(if ([]:List Keyword).isEmpty then 0 else 1)<30))=true:=by rfl)(hline:(apos.endLine==cpos.line)=true:=by rfl)(hs:starEach (e::es) X.env=(false,eval e X.env)::starEach es X.env:=by rfl)(hplain:(backTo cpos (starEach es X.env)).any (·.1)=false:=by rfl) :
  PE X (.Call (.Attribute o name apos) (e::es) [] cpos) (zaz G E (zr9 fm do' dr)):=by
 refine PE.imp (zrn slot hty hm ho ha hbase hfew hline hs hplain) fun σ H Q zz_=>el6 zz_ fun F as sl ce S P=>(step S P).mono fun x H1 zz_=>el8 zz_ fun wx F1 as1 ce1 l1 S1 rx P1=>?_
 revert P1
 simp only[bnd,look]
 cases wx<;>first|exact fun P=>P.elim|skip
 rename_i xs
 simp only[zto,map_some]
 intro P2
 have rx':=rx
 simp only[Rep] at rx'
 obtain⟨a,vs0,rfl,h,_⟩:=rx'
 refine⟨⟨a,vs0,rfl,.inl (S1.st.sub _ _ h)⟩,(step (RP:=Reps) S1 P2).mono fun vs H2 zz_=>el8 zz_ fun ws F2 as2 ce2 l2 S2 rs P3=>?_⟩
 exact hf F2 as2 H2 σ sl ce2 _ _ ws vs Q S2 (rx.le l2) rs P3
open Classical in
def zuO:W->List W->M W:=fun w ws ce=>match w,ws with
 | .tup xs,[.int i]=>match zeI xs with
  | some ns=>if i∈ns then some (.ok (.int (ns.idxOf i:Nat)) ce) else none
  | none=>none
 | _,_=>none
def zkX:W->List W->M W:=fun w ws ce=>match w,ws with
 | .tup xs,[.int i]=>match zeI xs with
  | some ns=>some (.ok (.int (ns.count i:Nat)) ce)
  | none=>none
 | _,_=>none
theorem zrp(K:PySem.W.Frag):Mt G E (zrm K) zkX:=by
 intro F as H σ sl ce w v ws vs Q S rw' rs P
 revert P
 unfold zkX
 split
 ·rename_i xs i
  split
  ·rename_i ns hn
   intro P
   have hx:=zeq hn
   subst hx
   simp only[Rep] at rw'
   obtain⟨a,us,rfl,h,r1⟩:=rw'
   obtain⟨v1,rfl,rv⟩:=zbl rs
   simp only[Rep] at rv
   subst rv
   have:=r1.of_ints
   subst this
   exact⟨a,ns,i,rfl,rfl,.inl (.inl (S.st.sub _ _ h)),P.done S (by simp only[Rep])⟩
  ·exact fun P=>P.elim
 ·exact fun P=>P.elim
end
section
variable {X:Cx} {G:Ga} {E:XK} {tg a:Expr} {da:Sl->M W}
end
end VS
namespace VS
open L2
section
variable {sl:Sl} {ce c1 c2 c3:Ce} {a b:Sl->M W} {w x y:W} {xs ws:List W} {n:Nat} {ra:Sl->M (List W)}
theorem zrq{f:W->List W->M W}(ha:a sl ce=some (.ok (.tup xs) c1))(hr:ra sl c1=some (.ok ws c2))(h:f (.tup xs) ws c2=some (.ok w c3)):zr9 f a ra sl ce=some (.ok w c3):=by
 simp only[zr9,bnd,ha,look,zto,map_some,hr,h]
theorem zkY{k:Nat}(ha:ra sl ce=some (.ok xs c1))(hl:xs.length<=PySem.sizeLine)(hb:b sl c1=some (.ok (nW n) c2))(hz:xs.length*n<=PySem.sizeLine)(h63:n<=100000):zkD zfx ra b sl ce=some (.ok (.cel c2.length) (c2++[.lst (List.replicate n xs).flatten])):=by
 have t:((n:Int)).toNat=n:=toNat_natCast n
 simp only[zkD,bnd,ha,zs8,if_pos hl,hb,zr7,nW,t]
 rw[if_pos ⟨by omega,by omega,hz⟩]
 exact zcR (by rw[L2.len_rep,mul_comm];exact hz)
end
section
variable {ce:Ce} {k:Nat} {xs:List W}
end
end VS
namespace VS
open PySem PySem.Spec PyProof.Rows L2
section
variable {X:Cx} {G:Ga} {E:XK} {a b:Expr} {da db:Sl->M W} {pos:Pos}
end
end VS
namespace VS
open PySem PySem.Spec PyProof.Rows L2 HT
section
variable {prog:Program} {w:World} {A:Around} {E:Value->Shared->Prop} {s:Shared}
theorem zdZ{t sl:Addr}{items:Array Value}{vl vu:Value}{lo hi:Option Int}{Q:Value->Shared->Prop}(ht:IsTup s.heap t items)(hs:s.heap.IsSliceOf sl vl vu .none)(pl:IsPart vl lo)(pu:IsPart vu hi)(hw:sIx items.size 0 lo=0/\sIx items.size items.size hi=items.size)(h:Q (.ref t) s):wpAny (model prog w) A (getItem (.ref t) (.ref sl)) Q E s:=by
 obtain⟨os,hos,hcs,hds⟩:=id hs
 have hTs:s.TypeIs (.ref sl) "slice" := ⟨os,hos,hcs⟩
 unfold getItem
 try with_reducible refine wpAny_holding ?_
 first|refine wpAny_bind (wpAny_pure ?_)|skip
 refine wpAny_bind (wpAny_sequenceKey ht.typeIs (by decide) ?_)
 refine wpAny_bind (wpAny_callSpecial?_slot (name:=Str.ofString "__getitem__") ht.typeIs PyProof.Rows.slot_tuple_getitem
  (wpAny_call_entry PyProof.Rows.slot_tuple_getitem ht.typeIs entry_tuple_getitem ?_ (args_tuple_getitem _ _)))
 show wpAny _ _ (Builtin.Tuple.tupleItemsOf (.ref t) >>= _) _ _ s
 refine wpAny_bind (tupleItemsOf_ ht ?_)
 refine wpAny_bind (wpAny_typeOf hTs ?_)
 rw[if_pos (by decide)]
 refine wpAny_bind (zcE hs pl pu ?_)
 have hyes:(((sIx items.size 0 lo:Nat):Int)==0&&(1:Int)==1&&(sIx items.size items.size hi-sIx items.size 0 lo)==items.size)=true:=by
  rw[hw.1,hw.2];simp
 show wpAny _ _ (if (((sIx items.size 0 lo:Nat):Int)==0&&(1:Int)==1&&(sIx items.size items.size hi-sIx items.size 0 lo)==items.size)=true then _ else _) _ _ s
 rw[if_pos hyes]
 have f2:=AutoSeq1.sub_tuple_tuple
 refine wpAny_bind (m:=Builtin.Tuple.tupleIsExact _) ?_
 unfold Builtin.Tuple.tupleIsExact
 refine wpAny_bind (wpAny_typeOf ht.typeIs ?_)
 refine wpAny_pure ?_
 rw[if_pos (by decide)]
 exact wpAny_bind (wpAny_rule (wpAny_pure ⟨_,rfl,wpAny_pure h⟩))
end
section
variable {X:Cx} {G:Ga} {E:XK} {a:Expr} {da:Sl->M W} {pos:Pos}
def zuP(K:PySem.W.Frag):V->Option Int->Option Int->Hp->VK->Prop:=fun x lo hi H Q=>∃a xs,x=.ref a/\SqT K H a xs /\
 (HT.sIx xs.length 0 lo=0/\HT.sIx xs.length xs.length hi=xs.length)/\Q (.ref a) H
theorem zo6:SlR X (zuP X.K):=by
 intro pins s σ H x v vl vu lo hi sl Q I rx hs pl pu h
 obtain⟨a,xs,rfl,hx,hw,q⟩:=h
 cases rx
 obtain⟨its,r,ht,hz⟩:=I.tuple hx
 have hlen:its.toArray.size=xs.length:=by rw[size_toArray];exact r.length.symm
 refine⟨"tuple",_,PyProof.Rows.slot_tuple_getitem.lookup,ht.typeIs,?_⟩
 exact zdZ ht hs pl pu (by rw[hlen];exact hw) ⟨.ref a,H,I,rfl,q⟩
def slA(x:W)(lo hi:Option Int):M W:=fun ce=>match x with
 | .tup xs=>zoJ (zkv xs lo hi) ce
 | _=>none
def zsa(d:Sl->M W)(l h:Sl->M (Option Int)):Sl->M W:=fun sl=>bnd (d sl) fun x=>bnd (l sl) fun lo=>bnd (h sl) fun hi=>slA x lo hi
theorem zrr{lo hi:Option Expr}{dl dh:Sl->M (Option Int)}{p2:Pos}(he:PE X a (zaz G E da))(hl:PO X lo (zr5 G E dl))(hu:PO X hi (zr5 G E dh)):PE X (.Subscript a (.Slice lo hi none p2) pos) (zaz G E (zsa da dl dh)):=by
 refine PE.imp (zlT ((L2.slT X.K).or zo6) he hl hu) fun σ H Q zz_=>el6 zz_ fun F as sl ce S P=>(step S P).mono fun x H1 zz_=>el8 zz_ fun wx F1 as1 ce1 l1 S1 rx P1=>(step (RP:=rO) S1 P1).mono fun y H2 zz_=>el8 zz_ fun wy F2 as2 ce2 l2 S2 ry P2=>(step (RP:=rO) S2 P2).mono fun z H3 zz_=>el8 zz_ fun wz F3 as3 ce3 l3 S3 rz P3=>?_
 have ry:wy=y:=ry
 have rz:wz=z:=rz
 subst ry rz
 unfold slA at P3
 cases wx<;>first|exact(show False from P3).elim|skip
 have rx:=(rx.le l2).le l3
 have rx0:=rx
 simp only[Rep] at rx
 obtain⟨p,vs,rfl,h,rs⟩:=rx
 dsimp only at P3
 by_cases hw:HT.sIx vs.length 0 wy=0/\HT.sIx vs.length vs.length wz=vs.length
 ·refine .inr ⟨p,vs,rfl,.inl (.inl (S3.st.sub _ _ h)),hw,?_⟩
  have e:∀xs:List W,xs.length=vs.length->zkv xs wy wz=xs:=fun xs hx=>by
   unfold zkv
   rw[hx,hw.1,hw.2,<- hx]
   simp
  rw[e _ rs.length.symm] at P3
  unfold zoJ mkF at P3
  split at P3
  ·exact P3.done S3 rx0
  ·exact(show False from P3).elim
 ·exact .inl ⟨p,vs,rfl,.inl (.inl (S3.st.sub _ _ h)),hw,(zfU S3 (rs.cut wy wz) P3).2⟩
end
end VS
namespace VS
open PySem PySem.Spec PyProof.Rows L2
def zsb:List W->M W:=fun ws ce=>match ws with
 | [.int i]=>some (.ok (.int i) ce)
 | [.bl k]=>some (.ok (.int (if k then 1 else 0)) ce)
 | _=>none
theorem ztp{G:Ga}{E:XK}:Bi G E (fun xs H Q=>(∃i,xs=[.int i]/\Q (.int i) H)\/∃k,xs=[.bl k]/\Q (.int (if k then 1 else 0)) H) zsb:=by
 intro F as H σ sl ce ws vs Q S rs P
 revert P
 unfold zsb
 split
 ·intro P
  obtain⟨v,rfl,r⟩:=zbl rs
  simp only[Rep] at r
  subst r
  exact .inl ⟨_,rfl,P.done S (by simp only[Rep])⟩
 ·intro P
  obtain⟨v,rfl,r⟩:=zbl rs
  simp only[Rep] at r
  subst r
  exact .inr ⟨_,rfl,P.done S (by simp only[Rep])⟩
 ·exact fun P=>P.elim
end VS
namespace L2
open PySem PySem.Spec PyProof.Rows
theorem ObjOk.there{P:Program}{w:World}{H:Hp}{h:Heap}{a:Addr}{o:HO}(x:ObjOk P w H h a o):∃u,h.get? a=some u:=by
 cases o with
 | lst xs=>obtain⟨_,_,_,_,e⟩:=x;exact⟨_,e⟩
 | tup xs=>obtain⟨_,_,_,u,e,_⟩:=x;exact⟨_,e⟩
 | dK kvs=>obtain⟨_,_,_,_,o,_,_,e,_⟩:=x;exact⟨_,e⟩
 | dT kvs=>obtain⟨_,_,_,_,o,_,_,e,_⟩:=x;exact⟨_,e⟩
 | set S n=>obtain⟨o,_,_,_,e,_⟩:=x;exact⟨_,e⟩
 | ins C dx fs=>obtain⟨_,_,_,e,_⟩:=x;exact⟨_,e⟩
 | own y=>exact x
 | xd fs=>obtain⟨_,⟨_,_,_,e,_⟩,_⟩:=x;exact⟨_,e⟩
 | rng lo hi=>obtain⟨_,_,_,e⟩:=x;exact⟨_,e⟩
 | frz ob u=>obtain⟨e,_⟩:=x;exact⟨_,e⟩
 | tbl ps=>exact⟨_,x⟩
 | met f y=>exact⟨_,x⟩
 | ext φ=>exact x.2.1
def Fl(N:Addr->Prop)(a:Addr)(cls:Value)(H:Hp)(h:Heap):Prop :=
 ∃oe vs a0,N a/\H a=none/\h.get? a=some oe/\oe.cls=cls/\oe.data=.fields vs/\vs[0]?=some a0 /\
  (vs[1]?=some .none\/∃T oT ts,vs[1]?=some (.ref T)/\N T/\H T=none/\T≠a/\h.get? T=some oT/\oT.data=.fields ts/\ts[3]?=some .none)
theorem Fl.mono{N N':Addr->Prop}{a:Addr}{cls:Value}{H:Hp}{h:Heap}(f:Fl N a cls H h)(k:∀b,N b->N' b):Fl N' a cls H h:=by
 obtain⟨oe,vs,a0,n,h1,h2,h3,h4,h5,h6⟩:=f
 refine⟨oe,vs,a0,k _ n,h1,h2,h3,h4,h5,h6.imp id fun⟨T,oT,ts,e1,e2,e⟩=>⟨T,oT,ts,e1,k _ e2,e⟩⟩
theorem zms{M:Model}{A:Around}{E:Value->Shared->Prop}{s:Shared}{B:Heap}{env:Env}{outer:List Env}{L a:Addr}{oe:Obj}{vs:Array Value}{a0:Value}{Q:Unit->Shared->Prop}(hfr:A.frames=some (env::outer))(hl:s.heap.FunFrames B (env::outer))(hf:env.frame=some L)(he:s.heap.get? a=some oe)(hkb:B.StaysIn s.heap)(hen:B.get? a=none)(hd:oe.data=.fields vs)(h0:vs[0]?=some a0)(h1:vs[1]?=some .none\/∃T oT ts,vs[1]?=some (.ref T)/\B.get? T=none/\T≠a/\s.heap.get? T=some oT/\oT.data=.fields ts/\ts[3]?=some .none)(hQ:∀h',Heap.NotedW B (env::outer) a oe.cls a0 (rawInt L) s.heap h'->Q () { s with heap:=h' }):wpAny M A (noteFrame (.ref a) env) Q E s:=by
 rcases h1 with h1|⟨T,oT,ts,h1,hnT,hTe,hT,hdT,h3⟩
 ·unfold noteFrame
  simp only[hf]
  refine wpAny_bind (wpAny_field he hd h1 ?_)
  rw[if_neg (by decide)]
  exact wpAny_entryW hfr hl hf he hkb hen hd (Array.getElem?_eq_some_iff.mp h1).1 h0 hQ
 ·exact wpAny_noteFrame_onW hfr hl hf ⟨oe,vs,T,oT,ts,he,⟨rfl,h0⟩,hd,h1,hnT,hTe,hT,hdT,h3⟩ hkb hen hQ
structure Flown (stk:List Addr) (N:Addr->Prop) (H:Hp) (a:Addr) (cls:Value) (h h':Heap):Prop where
 keep:∀b o,h.get? b=some o->b∉stk->(H b≠none\/¬N b\/∀vs,o.data≠.fields vs)->h'.get? b=some o
 slot:∀b o,h.get? b=some o->b∈stk->∃sl,h'.get? b=some { o with slots:=sl }
 fl:Fl (fun b=>N b\/h.get? b=none) a cls H h'
theorem flown{X:Cx}{M:Model}{A':Around}{E:Value->Shared->Prop}{pins:List (Addr×Obj)}{σ:St}{H:Hp}{s:Shared}{N:Addr->Prop}{a:Addr}{cls:Value}{Q:Unit->Shared->Prop}(I:Inv X pins σ H s)(hst:X.stack=X.env::X.outer)(hf:X.env.frame=some X.env.locals)(f:Fl N a cls H s.heap)(hQ:∀h',Flown (frs X.stack) N H a cls s.heap h'->Q () { s with heap:=h' }) :
  wpAny M X.A (noteFrame (.ref a) X.env) (fun _ s₂=>wpAny M A' (setFlight (.ref a) none) Q E s₂) E s:=by
 obtain⟨oe,vs,a0,na,ha,he,rfl,hd,h0,h1⟩:=f
 have hstk:=I.stack
 have hfree:=I.stkFree
 have hfr:=I.ok.frames
 obtain⟨hid,hh1,hh2,hh3,hh4⟩:∃hid:List Addr,(∀b∈frs X.stack,b∈hid)/\a∈hid/\(∀b∈hid,b∈frs X.stack\/(N b/\H b=none/\∃o vs,s.heap.get? b=some o/\o.data=.fields vs)) /\
   (vs[1]?=some .none\/∃T oT ts,vs[1]?=some (.ref T)/\T∈hid/\T≠a/\s.heap.get? T=some oT/\oT.data=.fields ts/\ts[3]?=some .none):=by
  rcases h1 with h1|⟨T,oT,ts,h1,nT,hT,hTa,r⟩
  ·refine⟨frs X.stack++[a],fun b hb=>mem_append_left _ hb,mem_append_right _ (by simp),fun b hb=>?_,.inl h1⟩
   rcases mem_append.mp hb with hb|hb
   ·exact .inl hb
   ·rw[mem_singleton] at hb;subst hb;exact .inr ⟨na,ha,_,_,he,hd⟩
  ·obtain⟨hT1,hT2,hT3⟩:=r
   refine⟨frs X.stack++[a,T],fun b hb=>mem_append_left _ hb,mem_append_right _ (by simp),fun b hb=>?_,.inr ⟨T,oT,ts,h1,mem_append_right _ (by simp),hTa,hT1,hT2,hT3⟩⟩
   rcases mem_append.mp hb with hb|hb
   ·exact .inl hb
   ·rcases mem_cons.mp hb with rfl|hb
    ·exact .inr ⟨na,ha,_,_,he,hd⟩
    ·rw[mem_singleton] at hb;subst hb;exact .inr ⟨nT,hT,_,_,hT1,hT2⟩
 have hin:∀env∈X.env::X.outer,∀b,env.frame=some b->b∈hid:=fun env he b hb=>hh1 b (mem_filterMap.mpr ⟨env,by rw[hst];exact he,hb⟩)
 have hl:s.heap.FunFrames (PySem.W.hideAll s.heap hid) (X.env::X.outer):=PySem.W.funFrames_hide (by rw[<- hst];exact hstk) hin
 refine zms (by rw[hfr,hst]) hl hf he (fun b o q=>PySem.W.of_hideAll _ q) (PySem.W.hideAll_none _ hh2) hd h0 (hh4.imp id fun⟨T,oT,ts,e1,e2,e3,e4⟩=>⟨T,oT,ts,e1,PySem.W.hideAll_none _ e2,e3,e4⟩) fun h1 z=>?_
 obtain⟨z1,z2,z3,z4⟩:=z
 refine wpAny_landsW (base:=PySem.W.hideAll s.heap hid) (l:=X.env::X.outer) (cls:=oe.cls) (a0:=a0) ⟨z1,PySem.W.hideAll_none _ hh2,z2,z3⟩ fun h2 y1 y2=>hQ h2 ?_
 have up:∀b o,s.heap.get? b=some o->(∀vs,o.data≠.fields vs)->∃sl,h2.get? b=some { o with slots:=sl }:=fun b o e n=>by
  obtain⟨s1,e1⟩:=z4 b o e n
  obtain⟨s2,e2⟩:=y2 b _ e1 n
  exact⟨s2,e2⟩
 have sl:∀b o,s.heap.get? b=some o->b∈frs X.stack->∃sl,h2.get? b=some { o with slots:=sl }:=fun b o e hb=>by
  obtain⟨_,o',e',n⟩:=hstk.mem hb
  rw[e] at e';cases e'
  exact up b o e n
 obtain⟨y1,y3,y4,oe',vs',T',oT',ts',t1,⟨t2,t3⟩,t4,t5,t6,t7,t8,t9,t10⟩:=y1
 refine⟨fun b o e hb hc=>?_,sl,oe',vs',a0,.inl na,ha,t1,t2,t4,t3,.inr ⟨T',oT',ts',t5,?_,?_,t7,t8,t9,t10⟩⟩
 ·refine y1 b o (PySem.W.hideAll_get _ e fun hm=>?_)
  rcases hh3 b hm with q|⟨q1,q2,o',vs',q3,q4⟩
  ·exact hb q
  ·rcases hc with hc|hc|hc
   ·exact hc q2
   ·exact hc q1
   ·rw[e] at q3;cases q3;exact hc _ q4
 all_goals
  cases q:s.heap.get? T' with
  | none =>
   first
    | exact .inr q
    | (cases q2:H T' with
       | none=>rfl
       | some u=>obtain⟨u',e'⟩:=(I.hok T' u q2).there;rw[q] at e';cases e')
  | some o =>
   have hm:T'∈hid:=by
    apply Classical.byContradiction
    intro hm
    have:=PySem.W.hideAll_get _ q hm
    rw[t6] at this;cases this
   rcases hh3 T' hm with hs|⟨q1,q2,_⟩
   ·exfalso
    obtain⟨_,o',e',n⟩:=hstk.mem hs
    rw[q] at e';cases e'
    obtain⟨s2,e2⟩:=up T' o q n
    rw[t8] at e2;cases e2
    exact n _ t9
   ·first|exact .inl q1|exact q2
def CXx(P:Program)(w:World):CXT:=fun outer H s E e s'=>∃a cls H',e=.ref a/\s'.os=s.os/\AllBare s'.gens/\Un (frs outer) [] H H' s.heap s'.heap/\HOk P w H' s'.heap/\Fl (fun b=>s.heap.get? b=none) a cls H' s'.heap/\E cls none H'
def Nw(X:Cx)(pins:List (Addr×Obj))(b:Addr):Prop:=X.s₀.heap.get? b=none/\∀p∈X.pn++pins,p.1≠b
def Flies(X:Cx)(E:XK):Prop:=∀(pins:List (Addr×Obj)) (σ:St) (H:Hp) (s:Shared) (a:Addr) (cls:Value),Inv X pins σ H s->Fl (Nw X pins) a cls H s.heap->E cls none H->X.xe (.ref a) s
theorem zkZ{X:Cx}{pins:List (Addr×Obj)}{σ:St}{H:Hp}{s:Shared}{b:Addr}(hx:X.ex=[])(I:Inv X pins σ H s)(h:s.heap.get? b=none):Nw X pins b:=by
 refine⟨?_,fun p hp e=>?_⟩
 ·cases q:X.s₀.heap.get? b with
  | none=>rfl
  | some o =>
   obtain⟨o',e⟩:=I.base.there b o q (by rw[hx];simp)
   rw[h] at e;cases e
 ·obtain⟨e1,_⟩:=I.pin p hp
  rw[e,h] at e1;cases e1
theorem Flies.passes{X:Cx}{E:XK}(h:Flies X E)(hx:X.ex=[]):zcD (CXx X.prog X.w) X E:=fun pins σ H s e s' I z=>by
 obtain⟨a,cls,H',rfl,ho,hg,u,hok,f,q⟩:=z
 exact h pins σ H' s' a cls (I.call' ho u hok hg (fun b z=>absurd z (by simp))) (f.mono fun b hb=>zkZ hx I hb) q
theorem zk0{X:Cx}:zcD (CXx X.prog X.w) X E0:=fun _ _ _ _ _ _ _ z=>by
 obtain⟨_,_,_,_,_,_,_,_,_,q⟩:=z
 exact q.elim
theorem flies_cxOf{P:Program}{w:World}{K:PySem.W.Frag}{mg:Str->Option Value}{base:Heap}{N:List Str}{qual:Str}{scope:Scope}{f:Addr}{cd:Value}{A:Around}{outer:List Env}{s:Shared}{H:Hp}{E:XK} :
  Flies (zjB (CXx P w) P w K mg base N qual scope f cd A outer s H E) E:=by
 intro pins σ H1 s1 a cls I fl q
 show wpAny (model P w) _ (leaving _ _) _ _ s1
 unfold leaving
 refine wpAny_bind (flown I rfl rfl fl fun h' F=>?_)
 have hb:=I.base
 have hstk:=I.stack
 have hlt:∀b o,s.heap.get? b=some o->b≠(zjB (CXx P w) P w K mg base N qual scope f cd A outer s H E).env.locals:=fun b o e q=>absurd (Heap.lt_size e) (by rw[q];exact not_lt.mpr I.ok.above)
 have hfs:∀b,b∈frs (zjB (CXx P w) P w K mg base N qual scope f cd A outer s H E).stack->b=(zjB (CXx P w) P w K mg base N qual scope f cd A outer s H E).env.locals\/b∈frs outer:=fun b hb=>mem_cons.mp (I.stkSub b hb)
 have hout:∀b,b∈frs outer->b∈frs (zjB (CXx P w) P w K mg base N qual scope f cd A outer s H E).stack:=fun b hb=>by
  obtain⟨env,h1,h2⟩:=mem_filterMap.mp hb
  exact mem_filterMap.mpr ⟨env,mem_cons_of_mem _ h1,h2⟩
 refine⟨a,cls,H1,rfl,I.os,I.bare,⟨fun b o e n h1 h2=>?_,fun b o e n h1 h2=>?_,fun b o e n h2=>hb.free b o e n h2,fun b o e h2=>?_,hb.tups,hb.frzs,hb.tbls⟩,fun b o e=>?_,F.fl.mono fun b hb'=>?_,q⟩
 ·have e1:=hb.keep b o e n h1 h2
  refine F.keep b o e1 (fun hm=>?_) (.inr<|.inl fun hn=>by have z:s.heap.get? b=none:=hn.1;rw[z] at e;cases e)
  rcases hfs b hm with z|z
  ·exact hlt b o e z
  ·exact h1 z
 ·obtain⟨sl,e1⟩:=hb.slot b o e n h1 h2
  obtain⟨s2,e2⟩:=F.slot b _ e1 (hout b h1)
  exact⟨s2,e2⟩
 ·obtain⟨o',e1⟩:=hb.there b o e h2
  by_cases hm:b∈frs (zjB (CXx P w) P w K mg base N qual scope f cd A outer s H E).stack
  ·obtain⟨s2,e2⟩:=F.slot b o' e1 hm
   exact⟨_,e2⟩
  ·exact⟨o',F.keep b o' e1 hm (.inr<|.inl fun hn=>by have z:s.heap.get? b=none:=hn.1;rw[z] at e;cases e)⟩
 ·refine(I.hok b o e).stay (fun c u hc r=>?_) (fun _ q=>q) fun _ _ q=>q
  have hH:H1 c≠none:=by
   rcases hc with rfl|hc
   ·rw[e];simp
   ·rw[hc];simp
  exact F.keep c u r (fun hm=>hH (I.stkFree c hm)) (.inl hH)
 ·rcases hb' with hb'|hb'
  ·exact hb'.1
  ·exact(zkZ (pins:=pins) rfl I hb').1
theorem Fun.okX{P:Program}{w:World}{K:PySem.W.Frag}{mg:Str->Option Value}{base:Heap}{x qual:Str}{st:Stmt}{f:Addr}{fd:FuncData}{N ps:List Str}{k:Nat}{sp:Sp}(F:Fun K x qual st f fd)(S:FnScope N ps (zai st))(len:∀vs H Q E,sp vs H Q E->vs.length=ps.length)(hbody:∀(cdv:Value) (A:Around) (outer:List Env) (s:Shared) (H:Hp) (vs:List V) (Q:VK) (E:XK),Room k (A.deeper (envOfC qual (zai st) s.heap.objs.size f cdv))->sp vs H Q E ->
   ∃t,PSs (zjB (CXx P w) P w K mg base N qual (zai st) f cdv A outer s H E) (zav st) t/\t { nx:=fun _ H'=>Q .non H',rt:=Q } (start N vs) H):FnOk P w K mg base (CXx P w) (k+1) f fd ps sp:=by
 obtain⟨oc,od,kV,doc,pm,an,cdv,ct,osl,rfl,lk,hcd⟩:=F.ex
 refine zsD lk hcd S len fun A outer s H vs Q E hr hsp=>?_
 obtain⟨t,h,q⟩:=hbody cdv A outer s H vs Q E hr hsp
 exact⟨t,h,q⟩
def bmV:List Value:=[.type "ValueError",.type "Exception",.type "BaseException",.type "object"]
def XC(K:PySem.W.Frag)(C:Addr):Prop:=PySem.W.excIn K C bmV "ValueError.__new__" = true
theorem XC.obj{K:PySem.W.Frag}{h:Heap}{C:Addr}(q:XC K C)(X:K.In h):∃bm N nm qn bs hdct sn sub ab col dd k0 k1 k2 k3 k5 mN,
  h.get? C=some (excClassObj nm qn C N bs bm hdct sn sub ab col dd k0 k1 k2 k3 k5 "ValueError.__new__")/\h.Ns N mN/\mN "__init__" = none/\OwnTail h bmV bm:=by
 unfold XC PySem.W.excIn at q
 split at q
 case h_2=>cases q
 rename_i dd cd sl ho
 split at q
 case h_2=>cases q
 rename_i C' bm k0 k1 k2 k3 n k5 hm hs
 simp only[and_eq_true,beq_iff_eq,not_eq_true'] at q
 obtain⟨⟨⟨⟨⟨rfl,rfl⟩,hdel⟩,ht⟩,hok⟩,hni⟩:=q
 obtain⟨nm,bs,mro,ns,qn,hd,sn,sub,ab,col,del⟩:=cd
 dsimp only at hm hdel hok hni
 subst hm hdel
 have hsl:sl=#[k0,k1,k2,k3,some (.builtin "ValueError.__new__"),k5]:=by
  obtain⟨l⟩:=sl
  simp only at hs
  rw[hs]
 subst hsl
 exact⟨bm,ns,nm,qn,bs,hd,sn,sub,ab,col,dd,k0,k1,k2,k3,k5,_,X _ _ ho,.of_isNs (PySem.W.isNs_of_in X hok),PySem.W.nsMap_none_of_in X hok hni,PySem.W.tail_of_in X ht⟩
section
variable {X:Cx}
def PM(X:Cx)(e:Expr)(t:St->Prop):Prop:=∀(pins:List (Addr×Obj)) (s:Shared) (σ:St) (H:Hp),Inv X pins σ H s->t σ->wpAny (model X.prog X.w) X.A (eval e X.env) (fun u s'=>(∃y tk,u=.str y tk/\y.length<=1000)/\Inv X pins σ H s') X.xe s
def PX(X:Cx)(e:Expr)(t:St->Prop):Prop:=∀(pins:List (Addr×Obj)) (s:Shared) (σ:St) (H:Hp),Inv X pins σ H s->t σ->wpAny (model X.prog X.w) X.A (eval e X.env) (fun u s'=>Inv X pins σ H s') X.xe s
def PMs(X:Cx)(es:List Expr)(t:St->Prop):Prop:=∀(out:Str) (pins:List (Addr×Obj)) (s:Shared) (σ:St) (H:Hp),out.length+1000*es.length<=sizeLine->Inv X pins σ H s->t σ->wpAny (model X.prog X.w) X.A (joinParts out (evalEach es X.env)) (fun u s'=>Inv X pins σ H s') X.xe s
theorem zfD{x:Str}{j:Nat}{pos:Pos}(hx:x.length<=1000:=by decide):PM X (.Constant (.str x) j pos) (fun _=>True):=fun pins s σ H I _=>Calls.Constant_str ⟨⟨x,_,rfl,hx⟩,I.tok _⟩
theorem znD{e:Expr}{pos:Pos}{n:Int}{s:Shared}{pins:List (Addr×Obj)}{σ:St}{H:Hp}(hn:n.natAbs<1000)(I:Inv X pins σ H s)(tk:Tok) :
  wpAny (model X.prog X.w) X.A (formatField (.int n tk) Str.empty) (fun u s'=>(∃y tk,u=.str y tk/\y.length<=1000)/\Inv X pins σ H s') X.xe s:=by
 have hl:n.natAbs.log2<100:=by
  by_cases h0:n.natAbs=0
  ·rw[h0];decide
  ·exact(log2_lt h0).mpr (lt_of_lt_of_le hn (by decide))
 refine formatField_int_small (by omega) ⟨⟨_,_,rfl,?_⟩,I.tok _⟩
 have e:=int_text_length_le (k:=100) (by decide) hl
 show(Str.ofString (toString n)).length<=1000
 rw[PySem.ofString_length];omega
theorem znE{x:Str}{p pos:Pos}(i:Nat)(hN:X.N[i]?=some x:=by rfl)(hv:Vis X.env.scope x:=by first|exact Or.inl rfl|exact Or.inr (Or.inl rfl)|exact Or.inr (Or.inr rfl))(hd:(x==("__debug__" : Str))=false:=by decide)(hcd:(x==("__classdict__" : Str))=false:=by decide):PM X (.FormattedValue (.Name x p) (-1) none pos) (fun σ=>∃n:Int,σ[i]?=some (some (.int n))/\n.natAbs<1000):=fun pins s σ H I ⟨n,e,hn⟩=>by
 refine FormattedValue_plain (thn (zm3 (pos:=p) hN hv hd hcd pins s σ H (fun v H'=>v=.int n/\H'=H) I ⟨.int n,e,rfl,rfl⟩) fun u s1 ⟨v,H1,I1,r,hv,hH⟩=>?_)
 subst hv;subst hH
 obtain⟨tk,rfl⟩:∃tk,u=.int n tk:=r
 exact znD (e:=.Name x p) (pos:=pos) hn I1 tk
theorem zo7{x:Str}{p pos:Pos}{n:Int}(hg:Gl X x)(hm:∃t,X.mg x=some (.int n t))(hn:n.natAbs<1000:=by decide)(hd:(x==("__debug__" : Str))=false:=by decide):PM X (.FormattedValue (.Name x p) (-1) none pos) (fun _=>True):=fun pins s σ H I _=>by
 obtain⟨tk,hm⟩:=hm
 refine FormattedValue_plain (zcw I hg hm ?_ hd)
 exact znD (e:=.Name x p) (pos:=pos) hn I tk
theorem zhU:PMs X [] (fun _=>True):=fun out pins s σ H hl I _=>joinParts_nil (I.tok _) (by simpa using hl)
theorem zbR{e:Expr}{es:List Expr}{t t':St->Prop}(h1:PM X e t)(h2:PMs X es t'):PMs X (e::es) (fun σ=>t σ/\t' σ):=fun out pins s σ H hl I q=>by
 show wpAny _ _ (joinParts out (eval e X.env::evalEach es X.env)) _ _ _
 refine joinParts_cons (thn (h1 pins s σ H I q.1) fun u s1 ⟨⟨y,tk,hu,hy⟩,I1⟩=>?_)
 subst hu
 have hz:(out++y).length=out.length+y.length:=strLen_append _ _
 simp only[length_cons] at hl
 exact⟨by omega,h2 (out++y) pins s1 σ H (by omega) I1 q.2⟩
theorem zhV{e1 e2:Expr}{es:List Expr}{t:St->Prop}{pos:Pos}(h:PMs X (e1::e2::es) t)(hl:1000*(es.length+2)<=sizeLine:=by decide):PX X (.JoinedStr (e1::e2::es) pos) t:=fun pins s σ H I q =>
 JoinedStr_many (h Str.empty pins s σ H (by show 0+1000*(es.length+2)<=sizeLine;rw[zero_add];exact hl) I q)
theorem zmt{E:XK}{C:Addr}{x:Str}{np cpos pos:Pos}{e:Expr}{t:St->Prop}(hx:Flies X E)(hex:X.ex=[])(xc:XC X.K C)(hg:Gl X x)(hm:X.mg x=some (.ref C))(hh:X.A.handled=none)(ha:PX X e t)(he:starEach [e] X.env=[(false,eval e X.env)]:=by rfl)(hd:(x==("__debug__" : Str))=false:=by decide) :
  PS X (.Raise (some (.Call (.Name x np) [e] [] cpos)) none pos) (fun _ σ H=>t σ/\E (.ref C) none H):=by
 intro pins s σ H D I hq
 obtain⟨bm,N,nm,qn,bs,hdct,sn,sub,ab,col,dd,k0,k1,k2,k3,k5,mN,hC,hN,hni,T⟩:=xc.obj I.ok.mod.kin
 refine wpAny_Raise_call_subU (C:=C) (nm:=nm) (q:=qn) (N:=N) (bs:=bs) (bm:=bm) (hdct:=hdct) (sn:=sn) (sub:=sub) (ab:=ab) (col:=col) (dd:=dd) (k0:=k0) (k1:=k1) (k2:=k2) (k3:=k3) (k5:=k5)
  PySem.F.excBase_ValueError (by decide) PySem.F.excBase_ValueError (mN:=mN) (T.hasType PySem.F.excBase_ValueError.hasBase) hh (by rw[he];rfl) hni (zcw I hg hm ⟨rfl,?_⟩ hd)
 rw[he]
 refine Calls.evalArgs_plain (Calls.spliced_cons (thn (ha pins s σ H I hq.1) fun u s1 I1=>Calls.spliced_nil ?_))
 refine⟨rfl,(by show 1<=sizeLine;decide),I1.bk _ _ hC,hN.keeps I1.bk,T.keeps I1.bk,fun h' b hm=>?_⟩
 obtain⟨tt,e1,e2,e3⟩:=hm.there
 refine hx pins σ H { s1 with heap:=h' } b (.ref C) (I1.kept (t':=s1.toks) hm.keeps) ⟨_,_,_,zkZ hex I1 hm.new,?_,e1,rfl,rfl,rfl,.inl rfl⟩ hq.2
 cases q:H b with
 | none=>rfl
 | some o=>obtain⟨u,e⟩:=(I1.hok b o q).there;rw[hm.new] at e;cases e
end
section
variable {X:Cx} {pins:List (Addr×Obj)} {σ:St} {H:Hp} {s:Shared} {a:Addr} {cls:Value}
theorem Inv.flown{h':Heap}(I:Inv X pins σ H s)(hex:X.ex=[])(F:Flown (frs X.stack) (Nw X pins) H a cls s.heap h'):Inv X pins σ H { s with heap:=h' }:=by
 have neL:∀b o,X.s₀.heap.get? b=some o->b≠X.env.locals:=fun b o e=>ne_of_lt (lt_of_lt_of_le (Heap.lt_size e) I.ok.above)
 have hs0:∀b o,X.s₀.heap.get? b=some o->¬Nw X pins b:=fun b o e n=>by rw[n.1] at e;cases e
 have stk:∀b,b≠X.env.locals->b∉X.fs->b∉frs X.stack:=fun b h1 h2=>I.stkNe h1 h2
 have anyK:∀b o,s.heap.get? b=some o->(¬Nw X pins b\/∀vs,o.data≠.fields vs)->∃sl,h'.get? b=some { o with slots:=sl }:=fun b o e hn=>by
  by_cases hm:b∈frs X.stack
  ·exact F.slot b o e hm
  ·exact⟨o.slots,F.keep b o e hm (.inr hn)⟩
 have cellK:∀x c,X.env.cells.lookup x=some c->∀v,s.heap.IsCell c v->h'.IsCell c v:=fun x c e v ⟨o,ho,hd⟩=>by
  obtain⟨sl,q⟩:=anyK c o ho (.inr fun vs q=>by rw[hd] at q;cases q)
  exact⟨_,q,hd⟩
 refine⟨I.ok,I.os,I.bare,⟨fun b o e n hb hx=>?_,fun b o e n hb hx=>?_,I.base.free,fun b o e hx=>?_,I.base.tups,I.base.frzs,I.base.tbls⟩,?_,fun x c e=>?_,I.free,I.freeC,fun p hp=>?_,fun b o e=>?_,I.len⟩
 ·exact F.keep b o (I.base.keep b o e n hb hx) (stk b (neL b o e) hb) (.inr (.inl (hs0 b o e)))
 ·obtain⟨sl,e1⟩:=I.base.slot b o e n hb hx
  obtain⟨sl',e2⟩:=anyK b _ e1 (.inl (hs0 b o e))
  exact⟨sl',e2⟩
 ·obtain⟨o',e1⟩:=I.base.there b o e hx
  obtain⟨sl',e2⟩:=anyK b _ e1 (.inl (hs0 b o e))
  exact⟨_,e2⟩
 ·obtain⟨m,hn,hl⟩:=I.loc
  obtain⟨oL,es,ep,hoL,hdL,r⟩:=id hn
  obtain⟨sl,q⟩:=anyK _ oL hoL (.inr fun vs q=>by rw[hdL] at q;cases q)
  refine⟨m,⟨_,es,ep,q,hdL,r⟩,fun i x v e1 e2 e3=>?_⟩
  obtain⟨u,r,l⟩:=hl i x v e1 e2 e3
  refine⟨u,r,?_⟩
  rcases l with l|⟨k,c,e,z⟩
  ·exact .inl l
  ·exact .inr ⟨k,c,e,cellK x c e _ z⟩
 ·obtain⟨v,z⟩:=I.cell x c e
  exact⟨v,cellK x c e v z⟩
 ·obtain⟨e,n,ne,nf,d⟩:=I.pin p hp
  exact⟨F.keep p.1 p.2 e (stk _ ne nf) (.inr (.inl fun hn=>hn.2 p hp rfl)),n,ne,nf,d⟩
 ·refine(I.hok b o e).stay (fun c u hc r=>?_) (fun _ q=>q) fun _ _ q=>q
  have hH:H c≠none:=by
   rcases hc with rfl|hc
   ·rw[e];simp
   ·rw[hc];simp
  exact F.keep c u r (fun hm=>hH (I.stkFree c hm)) (.inl hH)
theorem Fl.nw{h':Heap}(I:Inv X pins σ H s)(hex:X.ex=[])(F:Flown (frs X.stack) (Nw X pins) H a cls s.heap h'):Fl (Nw X pins) a cls H h':=F.fl.mono fun b hb=>hb.elim id fun hb=>zkZ hex I hb
theorem zcT{N:Addr->Prop}{M:Model}{A:Around}{E:Value->Shared->Prop}{Q:Unit->Shared->Prop}(f:Fl N a cls H s.heap)(h:Q () s):wpAny M A (setFlight (.ref a) none) Q E s:=by
 obtain⟨oe,vs,a0,_,_,he,_,hd,h0,h1⟩:=f
 unfold setFlight
 rcases h1 with h1|⟨T,oT,ts,h1,_,_,_,hT,hdT,h3⟩
 ·refine wpAny_bind (wpAny_field he hd h1 ?_)
  rw[if_neg (by decide)]
  exact wpAny_pure h
 ·refine wpAny_bind (wpAny_field he hd h1 ?_)
  rw[if_pos (show(Value.ref T != Value.none)=true from by simp)]
  refine wpAny_setField hT hdT (Array.getElem?_eq_some_iff.mp h3).1 ?_
  show Q () { s with heap:=s.heap.update T (Obj.mapFields (·.setIfInBounds 3 Value.none)) }
  rw[Heap.update_setField_same s.heap T oT ts 3 Value.none hT hdT h3]
  exact h
end
abbrev Cx.hnd(X:Cx)(a:Addr):Cx:={ X with A:=X.A.mark (some (.ref a)),calm:=false,xe:=fun _ _=>False }
section
variable {X:Cx} {pins:List (Addr×Obj)} {σ:St} {H:Hp} {s:Shared} {a:Addr}
theorem Cx.Ok.hnd(ok:X.Ok)(a:Addr):(X.hnd a).Ok :=
 ⟨ok.mod,ok.kind,ok.glob,ok.blt,ok.above,ok.inj,ok.has,ok.cab,fun h=>absurd (show false=true from h) Bool.false_ne_true,ok.frames,ok.stk,ok.exf,ok.bs,ok.bsz,ok.noex,ok.exfs,ok.funs,ok.frf⟩
theorem Inv.hnd(I:Inv X pins σ H s)(a:Addr):Inv (X.hnd a) pins σ H s:=⟨I.ok.hnd a,I.os,I.bare,I.base,I.loc,I.cell,I.free,I.freeC,I.pin,I.hok,I.len⟩
theorem Inv.unhnd(ok:X.Ok)(I:Inv (X.hnd a) pins σ H s):Inv X pins σ H s:=⟨ok,I.os,I.bare,I.base,I.loc,I.cell,I.free,I.freeC,I.pin,I.hok,I.len⟩
theorem SP.unhnd{D:Ends}{f:Flow}{s':Shared}(ok:X.Ok)(h:SP (X.hnd a) pins D f s'):SP X pins D f s':=by
 cases f with
 | next=>obtain⟨σ',H',I,q⟩:=h;exact⟨σ',H',I.unhnd ok,q⟩
 | brk=>obtain⟨σ',H',I,q⟩:=h;exact⟨σ',H',I.unhnd ok,q⟩
 | cont=>obtain⟨σ',H',I,q⟩:=h;exact⟨σ',H',I.unhnd ok,q⟩
 | ret u=>obtain⟨v,σ',H',I,r,q⟩:=h;exact⟨v,σ',H',I.unhnd ok,r,q⟩
end
theorem zfe{K:PySem.W.Frag}{M:Model}{A:Around}{E:Value->Shared->Prop}{s:Shared}{Q:Bool->Shared->Prop}{a C S:Addr}{oe:Obj}{b:Bool}(X:K.In s.heap)(he:s.heap.get? a=some oe)(hcls:oe.cls=.ref C)(xs:XC K S)(hm:PySem.W.mroIn K C (.ref S)=some b)(h:Q b s):wpAny M A (excMatches (.ref a) (.ref S)) Q E s:=by
 obtain⟨bm,N,nm,qn,bs,hdct,sn,sub,ab,col,dd,k0,k1,k2,k3,k5,mN,hC,hN,hni,T⟩:=xs.obj X
 have hL:=PySem.W.looks_mroIn (M:=M) X hm
 obtain⟨hp,g,d,tk,os⟩:=s
 have hcB:(Value.ref S::bm).contains (.type "BaseException")=true:=by rw[contains_cons,T.hasType PySem.F.excBase_ValueError.hasBase,Bool.or_true]
 have f:=tc_notTuple
 unfold excMatches
 repeat (first|with_reducible refine hL.at ?_|(with_reducible refine wpAny_loadPart_at he ?_;rw[hcls])|with_reducible refine wpAny_loadPart_at hC ?_|(with_reducible refine wpAny_isSubtype_exc hC ?_;rw[hcB])|wp_step)
 cases b<;>(wp_walk;exact h)
section
variable {X:Cx}
def PH(X:Cx)(h:ExceptHandler)(th:Value->TS):Prop:=∀(pins:List (Addr×Obj)) (s:Shared) (σ:St) (H:Hp) (D:Ends) (a:Addr) (cls:Value),Inv X pins σ H s->Fl (Nw X pins) a cls H s.heap->th cls D σ H ->
 wpAny (model X.prog X.w) X.A (handleBy (.ref a) X.env [h]) (SP X pins D) X.xe s
theorem zrs{S:Addr}{cn:Str}{np hpos:Pos}{b0:Stmt}{suite:List Stmt}{ts:TS}(hg:Gl X cn)(hm:X.mg cn=some (.ref S))(xs:XC X.K S)(hs:∀a,PSs (X.hnd a) (b0::suite) ts)(hd:(cn==("__debug__" : Str))=false:=by decide) :
  PH X (.ExceptHandler (some (.Name cn np)) none (b0::suite) hpos) (fun cls D σ H=>(∃C,cls=.ref C/\PySem.W.mroIn X.K C (.ref S)=some true)/\ts D σ H):=by
 intro pins s σ H D a cls I fl ⟨⟨C,hC,hmr⟩,hq⟩
 subst hC
 refine wpAny_handleBy_cons (codeAny_handlers_test (zcw (X:=X.hnd a) (I.hnd a) hg hm ?_ hd)) (by intro q;cases q)
 obtain⟨oe,vs,a0,_,_,he,hc,_⟩:=id fl
 refine zfe I.kIn he hc xs hmr ?_
 exact codeAny_handlers_suite (zcT fl (wpAny_mono (hs a pins s σ H D (I.hnd a) hq) (fun f s2 z=>z.unhnd I.ok) fun _ _ z=>z.elim))
def XP(X:Cx)(pins:List (Addr×Obj))(σ:St)(E:XK)(e:Value)(s':Shared):Prop:=∃a cls H',e=.ref a/\Inv X pins σ H' s'/\Fl (Nw X pins) a cls H' s'.heap/\E cls none H'
def PCx(X:Cx)(e:Expr)(t:XK->TE):Prop:=∀(pins:List (Addr×Obj)) (s:Shared) (σ:St) (H:Hp) (Q:VK) (E:XK),Inv X pins σ H s->t E σ H Q->wpAny (model X.prog X.w) X.A (eval e X.env) (EP X pins σ Q) (XP X pins σ E) s
def PB(X:Cx)(b:List Stmt)(t:XK->TS):Prop:=∀(pins:List (Addr×Obj)) (s:Shared) (σ:St) (H:Hp) (D:Ends) (E:XK),Inv X pins σ H s->t E D σ H->wpAny (model X.prog X.w) X.A (execs b X.env) (SP X pins D) (XP X pins σ E) s
theorem znF{b:List Stmt}{h:ExceptHandler}{t:XK->TS}{th:Value->TS}{pos:Pos}(hst:X.stack=X.env::X.outer)(hf:X.env.frame=some X.env.locals)(hex:X.ex=[])(hb:PB X b t)(hh:PH X h th) :
  PS X (.Try b [h] [] [] pos) (fun D σ H=>t (fun cls _ H'=>th cls D σ H') D σ H):=by
 intro pins s σ H D I q
 refine wpAny_Try_except (wpAny_mono (hb pins s σ H D _ I q) (fun f s1 z=>?_) fun e s1 ⟨a,cls,H',e1,I1,fl,z⟩=>?_)
 ·cases f with
  | next=>exact wpAny_execs_nil z
  | brk=>exact z
  | cont=>exact z
  | ret u=>exact z
 ·subst e1
  exact flown I1 hst hf fl fun h' F=>hh pins _ σ H' D a cls (I1.flown hex F) (Fl.nw I1 hex F) z
variable {k:Nat} {f:Addr} {fd:FuncData} {ps:List Str} {sp:Sp} {x:Str} {p pos:Pos} {e:Expr} {es:List Expr} {t:TA}
theorem ziF(F:FnOk X.prog X.w X.K X.mg X.base (CXx X.prog X.w) k f fd ps sp)(hr:Room k X.A)(hex:X.ex=[])(hg:Gl X x)(hm:X.mg x=some (.ref f))(hk:PySem.W.keepIn X.K (.ref f)=true)(hb:Binds X.K fd ps [])(ha:PA X.nox (e::es) t)(hdb:(x==("__debug__" : Str))=false:=by decide)(he:starEach (e::es) X.env=(false,eval e X.env)::starEach es X.env:=by rfl)(hpl:(backTo pos (starEach es X.env)).any (·.1)=false:=by rfl) :
  PCx X (.Call (.Name x p) (e::es) [] pos) (fun E σ H Q=>t σ H fun vs H1=>sp vs H1 Q E):=by
 intro pins s σ H Q E I h
 refine wpAny_Call_Name_kw (zcw I hg hm ?_ hdb)
 refine PySem.W.callWith_K (h₀:=X.base) I.ok.mod.kin hk (wpAny_mono (ha pos pins s σ H _ (I.wish _) h) (fun us s1 ⟨vs,H1,I1,r,q⟩=>⟨I1.unwish.kIn,?_⟩) fun _ _ z=>z.elim) he hpl
 have I1:=I1.unwish
 have hl:(us++[]).length=ps.length:=by rw[append_nil,<- r.length];exact F.len _ _ _ _ q
 have hb':=hb s1 us I1.kIn hl
 rw[append_nil] at hb'
 refine wpAny_call (codeAny_mono (F.run X.A X.stack s1 H1 ⟨us,[]⟩ us vs Q E hr I1.env0 hb' r q) fun r s' hq=>?_)
 cases r with
 | error e =>
  obtain⟨a,cls,H',rfl,ho,hgn,u,hok,fl,z⟩:=hq
  exact⟨a,cls,H',rfl,I1.call' ho u hok hgn (fun b z=>absurd z (by simp)),fl.mono fun b hb=>zkZ hex I1 hb,z⟩
 | ok fl =>
  cases fl with
  | ret u=>exact I1.after hq
  | next=>exact False.elim hq
  | brk=>exact False.elim hq
  | cont=>exact False.elim hq
variable {te:XK->TE}
theorem znG{i:Nat}{pos':Pos}(hN:X.N.Nodup)(hi:X.N[i]?=some x)(hx:Loc X.env.scope x)(he:PCx X e te)(hs:swapsWith e (some (.Name x pos')) pos.line X.env=pure false:=by rfl)(hf:X.fn x=true\/X.env.scope.names.lookup x=some .local:=by first|exact .inl rfl|exact .inr rfl|assumption):PB X [.Assign [.Name x pos'] e pos] (fun E D σ H=>te E σ H fun v H1=>D.nx (σ.set i (some v)) H1):=by
 intro pins s σ H D E I h
 refine wpAny_execs_cons (wpAny_Assign_Name (wpAny_mono (he pins s σ H _ E I h) (fun v s1 ⟨y,H1,I1,r1,q1⟩=>?_) fun _ _ z=>z) hs)
 exact zfN I1 hN hi hx r1 (fun s2 I2=>wpAny_execs_nil ⟨_,H1,I2,q1⟩) hf
end
end L2
namespace L2
open PySem PySem.Spec PyProof.Rows PySem.W PySem.Builtin PySem.Builtin.ObjectAttr PySem.Builtin.Getset_descriptor
section
variable {prog:Program} {w:World} {A:Around} {E:Value->Shared->Prop} {K:PySem.W.Frag} {h:Heap} {g:Array GenState} {d:Drawn} {t:Nat} {os:OsState} {a C:Addr} {o:Obj}
def zsc(K:PySem.W.Frag)(C:Addr):Bool:=excIn K C bmV "ValueError.__new__" && findIn K (.ref C) "__getattribute__" == some (some (.builtin "BaseException.__getattribute__"))&&findIn K (.ref C) "__getattr__" == some none &&
 findIn K (.ref C) "__class__" == some (some (.builtin "object.__class__"))&&mroIn K C (.type "object")==some true&&mroIn K C (.type "BaseException")==some true&&(clsIn K C).isSome
theorem zgb{C:Addr}(q:zsc K C=true):XC K C/\findIn K (.ref C) "__getattribute__" = some (some (.builtin "BaseException.__getattribute__"))/\findIn K (.ref C) "__getattr__" = some none /\
  findIn K (.ref C) "__class__" = some (some (.builtin "object.__class__"))/\mroIn K C (.type "object")=some true/\mroIn K C (.type "BaseException")=some true/\(clsIn K C).isSome=true:=by
 unfold zsc at q
 simp only[and_eq_true,beq_iff_eq] at q
 obtain⟨⟨⟨⟨⟨⟨q1,q2⟩,q3⟩,q4⟩,q5⟩,q6⟩,q7⟩:=q
 exact⟨q1,q2,q3,q4,q5,q6,q7⟩
end
end L2
namespace L2
open PySem PySem.Spec PyProof.Rows
section
variable {X:Cx}
end
end L2
namespace VS
open PySem PySem.Spec PyProof.Rows L2
section
def clOf(K:PySem.W.Frag)(nm:Str):Addr:=match PySem.W.nsIn K mainGlobals nm with
 | some (some (.ref C))=>C
 | _=>0
abbrev Gy(K:PySem.W.Frag):Ga:=⟨K,clOf K,fun x cv od _=>cv=.ref (clOf K x.nm)/\od=none⟩
abbrev XTb:=List (Str×Bool×List Str)
def ztq(K:PySem.W.Frag)(tb:XTb):Bool:=tb.all fun p=>PySem.W.nsIn K mainGlobals p.1==some (some (.ref (clOf K p.1)))&&(!p.2.1||(zsc K (clOf K p.1)&&PySem.W.kitOne K (.ref (clOf K p.1)) (.type "ValueError")==some true &&
 tb.all fun q=>PySem.W.kitOne K (.ref (clOf K p.1)) (.ref (clOf K q.1))==some (p.2.2.contains q.1)&&PySem.W.mroIn K (clOf K p.1) (.ref (clOf K q.1))==some (p.2.2.contains q.1)))
structure XT (K:PySem.W.Frag) (mg:Str->Option Value) (tb:XTb):Prop where
 ok:ztq K tb=true
 mg:∀p∈tb,mg p.1=some (.ref (clOf K p.1))
theorem ztr{K:PySem.W.Frag}{h:Heap}{mg:Str->Option Value}{tb:XTb}(X:K.In h)(G:h.Ns mainGlobals mg)(ok:ztq K tb=true):XT K mg tb:=by
 refine⟨ok,fun p hp=>?_⟩
 have:=all_eq_true.mp ok p hp
 simp only[and_eq_true,beq_iff_eq] at this
 exact PySem.W.mg_of X G this.1
section
variable {K:PySem.W.Frag} {mg:Str->Option Value} {tb:XTb}
theorem XT.x(T:XT K mg tb){nm:Str}{anc:List Str}(h:(nm,true,anc)∈tb):zsc K (clOf K nm)=true/\PySem.W.kitOne K (.ref (clOf K nm)) (.type "ValueError")=some true /\
  ∀q∈tb,PySem.W.kitOne K (.ref (clOf K nm)) (.ref (clOf K q.1))=some (anc.contains q.1)/\PySem.W.mroIn K (clOf K nm) (.ref (clOf K q.1))=some (anc.contains q.1):=by
 have:=all_eq_true.mp T.ok _ h
 simp only[Bool.not_true,Bool.false_or,and_eq_true,beq_iff_eq,all_eq_true] at this
 exact⟨this.2.1.1,this.2.1.2,fun q hq=>this.2.2 q hq⟩
end
def zeS(tb:XTb)(nm:Str):Option (List Str):=match tb.find? (fun p=>p.1==nm&&p.2.1) with
 | some p=>some p.2.2
 | none=>none
theorem zb3{tb:XTb}{nm:Str}{anc:List Str}(h:zeS tb nm=some anc):(nm,true,anc)∈tb:=by
 unfold zeS at h
 split at h
 ·rename_i p e
  cases h
  have h1:=mem_of_find?_eq_some e
  have h2:=find?_some e
  simp only[and_eq_true,beq_iff_eq] at h2
  obtain⟨a,b,c⟩:=p
  dsimp only at h2
  obtain⟨rfl,rfl⟩:=h2
  exact h1
 ·cases h
def noX{α:Type}(m:M α):M α:=fun ce=>match m ce with
 | some (.ok a ce')=>some (.ok a ce')
 | _=>none
section
variable {α β:Type} {X:Cx} {G:Ga} {E E':XK} {RP:Hp->List Addr->α->β->Prop}
theorem toT.noX{d:Sl->M α}{σ:VS.St}{H:Hp}{Q:β->Hp->Prop}(h:toT G E RP (fun sl=>VS.noX (d sl)) σ H Q):toT G E' RP d σ H Q:=by
 obtain⟨F,as,sl,ce,S,P⟩:=h
 refine⟨F,as,sl,ce,S,?_⟩
 unfold VS.noX at P
 dsimp only at P
 split at P
 ·rename_i a ce' e
  rw[e];exact P
 ·exact(show False from P).elim
def zeu{α:Type}(d:Sl->M α):Sl->M α:=fun sl=>noX (d sl)
theorem zrt{e:Expr}{d:Sl->M W}(h:PE X e (zaz G E0 d)):PE X e (zaz G E (zeu d)):=PE.imp h fun _ _ _ z=>z.noX
theorem zru{e:Expr}{d:Sl->M Bool}(h:PT X e (zco G E0 d)):PT X e (zco G E (zeu d)):=PT.imp h fun _ _ _ z=>z.noX
end
def sml(sl:Sl)(i:Nat):Bool:=match sl[i]? with
 | some (some (.int n))=>decide (n.natAbs<1000)
 | _=>false
def zcU(nm:Str)(l:List Nat):DS:=fun sl ce=>if l.all (sml sl)=true then some (.ex ⟨nm,none⟩ ce) else none
section
variable {X:Cx} {K:PySem.W.Frag} {E:XK} {tb:XTb} {x:Str} {np cpos pos:Pos} {e:Expr} {t:L2.St->Prop}
theorem zgc{l:List Nat}{anc:List Str}(hx:Flies X E)(hK:X.K=K)(T:XT K X.mg tb)(hm:zeS tb x=some anc)(hex:X.ex=[])(hg:Gl X x)(hh:X.A.handled=none)(ha:PX X e t)(ht:∀σ:L2.St,(∀i∈l,∃n:Int,σ[i]?=some (some (.int n))/\n.natAbs<1000)->t σ)(he:starEach [e] X.env=[(false,eval e X.env)]:=by rfl)(hd:(x==("__debug__" : Str))=false:=by decide) :
  PS X (.Raise (some (.Call (.Name x np) [e] [] cpos)) none pos) (toTS (Gy K) E (zcU x l)):=by
 have hmem:=zb3 hm
 have hx':=(zgb (T.x hmem).1).1
 refine PS.imp (zmt (E:=E) (C:=clOf K x) hx hex (by rw[hK];exact hx') hg (T.mg _ hmem) hh ha he hd) fun D σ H zz_=>el6 zz_ fun F as sl ce S P=>?_
 unfold zcU at P
 split at P
 ·rename_i h
  refine⟨ht σ fun i hi=>?_,P H F as (.ref (clOf K x)) none .refl S.st ⟨rfl,rfl⟩⟩
  have:=all_eq_true.mp h i hi
  unfold sml at this
  split at this
  ·rename_i n e
   obtain⟨v,e1,e2⟩:=S.slot i _ e
   simp only[Rep] at e2
   subst e2
   exact⟨n,e1,of_decide_eq_true this⟩
  ·cases this
 ·exact(show False from P).elim
end
def znH(d:DS):DS:=fun sl ce=>match d sl ce with
 | some (.go f sl' ce')=>some (.go f sl' ce')
 | _=>none
def zt9(put:Option Nat)(sl:Sl)(w:W):Sl:=match put with
 | some i=>sl.set i (some w)
 | none=>sl
def zuQ(put:Option Nat)(σ:VS.St)(v:V):VS.St:=match put with
 | some i=>σ.set i (some v)
 | none=>σ
def znI(c:Sl->M W)(put:Option Nat)(ok:Exn->Bool)(hd:Exn->DS):DS:=fun sl ce=>match c sl ce with
 | some (.ok w ce')=>some (.go .nx (zt9 put sl w) ce')
 | some (.ex x ce')=>if ok x=true then hd x sl ce' else none
 | none=>none
def zcm(tb:XTb)(cn:Str)(x:Exn):Bool:=match zeS tb x.nm with
 | some anc=>anc.contains cn&&tb.any (fun p=>p.1==cn)
 | none=>false
theorem zjn{K:PySem.W.Frag}{mg:Str->Option Value}{tb:XTb}(T:XT K mg tb){cn:Str}{x:Exn}(h:zcm tb cn x=true):PySem.W.mroIn K (clOf K x.nm) (.ref (clOf K cn))=some true:=by
 unfold zcm at h
 split at h
 ·rename_i anc e
  simp only[and_eq_true,any_eq_true,beq_iff_eq] at h
  obtain⟨h1,p,hp,rfl⟩:=h
  have:=((T.x (zb3 e)).2.2 p hp).2
  rw[h1] at this
  exact this
 ·cases h
section
variable {X:Cx} {K:PySem.W.Frag} {E:XK} {tb:XTb} {k n:Nat} {f:Addr} {fd:FuncData} {ps:List Str} {df:List W->M W} {x cn:Str} {p pos hpos np cpos epos:Pos} {e:Expr} {es:List Expr} {dr:Sl->M (List W)} {h:ExceptHandler} {hd:Exn->DS} {ok:Exn->Bool} {b0:Stmt} {suite:List Stmt} {ds:DS}
def PHv(K:PySem.W.Frag)(E:XK)(X:Cx)(h:ExceptHandler)(ok:Exn->Bool)(hd:Exn->DS):Prop:=∃th:Value->TS,PH X h th/\∀D σ H F as sl ce (x:Exn),SR (Gy K) F as H σ sl ce->ok x=true->PostS (Gy K) E D F as (hd x sl ce)->th (.ref (clOf K x.nm)) D σ H
theorem zg9{G:Ga}{E':XK}{D:Ends}{F:Hp}{as:List Addr}{sl:Sl}{ce:Ce}(P:PostS G E D F as (znH ds sl ce)):PostS G E' D F as (ds sl ce):=by
 unfold znH at P
 split at P
 ·rename_i e;rw[e];exact P
 ·exact(show False from P).elim
theorem zrv{anc:List Str}{fl:Bool}(hK:X.K=K)(T:XT K X.mg tb)(hm:zeS tb cn=some anc)(hg:Gl X cn)(hs:∀a,PSs (X.hnd a) (b0::suite) (toTS (Gy K) E0 ds))(hd:(cn==("__debug__" : Str))=false:=by decide) :
  PHv K E X (.ExceptHandler (some (.Name cn np)) none (b0::suite) hpos) (zcm tb cn) (fun _=>znH ds):=by
 have hmem:=zb3 hm
 refine⟨_,zrs hg (T.mg _ hmem) (by rw[hK];exact(zgb (T.x hmem).1).1) hs hd,fun D σ H F as sl ce x S hx P=>⟨⟨_,rfl,by rw[hK];exact zjn T hx⟩,F,as,sl,ce,S,zg9 P⟩⟩
theorem zo8{G:Ga}{D:Ends}{σ:VS.St}{H:Hp}{put:Option Nat}{th:Value->TS}{F:Hp}{as:List Addr}{sl:Sl}{ce:Ce}(hh:∀D σ H F as sl ce (x:Exn),SR (Gy K) F as H σ sl ce->ok x=true->PostS (Gy K) E D F as (hd x sl ce)->th (.ref (clOf K x.nm)) D σ H)(S:SR (Gy K) F as H σ sl ce)(P:PostS (Gy K) E D F as (znI (zar n df (zeu dr)) put ok hd sl ce)) :
  zfv (Gy K) E0 dr σ H fun vs H1=>spV (Gy K) (fun E=>E) n df vs H1 (fun v H2=>D.nx (zuQ put σ v) H2) (fun cls _ H'=>th cls D σ H'):=by
 refine⟨F,as,sl,ce,S,?_⟩
 unfold znI zar zeu noX bnd at P
 dsimp only at P
 cases e:dr sl ce with
 | none=>rw[e] at P;exact(show False from P).elim
 | some r=>cases r with
  | ex y ce'=>rw[e] at P;exact(show False from P).elim
  | ok ws ce1 =>
   rw[e] at P
   dsimp only at P
   intro vs H1 F1 as1 l1 S1 rs
   split at P
   ·rename_i w ce2 e2
    split at e2
    ·rename_i hl
     refine⟨by rw[rs.length];exact hl,F1,as1,ws,ce1,S1.st,rs,?_⟩
     rw[e2]
     intro v H2 F2 as2 l2 S2 rv
     have S3:=S1.slots S2 l2
     cases put with
     | none=>exact P σ H2 F2 as2 (l1.trans l2) S3
     | some i=>exact P _ H2 F2 as2 (l1.trans l2) (S3.put rv i)
    ·cases e2
   ·rename_i x ce2 e2
    split at e2
    ·rename_i hl
     refine⟨by rw[rs.length];exact hl,F1,as1,ws,ce1,S1.st,rs,?_⟩
     rw[e2]
     split at P
     ·rename_i hok
      intro H2 F2 as2 cv od l2 S2 hx
      obtain⟨rfl,rfl⟩:=hx
      exact hh D σ H2 F2 as2 sl ce2 x (S1.slots S2 l2) hok (P.le (l1.trans l2))
     ·exact(show False from P).elim
    ·cases e2
   ·exact(show False from P).elim
theorem zo9{i:Nat}{y:Str}{pos':Pos}(hst:X.stack=X.env::X.outer)(hf:X.env.frame=some X.env.locals)(hex:X.ex=[])(hN:X.N.Nodup)(hi:X.N[i]?=some y)(hx:Loc X.env.scope y)(Fk:FnOk X.prog X.w X.K X.mg X.base (CXx X.prog X.w) k f fd ps (spV (Gy K) (fun E=>E) n df))(hr:Room k X.A)(hg:Gl X x)(hm:X.mg x=some (.ref f))(hk:PySem.W.keepIn X.K (.ref f)=true)(hb:Binds X.K fd ps [])(ha:PA X.nox (e::es) (zfv (Gy K) E0 dr))(hh:PHv K E X h ok hd)(hdb:(x==("__debug__" : Str))=false:=by decide)(he:starEach (e::es) X.env=(false,eval e X.env)::starEach es X.env:=by rfl)(hpl:(backTo cpos (starEach es X.env)).any (·.1)=false:=by rfl)(hs:swapsWith (.Call (.Name x p) (e::es) [] cpos) (some (.Name y pos')) epos.line X.env=pure false:=by rfl)(hfn:X.fn y=true\/X.env.scope.names.lookup y=some .local:=by first|exact .inl rfl|exact .inr rfl|assumption) :
  PS X (.Try [.Assign [.Name y pos'] (.Call (.Name x p) (e::es) [] cpos) epos] [h] [] [] pos) (toTS (Gy K) E (znI (zar n df (zeu dr)) (some i) ok hd)):=by
 obtain⟨th,hh1,hh2⟩:=hh
 exact PS.imp (znF hst hf hex (znG hN hi hx (ziF Fk hr hex hg hm hk hb ha hdb he hpl) hs hfn) hh1) fun D σ H zz_=>el6 zz_ fun F as sl ce S P=>zo8 (G:=Gy K) hh2 S P
end
section
variable {X:Cx} {K:PySem.W.Frag} {E:XK} {tb:XTb} {cn:Str} {p pos p2:Pos} {e:Expr} {d:Sl->M W} {F:Hp} {as:List Addr} {H:Hp} {ce:Ce} {w:W} {v:V}
end
end
section
section
variable {P:Program} {w:World} {K:PySem.W.Frag} {mg:Str->Option Value} {base:Heap} {k:Nat} {f:Addr} {fd:FuncData} {ps:List Str}
theorem zrw{sp:Sp}(F:FnOk P w K mg base (CXx P w) k f fd ps sp):FnOk P w K mg base CX0 k f fd ps (fun vs H Q _=>sp vs H Q E0):=by
 refine⟨fun vs H Q E h=>F.len vs H Q E0 h,fun A outer s H args us vs Q E hr he hb hv hs=>codeAny_mono (F.run A outer s H args us vs Q E0 hr he hb hv hs) fun r s' h=>?_⟩
 cases r with
 | error e=>obtain⟨_,_,_,_,_,_,_,_,_,z⟩:=h;exact z
 | ok fl=>cases fl<;>exact h
theorem zpa{G:PySem.W.Frag->Ga}{d:List W->M W}(nl:noL K=true)(h:FnOk P w K mg base (CXx P w) k f fd ps (spV (G K) (fun E=>E) 1 d)):FnOk P w K mg base CX0 k f fd ps (spLaw G d K):=(zrw h).imp fun _ _ _ _ q=>q nl
end
end
section
def NX(P:Sl->Ce->Prop)(T:Exn->Ce->Prop):O->Prop
 | .go .nx sl ce=>P sl ce
 | .go .ct sl ce=>P sl ce
 | .ex x ce=>T x ce
 | _=>False
def Xt(T:Exn->Ce->Prop):O->Prop
 | .ex x ce=>T x ce
 | _=>False
section
variable {sl:Sl} {ce c1:Ce} {a b:DS} {Q:O->Prop} {x:Exn} {nm:Str} {l:List Nat}
theorem zha(h:l.all (sml sl)=true)(q:Q (.ex ⟨nm,none⟩ ce)):Run (zcU nm l) sl ce Q:=⟨_,by unfold zcU;rw[if_pos h],q⟩
theorem zk1(h:Run a sl ce (Xt fun x c=>Q (.ex x c))):Run (zax a b) sl ce Q:=by
 obtain⟨o,e,q⟩:=h
 cases o with
 | ex x c=>exact⟨_,by simp only[zax,e],q⟩
 | go f sl' c=>exact(show False from q).elim
theorem zhb(h:l.all (sml sl)=true)(q:Q (.ex ⟨nm,none⟩ ce)):Run (zax (zcU nm l) b) sl ce Q:=zk1 (zha h q)
variable {f:List W->M W} {n:Nat} {ra:Sl->M (List W)} {ws:List W} {e:Sl->M W} {i:Nat}
theorem zhc{c2:Ce}(h:ra sl ce=some (.ok ws c1))(hn:ws.length=n)(hf:f ws c1=some (.ex x c2)):zar n f ra sl ce=some (.ex x c2):=by simp only[zar,bnd,h,hn,if_true,hf]
theorem ziG(h:e sl ce=some (.ex x c1))(q:Q (.ex x c1)):Run (zbq e) sl ce Q:=⟨_,by simp only[zbq,lft,h],q⟩
theorem zd6{α:Type}{d:Sl->M α}{v:α}(h:d sl ce=some (.ok v c1)):zeu d sl ce=some (.ok v c1):=by simp only[zeu,noX,h]
theorem zev{fin:Ce->Ce->W->Option (R W)}{body:DS}(sl:Sl)(e:ws.map some++List.replicate (n-ws.length) none=sl)(h:Run body sl ce (Xt fun y c'=>y=x/\∃t,c'=ce++t)):dFn fin n body ws ce=some (.ex x ce):=by
 subst e
 obtain⟨o,e,q⟩:=h
 cases o with
 | go f sl' c=>exact(show False from q).elim
 | ex y c =>
  obtain⟨rfl,t,rfl⟩:=q
  have hc:zfX ce (ce++t):=⟨by simp,fun k c hk e=>.inl (by rw[getElem?_append_left hk] at e;exact e)⟩
  simp only[dFn,e]
  rw[if_pos hc]
  simp
theorem zmu{c:Sl->M W}{put:Option Nat}{ok:Exn->Bool}{hd:Exn->DS}{w:W}(h:c sl ce=some (.ok w c1))(q:Run b (zt9 put sl w) c1 Q):Run (zax (znI c put ok hd) b) sl ce Q:=zcg (by simp only[znI,h]) q
variable {α:Type} {en:α->W} {src:Src} {g:DG} {body:DS} {zs:List α} {di:Sl->M Src}
theorem zhd(xs:List α)(R:List α->Sl->Ce->Prop)(T:Exn->Ce->Prop)(step:∀d x r sl ce,d++x::r=xs->R d sl ce->src.Stays ce/\∃sl1,g (en x) sl ce=some (sl1,ce)/\Run body sl1 ce (NX (R (d++[x])) T))(hst:∀sl ce,R xs sl ce->src.Stays ce) :
  ∀(r d:List α) (sl:Sl) (ce:Ce),d++r=xs->R d sl ce->Run (zfV src g body (r.map en)) sl ce fun o=>(∃sl' ce',o=.go .nx sl' ce'/\R xs sl' ce')\/∃w ce',o=.ex w ce'/\T w ce'
 | [],d,sl,ce,e,h=>by
  rw[append_nil] at e
  subst e
  exact⟨_,zit (hst _ _ h),.inl ⟨_,_,rfl,h⟩⟩
 | x::r,d,sl,ce,e,h=>by
  obtain⟨hs,sl1,e1,o,e2,q⟩:=step d x r sl ce e h
  have go:∀sl2 ce2,R (d++[x]) sl2 ce2->Run (zfV src g body (r.map en)) sl2 ce2 fun o=>(∃sl' ce',o=.go .nx sl' ce'/\R xs sl' ce')\/∃w ce',o=.ex w ce'/\T w ce':=fun sl2 ce2 h2=>zhd xs R T step hst r (d++[x]) sl2 ce2 (by rw[append_assoc];exact e) h2
  cases o with
  | ex x c=>exact⟨.ex x c,by simp only[map_cons,zfV,if_pos hs,e1,e2],.inr ⟨x,c,rfl,q⟩⟩
  | go f sl2 ce2 =>
   cases f with
   | nx =>
    obtain⟨o,e3,q3⟩:=go sl2 ce2 q
    exact⟨o,by simp only[map_cons,zfV,if_pos hs,e1,e2];exact e3,q3⟩
   | ct =>
    obtain⟨o,e3,q3⟩:=go sl2 ce2 q
    exact⟨o,by simp only[map_cons,zfV,if_pos hs,e1,e2];exact e3,q3⟩
   | bk=>exact(show False from q).elim
   | rt w=>exact(show False from q).elim
theorem zmv{i:Nat}(hi:SrcFix di sl ce c1 (zs.map en))(R:List α->Sl->Ce->Prop)(T:Exn->Ce->Prop)(h0:R [] sl c1)(step:∀d x r sl ce,d++x::r=zs->x∈zs->R d sl ce->Run body (sl.set i (some (en x))) ce (NX (R (d++[x])) T))(rais:∀x ce,T x ce->Q (.ex x ce))(fin:∀sl ce,R zs sl ce->Run b sl ce Q):Run (zax (zde di (gN i) body) b) sl ce Q:=by
 obtain⟨s,h1,h2,h3⟩:=hi
 obtain⟨o,e,q⟩:=zhd (g:=gN i) (body:=body) (en:=en) (src:=s) zs R T (fun d x r sl ce e h=>⟨h3 _,_,rfl,step d x r sl ce e (by rw[<- e];simp) h⟩) (fun _ _ _=>h3 _) zs [] sl c1 rfl h0
 have e':zde di (gN i) body sl ce=some o:=by rw[zkM h1,h2];exact e
 rcases q with ⟨sl',ce',rfl,h⟩|⟨w,ce',rfl,h⟩
 ·exact zcg e' (fin _ _ h)
 ·exact⟨_,by simp only[zax,e'],rais _ _ h⟩
end
end
end VS
namespace L2
open PySem PySem.Spec PyProof.Rows
section
variable {X:Cx}
end
end L2
namespace VS
open PySem PySem.Spec PyProof.Rows L2
section
section
variable {G:Ga} {E:XK}
end
end
section
end
end VS
namespace L2
open PySem PySem.Spec PyProof.Rows
section
variable {X:Cx}
end
end L2
namespace VS
open PySem PySem.Spec PyProof.Rows L2
section
section
variable {G:Ga} {E:XK}
end
end
end VS
namespace HT
open PySem PySem.Spec PyProof.Rows
section
variable {prog:Program} {w:World} {A:Around} {E:Value->Shared->Prop} {s:Shared}
end
end HT
namespace L2
open PySem PySem.Spec PyProof.Rows
section
variable {X:Cx} {e:Expr} {te:TE} {st:Expr} {ts:TO} {pos p2:Pos}
theorem zmw{K:PySem.W.Frag}(hc:X.calm=true:=by rfl)(hK:X.K=K:=by rfl):CallR X (.builtin "sum") (fun xs H Q=>∃(a:Addr) (ns:List Int),xs=[.ref a]/\SqL K H a (ns.map V.int)/\Q (.int ns.sum) H):=by
 subst hK
 intro pins s σ H xs us Q I r h
 obtain⟨a,ns,rfl,ha,q⟩:=h
 obtain⟨u,rfl,rx⟩:=zdS r
 cases rx
 obtain⟨its,r1,p1,_⟩:=I.list ha
 have hI:IntsAre its ns:=zdT r1
 obtain⟨xs,e⟩:=hI.allInts.items
 have hl:s.heap.IsList a (intItems xs):=by rw[<- e];exact p1.isList
 refine sum_intListG (I.ok.hd hc) hl fun h' tk t' hk=>?_
 have e3:preSum (numAt xs) xs.size=ns.sum:=by
  rw[preSum_eq,take_of_length_le (by simp)]
  have:numsOf its.toArray.toList=ns:=hI.numsOf
  rw[e,nums_intItems] at this
  rw[this]
 rw[e3]
 exact⟨.int ns.sum,H,I.kept hk,⟨_,rfl⟩,q⟩
end
end L2
namespace VS
open PySem PySem.Spec PyProof.Rows L2
section
def zrx:List W->M W:=fun ws ce=>match ws with
 | [w]=>match zdr ce w with
  | some xs=>match zeI xs with
   | some ns=>some (.ok (.int ns.sum) ce)
   | none=>none
  | none=>none
 | _=>none
section
variable {X:Cx} {G:Ga} {E:XK} {a:Expr} {da:Sl->M W} {pos p2:Pos}
theorem zts(K:PySem.W.Frag):Bi G E (fun xs H Q=>∃(a:Addr) (ns:List Int),xs=[.ref a]/\SqL K H a (ns.map V.int)/\Q (.int ns.sum) H) zrx:=by
 intro F as H σ sl ce ws vs Q S rs P
 unfold zrx at P
 split at P
 ·rename_i w
  obtain⟨v,rfl,r⟩:=zbl rs
  split at P
  ·rename_i xs hx
   split at P
   ·rename_i ns hi
    obtain⟨a,us,rfl,h,rs'⟩:=zci S.st r hx
    cases zeq hi
    cases rs'.of_ints
    exact⟨a,ns,rfl,.inl h,P.done S (by simp only[Rep])⟩
   ·exact P.elim
  ·exact P.elim
 ·exact P.elim
theorem zpb{ce:Ce}{ns:List Int}:zrx [sW ns] ce=some (.ok (.int ns.sum) ce):=by simp only[zrx,zdr,zdt]
end
end
theorem us1{fd:FuncData}{ps:List Str}(h:∀a,bindArgs fd { pos:=[a] }=pure (ps.zip [a])):∀us:List Value,us.length=1->bindArgs fd { pos:=us }=pure (ps.zip us)
 | [a],_=>h a
theorem us2{fd:FuncData}{ps:List Str}(h:∀a b,bindArgs fd { pos:=[a,b] }=pure (ps.zip [a,b])):∀us:List Value,us.length=2->bindArgs fd { pos:=us }=pure (ps.zip us)
 | [a,b],_=>h a b
theorem us3{fd:FuncData}{ps:List Str}(h:∀a b c,bindArgs fd { pos:=[a,b,c] }=pure (ps.zip [a,b,c])):∀us:List Value,us.length=3->bindArgs fd { pos:=us }=pure (ps.zip us)
 | [a,b,c],_=>h a b c
theorem us4{fd:FuncData}{ps:List Str}(h:∀a b c d,bindArgs fd { pos:=[a,b,c,d] }=pure (ps.zip [a,b,c,d])):∀us:List Value,us.length=4->bindArgs fd { pos:=us }=pure (ps.zip us)
 | [a,b,c,d],_=>h a b c d
theorem us5{fd:FuncData}{ps:List Str}(h:∀a b c d e,bindArgs fd { pos:=[a,b,c,d,e] }=pure (ps.zip [a,b,c,d,e])):∀us:List Value,us.length=5->bindArgs fd { pos:=us }=pure (ps.zip us)
 | [a,b,c,d,e],_=>h a b c d e
theorem us6{fd:FuncData}{ps:List Str}(h:∀a b c d e f,bindArgs fd { pos:=[a,b,c,d,e,f] }=pure (ps.zip [a,b,c,d,e,f])):∀us:List Value,us.length=6->bindArgs fd { pos:=us }=pure (ps.zip us)
 | [a,b,c,d,e,f],_=>h a b c d e f
section
section
variable {κ:Type} [DecidableEq κ] {F:Hp} {as:List Addr} {kvs:List (κ×W)} {ps:List (κ×V)}
end
section
variable {G:Ga} {F:Hp} {as:List Addr} {H:Hp} {ce:Ce} {w:W} {v:V}
end
section
variable {X:Cx} {G:Ga} {E:XK} {a b c:Expr} {da db dc:Sl->M W} {pos:Pos}
end
section
variable {sl:Sl} {ce c1 c2 c3:Ce} {k:Nat} {a b o i v:Sl->M W} {x y w:W}
end
end
end VS
namespace L2
open PySem PySem.Spec PyProof.Rows PySem.MeetsSeq
open PySem.AutoSeq1 (wpAny_loadPart')
end L2
namespace VS
open PySem PySem.Spec PyProof.Rows L2
section
section
variable {X:Cx}
end
open Classical in
def zu5:W->List W->M W:=fun w ws ce=>match zky ce w,ws with
 | some (k,xs),[y]=>if (cln 8 (drf ce y)&&xs.all (cln 8))=true/\xs.findIdx (peq · (drf ce y))<xs.length then some (.ok .non (ce.set k (.lst (xs.eraseIdx (xs.findIdx (peq · (drf ce y))))))) else none
 | _,_=>none
open Classical in
def zpG:W->List W->M W:=fun w ws ce=>match zky ce w,ws with
 | some (k,xs),[.int i]=>if 0<=i/\i<2 ^ 62 then match xs[i.toNat]? with
  | some y=>some (.ok y (ce.set k (.lst (xs.eraseIdx i.toNat))))
  | none=>none
  else none
 | _,_=>none
section
variable {G:Ga} {E:XK}
theorem zry:Mt G E zm8 zpG:=by
 intro F as H σ sl ce w v ws vs Q S rw' rs P
 revert P
 unfold zpG
 split
 ·rename_i k xs i hc
  intro P
  split at P
  ·rename_i hi
   split at P
   ·rename_i y hy
    obtain⟨a,us,rfl,ha,hH,r⟩:=zds S.st rw' hc
    obtain⟨v1,rfl,rv⟩:=zbl rs
    simp only[Rep] at rv
    subst rv
    obtain⟨u,hu,ru⟩:=r.get hy
    have hlt:=zaE hu
    refine⟨a,us,i,i.toNat,u,rfl,rfl,hH,by omega,by omega,?_,hu,P u _ F as .refl (S.slots (S.st.write (o:=.lst (us.eraseIdx i.toNat)) (c:=.lst (xs.eraseIdx i.toNat)) ha ⟨_,zaK,r.eraseIdx _⟩) .refl) ru⟩
    have e0:¬i<0:=by omega
    have e2:0<=i:=hi.1
    have e3:i<(us.length:Int):=by omega
    simp[seqIndex?,e0,e2,e3]
   ·exact(show False from P).elim
  ·exact(show False from P).elim
 ·exact fun P=>(show False from P).elim
end
end
end VS
namespace L2
open PySem PySem.Spec PyProof.Rows
section
variable {X:Cx} {e:Expr} {te:TE} {st:Expr} {ts:TO} {pos p2:Pos}
end
end L2
namespace VS
open PySem PySem.Spec PyProof.Rows L2
section
section
variable {X:Cx} {G:Ga} {E:XK} {a:Expr} {da:Sl->M W} {pos p2:Pos}
end
end
end VS
namespace L2
open PySem PySem.Spec PyProof.Rows
section
variable {X:Cx} {e:Expr} {t:TA} {p pos p2 pos2:Pos}
end
end L2
namespace VS
open PySem PySem.Spec PyProof.Rows L2
section
section
variable {X:Cx} {G:Ga} {E:XK} {e:Expr} {dr:Sl->M (List W)} {p pos p2 pos2:Pos}
end
end
end VS
namespace L2
open PySem PySem.Spec PyProof.Rows
section
variable {X:Cx}
end
end L2
namespace VS
open PySem PySem.Spec PyProof.Rows L2
section
section
variable {X:Cx} {G:Ga} {E:XK}
end
end
section
variable {X:Cx} {G:Ga} {E:XK} {a b c:Expr} {da db dc:Sl->M W} {pos:Pos}
end
section
variable {G:Ga} {E:XK}
end
end VS
namespace L2
open PySem PySem.Spec PyProof.Rows
theorem zd7{K:PySem.W.Frag}{M:Model}{h:Heap}{S:Addr}(X:K.In h)(xs:XC K S):PySem.W.Looks M h (isExcClass (.ref S)) true:=by
 obtain⟨bm,N,nm,qn,bs,hdct,sn,sub,ab,col,dd,k0,k1,k2,k3,k5,mN,hC,hN,hni,T⟩:=xs.obj X
 have hcB:(Value.ref S::bm).contains (.type "BaseException")=true:=by rw[contains_cons,T.hasType PySem.F.excBase_ValueError.hasBase,Bool.or_true]
 intro A Q E s k q
 obtain⟨hh,g,d,tk,os⟩:=s
 have k:∀b o,h.get? b=some o->hh.get? b=some o:=k
 have hC:=k _ _ hC
 have f:=tc_notTuple
 unfold isExcClass
 repeat (first|with_reducible refine wpAny_loadPart_at hC ?_|(with_reducible refine wpAny_isSubtype_exc hC ?_;rw[hcB])|wp_step)
 exact q
open PySem.W in
theorem zff{K:PySem.W.Frag}{M:Model}{A:Around}{E:Value->Shared->Prop}{s:Shared}{Q:Bool->Shared->Prop}{a C S1 S2 tp:Addr}{oe:Obj}{b1 b2:Bool}(X:K.In s.heap)(he:s.heap.get? a=some oe)(hcls:oe.cls=.ref C)(x1:XC K S1)(x2:XC K S2)(hp:s.heap.get? tp=some { cls:=.type "tuple",data:=.seq [Value.ref S1,.ref S2].toArray })(m1:PySem.W.mroIn K C (.ref S1)=some b1)(m2:PySem.W.mroIn K C (.ref S2)=some b2)(h:Q (b1||b2) s):wpAny M A (excMatches (.ref a) (.ref tp)) Q E s:=by
 have e1:=zd7 (M:=M) X x1
 have e2:=zd7 (M:=M) X x2
 have S1':=PySem.W.looks_mroIn (M:=M) X m1
 have S2':=PySem.W.looks_mroIn (M:=M) X m2
 have LT0:Looks M s.heap (isInstance (.ref tp) (.type "tuple")) true:=((Looks.ld hp).andThen .now).andThen (Looks.of_pure isSubtype_tuple_tuple)
 have LT:Looks M s.heap (typeOf (.ref a)) (.ref C):=by
  rw[<- hcls]
  exact(Looks.ld he).andThen .now
 obtain⟨hh,g,d,tk,os⟩:=s
 unfold excMatches
 refine wpAny_bind (LT0.at ?_)
 dsimp only
 rw[if_pos rfl]
 first
  | refine wpAny_bind (wpAny_seqItems hp rfl ?_)
  | refine wpAny_bind (wpAny_bind (wpAny_seqItems hp rfl (wpAny_pure ?_)))
 dsimp only[getD_some,Option.getD]
 cases b1<;>cases b2<;>((repeat (first|simp only[forIn_cons,forIn_nil,Bool.not_true,false_eq_true,if_false,if_true]|lk));exact h)
section
variable {X:Cx}
theorem Fl.push{N:Addr->Prop}{a:Addr}{cls:Value}{H:Hp}{h:Heap}{o:Obj}{x:HO}(f:Fl N a cls H h):Fl N a cls (upd H h.objs.size x) (h.push o):=by
 obtain⟨oe,vs,a0,n,h1,h2,h3,h4,h5,h6⟩:=f
 refine⟨oe,vs,a0,n,by rw[zaJ (ne_of_lt (Heap.lt_size h2))];exact h1,Heap.get?_push_of_some _ h2,h3,h4,h5,h6.imp id ?_⟩
 rintro⟨T,oT,ts,e1,e2,e3,e4,e5,e6⟩
 exact⟨T,oT,ts,e1,e2,by rw[zaJ (ne_of_lt (Heap.lt_size e5))];exact e3,e4,Heap.get?_push_of_some _ e5,e6⟩
theorem zrz{S1 S2:Addr}{c1 c2:Str}{p1 p2 hpos tpos:Pos}{x1}{b0:Stmt}{suite:List Stmt}{ts:TS}(g1:Gl X c1)(m1:X.mg c1=some (.ref S1))(s1:XC X.K S1)(g2:Gl X c2)(m2:X.mg c2=some (.ref S2))(s2:XC X.K S2)(hs:∀a,PSs (X.hnd a) (b0::suite) ts)(d1:(c1==("__debug__" : Str))=false:=by decide)(d2:(c2==("__debug__" : Str))=false:=by decide)(st1:starEach [.Name c1 p1,.Name c2 p2] X.env=(false,eval (.Name c1 p1) X.env)::starEach [.Name c2 p2] X.env:=by rfl)(st2:starEach [.Name c2 p2] X.env=(false,eval (.Name c2 p2) X.env)::starEach [] X.env:=by rfl) :
  PH X (.ExceptHandler (some (.Tuple [.Name c1 p1,.Name c2 p2] x1 tpos)) none (b0::suite) hpos) (fun cls D σ H=>(∃C q1 q2,cls=.ref C/\PySem.W.mroIn X.K C (.ref S1)=some q1/\PySem.W.mroIn X.K C (.ref S2)=some q2/\(q1||q2)=true)/\∀t,H t=none->ts D σ (upd H t (.tup [V.ref S1,V.ref S2]))):=by
 intro pins s σ H D a cls I fl ⟨⟨C,q1,q2,hC,r1,r2,hq12⟩,hq⟩
 subst hC
 refine wpAny_handleBy_cons (codeAny_handlers_test (wpAny_Tuple_spliced ?_)) (by intro q;cases q)
 show wpAny _ _ (spliced (backTo tpos (starEach [.Name c1 p1,.Name c2 p2] (X.hnd a).env))) _ _ s
 have st1:starEach [.Name c1 p1,.Name c2 p2] (X.hnd a).env=(false,eval (.Name c1 p1) (X.hnd a).env)::starEach [.Name c2 p2] (X.hnd a).env:=st1
 have st2:starEach [.Name c2 p2] (X.hnd a).env=(false,eval (.Name c2 p2) (X.hnd a).env)::starEach [] (X.hnd a).env:=st2
 rw[st1]
 refine Calls.spliced_cons (zcw (X:=X.hnd a) (I.hnd a) g1 m1 ?_ d1)
 rw[st2]
 refine Calls.spliced_cons (zcw (X:=X.hnd a) (I.hnd a) g2 m2 ?_ d2)
 refine Calls.spliced_nil ⟨(show 2<=sizeLine by decide),?_⟩
 obtain⟨oe,vs,a0,_,_,he,hc,_⟩:=id fl
 have I':Inv X pins σ (upd H s.heap.objs.size (.tup [V.ref S1,V.ref S2])) { s with heap:=s.heap.push { cls:=.type "tuple",data:=.seq [Value.ref S1,.ref S2].toArray } } :=
  I.laid (t':=s.toks) (fun b u e=>Heap.get?_push_of_some _ e) (le_refl _) ⟨(show 2<=sizeLine by decide),[.ref S1,.ref S2],.cons rfl (.cons rfl .nil),⟨_,Heap.get?_push_size _ rfl,rfl,⟨_,rfl⟩,rfl⟩⟩
 refine zff I'.kIn (Heap.get?_push_of_some _ he) hc s1 s2 (Heap.get?_push_size _ rfl) r1 r2 ?_
 rw[hq12]
 have hf:H s.heap.objs.size=none:=I.hok.fresh (le_refl _)
 exact codeAny_handlers_suite (zcT (fl.push (x:=.tup [V.ref S1,V.ref S2])) (wpAny_mono (hs a pins _ σ _ D (I'.hnd a) (hq _ hf)) (fun f s2 z=>z.unhnd I.ok) fun _ _ z=>z.elim))
end
end L2
namespace VS
open PySem PySem.Spec PyProof.Rows L2
section
variable {X:Cx} {K:PySem.W.Frag} {E:XK} {tb:XTb} {c1 c2:Str} {p1 p2 tpos hpos:Pos} {b0:Stmt} {suite:List Stmt} {ds:DS}
theorem zfE{K:PySem.W.Frag}{mg:Str->Option Value}{tb:XTb}(T:XT K mg tb){x:Exn}{anc:List Str}(h:zeS tb x.nm=some anc){cn:Str}{an:List Str}(hc:zeS tb cn=some an):PySem.W.mroIn K (clOf K x.nm) (.ref (clOf K cn))=some (anc.contains cn) :=
 ((T.x (zb3 h)).2.2 _ (zb3 hc)).2
theorem zrA{a1 a2:List Str}{x1}(hK:X.K=K)(T:XT K X.mg tb)(h1:zeS tb c1=some a1)(h2:zeS tb c2=some a2)(g1:Gl X c1)(g2:Gl X c2)(hs:∀a,PSs (X.hnd a) (b0::suite) (toTS (Gy K) E0 ds))(d1:(c1==("__debug__" : Str))=false:=by decide)(d2:(c2==("__debug__" : Str))=false:=by decide)(st1:starEach [.Name c1 p1,.Name c2 p2] X.env=(false,eval (.Name c1 p1) X.env)::starEach [.Name c2 p2] X.env:=by rfl)(st2:starEach [.Name c2 p2] X.env=(false,eval (.Name c2 p2) X.env)::starEach [] X.env:=by rfl) :
  PHv K E X (.ExceptHandler (some (.Tuple [.Name c1 p1,.Name c2 p2] x1 tpos)) none (b0::suite) hpos) (fun x=>zcm tb c1 x||zcm tb c2 x) (fun _=>znH ds):=by
 have e1:=zb3 h1
 have e2:=zb3 h2
 refine⟨_,zrz g1 (T.mg _ e1) (by rw[hK];exact(zgb (T.x e1).1).1) g2 (T.mg _ e2) (by rw[hK];exact(zgb (T.x e2).1).1) hs d1 d2 st1 st2,fun D σ H F as sl ce x S hx P=>?_⟩
 obtain⟨anc,ha⟩:∃anc,zeS tb x.nm=some anc:=by
  cases q:zeS tb x.nm with
  | some anc=>exact⟨anc,rfl⟩
  | none=>simp only[zcm,q] at hx;cases hx
 refine⟨⟨_,anc.contains c1,anc.contains c2,rfl,by rw[hK];exact zfE T ha h1,by rw[hK];exact zfE T ha h2,by simp only[zcm,ha,or_eq_true,and_eq_true] at hx;rw[or_eq_true];exact hx.imp And.left And.left⟩,fun t ht=>?_⟩
 have keep:∀b o,H b=some o->upd H t (.tup [V.ref (clOf K c1),V.ref (clOf K c2)]) b=some o:=fun b o q=>by rw[zaJ (zaH q ht)];exact q
 have S2:Store (Gy K) F as (upd H t (.tup [V.ref (clOf K c1),V.ref (clOf K c2)])) ce:=by
  refine⟨fun b o q=>keep b o (S.st.sub b o q),S.st.nd,S.st.len,fun j b c q1 q2=>?_⟩
  obtain⟨z1,z2⟩:=S.st.cell j b c q1 q2
  obtain⟨o,ho⟩:=z2.tracked
  exact⟨z1,z2.le .refl (by rw[ho];exact keep b o ho)⟩
 exact⟨F,as,sl,ce,⟨S2,S.len,S.slot⟩,zg9 P⟩
end
end VS
namespace L2
open PySem PySem.Spec PyProof.Rows
section
variable {X:Cx} {k:Nat} {f C:Addr} {fd:FuncData} {ps:List Str} {sp:Sp} {x m:Str} {p pos apos:Pos} {e o:Expr} {es:List Expr} {t:TA} {ta:TE}
end
end L2
namespace VS
open PySem PySem.Spec PyProof.Rows L2
section
def putA(f:Str)(v:W):List (Str×W)->List (Str×W)
 | []=>[(f,v)]
 | (g,x)::r=>if g=f then (g,v)::r else (g,x)::putA f v r
section
variable {F:Hp} {as:List Addr} {fs:List (Str×W)} {ps:List (Str×V)}
theorem RepKV.look{w:W}{f:Str}(r:RepKV F as fs ps)(e:fs.lookup f=some w):∃v,ps.lookup f=some v/\Rep F as w v:=by
 induction r with
 | nil=>cases e
 | @cons p q l1 l2 h t ih =>
  obtain⟨a,x⟩:=p
  obtain⟨b,y⟩:=q
  obtain⟨e1,rv⟩:=h
  dsimp only at e1 rv
  subst e1
  rw[lookup_cons] at e ⊢
  split at e
  ·rename_i h;cases e;exact⟨y,rfl,rv⟩
  ·rename_i h;exact ih e
theorem RepKV.lookN{f:Str}(r:RepKV F as fs ps)(e:fs.lookup f=none):ps.lookup f=none:=by
 induction r with
 | nil=>rfl
 | @cons p q l1 l2 h t ih =>
  obtain⟨a,x⟩:=p
  obtain⟨b,y⟩:=q
  obtain⟨e1,rv⟩:=h
  dsimp only at e1 rv
  subst e1
  rw[lookup_cons] at e ⊢
  split at e
  ·cases e
  ·exact ih e
theorem RepKV.putA{w:W}{v:V}(r:RepKV F as fs ps)(f:Str)(rv:Rep F as w v):RepKV F as (VS.putA f w fs) (zfa f v ps):=by
 induction r with
 | nil=>exact .cons ⟨rfl,rv⟩ .nil
 | @cons p q l1 l2 h t ih =>
  obtain⟨a,x⟩:=p
  obtain⟨b,y⟩:=q
  obtain⟨e1,rx⟩:=h
  dsimp only at e1 rx
  subst e1
  simp only[VS.putA,zfa]
  split
  ·exact .cons ⟨rfl,rv⟩ t
  ·exact .cons ⟨rfl,rx⟩ ih
end
def zeT(ce:Ce)(c:Str):W->Option (Nat×List (Str×W))
 | .cel k=>match ce[k]? with
  | some (.ins c' fs)=>if c'=c then some (k,fs) else none
  | _=>none
 | _=>none
section
variable {G:Ga} {E:XK} {F:Hp} {as:List Addr} {H:Hp} {σ:VS.St} {sl:Sl} {ce:Ce} {w:W} {v:V} {c:Str} {k:Nat} {fs:List (Str×W)}
theorem zdB(S:Store G F as H ce)(r:Rep F as w v)(h:zeT ce c w=some (k,fs)):∃a dx ps,v=.ref a/\as[k]?=some a/\H a=some (.ins (G.cl c) dx ps)/\RepKV F as fs ps:=by
 unfold zeT at h
 split at h
 ·rename_i j
  split at h
  ·rename_i c' fs' e
   split at h
   ·rename_i hc
    cases h
    subst hc
    simp only[Rep] at r
    obtain⟨a,rfl,ha⟩:=r
    obtain⟨_,dx,ps,h1,h2⟩:=S.cell _ a _ ha e
    exact⟨a,dx,ps,rfl,ha,h1,h2⟩
   ·cases h
  ·cases h
 ·cases h
end
def zjG(c f:Str)(d:Sl->M W):Sl->M W:=fun sl=>bnd (d sl) fun x=>look fun ce=>match zeT ce c x with
 | some p=>p.2.lookup f
 | none=>none
def zgd(c f:Str)(d v:Sl->M W):DS:=fun sl ce=>lft (v sl ce) fun w ce1=>lft (d sl ce1) fun x ce2=>match zeT ce2 c x with
 | some (k,fs)=>if fs.length<1000 then some (.go .nx sl (ce2.set k (.ins c (putA f w fs)))) else none
 | none=>none
def zmx(c f:Str)(d v:Sl->M W):DS:=fun sl ce=>lft (d sl ce) fun x ce1=>match zeT ce1 c x with
 | some p=>match p.2.lookup f with
  | some u=>lft (v sl ce1) fun y ce2=>match zcc u y,zeT ce2 c x with
   | some w,some (k,fs)=>if fs.length<1000 then some (.go .nx sl (ce2.set k (.ins c (putA f w fs)))) else none
   | _,_=>none
  | none=>none
 | none=>none
def zdC(c m:Str)(n:Nat)(df:List W->M W)(d:Sl->M W)(dr:Sl->M (List W)):Sl->M W:=fun sl=>bnd (d sl) fun x=>bnd (look fun ce=>match zeT ce c x with
 | some p=>if p.2.lookup m=none then some () else none
 | none=>none) fun _=>bnd (dr sl) fun ws=>if ws.length+1=n then df (x::ws) else zhD
def zpc(k:Nat):Option (R W)->Option (R W)
 | some (.ok .non ce')=>some (.ok (.cel k) ce')
 | some (.ex x ce')=>some (.ex x ce')
 | _=>none
def zhW(c:Str)(n:Nat)(df:List W->M W)(dr:Sl->M (List W)):Sl->M W:=fun sl=>bnd (dr sl) fun ws ce=>if ws.length+1=n then zpc ce.length (df (.cel ce.length::ws) (ce++[.ins c []])) else none
section
variable {X:Cx} {G:Ga} {E E1:XK} {CX:CXT} {k n:Nat} {f:Addr} {fd:FuncData} {ps:List Str} {df:List W->M W} {x c m:Str} {p pos pos' apos tpos:Pos} {e o value:Expr} {es:List Expr} {d dv:Sl->M W} {dr:Sl->M (List W)} {fe:XK->XK}
theorem zd8(hc:L2.Cls X.K (G.cl c))(hn:L2.NoAttr X.K (G.cl c) m)(he:PE X e (zaz G E d))(hb:attributeBase e m X.env (eval e X.env)=eval e X.env:=by rfl):PE X (.Attribute e m pos) (zaz G E (zjG c m d)):=by
 refine PE.imp (zqe he hb) fun σ H Q zz_=>el6 zz_ fun F as sl ce S P=>(step S P).mono fun x H1 zz_=>el8 zz_ fun wx F1 as1 ce1 l1 S1 rx P1=>?_
 obtain⟨w,e1,P2⟩:=zbX P1
 split at e1
 ·rename_i q hq
  obtain⟨j,fs⟩:=q
  obtain⟨a,dx,ps,rfl,ha,hH,rk⟩:=zdB S1.st rx hq
  obtain⟨v,e4,rv⟩:=rk.look e1
  exact⟨a,_,dx,ps,v,rfl,hH,hc,hn,e4,P2.done S1 rv⟩
 ·cases e1
theorem ziH(hc:L2.Cls X.K (G.cl c))(hn:L2.NoAttr X.K (G.cl c) m)(ho:PE X o (zaz G E d))(hv:PE X value (zaz G E dv))(hs:swapsWith value (some (.Attribute o m pos')) pos.line X.env=pure false:=by rfl) :
  PS X (.Assign [.Attribute o m pos'] value pos) (toTS G E (zgd c m d dv)):=by
 refine PS.imp (zqf ho hv hs) fun D σ H zz_=>el6 zz_ fun F as sl ce S P=>(zc8 S P).mono fun y H1 zz_=>el8 zz_ fun wy F1 as1 ce1 l1 S1 ry P1=>(zc8 S1 P1).mono fun x H2 zz_=>el8 zz_ fun wx F2 as2 ce2 l2 S2 rx P2=>?_
 split at P2
 ·rename_i j fs hq
  split at P2
  ·rename_i hl
   obtain⟨a,dx,ps,rfl,ha,hH,rk⟩:=zdB S2.st rx hq
   refine⟨a,_,dx,ps,rfl,hH,hc,hn,by rw[<- Paired.length rk];exact hl,?_⟩
   exact P2 _ _ _ _ .refl (S2.slots (S2.st.write (o:=.ins (G.cl c) dx (zfa m y ps)) (c:=.ins c (putA m wy fs)) ha ⟨_,_,zaK,rk.putA m (ry.le l2)⟩) .refl)
  ·exact(show False from P2).elim
 ·exact(show False from P2).elim
theorem zpd(hc:L2.Cls X.K (G.cl c))(hn:L2.NoAttr X.K (G.cl c) m)(ho:PE X o (zaz G E d))(hv:PE X value (zaz G E dv)) :
  PS X (.AugAssign (.Attribute o m tpos) .Add value pos) (toTS G E (zmx c m d dv)):=by
 refine PS.imp (zjV ho hv zqg) fun D σ H zz_=>el6 zz_ fun F as sl ce S P=>(zc8 S P).mono fun x H1 zz_=>el8 zz_ fun wx F1 as1 ce1 l1 S1 rx P1=>?_
 split at P1
 ·rename_i q hq
  obtain⟨j,fs⟩:=q
  obtain⟨a,dx,ps,rfl,ha,hH,rk⟩:=zdB S1.st rx hq
  split at P1
  ·rename_i u hu
   obtain⟨v,e4,rv⟩:=rk.look hu
   refine⟨a,_,dx,ps,v,rfl,hH,hc,hn,e4,?_⟩
   refine(zc8 S1 P1).mono fun y H2 zz_=>el8 zz_ fun wy F2 as2 ce2 l2 S2 ry P2=>?_
   split at P2
   ·rename_i w j2 fs2 hw hq2
    split at P2
    ·rename_i hl
     have rv2:=rv.le l2
     clear rv
     cases u<;>cases wy<;>simp only[zcc,i2,Option.some.injEq,reduceCtorEq] at hw
     rename_i i1 i2
     subst hw
     simp only[Rep] at rv2 ry
     subst rv2;subst ry
     obtain⟨a2,dx2,ps2,e5,ha2,hH2,rk2⟩:=zdB S2.st (rx.le l2) hq2
     cases e5
     refine⟨_,_,rfl,rfl,dx2,ps2,hH2,by rw[<- Paired.length rk2];exact hl,?_⟩
     exact P2 _ _ _ _ .refl (S2.slots (S2.st.write (o:=.ins (G.cl c) dx2 (zfa m (.int (i1+i2)) ps2)) (c:=.ins c (putA m (.int (i1+i2)) fs2)) ha2 ⟨_,_,zaK,rk2.putA m (by simp only[Rep])⟩) .refl)
    ·exact(show False from P2).elim
   ·exact(show False from P2).elim
  ·exact(show False from P1).elim
 ·exact(show False from P1).elim
theorem ziI{F:Hp}{as:List Addr}{H:Hp}{σ:VS.St}{sl:Sl}{ce:Ce}{Q:VK}(S:SR G F as H σ sl ce)(P:Post G E Rep F as σ sl Q (zdC c m n df d dr sl ce)) :
  zaz G E d σ H fun x H1=>∃a dx fs,x=.ref a/\H1 a=some (.ins (G.cl c) dx fs)/\fs.lookup m=none/\zfv G E dr σ H1 fun vs H2=>vs.length+1=n/\∃F2 as2 ws ce2,SR G F2 as2 H2 σ sl ce2/\Reps F2 as2 ws (x::vs)/\Post G E Rep F2 as2 σ sl Q (df ws ce2):=by
 refine(step S P).mono fun x H1 zz_=>el8 zz_ fun wx F1 as1 ce1 l1 S1 rx P1=>?_
 unfold bnd at P1
 unfold look at P1
 dsimp only at P1
 split at P1
 ·rename_i u ce' e1
  cases hq:zeT ce1 c wx with
  | none=>rw[hq] at e1;cases e1
  | some q =>
   obtain⟨j,fs⟩:=q
   rw[hq] at e1
   dsimp only at e1
   split at e1
   ·rename_i hl
    cases e1
    obtain⟨a,dx,ps,rfl,ha,hH,rk⟩:=zdB S1.st rx hq
    refine⟨a,dx,ps,rfl,hH,rk.lookN hl,?_⟩
    refine(step (RP:=Reps) S1 P1).mono fun vs H2 zz_=>el8 zz_ fun ws F2 as2 ce2 l2 S2 rs P2=>?_
    split at P2
    ·rename_i hn
     exact⟨by rw[rs.length];exact hn,F2,as2,wx::ws,ce2,S2,.cons (rx.le l2) rs,P2⟩
    ·exact(show False from P2).elim
   ·cases e1
 ·rename_i e1
  cases hq:zeT ce1 c wx with
  | none=>rw[hq] at e1;cases e1
  | some q=>rw[hq] at e1;dsimp only at e1;split at e1<;>cases e1
 ·exact P1.elim
theorem zeU{pl:Sem Bool}(hc:L2.Cls X.K (G.cl c))(hm:L2.Meth X.K (G.cl c) m f)(Fk:FnOk X.prog X.w X.K X.mg X.base CX k f fd ps (spV G fe n df))(hr:Room k X.A)(hb:Binds X.K fd ps [])(hx:zcD CX X E1)(he:PE X o (zaz G E d))(ha:PA X (e::es) (zfv G E dr))(hfe:fe E1=E:=by rfl)(hst:starEach (e::es) X.env=(false,eval e X.env)::starEach es X.env:=by rfl)(hpl:(backTo pos (starEach es X.env)).any (·.1)=false:=by rfl)(ht:eval (.Call (.Attribute o m apos) (e::es) [] pos) X.env=(do
   let ov <- eval o X.env
   standAt apos.atName
   let (f,first) <- holding [ov] (getMethod ov m pl)
   callWith pos f first (backTo pos (starEach (e::es) X.env)) (backToKw pos (keywordEach [] X.env))):=by rfl) :
  PE X (.Call (.Attribute o m apos) (e::es) [] pos) (zaz G E (zdC c m n df d dr)):=by
 refine PE.imp (zoh he hc hm Fk hr hb .nil hx ha hst hpl ht) fun σ H Q zz_=>el6 zz_ fun F as sl ce S P=>(ziI S P).mono fun x H1 h=>?_
 obtain⟨a,dx,fs,e1,e2,e3,h⟩:=h
 refine⟨a,dx,fs,e1,e2,e3,h.mono fun vs H2 h=>?_⟩
 obtain⟨hn,F2,as2,ws,ce2,S2,rs,P2⟩:=h
 rw[append_nil]
 exact⟨hn,F2,as2,ws,ce2,S2.st,rs,by rw[hfe];exact PostF.of S2 P2⟩
theorem zmy{pl:Sem Bool}(hc:L2.Cls X.K (G.cl c))(hm:L2.Meth X.K (G.cl c) m f)(Fk:FnOk X.prog X.w X.K X.mg X.base CX k f fd ps (spV G fe n df))(hr:Room k X.A)(hb:Binds X.K fd ps [])(hx:zcD CX X E1)(he:PE X o (zaz G E d))(hfe:fe E1=E:=by rfl)(ht:eval (.Call (.Attribute o m apos) [] [] pos) X.env=(do
   let ov <- eval o X.env
   standAt apos.atName
   let (f,first) <- holding [ov] (getMethod ov m pl)
   callWith pos f first (backTo pos (starEach [] X.env)) (backToKw pos (keywordEach [] X.env))):=by rfl) :
  PE X (.Call (.Attribute o m apos) [] [] pos) (zaz G E (zdC c m n df d zan)):=by
 refine PE.imp (zlP he hc hm Fk hr hb .nil hx ht) fun σ H Q zz_=>el6 zz_ fun F as sl ce S P=>(ziI S P).mono fun x H1 h=>?_
 obtain⟨a,dx,fs,e1,e2,e3,h⟩:=h
 refine⟨a,dx,fs,e1,e2,e3,?_⟩
 obtain⟨F1,as1,sl1,ce1,S1,P1⟩:=h
 obtain⟨hn,F2,as2,ws,ce2,S2,rs,P2⟩:=P1 [] H1 F1 as1 .refl S1 .nil
 show spV G fe n df [x] H1 Q E1
 exact⟨hn,F2,as2,ws,ce2,S2.st,rs,by rw[hfe];exact PostF.of S2 P2⟩
theorem Store.other{F:Hp}{as:List Addr}{H:Hp}{ce:Ce}{q:Addr}{ho:HO}(S:Store G F as H ce)(hp:H q=none):Store G F as (upd H q ho) ce:=by
 refine⟨fun a u e=>?_,S.nd,S.len,fun k a c' h1 h2=>?_⟩
 ·rw[zaJ (zaH (S.sub _ _ e) hp)];exact S.sub _ _ e
 ·obtain⟨q1,q2⟩:=S.cell k a c' h1 h2
  obtain⟨u,hu⟩:=q2.tracked
  exact⟨q1,q2.le .refl (zaJ (zaH hu hp))⟩
theorem zmz{F:Hp}{as:List Addr}{H:Hp}{σ:VS.St}{sl:Sl}{ce:Ce}{Q:VK}{ws:List W}{vs:List V}{x dx:Addr}(S:SR G F as H σ sl ce)(rs:Reps F as ws vs)(hx:H x=none)(hdx:H dx=none)(hne:dx≠x)(hl:ws.length+1=n)(P:Post G E Rep F as σ sl Q (zpc ce.length (df (.cel ce.length::ws) (ce++[.ins c []])))):spV G (fun _=>E) n df (.ref x::vs) (upd (upd H dx (.own x)) x (.ins (G.cl c) dx [])) (fun v H2=>v=.non/\Q (.ref x) H2) E:=by
 have hx':upd H dx (.own x) x=none:=by rw[zaJ (fun z=>hne z.symm)];exact hx
 obtain⟨S2,l2⟩:=(S.st.other (ho:=.own x) hdx).alloc (o:=.ins (G.cl c) dx []) hx' (c:=.ins c []) (fun as' _=>⟨dx,[],zaK,.nil⟩)
 have hr:Rep F (as++[x]) (.cel ce.length) (.ref x):=by
  simp only[Rep]
  exact⟨x,rfl,by rw[<- S.st.len];simp⟩
 refine⟨by rw[length_cons,rs.length];exact hl,F,as++[x],_,_,S2,.cons hr (rs.le l2),?_⟩
 revert P
 cases df (.cel ce.length::ws) (ce++[.ins c []]) with
 | none=>exact fun P=>P
 | some r=>cases r with
  | ex y ce'=>exact fun P H' F' as' cv od l S' hx=>P H' F' as' cv od (l2.trans l) S' hx
  | ok w ce' =>
   cases w<;>first|exact fun P=>(show False from P).elim|skip
   intro P v H' F' as' l S' rv
   simp only[Rep] at rv
   exact⟨rv,P (.ref x) H' F' as' (l2.trans l) (S.slots S' (l2.trans l)) (hr.le l)⟩
theorem zk2(M:L2.Mk X.K (G.cl c) f)(Fk:FnOk X.prog X.w X.K X.mg X.base CX k f fd ps (spV G fe n df))(hr:Room (k+1) X.A)(hg:Gl X c)(hm:X.mg c=some (.ref (G.cl c)))(hb:Binds X.K fd ps [])(hx:zcD CX X E1)(ha:PA X (e::es) (zfv G E dr))(hfe:fe E1=E:=by rfl)(hdb:(c==("__debug__" : Str))=false:=by decide)(he:starEach (e::es) X.env=(false,eval e X.env)::starEach es X.env:=by rfl)(hpl:(backTo pos (starEach es X.env)).any (·.1)=false:=by rfl) :
  PE X (.Call (.Name c p) (e::es) [] pos) (zaz G E (zhW c n df dr)):=by
 refine PE.imp (zoi M Fk hr hg hm hb .nil hx ha hdb he hpl) fun σ H Q zz_=>el6 zz_ fun F as sl ce S P=>(step (RP:=Reps) S P).mono fun vs H1 zz_=>el8 zz_ fun ws F1 as1 ce1 l1 S1 rs P1=>?_
 intro y dy hy hdy hne
 split at P1
 ·rename_i hn
  rw[append_nil]
  have q:=zmz S1 rs hy hdy hne hn P1
  obtain⟨h1,F2,as2,ws2,ce2,S2,rs2,P2⟩:=q
  exact⟨h1,F2,as2,ws2,ce2,S2,rs2,by rw[hfe];exact P2⟩
 ·exact(show False from P1).elim
end
section
variable {X:Cx} {K:PySem.W.Frag} {E:XK} {k n:Nat} {f:Addr} {fd:FuncData} {ps:List Str} {df:List W->M W} {x c m:Str} {p pos apos cpos epos:Pos} {e o:Expr} {es:List Expr} {d:Sl->M W} {dr:Sl->M (List W)} {h:ExceptHandler} {hd:Exn->DS} {ok:Exn->Bool}
end
end
section
section
variable {sl:Sl} {ce c1 c2 c3:Ce} {a b:DS} {Q:O->Prop} {d v:Sl->M W} {dr:Sl->M (List W)} {w u:W} {ws:List W} {k n:Nat} {c f m:Str} {fs:List (Str×W)} {df:List W->M W} {x:Exn}
theorem zd0{p:List (Str×W)}{j:Nat}(h:p.length<=j):(putA f w p).length<=j+1:=by
 induction p generalizing j with
 | nil=>simp[putA]
 | cons a r ih =>
  obtain⟨g,y⟩:=a
  rw[length_cons] at h
  simp only[putA]
  split
  ·rw[length_cons];omega
  ·rw[length_cons]
   have:=ih (j:=j-1) (by omega)
   omega
theorem zmA(g:ce[k]?=some (.ins c fs)):zeT ce c (.cel k)=some (k,fs):=by simp only[zeT,g,if_true]
theorem zdc(h:d sl ce=some (.ok (.cel k) c1))(g:c1[k]?=some (.ins c fs))(l:fs.lookup f=some w):zjG c f d sl ce=some (.ok w c1):=by
 simp only[zjG,bnd,h,look,zmA g,l,map_some]
theorem znJ(hv:v sl ce=some (.ok w c1))(h:d sl c1=some (.ok (.cel k) c2))(g:c2[k]?=some (.ins c fs))(hl:fs.length<1000):zgd c f d v sl ce=some (.go .nx sl (c2.set k (.ins c (putA f w fs)))):=by
 simp only[zgd,lft,hv,h,zmA g,if_pos hl]
theorem zmB(hv:v sl ce=some (.ok w c1))(h:d sl c1=some (.ok (.cel k) c2))(g:c2[k]?=some (.ins c fs))(hl:fs.length<1000)(q:Q (.go .nx sl (c2.set k (.ins c (putA f w fs))))):Run (zgd c f d v) sl ce Q:=⟨_,znJ hv h g hl,q⟩
theorem zge(hv:v sl ce=some (.ok w c1))(h:d sl c1=some (.ok (.cel k) c2))(g:c2[k]?=some (.ins c fs))(hl:fs.length<1000)(q:Run b sl (c2.set k (.ins c (putA f w fs))) Q):Run (zax (zgd c f d v) b) sl ce Q:=zcg (znJ hv h g hl) q
theorem zrB{i j:Int}(h:d sl ce=some (.ok (.cel k) c1))(g:c1[k]?=some (.ins c fs))(l:fs.lookup f=some (.int i))(hv:v sl c1=some (.ok (.int j) c1))(hl:fs.length<1000):zmx c f d v sl ce=some (.go .nx sl (c1.set k (.ins c (putA f (.int (i+j)) fs)))):=by
 simp only[zmx,lft,h,zmA g,l,hv,zcc,i2,if_pos hl]
theorem zrC(h:d sl ce=some (.ok (.cel k) c1))(g:c1[k]?=some (.ins c fs))(l:fs.lookup m=none)(hr:dr sl c1=some (.ok ws c2))(hn:ws.length+1=n):zdC c m n df d dr sl ce=df (.cel k::ws) c2:=by
 simp only[zdC,bnd,h,look,zmA g,l,if_true,map_some,hr,hn]
theorem zcC{r:Option (R W)}(h:d sl ce=some (.ok (.cel k) c1))(g:c1[k]?=some (.ins c fs))(l:fs.lookup m=none)(hr:dr sl c1=some (.ok ws c2))(hn:ws.length+1=n)(hf:df (.cel k::ws) c2=r):zdC c m n df d dr sl ce=r:=(zrC h g l hr hn).trans hf
theorem zk3(hr:dr sl ce=some (.ok ws c1))(hn:ws.length+1=n)(hf:df (.cel c1.length::ws) (c1++[.ins c []])=some (.ok .non c2)):zhW c n df dr sl ce=some (.ok (.cel c1.length) c2):=by
 simp only[zhW,bnd,hr,if_pos hn,hf,zpc]
theorem zrD{q:Bool}(h:d sl ce=some (.ok (.bl q) c1)):zqC d sl ce=some (.ok (.bl (!q)) c1):=by simp only[zqC,bnd,h,ret]
theorem zrE{fin:Ce->Ce->W->Option (R W)}{body:DS}{r:R W}(sl:Sl)(e:ws.map some++List.replicate (n-ws.length) none=sl)(h:Run body sl ce fun o=>∃sl' c',o=.go .nx sl' c'/\fin ce c' .non=some r):dFn fin n body ws ce=some r:=by
 subst e
 obtain⟨o,e,sl',c',rfl,hf⟩:=h
 simp only[dFn,e,hf]
end
theorem zmC{P:Program}{w:World}{K:PySem.W.Frag}{mg:Str->Option Value}{base:Heap}{CX:CXT}{k n:Nat}{f:Addr}{fd:FuncData}{ps:List Str}{G:Ga}{fe:XK->XK}(hn:n=ps.length):FnOk P w K mg base CX k f fd ps (spV G fe n fun _ _=>none) :=
 ⟨fun vs H Q E h=>h.1.trans hn,fun A outer s H args us vs Q E hr he hb hv h=>by
  obtain⟨_,_,_,_,_,_,_,h⟩:=h
  exact h.elim⟩
end
end VS
namespace L2
open PySem PySem.Spec PyProof.Rows
section
variable {X:Cx} {c:Expr} {a b:List Stmt} {tc:TT} {ta tb:XK->TS} {pos:Pos}
theorem ztt(hc:PT X.nox c tc)(ha:PB X a ta)(hb:PB X b tb):PB X [.If c a b pos] (fun E=>ztA tc (ta E) (tb E)):=by
 intro pins s σ H D E I h
 refine wpAny_execs_cons (wpAny_If (wpAny_mono (hc pins s σ H _ (I.wish _) h) (fun d s1 ⟨H1,I1,q1⟩=>?_) fun _ _ z=>z.elim))
 have I1:=I1.unwish
 have fin:∀f s',SP X pins D f s'->(match f with
   | .next=>wpAny (model X.prog X.w) X.A (execs [] X.env) (SP X pins D) (XP X pins σ E) s'
   | f=>SP X pins D f s'):=fun f s' z=>by
  cases f with
  | next=>exact wpAny_execs_nil z
  | brk=>exact z
  | cont=>exact z
  | ret u=>exact z
 cases d with
 | true=>exact wpAny_mono (ha pins s1 σ H1 D E I1 q1) (fun f s' z=>by have:=fin f s' z;cases f<;>exact this) fun _ _ z=>z
 | false=>exact wpAny_mono (hb pins s1 σ H1 D E I1 q1) (fun f s' z=>by have:=fin f s' z;cases f<;>exact this) fun _ _ z=>z
end
end L2
namespace VS
open PySem PySem.Spec PyProof.Rows L2
section
def zhX(d:DS)(ok:Exn->Bool)(hd:Exn->DS):DS:=fun sl ce=>match d sl ce with
 | some (.go f sl' ce')=>some (.go f sl' ce')
 | some (.ex x ce')=>if ok x=true then hd x sl ce' else none
 | none=>none
def PBv(K:PySem.W.Frag)(X:Cx)(b:List Stmt)(d:DS):Prop:=∃t:XK->TS,PB X b t/\∀E D σ H F as sl ce,SR (Gy K) F as H σ sl ce->PostS (Gy K) E D F as (d sl ce)->t E D σ H
section
variable {X:Cx} {K:PySem.W.Frag} {E:XK} {k n:Nat} {f:Addr} {fd:FuncData} {ps:List Str} {df:List W->M W} {x y:Str} {p pos cpos epos pos':Pos} {e t:Expr} {es:List Expr} {dr:Sl->M (List W)} {h:ExceptHandler} {hd:Exn->DS} {ok:Exn->Bool} {i:Nat} {sa sb:List Stmt} {da db d:DS} {c:Sl->M Bool}
theorem znK(hex:X.ex=[])(hN:X.N.Nodup)(hi:X.N[i]?=some y)(hx:Loc X.env.scope y)(Fk:FnOk X.prog X.w X.K X.mg X.base (CXx X.prog X.w) k f fd ps (spV (Gy K) (fun E=>E) n df))(hr:Room k X.A)(hg:Gl X x)(hm:X.mg x=some (.ref f))(hk:PySem.W.keepIn X.K (.ref f)=true)(hb:Binds X.K fd ps [])(ha:PA X.nox (e::es) (zfv (Gy K) E0 dr))(hdb:(x==("__debug__" : Str))=false:=by decide)(he:starEach (e::es) X.env=(false,eval e X.env)::starEach es X.env:=by rfl)(hpl:(backTo cpos (starEach es X.env)).any (·.1)=false:=by rfl)(hs:swapsWith (.Call (.Name x p) (e::es) [] cpos) (some (.Name y pos')) epos.line X.env=pure false:=by rfl)(hfn:X.fn y=true\/X.env.scope.names.lookup y=some .local:=by first|exact .inl rfl|exact .inr rfl|assumption) :
  PBv K X [.Assign [.Name y pos'] (.Call (.Name x p) (e::es) [] cpos) epos] (zaU i (zar n df (zeu dr))):=by
 refine⟨_,znG hN hi hx (ziF Fk hr hex hg hm hk hb ha hdb he hpl) hs hfn,fun E D σ H F as sl ce S P=>?_⟩
 have P':Post (Gy K) E Rep F as σ sl (fun v H2=>D.nx (σ.set i (some v)) H2) (zar n df (zeu dr) sl ce):=by
  revert P
  unfold zaU lft
  cases zar n df (zeu dr) sl ce with
  | none=>exact fun P=>P
  | some r=>cases r with
   | ok w ce'=>exact fun P b H' F' as' l S' rv=>P _ _ _ _ l (S'.put rv i)
   | ex z ce'=>exact fun P=>P
 refine(step (RP:=Reps) S P').noX.mono fun vs H1 zz_=>el8 zz_ fun ws F1 as1 ce1 l1 S1 rs P1=>?_
 split at P1
 ·rename_i hn
  exact⟨by rw[rs.length];exact hn,F1,as1,ws,ce1,S1.st,rs,PostF.of S1 P1⟩
 ·exact(show False from P1).elim
theorem ztu(hc:PT X.nox t (zco (Gy K) E0 c))(ha:PBv K X sa da)(hb:PBv K X sb db):PBv K X [.If t sa sb pos] (dIf (zeu c) da db):=by
 obtain⟨ta,ha1,ha2⟩:=ha
 obtain⟨tb,hb1,hb2⟩:=hb
 refine⟨_,ztt hc ha1 hb1,fun E D σ H F as sl ce S P=>?_⟩
 refine(zc8 (RP:=rB) S P).noX.mono fun x H1 zz_=>el8 zz_ fun wx F1 as1 ce1 l1 S1 rx P1=>?_
 have rx:wx=x:=rx
 subst rx
 cases wx
 ·rw[if_neg Bool.false_ne_true];exact hb2 _ _ _ _ F1 as1 sl ce1 S1 P1
 ·rw[if_pos rfl];exact ha2 _ _ _ _ F1 as1 sl ce1 S1 P1
theorem zpe(hst:X.stack=X.env::X.outer)(hf:X.env.frame=some X.env.locals)(hex:X.ex=[])(hb:PBv K X sa d)(hh:PHv K E X h ok hd):PS X (.Try sa [h] [] [] pos) (toTS (Gy K) E (zhX d ok hd)):=by
 obtain⟨tb,hb1,hb2⟩:=hb
 obtain⟨th,hh1,hh2⟩:=hh
 refine PS.imp (znF hst hf hex hb1 hh1) fun D σ H zz_=>el6 zz_ fun F as sl ce S P=>hb2 _ D σ H F as sl ce S ?_
 revert P
 unfold zhX
 cases e:d sl ce with
 | none=>exact fun P=>P
 | some r=>cases r with
  | go fl sl' ce'=>exact fun P=>P
  | ex z ce' =>
   dsimp only
   intro P
   split at P
   ·rename_i hok
    intro H' F' as' cv od l S' hx
    obtain⟨rfl,rfl⟩:=hx
    exact hh2 D σ H' F' as' sl ce' z (S.slots S' l) hok (P.le l)
   ·exact(show False from P).elim
end
section
variable {sl sl':Sl} {ce c1 c2:Ce} {d b:DS} {Q:O->Prop} {ok:Exn->Bool} {hd:Exn->DS} {x:Exn}
theorem zhe(h:d sl ce=some (.go .nx sl' c1))(q:Run b sl' c1 Q):Run (zax (zhX d ok hd) b) sl ce Q:=zcg (by simp only[zhX,h]) q
theorem zhf(h:d sl ce=some (.ex x c1))(hok:ok x=true)(e:hd x sl c1=some (.go .nx sl' c2))(q:Run b sl' c2 Q):Run (zax (zhX d ok hd) b) sl ce Q:=zcg (by simp only[zhX,h];rw[if_pos hok];exact e) q
end
end
end VS
namespace K47
open PySem PySem.Spec PyProof.Rows L2 VS
def XTB:XTb:=[("StoneError",true,["StoneError"]),("NoLay",true,["NoLay", "StoneError"]),("NoBreath",true,["NoBreath", "StoneError"]),("TooMuch",true,["TooMuch", "StoneError"])]
def d_n(fu:Nat):List W->M W:=dFn finC 1
 (zbq (dOp zjC (dC (.int 3)) (zaf 0)))
def zeV(fu:Nat):DS :=
 (dIf (zfb (dB (zaD (znh true) (zaf 6) (zaf 3))) (dB (zaD (eqW false) (zaD ixW (zaf 1) (zaf 6)) (zaD ixW (zaf 1) (zaf 2))))) (zax (znj (zaf 3) (zaf 6) (dC (.bl true)))
 (dEx (dMt zer (zaf 4) (zad (zaf 6) zan)))) za4)
def zeW(fu:Nat):DS :=
 (zax (zaU 5 (zqO zqQ (zaf 4)))
 (zde (dIT (zaD ixW (zaf 0) (zaf 5))) (gN 6) (zeV fu)))
def d_x(fu:Nat):List W->M W:=dFn finO 7
 (zax (zaU 3 (zg0 (zaf 2) (dC (.bl true))))
 (zax (zaU 4 (zcq (zad (zaf 2) zan)))
 (zax (zcF (zly (zaf 4)) (zeW fu) fu)
 (zbq (dBi (za0 zfx) (zad (zaf 3) zan))))))
def zfF(fu:Nat):DS :=
 (znj (zaf 2) (zaf 6) (dC (.bl true)))
def zfG(fu:Nat):DS :=
 (dIf (dB (zaD (znh true) (zaf 4) (zaf 2))) (zax (zaU 5 (zar 3 (zcr (d_x fu)) (zad (zaf 0) (zad (zaf 1) (zad (zaf 4) zan)))))
 (zax (dEx (dMt zer (zaf 3) (zad (zaf 5) zan)))
 (zde (dIL (zaf 5)) (gN 6) (zfF fu)))) za4)
def d_z(fu:Nat):List W->M W:=dFn finO 7
 (zax (zaU 2 zjf)
 (zax (zaU 3 (zcq zan))
 (zax (zde (zgy (zad (dBi zcG (zad (zaf 0) zan)) zan)) (gN 4) (zfG fu))
 (zbq (zaf 3)))))
def d_ja(fu:Nat):List W->M W:=dFn finO 3
 (zbq (zar 3 (d_x fu) (zad (zaf 0) (zad (zaf 1) (zad (zaf 2) zan)))))
def d_ka(fu:Nat):List W->M W:=dFn finC 2
 (zbq (dLC zb0 [1] (dIL (zar 2 (zcr (d_z fu)) (zad (zaf 0) (zad (zaf 1) zan)))) (dB (zaD (eqW true) (zaD ixW (zaf 1) (zaD ixW (zaf 0) (dC (.int 0)))) (dC (.int 0)))) (zaf 0)))
def d_ha(fu:Nat):List W->M W:=dFn finC 2
 (zbq (dLC zb0 [1] (dIL (zar 2 (zcr (d_z fu)) (zad (zaf 0) (zad (zaf 1) zan)))) (dB (zaD (eqW false) (zaD ixW (zaf 1) (zaD ixW (zaf 0) (dC (.int 0)))) (dC (.int 0)))) (zaf 0)))
def zcI(fu:Nat):DS :=
 (znj (zaf 2) (zaf 4) (dC (.bl true)))
def zcJ(fu:Nat):DS :=
 (zde (dIT (zaD ixW (zaf 0) (zaf 3))) (gN 4) (zcI fu))
def d_f(fu:Nat):List W->M W:=dFn finO 5
 (zax (zaU 2 zjf)
 (zax (zde (dIL (zaf 1)) (gN 3) (zcJ fu))
 (zbq (dBi (za0 zfx) (zad (zaf 2) zan)))))
def d_aa(fu:Nat):List W->M W:=dFn finO 3
 (zbq (dLC zfx [1] (dIL (zar 2 (zcr (d_f fu)) (zad (zaf 0) (zad (zaf 2) zan)))) (dB (zaD (eqW false) (zaD ixW (zaf 1) (zaf 0)) (dC (.int 0)))) (zaf 0)))
def d_ga(fu:Nat):List W->M W:=dFn finO 4
 (zax (zaU 3 (dLC zb0 [1] (dIL (zar 2 (zcr (d_f fu)) (zad (zaf 0) (zad (zaf 2) zan)))) zd4 (zaD ixW (zaf 1) (zaf 0))))
 (zbq (dLC zfx [3] (dIT (zbT (zad (dC (.int 1)) (zad (dC (.int 2)) zan)))) (dB (zaD (inW false) (zaf 0) (zaf 1))) (zaf 0))))
def d_ca(fu:Nat):List W->M W:=dFn finC 3
 (zbq (dBi zrx (zad (dLC zb0 [0,1,2] (dIL (zar 2 (d_ha fu) (zad (zaf 0) (zad (zaf 1) zan)))) (zeu (dB (zaD (eqW false) (zar 3 (zcr (d_ga fu)) (zad (zaf 1) (zad (zaf 2) (zad (zaf 0) zan)))) (zc7 (zad (zaf 3) zan))))) (dBi zcG (zad (zaf 0) zan))) zan)))
def d_s(fu:Nat):List W->M W:=dFn finC 3
 (zax (zaU 2 (dLC zb0 [0,1] (dIT (zbT (zad (dC (.int 1)) (zad (dC (.int 2)) zan)))) zd4 (zeu (dOp zcc (zr9 zkX (zaf 2) (zad (zaf 0) zan)) (zar 3 (d_ca fu) (zad (zaf 1) (zad (zaf 2) (zad (zaf 0) zan))))))))
 (zbq (dBi zbd (zad (zaf 2) zan))))
def zhg(fu:Nat):DS :=
 (zil (zaf 2) (zeg (zaf 3) (zaf 4)))
def d_da(fu:Nat):List W->M W:=dFn finC 5
 (zax (zaU 3 (dBi (zjj zfx) (zad (zaf 0) zan)))
 (zax (zde (dIL (zaf 1)) (gN 4) (zhg fu))
 (zbq (dBi zbd (zad (zaf 3) zan)))))
def zdD(fu:Nat):DS :=
 (dIf (zfb (dB (zaD (eqW false) (zaD ixW (zaf 1) (zaD ixW (zaf 4) (dC (.int 0)))) (zaf 2))) (zfc (zly (zar 3 (zcr (d_aa fu)) (zad (zaf 0) (zad (zaf 1) (zad (zaf 4) zan))))))) (dEx (dMt zpF (zaf 3) (zad (zaf 4) zan))) za4)
def d_k(fu:Nat):List W->M W:=dFn finO 5
 (zax (zaU 3 (zcq zan))
 (zax (zde (dIL (zar 2 (d_ka fu) (zad (zaf 0) (zad (zaf 1) zan)))) (gN 4) (zdD fu))
 (zbq (dBi (za0 zfx) (zad (zaf 3) zan)))))
def d_la(fu:Nat):List W->M W:=dFn finC 7
 (zax (dIf (dB (zaD (eqW true) (zaD ixW (zaf 1) (zaf 3)) (dC (.int 0)))) (zcU "NoLay" [3]) za4)
 (zax (zaU 4 (zar 3 (d_da fu) (zad (zaf 1) (zad (zc7 (zad (zaf 3) zan)) (zad (zaf 2) zan)))))
 (zax (zaU 5 (zar 3 (zcr (d_k fu)) (zad (zaf 0) (zad (zaf 4) (zad (zar 1 (d_n fu) (zad (zaf 2) zan)) zan)))))
 (zax (zaU 6 (zar 3 (d_da fu) (zad (zaf 4) (zad (zaf 5) (zad (dC (.int 0)) zan)))))
 (zax (dIf (zfc (zly (zar 3 (zcr (d_aa fu)) (zad (zaf 0) (zad (zaf 6) (zad (zar 3 (zcr (d_ja fu)) (zad (zaf 0) (zad (zaf 6) (zad (zaf 3) zan)))) zan)))))) (zcU "NoBreath" [3]) za4)
 (zbq (zbT (zad (zaf 6) (zad (zaf 5) zan)))))))))
def zfH(fu:Nat):DS :=
 (zax (znI (zar 4 (d_la fu) (zeu (zad (zaf 0) (zad (zaf 1) (zad (zaf 2) (zad (zaf 5) zan)))))) (some 6) (fun x=>zcm XTB "NoLay" x||zcm XTB "NoBreath" x) (fun _=>znH ztL))
 (dEx (dMt zer (zaf 4) (zad (zbT (zad (zaf 5) (zad (zaD ixW (zaf 6) (dC (.int 0))) (zad (zaD ixW (zaf 6) (dC (.int 1))) zan)))) zan))))
def d_ba(fu:Nat):List W->M W:=dFn finO 7
 (zax (zaU 4 (zcq zan))
 (zax (zde (dIL (zaf 3)) (gN 5) (zfH fu))
 (zbq (zaf 4))))
def d_y(fu:Nat):List W->M W:=dFn finC 4
 (zbq (dLC zb0 [1] (dIL (zar 4 (zcr (d_ba fu)) (zad (zaf 0) (zad (zaD ixW (zaf 1) (dUn zjD (dC (.int 1)))) (zad (zaf 2) (zad (zaf 3) zan)))))) (dB (zaD (inW true) (zaD ixW (zaf 0) (dC (.int 1))) (zaf 1))) (zaf 0)))
def d_fa(fu:Nat):List W->M W:=dFn finO 4
 (zax (zaU 3 (dLC zfx [] (dIL (zar 4 (d_y fu) (zad (zaf 0) (zad (zaf 1) (zad (zaf 2) (zad (dBi (zfZ zb0) (zad (dBi zcG (zad (zaf 0) zan)) zan)) zan)))))) zd4 (zbT (zad (zaD ixW (zaf 0) (dC (.int 0))) (zad (zaD ixW (zaf 0) (dC (.int 1))) zan)))))
 (zax (dEx (dMt zer (zaf 3) (zad (zbT (zad (dC .non) (zad (zaD ixW (zaf 1) (dUn zjD (dC (.int 1)))) zan))) zan)))
 (zbq (zaf 3))))
def d_e(fu:Nat):List W->M W:=dFn finC 1
 (zax (zmx "End" "gone" (zaf 0) (dC (.int 1)))
 (dIf (dB (dOp fGt (zjG "End" "gone" (zaf 0)) (dC (.int 500)))) (zcU "TooMuch" []) za4))
def d_c(fu:Nat):List W->M W:=dFn finC 3
 (zax (dIf (zlz (dB (dOp fGe (dBi zcG (zad (zaf 2) zan)) (zjG "End" "most" (zaf 0)))) (dB (zaD (eqW false) (zsa (zaf 2) (zl7 (dUn zjD (dC (.int 2)))) zku) (zbT (zad (dC .non) (zad (dC .non) zan)))))) (zbq (dC (.bl true))) za4)
 (zbq (dBi zqL (zad (dLC zb0 [1] (dIT (zjG "End" "racing" (zaf 0))) zd4 (zaD (eqW false) (zaD ixW (zaf 1) (zaf 0)) (dC (.int 0)))) zan))))
def d_t(fu:Nat):List W->M W:=dFn finC 3
 (zax (dIf (dB (zaD (eqW false) (zjG "End" "racing" (zaf 0)) (zbT zan))) (zax (zaU 2 (zar 2 (d_s fu) (zad (zjG "End" "joined" (zaf 0)) (zad (zaf 1) zan))))
 (zbq (dOp zjC (zaD ixW (zaf 2) (dC (.int 0))) (zaD ixW (zaf 2) (dC (.int 1)))))) za4)
 (zax (dIf (dB (zaD (eqW false) (zaD ixW (zaf 1) (zaD ixW (zjG "End" "racing" (zaf 0)) (dC (.int 0)))) (dC (.int 0)))) (zbq (dUn zjD (dC (.int 1)))) za4)
 (zbq (zoF (dB (zaD (eqW false) (zaD ixW (zaf 1) (zaD ixW (zjG "End" "racing" (zaf 0)) (dC (.int 1)))) (dC (.int 0)))) (dC (.int 1)) (dC (.int 0))))))
def d_v(fu:Nat):List W->M W:=dFn finC 3
 (zbq (zoF (dB (zaD (eqW false) (zaf 0) (dC (.int 1)))) (dOp fGt (zaf 1) (zaf 2)) (dOp fLt (zaf 1) (zaf 2))))
def zd9(fu:Nat)(r_u:List W->M W):DS :=
 (zax (zaU 8 (zdC "End" "tried" 4 (ziD r_u) (zaf 0) (zad (zlA zb0 (zaf 1) (zc7 (zad (zaD ixW (zaf 7) (dC (.int 1))) zan))) (zad (zhR (zaf 2) (zbT (zad (zaD ixW (zaf 7) (dC (.int 0))) zan))) (zad (zar 1 (d_n fu) (zad (zaf 3) zan)) zan)))))
 (zax (dEx (dMt zpF (zaf 6) (zad (zaD ixW (zaf 8) (zar 1 (d_n fu) (zad (zaf 3) zan))) zan)))
 (dIf (zlz (dB (dUn zqx (zaf 4))) (dB (zar 3 (d_v fu) (zad (zaf 3) (zad (zaD ixW (zaf 8) (dC (.int 0))) (zad (zaD ixW (zaf 4) (dC (.int 0))) zan)))))) (zax (zaU 4 (zaf 8))
 (zaU 5 (zaD ixW (zaf 7) (dC (.int 0))))) za4)))
def zbS(fu:Nat)(r_u:List W->M W):List W->M W:=dFn zqJ 10
 (zax (dEx (zdC "End" "count_row" 1 (d_e fu) (zaf 0) zan))
 (zax (dIf (dB (zdC "End" "has_stopped" 3 (d_c fu) (zaf 0) (zad (zaD ixW (zaf 1) (dUn zjD (dC (.int 1)))) (zad (zaf 2) zan)))) (zbq (zbT (zad (zdC "End" "worth" 2 (d_t fu) (zaf 0) (zad (zaD ixW (zaf 1) (dUn zjD (dC (.int 1)))) zan)) (zad (zc7 zan) (zad (zc7 zan) zan))))) za4)
 (zax (zaU 4 (dC .non))
 (zax (zaU 5 (dC .non))
 (zax (zaU 6 (zcq zan))
 (zax (zde (dIL (zar 3 (zcr (d_fa fu)) (zad (zjG "End" "joined" (zaf 0)) (zad (zaf 1) (zad (zaf 3) zan))))) (gN 7) (zd9 fu r_u))
 (zax (zaU 9 (zlA zb0 (zc7 (zad (zbT (zad (zaf 2) (zad (zaf 5) zan))) zan)) (zaD ixW (zaf 4) (zaf 3))))
 (zbq (zoF (dB (zaD (eqW false) (zaf 3) (dC (.int 1)))) (zbT (zad (zaD ixW (zaf 4) (dC (.int 0))) (zad (zaf 9) (zad (zaf 6) zan)))) (zbT (zad (zaD ixW (zaf 4) (dC (.int 0))) (zad (zaf 6) (zad (zaf 9) zan)))))))))))))
def zaY(fu:Nat):Nat->(List W->M W)
 | 0=>(fun _ _=>none)
 | r+1=>(zbS fu (zaY fu r))
def d_u(fu:Nat):List W->M W:=(zaY fu 8)
def d_h(fu:Nat):List W->M W:=dFn zqJ 4
 (zax (zgd "End" "joined" (zaf 0) (zaf 1))
 (zax (zgd "End" "most" (zaf 0) (zaf 2))
 (zax (zgd "End" "racing" (zaf 0) (zaf 3))
 (zgd "End" "gone" (zaf 0) (dC (.int 0))))))
def d_ea(fu:Nat):List W->M W:=dFn finC 4
 (zbq (zdC "End" "tried" 4 (ziD (d_u fu)) (zhW "End" 4 (d_h fu) (zad (zaf 0) (zad (zaf 3) (zad (zbT zan) zan)))) (zad (zc7 (zad (zaf 1) zan)) (zad (zbT zan) (zad (zaf 2) zan)))))
def d_ia(fu:Nat):List W->M W:=dFn finC 6
 (zbq (zdC "End" "tried" 4 (ziD (d_u fu)) (zhW "End" 4 (d_h fu) (zad (zaf 0) (zad (zaf 5) (zad (zbT (zad (zaf 3) (zad (zaf 4) zan))) zan)))) (zad (zc7 (zad (zaf 1) zan)) (zad (zbT zan) (zad (zaf 2) zan)))))
def d_g(fu:Nat):List W->M W:=dFn finC 2
 (zax (dIf (dB (dOp fLt (zaf 1) (dBi zcG (zad (zaf 0) zan)))) (zbq (zaD ixW (zaf 0) (zaf 1))) za4)
 (zbq (dOp zcc (dOp zeE (dOp zeE (dC (.int 71)) (zaf 1)) (zaf 1)) (dOp zeE (dC (.int 7)) (zaf 1)))))
def d_w(fu:Nat):List W->M W:=dFn finC 3
 (zax (zaU 2 (dOp zdQ (dOp zeE (dOp zcc (dOp zdQ (zaf 0) (dC (.int 99991))) (dC (.int 1))) (dOp zcc (dC (.int 48271)) (dOp zeE (dOp zeE (dC (.int 2018)) (zaf 1)) (zaf 1)))) (dC (.int 65521))))
 (zbq (dOp zdQ (dOp zcc (dOp zeE (zaf 2) (zaf 2)) (dOp zeE (dC (.int 7919)) (zaf 1))) (dC (.int 65519)))))
def zdE(fu:Nat):DS :=
 (zax (zaU 8 (dOr (dOp zf0 (dOp zjC (zaf 6) (zaf 7)) (zaf 3)) (zoE (dOp zf0 (dOp zjC (zaf 6) (zaf 7)) (dC (.int 1))) (dOp fGt (dOp zdQ (zaf 6) (zaf 3)) (dC (.int 0))))))
 (zax (zaU 9 (dOp zf0 (dOp zdQ (zar 2 (d_w fu) (zad (zaf 0) (zad (dOp zcc (dOp zcc (dC (.int 9)) (dOp zeE (dC (.int 17)) (zaf 6))) (zaf 7)) zan))) (dC (.int 7))) (dC (.int 0))))
 (zax (dIf (dB (dOp zf0 (dOp zdQ (zar 2 (d_w fu) (zad (zaf 0) (zad (dC (.int 1)) zan))) (dC (.int 4))) (dC (.int 0)))) (zaU 8 (dOr (zaf 8) (zaf 9))) za4)
 (zax (dIf (dB (dOp zf0 (dOp zdQ (zar 2 (d_w fu) (zad (zaf 0) (zad (dC (.int 1)) zan))) (dC (.int 4))) (dC (.int 1)))) (zaU 8 (zoE (zaf 8) (zqC (zaf 9)))) za4)
 (dIf (dB (zaf 8)) (zax (dEx (dMt zer (zaD ixW (zaf 5) (zaf 6)) (zad (zaf 7) zan)))
 (dEx (dMt zer (zaD ixW (zaf 5) (zaf 7)) (zad (zaf 6) zan)))) za4)))))
def zdF(fu:Nat):DS :=
 (zde (zgy (zad (zaf 6) zan)) (gN 7) (zdE fu))
def d_o(fu:Nat):List W->M W:=dFn finC 10
 (zax (zaU 2 (zc7 (zad (zbT (zad (dC (.int 2)) (zad (dC (.int 2)) zan))) (zad (zbT (zad (dC (.int 3)) (zad (dC (.int 2)) zan))) (zad (zbT (zad (dC (.int 5)) (zad (dC (.int 1)) zan))) (zad (zbT (zad (dC (.int 3)) (zad (dC (.int 3)) zan))) (zad (zbT (zad (dC (.int 4)) (zad (dC (.int 2)) zan))) (zad (zbT (zad (dC (.int 2)) (zad (dC (.int 4)) zan))) (zad (zbT (zad (dC (.int 7)) (zad (dC (.int 1)) zan))) (zad (zbT (zad (dC (.int 3)) (zad (dC (.int 4)) zan))) (zad (zbT (zad (dC (.int 4)) (zad (dC (.int 3)) zan))) (zad (zbT (zad (dC (.int 6)) (zad (dC (.int 2)) zan))) (zad (zbT (zad (dC (.int 5)) (zad (dC (.int 2)) zan))) (zad (zbT (zad (dC (.int 4)) (zad (dC (.int 4)) zan))) zan))))))))))))))
 (zax (zil (zaD ixW (zaf 2) (dOp zdQ (zar 2 (d_w fu) (zad (zaf 0) (zad (dC (.int 0)) zan))) (zaf 1))) (gT 2 (zfy (gN 3) (zfy (gN 4) zoL))))
 (zax (zaU 5 (dLC zb0 [] (zgy (zad (dOp zeE (zaf 3) (zaf 4)) zan)) zd4 (zcq zan)))
 (zax (zde (zgy (zad (dOp zeE (zaf 3) (zaf 4)) zan)) (gN 6) (zdF fu))
 (zbq (dBi zbd (zad (dLC zb0 [] (dIL (zaf 5)) zd4 (dBi zbd (zad (dBi (za0 zb0) (zad (zaf 0) zan)) zan))) zan)))))))
def zdG(fu:Nat):DS :=
 (dIf (dB (dOp fGt (dOp zdQ (zar 2 (d_w fu) (zad (zaf 1) (zad (dOp zcc (dOp zcc (dC (.int 20)) (dOp zeE (dC (.int 4)) (zaf 4))) (zaf 5)) zan))) (dC (.int 4))) (dC (.int 0)))) (zax (dEx (dMt zer (zaD ixW (zaf 3) (zaf 4)) (zad (zaf 5) zan)))
 (dEx (dMt zer (zaD ixW (zaf 3) (zaf 5)) (zad (zaf 4) zan)))) za4)
def zdH(fu:Nat):DS :=
 (zde (zgy (zad (zaf 4) zan)) (gN 5) (zdG fu))
def d_j(fu:Nat):List W->M W:=dFn finC 6
 (zax (zaU 1 (zar 2 (d_g fu) (zad (zaf 0) (zad (dC (.int 0)) zan))))
 (zax (dIf (dB (dOp fGt (dOp zdQ (zar 2 (d_w fu) (zad (zaf 1) (zad (dC (.int 8)) zan))) (dC (.int 3))) (dC (.int 0)))) (zbq (zar 2 (d_o fu) (zad (zaf 1) (zad (dC (.int 12)) zan)))) za4)
 (zax (zaU 2 (dOp zcc (dC (.int 1)) (dOp zdQ (zar 2 (d_w fu) (zad (zaf 1) (zad (dC (.int 9)) zan))) (dC (.int 4)))))
 (zax (zaU 3 (dLC zb0 [] (zgy (zad (zaf 2) zan)) zd4 (zcq zan)))
 (zax (zde (zgy (zad (zaf 2) zan)) (gN 4) (zdH fu))
 (zbq (dBi zbd (zad (dLC zb0 [] (dIL (zaf 3)) zd4 (dBi zbd (zad (dBi (za0 zb0) (zad (zaf 0) zan)) zan))) zan))))))))
def zdI(fu:Nat):DS :=
 (dIf (zfb (dB (dOp zf0 (zaD ixW (zaf 1) (zaf 5)) (zaD ixW (zaf 1) (zaf 2)))) (dB (zaD (inW true) (zaf 5) (zaf 3)))) (dEx (dMt zer (zaf 3) (zad (zaf 5) zan))) za4)
def zdJ(fu:Nat):DS :=
 (zax (zde (dIT (zaD ixW (zaf 0) (zaD ixW (zaf 3) (zaf 4)))) (gN 5) (zdI fu))
 (zaU 4 (dOp zcc (zaf 4) (dC (.int 1)))))
def d_q(fu:Nat):List W->M W:=dFn finO 6
 (zax (zaU 3 (zcq (zad (zaf 2) zan)))
 (zax (zaU 4 (dC (.int 0)))
 (zax (zcF (dB (dOp fLt (zaf 4) (dBi zcG (zad (zaf 3) zan)))) (zdJ fu) fu)
 (zbq (zaf 3)))))
def zcV(fu:Nat):DS :=
 (dIf (zfb (dB (dOp zf0 (zaD ixW (zaf 1) (zaf 5)) (dC (.int 0)))) (dB (zaD (inW true) (zaf 5) (zaf 3)))) (dEx (dMt zer (zaf 3) (zad (zaf 5) zan))) za4)
def zcW(fu:Nat):DS :=
 (zde (dIT (zaD ixW (zaf 0) (zaf 4))) (gN 5) (zcV fu))
def d_i(fu:Nat):List W->M W:=dFn finO 6
 (zax (zaU 3 (zcq zan))
 (zax (zde (dIL (zaf 2)) (gN 4) (zcW fu))
 (zbq (zaf 3))))
def zea(fu:Nat):DS :=
 (zil (dC (.int 0)) (zeg (zaf 4) (zaf 6)))
def zeb(fu:Nat):DS :=
 (dIf (dB (dOp zf0 (zaD ixW (zaf 4) (zaf 6)) (dOp zjC (dC (.int 3)) (zaf 2)))) (zax (zaU 7 (zar 3 (zcr (d_q fu)) (zad (zaf 0) (zad (zaf 4) (zad (zaf 6) zan)))))
 (dIf (dB (zaD (eqW false) (zar 3 (zcr (d_i fu)) (zad (zaf 0) (zad (zaf 4) (zad (zaf 7) zan)))) (zc7 zan))) (zaU 5 (zlA zb0 (zaf 5) (zaf 7))) za4)) za4)
def d_r(fu:Nat):List W->M W:=dFn finC 8
 (zax (dIf (dB (dOp zoO (zaD ixW (zaf 1) (zaf 3)) (dC (.int 0)))) (zbq (dC .non)) za4)
 (zax (zaU 4 (dBi (zjj zfx) (zad (zaf 1) zan)))
 (zax (zil (zaf 2) (zeg (zaf 4) (zaf 3)))
 (zax (zaU 5 (zc7 zan))
 (zax (zde (dIT (zaD ixW (zaf 0) (zaf 3))) (gN 6) (zeb fu))
 (zax (zde (dIL (zaf 5)) (gN 6) (zea fu))
 (zax (dIf (dB (zaD (eqW false) (zar 3 (zcr (d_i fu)) (zad (zaf 0) (zad (zaf 4) (zad (zar 3 (zcr (d_q fu)) (zad (zaf 0) (zad (zaf 4) (zad (zaf 3) zan)))) zan)))) (zc7 zan))) (zbq (dC .non)) za4)
 (zbq (dBi zbd (zad (zaf 4) zan))))))))))
def zdK(fu:Nat):DS :=
 (zax (zaU 5 (zar 2 (d_g fu) (zad (zaf 0) (zad (dOp zcc (dOp zcc (zaf 1) (dC (.int 1))) (zaf 4)) zan))))
 (zax (zaU 6 (zar 4 (d_r fu) (zad (zaf 2) (zad (zaf 3) (zad (dOp zcc (dC (.int 1)) (dOp zdQ (zar 2 (d_w fu) (zad (zaf 5) (zad (dOp zcc (dC (.int 2)) (zaf 4)) zan))) (dC (.int 2)))) (zad (dOp zdQ (zar 2 (d_w fu) (zad (zaf 5) (zad (dC (.int 3)) zan))) (dBi zcG (zad (zaf 2) zan))) zan))))))
 (dIf (dB (dUn zqy (zaf 6))) (zaU 3 (zaf 6)) za4)))
def d_m(fu:Nat):List W->M W:=dFn finC 7
 (zax (zaU 3 (dBi zbd (zad (dLC zb0 [] (dIT (zaf 2)) zd4 (dC (.int 0))) zan)))
 (zax (zde (zgy (zad (dOp zdQ (zar 2 (d_w fu) (zad (zar 2 (d_g fu) (zad (zaf 0) (zad (zaf 1) zan))) (zad (dC (.int 4)) zan))) (dOp zcc (dOp zeE (dC (.int 3)) (dBi zcG (zad (zaf 2) zan))) (dC (.int 6)))) zan)) (gN 4) (zdK fu))
 (zbq (zaf 3))))
def zdL(fu:Nat):DS :=
 (dEx (dMt zer (zaf 3) (zad (dMt zpG (zaf 2) (zad (dOp zdQ (zar 2 (d_w fu) (zad (zaf 0) (zad (dOp zcc (dC (.int 30)) (zaf 4)) zan))) (dBi zcG (zad (zaf 2) zan))) zan)) zan)))
def d_p(fu:Nat):List W->M W:=dFn finO 5
 (zax (zaU 2 (dBi (zfZ zfx) (zad (zaf 1) zan)))
 (zax (zaU 3 (zcq zan))
 (zax (zde (zgy (zad (zaf 1) zan)) (gN 4) (zdL fu))
 (zbq (zaf 3)))))
def zb4(fu:Nat):DS :=
 (zil (dBi zbd (zad (dBi (za0 zb0) (zad (dLC zb0 [1] (dIT (zaD ixW (zaf 0) (zaf 3))) zd4 (zaD ixW (zaf 1) (zaf 0))) zan)) zan)) (zeg (zaf 2) (zaD ixW (zaf 1) (zaf 3))))
def d_a(fu:Nat):List W->M W:=dFn finC 4
 (zax (zaU 2 (zkD zfx (zad (zbT zan) zan) (dBi zcG (zad (zaf 0) zan))))
 (zax (zde (zgy (zad (dBi zcG (zad (zaf 0) zan)) zan)) (gN 3) (zb4 fu))
 (zbq (dBi zbd (zad (zaf 2) zan)))))
def zb5(fu:Nat):DS :=
 (zax (zil (zaD ixW (zaf 0) (zaf 4)) (zeg (zaf 3) (zaD ixW (zaf 1) (zaf 4))))
 (dIf (zfb (dB (zaf 2)) (dB (dOp zoO (zaD ixW (zaf 0) (zaf 4)) (dC (.int 0))))) (zil (dOp zjC (dC (.int 3)) (zaD ixW (zaf 0) (zaf 4))) (zeg (zaf 3) (zaD ixW (zaf 1) (zaf 4)))) za4))
def d_b(fu:Nat):List W->M W:=dFn finC 5
 (zax (zaU 3 (zkD zfx (zad (dC (.int 0)) zan) (dBi zcG (zad (zaf 0) zan))))
 (zax (zde (zgy (zad (dBi zcG (zad (zaf 0) zan)) zan)) (gN 4) (zb5 fu))
 (zbq (dBi zbd (zad (zaf 3) zan)))))
def d_l(fu:Nat):List W->M W:=dFn finC 6
 (zax (zaU 5 (zc7 (zad (dC (.int 0)) (zad (dC .non) (zad (dC .non) zan)))))
 (zax (zhX (dIf (zeu (dB (dUn zqx (zaf 1)))) (zaU 5 (zar 4 (d_ea fu) (zeu (zad (zaf 0) (zad (zaf 2) (zad (zaf 3) (zad (zaf 4) zan))))))) (zaU 5 (zar 6 (d_ia fu) (zeu (zad (zaf 0) (zad (zaf 2) (zad (zaf 3) (zad (zaD ixW (zaf 1) (dC (.int 0))) (zad (zaD ixW (zaf 1) (dC (.int 1))) (zad (zaf 4) zan)))))))))) (zcm XTB "TooMuch") (fun _=>znH (zaU 5 (zc7 (zad (dC (.str "much")) (zad (dC .non) (zad (dC .non) zan)))))))
 (zbq (zaD ixW (zaf 5) (dC (.int 0))))))
def d_d(fu:Nat):List W->M W:=dFn finC 2
 (zax (dIf (zlz (dB (zaD (eqW false) (zaf 0) (dC (.str "much")))) (zfc (dB (zaf 1)))) (zbq (zaf 0)) za4)
 (zbq (dUn zjD (zaf 0))))
def d_law(fu:Nat):List W->M W:=dFn finC 19
 (zax (zaU 1 (zar 1 (d_j fu) (zad (zaf 0) zan)))
 (zax (zaU 2 (zar 3 (d_m fu) (zad (zaf 0) (zad (dC (.int 2)) (zad (zaf 1) zan)))))
 (zax (zaU 3 (zar 2 (d_g fu) (zad (zaf 0) (zad (dC (.int 1)) zan))))
 (zax (zaU 4 (dOp zcc (dC (.int 1)) (dOp zdQ (zar 2 (d_w fu) (zad (zaf 3) (zad (dC (.int 1)) zan))) (dC (.int 2)))))
 (zax (zaU 5 (zar 2 (zcr (d_p fu)) (zad (zaf 3) (zad (dBi zcG (zad (zaf 1) zan)) zan))))
 (zax (zaU 6 (dOp zf0 (dOp zdQ (zar 2 (d_w fu) (zad (zaf 3) (zad (dC (.int 7)) zan))) (dC (.int 2))) (dC (.int 1))))
 (zax (zaU 7 (dOp zdQ (zar 2 (d_w fu) (zad (zaf 3) (zad (dC (.int 8)) zan))) (dC (.int 6))))
 (zax (zaU 8 (zar 2 (d_a fu) (zad (zaf 1) (zad (zaf 5) zan))))
 (zax (zaU 9 (zar 3 (d_b fu) (zad (zaf 2) (zad (zaf 5) (zad (zaf 6) zan)))))
 (zax (zaU 10 (zbT (zad (zaf 1) (zad (zaf 2) (zad (zaf 8) (zad (zaf 9) zan))))))
 (zax (zaU 11 (zaD ixW (zc7 (zad (zaf 4) (zad (dOp zjC (dC (.int 3)) (zaf 4)) zan))) (dBi zsb (zad (zaf 6) zan))))
 (zax (zaU 12 (zar 5 (d_l fu) (zad (zaf 1) (zad (dC .non) (zad (zaf 2) (zad (zaf 4) (zad (zaf 7) zan)))))))
 (zax (dIf (dB (zaD (eqW true) (zar 5 (d_l fu) (zad (zaf 8) (zad (dC .non) (zad (zaf 9) (zad (zaf 11) (zad (zaf 7) zan)))))) (zar 2 (d_d fu) (zad (zaf 12) (zad (zaf 6) zan))))) (zbq (dC (.bl false))) za4)
 (zax (zaU 13 (dOp zjC (zaD ixW (zar 4 (d_ea fu) (zad (zaf 1) (zad (zaf 2) (zad (zaf 4) (zad (dC (.int 1)) zan))))) (dC (.int 0))) (zaD ixW (zar 4 (d_ea fu) (zad (zaf 1) (zad (zaf 2) (zad (zaf 4) (zad (dC (.int 0)) zan))))) (dC (.int 0)))))
 (zax (dIf (zlz (dB (dOp fLt (dOp zeE (zaf 13) (dOp zjC (dC (.int 3)) (dOp zeE (dC (.int 2)) (zaf 4)))) (dC (.int 0)))) (dB (zaD (eqW true) (zaf 10) (zbT (zad (zaf 1) (zad (zaf 2) (zad (zaf 8) (zad (zaf 9) zan)))))))) (zbq (dC (.bl false))) za4)
 (zax (zaU 14 (dLC zb0 [2] (zgy (zad (dBi zcG (zad (zaf 1) zan)) zan)) (dB (dOp zf0 (zaD ixW (zaf 1) (zaf 0)) (dC (.int 1)))) (zaf 0)))
 (zax (zaU 15 (dLC zb0 [2] (zgy (zad (dBi zcG (zad (zaf 1) zan)) zan)) (dB (dOp zf0 (zaD ixW (zaf 1) (zaf 0)) (dC (.int 2)))) (zaf 0)))
 (zax (dIf (zlz (dB (zaD (eqW false) (zaf 14) (zc7 zan))) (dB (zaD (eqW false) (zaf 15) (zc7 zan)))) (zbq (dC (.bl true))) za4)
 (zax (zaU 16 (zc7 (zad (zaD ixW (zaf 14) (dOp zdQ (zar 2 (d_w fu) (zad (zaf 3) (zad (dC (.int 3)) zan))) (dBi zcG (zad (zaf 14) zan)))) (zad (zaD ixW (zaf 15) (dOp zdQ (zar 2 (d_w fu) (zad (zaf 3) (zad (dC (.int 4)) zan))) (dBi zcG (zad (zaf 15) zan)))) zan))))
 (zax (zaU 17 (zc7 (zad (zaD ixW (zaf 5) (zaD ixW (zaf 16) (dC (.int 0)))) (zad (zaD ixW (zaf 5) (zaD ixW (zaf 16) (dC (.int 1)))) zan))))
 (zax (dIf (dB (zaf 6)) (zaU 17 (zc7 (zad (zaD ixW (zaf 17) (dC (.int 1))) (zad (zaD ixW (zaf 17) (dC (.int 0))) zan)))) za4)
 (zax (zaU 18 (zar 5 (d_l fu) (zad (zaf 1) (zad (zaf 16) (zad (zaf 2) (zad (zaf 4) (zad (zaf 7) zan)))))))
 (zbq (zaD (eqW false) (zar 5 (d_l fu) (zad (zaf 8) (zad (zaf 17) (zad (zaf 9) (zad (zaf 11) (zad (zaf 7) zan)))))) (zar 2 (d_d fu) (zad (zaf 18) (zad (zaf 6) zan)))))))))))))))))))))))))))
def top(i:Nat):Stmt:=PySem.Challenge.pw_stonebreath_k47_whole_ends_exchanged.main.body.getD i (.Pass ⟨0,0,0,0⟩)
def zk4(s:Stmt)(j:Nat):Stmt:=match s with
 | .ClassDef _ _ _ b _ _ _ _ _ _ _=>b.getD j (.Pass ⟨0,0,0,0⟩)
 | _=>.Pass ⟨0,0,0,0⟩
abbrev zbr:Stmt:=top 1
abbrev zbV:Stmt:=top 2
abbrev zcs:Stmt:=top 3
abbrev zd1:Stmt:=top 5
abbrev zeX:Stmt:=top 6
abbrev zdi:Stmt:=top 7
abbrev zb6:Stmt:=top 8
abbrev zcX:Stmt:=top 9
abbrev za1:Stmt:=top 10
abbrev zbn:Stmt:=top 12
abbrev zb7:Stmt:=top 13
abbrev zfI:Stmt:=top 20
abbrev zct:Stmt:=top 21
abbrev zbA:Stmt:=top 22
abbrev zdj:Stmt:=top 23
abbrev zc4:Stmt:=top 24
abbrev zbs:Stmt:=top 25
abbrev zc5:Stmt:=top 28
abbrev zd2:Stmt:=top 29
abbrev zbB:Stmt:=top 31
abbrev za8:Stmt:=top 33
abbrev zbW:Stmt:=top 34
abbrev za5:Stmt:=top 35
abbrev za6:Stmt:=top 36
abbrev zbt:Stmt:=top 37
abbrev za9:Stmt:=top 38
abbrev zbC:Stmt:=top 39
abbrev zbg:Stmt:=top 40
abbrev zbu:Stmt:=top 41
abbrev zaN:Stmt:=top 42
abbrev zaR:Stmt:=top 43
abbrev zbv:Stmt:=top 44
abbrev za2:Stmt:=top 45
abbrev zhh:Stmt:=top 46
abbrev zba:Stmt:=zk4 (top 30) 0
abbrev zbD:Stmt:=zk4 (top 30) 1
abbrev za3:Stmt:=zk4 (top 30) 2
abbrev zaP:Stmt:=zk4 (top 30) 3
abbrev zbE:Stmt:=zk4 (top 30) 4
theorem zgf:FnScope ["hand"] ["hand"] (zai zbr):=⟨rfl,rfl,rfl,by decide +kernel,rfl,by decide +kernel,by decide +kernel⟩
theorem sc_x:FnScope ["board", "marks", "start", "found", "waiting", "point", "beside"] ["board", "marks", "start"] (zai zbV):=⟨rfl,rfl,rfl,by decide +kernel,rfl,by decide +kernel,by decide +kernel⟩
theorem sc_z:FnScope ["board", "marks", "met", "found", "start", "points", "point"] ["board", "marks"] (zai zcs):=⟨rfl,rfl,rfl,by decide +kernel,rfl,by decide +kernel,by decide +kernel⟩
theorem zmD:FnScope ["board", "stand", "point"] ["board", "stand", "point"] (zai zd1):=⟨rfl,rfl,rfl,by decide +kernel,rfl,by decide +kernel,by decide +kernel⟩
theorem zpf:FnScope ["board", "stand"] ["board", "stand"] (zai zeX):=⟨rfl,rfl,rfl,by decide +kernel,rfl,by decide +kernel,by decide +kernel⟩
theorem zmE:FnScope ["board", "stand"] ["board", "stand"] (zai zdi):=⟨rfl,rfl,rfl,by decide +kernel,rfl,by decide +kernel,by decide +kernel⟩
theorem sc_f:FnScope ["board", "points", "found", "point", "beside"] ["board", "points"] (zai za1):=⟨rfl,rfl,rfl,by decide +kernel,rfl,by decide +kernel,by decide +kernel⟩
theorem zjo:FnScope ["board", "stand", "row"] ["board", "stand", "row"] (zai zb6):=⟨rfl,rfl,rfl,by decide +kernel,rfl,by decide +kernel,by decide +kernel⟩
theorem sc_ga:FnScope ["board", "stand", "land", "held"] ["board", "stand", "land"] (zai zcX):=⟨rfl,rfl,rfl,by decide +kernel,rfl,by decide +kernel,by decide +kernel⟩
theorem zjp:FnScope ["board", "stand", "hand"] ["board", "stand", "hand"] (zai zb7):=⟨rfl,rfl,rfl,by decide +kernel,rfl,by decide +kernel,by decide +kernel⟩
theorem sc_s:FnScope ["board", "stand", "held"] ["board", "stand"] (zai zbn):=⟨rfl,rfl,rfl,by decide +kernel,rfl,by decide +kernel,by decide +kernel⟩
theorem sc_da:FnScope ["stand", "points", "what", "changed", "point"] ["stand", "points", "what"] (zai zc4):=⟨rfl,rfl,rfl,by decide +kernel,rfl,by decide +kernel,by decide +kernel⟩
theorem sc_k:FnScope ["board", "stand", "hand", "found", "row"] ["board", "stand", "hand"] (zai zbs):=⟨rfl,rfl,rfl,by decide +kernel,rfl,by decide +kernel,by decide +kernel⟩
theorem sc_la:FnScope ["board", "stand", "hand", "point", "full", "taken", "behind"] ["board", "stand", "hand", "point"] (zai zfI):=⟨rfl,rfl,rfl,by decide +kernel,rfl,by decide +kernel,by decide +kernel⟩
theorem sc_ba:FnScope ["board", "stand", "hand", "points", "found", "point", "told"] ["board", "stand", "hand", "points"] (zai zct):=⟨rfl,rfl,rfl,by decide +kernel,rfl,by decide +kernel,by decide +kernel⟩
theorem zhY:FnScope ["board", "came", "hand", "points"] ["board", "came", "hand", "points"] (zai zbA):=⟨rfl,rfl,rfl,by decide +kernel,rfl,by decide +kernel,by decide +kernel⟩
theorem sc_fa:FnScope ["board", "came", "hand", "found"] ["board", "came", "hand"] (zai zdj):=⟨rfl,rfl,rfl,by decide +kernel,rfl,by decide +kernel,by decide +kernel⟩
theorem zej:FnScope ["self"] ["self"] (zai za3):=⟨rfl,rfl,rfl,by decide +kernel,rfl,by decide +kernel,by decide +kernel⟩
theorem zdM:FnScope ["self", "stand", "deeds"] ["self", "stand", "deeds"] (zai zaP):=⟨rfl,rfl,rfl,by decide +kernel,rfl,by decide +kernel,by decide +kernel⟩
theorem sc_t:FnScope ["self", "stand", "held"] ["self", "stand"] (zai zbE):=⟨rfl,rfl,rfl,by decide +kernel,rfl,by decide +kernel,by decide +kernel⟩
theorem zhi:FnScope ["hand", "worth", "best"] ["hand", "worth", "best"] (zai zbB):=⟨rfl,rfl,rfl,by decide +kernel,rfl,by decide +kernel,by decide +kernel⟩
theorem sc_u:FnScope ["self", "came", "deeds", "hand", "best", "deed", "answering", "step", "told", "choosing"] ["self", "came", "deeds", "hand"] (zai zbD):=⟨rfl,rfl,rfl,by decide +kernel,rfl,by decide +kernel,by decide +kernel⟩
theorem zeY:FnScope ["self", "board", "most", "racing"] ["self", "board", "most", "racing"] (zai zba):=⟨rfl,rfl,rfl,by decide +kernel,rfl,by decide +kernel,by decide +kernel⟩
theorem zk5:FnScope ["board", "stand", "hand", "deeds"] ["board", "stand", "hand", "deeds"] (zai zc5):=⟨rfl,rfl,rfl,by decide +kernel,rfl,by decide +kernel,by decide +kernel⟩
theorem zmF:FnScope ["board", "stand", "hand", "one", "other", "deeds"] ["board", "stand", "hand", "one", "other", "deeds"] (zai zd2):=⟨rfl,rfl,rfl,by decide +kernel,rfl,by decide +kernel,by decide +kernel⟩
theorem zeZ:FnScope ["_law_script", "_law_k"] ["_law_script", "_law_k"] (zai za8):=⟨rfl,rfl,rfl,by decide +kernel,rfl,by decide +kernel,by decide +kernel⟩
theorem sc_w:FnScope ["_law_cell", "_law_k", "_law_one"] ["_law_cell", "_law_k"] (zai zbW):=⟨rfl,rfl,rfl,by decide +kernel,rfl,by decide +kernel,by decide +kernel⟩
theorem sc_o:FnScope ["_law_cell", "_law_most", "_law_some", "_law_wide", "_law_high", "_law_joined", "_law_one", "_law_other", "_law_beside", "_law_drawn"] ["_law_cell", "_law_most"] (zai za5):=⟨rfl,rfl,rfl,by decide +kernel,rfl,by decide +kernel,by decide +kernel⟩
theorem sc_j:FnScope ["_law_script", "_law_cell", "_law_many", "_law_joined", "_law_one", "_law_other"] ["_law_script"] (zai za6):=⟨rfl,rfl,rfl,by decide +kernel,rfl,by decide +kernel,by decide +kernel⟩
theorem sc_q:FnScope ["_law_board_here", "_law_stand_here", "_law_point", "_law_found", "_law_at", "_law_other"] ["_law_board_here", "_law_stand_here", "_law_point"] (zai zbt):=⟨rfl,rfl,rfl,by decide +kernel,rfl,by decide +kernel,by decide +kernel⟩
theorem sc_i:FnScope ["_law_board_here", "_law_stand_here", "_law_row", "_law_found", "_law_point", "_law_other"] ["_law_board_here", "_law_stand_here", "_law_row"] (zai za9):=⟨rfl,rfl,rfl,by decide +kernel,rfl,by decide +kernel,by decide +kernel⟩
theorem sc_r:FnScope ["_law_board_here", "_law_stand_here", "_law_hand", "_law_point", "_law_there", "_law_taken", "_law_other", "_law_row"] ["_law_board_here", "_law_stand_here", "_law_hand", "_law_point"] (zai zbC):=⟨rfl,rfl,rfl,by decide +kernel,rfl,by decide +kernel,by decide +kernel⟩
theorem sc_m:FnScope ["_law_script", "_law_at", "_law_board_here", "_law_stand_here", "_law_k", "_law_cell", "_law_found"] ["_law_script", "_law_at", "_law_board_here"] (zai zbg):=⟨rfl,rfl,rfl,by decide +kernel,rfl,by decide +kernel,by decide +kernel⟩
theorem sc_p:FnScope ["_law_cell", "_law_many", "_law_left", "_law_found", "_law_k"] ["_law_cell", "_law_many"] (zai zbu):=⟨rfl,rfl,rfl,by decide +kernel,rfl,by decide +kernel,by decide +kernel⟩
theorem sc_a:FnScope ["_law_board_here", "_law_order_here", "_law_found", "_law_point"] ["_law_board_here", "_law_order_here"] (zai zaN):=⟨rfl,rfl,rfl,by decide +kernel,rfl,by decide +kernel,by decide +kernel⟩
theorem sc_b:FnScope ["_law_stand_here", "_law_order_here", "_law_turned", "_law_found", "_law_point"] ["_law_stand_here", "_law_order_here", "_law_turned"] (zai zaR):=⟨rfl,rfl,rfl,by decide +kernel,rfl,by decide +kernel,by decide +kernel⟩
theorem sc_l:FnScope ["_law_board_here", "_law_stones", "_law_stand_here", "_law_hand", "_law_deeds", "_law_found"] ["_law_board_here", "_law_stones", "_law_stand_here", "_law_hand", "_law_deeds"] (zai zbv):=⟨rfl,rfl,rfl,by decide +kernel,rfl,by decide +kernel,by decide +kernel⟩
theorem zek:FnScope ["_law_worth", "_law_turned"] ["_law_worth", "_law_turned"] (zai za2):=⟨rfl,rfl,rfl,by decide +kernel,rfl,by decide +kernel,by decide +kernel⟩
theorem sc_law:FnScope ["_law_script", "_law_board_here", "_law_stand_here", "_law_cell", "_law_hand", "_law_order_here", "_law_turned", "_law_deeds", "_law_other", "_law_beyond", "_law_kept", "_law_later", "_law_worth", "_law_gain", "_law_ones", "_law_others", "_law_stones", "_law_named", "_law_found"] ["_law_script"] (zai zhh):=⟨rfl,rfl,rfl,by decide +kernel,rfl,by decide +kernel,by decide +kernel⟩
set_option genInjectivity false in
set_option genSizeOfSpec false in
structure Adr where
 f_n:Addr
 d_n:FuncData
 f_x:Addr
 d_x:FuncData
 f_z:Addr
 d_z:FuncData
 f_ja:Addr
 d_ja:FuncData
 f_ka:Addr
 d_ka:FuncData
 f_ha:Addr
 d_ha:FuncData
 f_aa:Addr
 d_aa:FuncData
 f_ga:Addr
 d_ga:FuncData
 f_f:Addr
 d_f:FuncData
 f_s:Addr
 d_s:FuncData
 f_ca:Addr
 d_ca:FuncData
 f_la:Addr
 d_la:FuncData
 f_ba:Addr
 d_ba:FuncData
 f_y:Addr
 d_y:FuncData
 f_fa:Addr
 d_fa:FuncData
 f_da:Addr
 d_da:FuncData
 f_k:Addr
 d_k:FuncData
 f_ea:Addr
 d_ea:FuncData
 f_ia:Addr
 d_ia:FuncData
 f_v:Addr
 d_v:FuncData
 f_g:Addr
 d_g:FuncData
 f_w:Addr
 d_w:FuncData
 f_o:Addr
 d_o:FuncData
 f_j:Addr
 d_j:FuncData
 f_q:Addr
 d_q:FuncData
 f_i:Addr
 d_i:FuncData
 f_r:Addr
 d_r:FuncData
 f_m:Addr
 d_m:FuncData
 f_p:Addr
 d_p:FuncData
 f_a:Addr
 d_a:FuncData
 f_b:Addr
 d_b:FuncData
 f_l:Addr
 d_l:FuncData
 f_d:Addr
 d_d:FuncData
 f_law:Addr
 d_law:FuncData
 f_h:Addr
 d_h:FuncData
 f_u:Addr
 d_u:FuncData
 f_e:Addr
 d_e:FuncData
 f_c:Addr
 d_c:FuncData
 f_t:Addr
 d_t:FuncData
structure Txt (K:PySem.W.Frag) (mg:Str->Option Value) (A:Adr):Prop where
 g_n:mg "other_hand" = some (.ref A.f_n)
 F_n:Fun K "other_hand" "other_hand" zbr A.f_n A.d_n
 b_n:Binds K A.d_n ["hand"] []
 g_x:mg "patch_of" = some (.ref A.f_x)
 F_x:Fun K "patch_of" "patch_of" zbV A.f_x A.d_x
 b_x:Binds K A.d_x ["board", "marks", "start"] []
 g_z:mg "patches" = some (.ref A.f_z)
 F_z:Fun K "patches" "patches" zcs A.f_z A.d_z
 b_z:Binds K A.d_z ["board", "marks"] []
 g_ja:mg "patch" = some (.ref A.f_ja)
 F_ja:Fun K "patch" "patch" zd1 A.f_ja A.d_ja
 b_ja:Binds K A.d_ja ["board", "stand", "point"] []
 g_ka:mg "rows" = some (.ref A.f_ka)
 F_ka:Fun K "rows" "rows" zeX A.f_ka A.d_ka
 b_ka:Binds K A.d_ka ["board", "stand"] []
 g_ha:mg "lands" = some (.ref A.f_ha)
 F_ha:Fun K "lands" "lands" zdi A.f_ha A.d_ha
 b_ha:Binds K A.d_ha ["board", "stand"] []
 g_aa:mg "breaths" = some (.ref A.f_aa)
 F_aa:Fun K "breaths" "breaths" zb6 A.f_aa A.d_aa
 b_aa:Binds K A.d_aa ["board", "stand", "row"] []
 g_ga:mg "sides" = some (.ref A.f_ga)
 F_ga:Fun K "sides" "sides" zcX A.f_ga A.d_ga
 b_ga:Binds K A.d_ga ["board", "stand", "land"] []
 g_f:mg "points_beside" = some (.ref A.f_f)
 F_f:Fun K "points_beside" "points_beside" za1 A.f_f A.d_f
 b_f:Binds K A.d_f ["board", "points"] []
 g_s:mg "by_stones" = some (.ref A.f_s)
 F_s:Fun K "by_stones" "by_stones" zbn A.f_s A.d_s
 b_s:Binds K A.d_s ["board", "stand"] []
 g_ca:mg "land_of" = some (.ref A.f_ca)
 F_ca:Fun K "land_of" "land_of" zb7 A.f_ca A.d_ca
 b_ca:Binds K A.d_ca ["board", "stand", "hand"] []
 g_la:mg "laid" = some (.ref A.f_la)
 F_la:Fun K "laid" "laid" zfI A.f_la A.d_la
 b_la:Binds K A.d_la ["board", "stand", "hand", "point"] []
 g_ba:mg "lays_on" = some (.ref A.f_ba)
 F_ba:Fun K "lays_on" "lays_on" zct A.f_ba A.d_ba
 b_ba:Binds K A.d_ba ["board", "stand", "hand", "points"] []
 g_y:mg "new_lays" = some (.ref A.f_y)
 F_y:Fun K "new_lays" "new_lays" zbA A.f_y A.d_y
 b_y:Binds K A.d_y ["board", "came", "hand", "points"] []
 g_fa:mg "steps" = some (.ref A.f_fa)
 F_fa:Fun K "steps" "steps" zdj A.f_fa A.d_fa
 b_fa:Binds K A.d_fa ["board", "came", "hand"] []
 g_da:mg "filled" = some (.ref A.f_da)
 F_da:Fun K "filled" "filled" zc4 A.f_da A.d_da
 b_da:Binds K A.d_da ["stand", "points", "what"] []
 g_k:mg "breathless" = some (.ref A.f_k)
 F_k:Fun K "breathless" "breathless" zbs A.f_k A.d_k
 b_k:Binds K A.d_k ["board", "stand", "hand"] []
 g_ea:mg "worked" = some (.ref A.f_ea)
 F_ea:Fun K "worked" "worked" zc5 A.f_ea A.d_ea
 b_ea:Binds K A.d_ea ["board", "stand", "hand", "deeds"] []
 g_ia:mg "raced" = some (.ref A.f_ia)
 F_ia:Fun K "raced" "raced" zd2 A.f_ia A.d_ia
 b_ia:Binds K A.d_ia ["board", "stand", "hand", "one", "other", "deeds"] []
 g_v:mg "is_better" = some (.ref A.f_v)
 F_v:Fun K "is_better" "is_better" zbB A.f_v A.d_v
 b_v:Binds K A.d_v ["hand", "worth", "best"] []
 g_g:mg "_law_cell_at" = some (.ref A.f_g)
 F_g:Fun K "_law_cell_at" "_law_cell_at" za8 A.f_g A.d_g
 b_g:Binds K A.d_g ["_law_script", "_law_k"] []
 g_w:mg "_law_mix" = some (.ref A.f_w)
 F_w:Fun K "_law_mix" "_law_mix" zbW A.f_w A.d_w
 b_w:Binds K A.d_w ["_law_cell", "_law_k"] []
 g_o:mg "_law_board" = some (.ref A.f_o)
 F_o:Fun K "_law_board" "_law_board" za5 A.f_o A.d_o
 b_o:Binds K A.d_o ["_law_cell", "_law_most"] []
 g_j:mg "_law_small" = some (.ref A.f_j)
 F_j:Fun K "_law_small" "_law_small" za6 A.f_j A.d_j
 b_j:Binds K A.d_j ["_law_script"] []
 g_q:mg "_law_patch" = some (.ref A.f_q)
 F_q:Fun K "_law_patch" "_law_patch" zbt A.f_q A.d_q
 b_q:Binds K A.d_q ["_law_board_here", "_law_stand_here", "_law_point"] []
 g_i:mg "_law_breaths" = some (.ref A.f_i)
 F_i:Fun K "_law_breaths" "_law_breaths" za9 A.f_i A.d_i
 b_i:Binds K A.d_i ["_law_board_here", "_law_stand_here", "_law_row"] []
 g_r:mg "_law_laid" = some (.ref A.f_r)
 F_r:Fun K "_law_laid" "_law_laid" zbC A.f_r A.d_r
 b_r:Binds K A.d_r ["_law_board_here", "_law_stand_here", "_law_hand", "_law_point"] []
 g_m:mg "_law_stand" = some (.ref A.f_m)
 F_m:Fun K "_law_stand" "_law_stand" zbg A.f_m A.d_m
 b_m:Binds K A.d_m ["_law_script", "_law_at", "_law_board_here"] []
 g_p:mg "_law_order" = some (.ref A.f_p)
 F_p:Fun K "_law_order" "_law_order" zbu A.f_p A.d_p
 b_p:Binds K A.d_p ["_law_cell", "_law_many"] []
 g_a:mg "_law_named_board" = some (.ref A.f_a)
 F_a:Fun K "_law_named_board" "_law_named_board" zaN A.f_a A.d_a
 b_a:Binds K A.d_a ["_law_board_here", "_law_order_here"] []
 g_b:mg "_law_named_stand" = some (.ref A.f_b)
 F_b:Fun K "_law_named_stand" "_law_named_stand" zaR A.f_b A.d_b
 b_b:Binds K A.d_b ["_law_stand_here", "_law_order_here", "_law_turned"] []
 g_l:mg "_law_asked" = some (.ref A.f_l)
 F_l:Fun K "_law_asked" "_law_asked" zbv A.f_l A.d_l
 b_l:Binds K A.d_l ["_law_board_here", "_law_stones", "_law_stand_here", "_law_hand", "_law_deeds"] []
 g_d:mg "_law_opposite" = some (.ref A.f_d)
 F_d:Fun K "_law_opposite" "_law_opposite" za2 A.f_d A.d_d
 b_d:Binds K A.d_d ["_law_worth", "_law_turned"] []
 g_law:mg "law" = some (.ref A.f_law)
 F_law:Fun K "law" "law" zhh A.f_law A.d_law
 b_law:Binds K A.d_law ["_law_script"] []
 mt_h:L2.Meth K (clOf K "End") "__init__" A.f_h
 F_h:Fun K "__init__" "End.__init__" zba A.f_h A.d_h
 b_h:Binds K A.d_h ["self", "board", "most", "racing"] []
 mt_u:L2.Meth K (clOf K "End") "tried" A.f_u
 F_u:Fun K "tried" "End.tried" zbD A.f_u A.d_u
 b_u:Binds K A.d_u ["self", "came", "deeds", "hand"] []
 mt_e:L2.Meth K (clOf K "End") "count_row" A.f_e
 F_e:Fun K "count_row" "End.count_row" za3 A.f_e A.d_e
 b_e:Binds K A.d_e ["self"] []
 mt_c:L2.Meth K (clOf K "End") "has_stopped" A.f_c
 F_c:Fun K "has_stopped" "End.has_stopped" zaP A.f_c A.d_c
 b_c:Binds K A.d_c ["self", "stand", "deeds"] []
 mt_t:L2.Meth K (clOf K "End") "worth" A.f_t
 F_t:Fun K "worth" "End.worth" zbE A.f_t A.d_t
 b_t:Binds K A.d_t ["self", "stand"] []
 cls_End:L2.Cls K (clOf K "End")
 mk_End:L2.Mk K (clOf K "End") A.f_h
 gc_End:mg "End" = some (.ref (clOf K "End"))
 na_End_gone:L2.NoAttr K (clOf K "End") "gone"
 na_End_joined:L2.NoAttr K (clOf K "End") "joined"
 na_End_most:L2.NoAttr K (clOf K "End") "most"
 na_End_racing:L2.NoAttr K (clOf K "End") "racing"
 c_MOST_ROWS:∃t,mg "MOST_ROWS" = some (.int 500 t)
 n_any:mg "any" = none
 n_int:mg "int" = none
 n_len:mg "len" = none
 n_list:mg "list" = none
 n_range:mg "range" = none
 n_sorted:mg "sorted" = none
 n_sum:mg "sum" = none
 n_tuple:mg "tuple" = none
 xt:XT K mg XTB
 nl:noL K=true
section
seal L2.PSs L2.PS L2.PE L2.PT L2.PW L2.PA L2.PI L2.PG L2.PGs L2.PO L2.PIfs
variable {P:Program} {w:World} {K:PySem.W.Frag} {mg:Str->Option Value} {base:Heap} {A:Adr}
abbrev Gx(K:PySem.W.Frag):Ga:=Gy K
abbrev spD(K:PySem.W.Frag)(n:Nat)(d:List W->M W):Sp:=spV (Gx K) (fun E=>E) n d
set_option maxHeartbeats 0 in
theorem zdN(fu:Nat)(T:Txt K mg A):FnOk P w K mg base (CXx P w) 1 A.f_n A.d_n ["hand"] (spD K 1 (d_n fu)):=by
 refine T.F_n.okX (k:=0) zgf (fun vs H Q E h=>h.1) (fun cdv Ar outer s H vs Q E hr h=>?_)
 obtain⟨_,F,as,ws,ce,S,rs,Pf⟩:=h
 refine⟨toTS (Gx K) E _,(zal (zaC (zdq zaj (zab 0)))),?_⟩
 exact zay (G:=Gx K) (E:=E) zbL ["hand"] S rs Pf
set_option maxHeartbeats 0 in
theorem ze0(fu:Nat)(T:Txt K mg A):FnOk P w K mg base (CXx P w) 1 A.f_x A.d_x ["board", "marks", "start"] (spD K 3 (d_x fu)):=by
 refine T.F_x.okX (k:=0) sc_x (fun vs H Q E h=>h.1) (fun cdv Ar outer s H vs Q E hr h=>?_)
 obtain⟨_,F,as,ws,ce,S,rs,Pf⟩:=h
 refine⟨toTS (Gx K) E _,(zah (zas (i:=3) sc_x.nd rfl (Or.inl rfl) (zmc (zab 2) zgO))
   (zah (zas (i:=4) sc_x.nd rfl (Or.inl rfl) (zcj (zaa (zab 2) zag)))
   (zah (zio fu PassesOwn.leaving (zkg (zab 4)) (zah (zas (i:=5) sc_x.nd rfl (Or.inl rfl) (zqP PySem.F.slot_list_pop PySem.F.type_list_pop zqn zs7 (zab 4)))
   (zal (zbi PassesOwn.leaving rfl (zlB (zaA (zab 0) (zab 5) (fun _ _=>rfl))) (zaS (i:=6) sc_x.nd rfl (Or.inl rfl))
   (zal (zbw (PW.pt (zgS (zgT (hr.cmp 1) (zab 6) (zab 3) (by with_unfolding_all rfl)) (zeG (zc6 (hr.cmp 8) (zaA (zab 1) (zab 6) (fun _ _=>rfl)) (zaA (zab 1) (zab 2) (fun _ _=>rfl)))))) (zah (zkz (hr.cmp 1) (zab 3) (zab 6) zgO)
   (zal (zbx (zdu PySem.F.slot_list_append PySem.F.type_list_append zbc zeJ (zab 4) (zaa (zab 6) zag))))) zaL))))))
   (zal (zaC (zaG (zjk rfl rfl) (zjl K zkw) rfl T.n_sorted PyProof.Rows.boot_sorted (zaa (zab 3) zag))))))),?_⟩
 exact zay (G:=Gx K) (E:=E) zei ["board", "marks", "start", "found", "waiting", "point", "beside"] S rs Pf
set_option maxHeartbeats 0 in
theorem zfJ(fu:Nat)(T:Txt K mg A):FnOk P w K mg base (CXx P w) 2 A.f_z A.d_z ["board", "marks"] (spD K 2 (d_z fu)):=by
 have G_x:=ze0 (P:=P) (w:=w) (base:=base) fu T
 refine T.F_z.okX (k:=1) sc_z (fun vs H Q E h=>h.1) (fun cdv Ar outer s H vs Q E hr h=>?_)
 obtain⟨_,F,as,ws,ce,S,rs,Pf⟩:=h
 refine⟨toTS (Gx K) E _,(zah (zas (i:=2) sc_z.nd rfl (Or.inl rfl) zkt)
   (zah (zas (i:=3) sc_z.nd rfl (Or.inl rfl) (zcj zag))
   (zah (zbi PassesOwn.leaving rfl (zdV rfl T.n_range (zaa (zaG (zcM rfl) (zcN K) rfl T.n_len PySem.boot_len (zaa (zab 0) zag)) zag)) (zaS (i:=4) sc_z.nd rfl (Or.inl rfl))
   (zal (zbw (zgT (hr.cmp 1) (zab 4) (zab 2) (by with_unfolding_all rfl)) (zah (zas (i:=5) sc_z.nd rfl (Or.inl rfl) (zao (zbJ G_x) (hr.mono (by decide)) rfl T.g_x T.F_x.kp T.b_x (flies_cxOf.passes rfl) (zaa (zab 0) (zaa (zab 1) (zaa (zab 4) zag)))))
   (zah (zbx (zdu PySem.F.slot_list_append PySem.F.type_list_append zbc zeJ (zab 3) (zaa (zab 5) zag)))
   (zal (zbi PassesOwn.leaving rfl (zgU (zab 5)) (zaS (i:=6) sc_z.nd rfl (Or.inl rfl))
   (zal (zkz (hr.cmp 1) (zab 2) (zab 6) zgO)))))) zaL)))
   (zal (zaC (zab 3)))))),?_⟩
 exact zay (G:=Gx K) (E:=E) zei ["board", "marks", "met", "found", "start", "points", "point"] S rs Pf
set_option maxHeartbeats 0 in
theorem zmG(fu:Nat)(T:Txt K mg A):FnOk P w K mg base (CXx P w) 2 A.f_ja A.d_ja ["board", "stand", "point"] (spD K 3 (d_ja fu)):=by
 have G_x:=ze0 (P:=P) (w:=w) (base:=base) fu T
 refine T.F_ja.okX (k:=1) zmD (fun vs H Q E h=>h.1) (fun cdv Ar outer s H vs Q E hr h=>?_)
 obtain⟨_,F,as,ws,ce,S,rs,Pf⟩:=h
 refine⟨toTS (Gx K) E _,(zal (zaC (zao G_x (hr.mono (by decide)) rfl T.g_x T.F_x.kp T.b_x (flies_cxOf.passes rfl) (zaa (zab 0) (zaa (zab 1) (zaa (zab 2) zag)))))),?_⟩
 exact zay (G:=Gx K) (E:=E) zei ["board", "stand", "point"] S rs Pf
set_option maxHeartbeats 0 in
theorem zpg(fu:Nat)(T:Txt K mg A):FnOk P w K mg base (CXx P w) 3 A.f_ka A.d_ka ["board", "stand"] (spD K 2 (d_ka fu)):=by
 have G_z:=zfJ (P:=P) (w:=w) (base:=base) fu T
 refine T.F_ka.okX (k:=2) zpf (fun vs H Q E h=>h.1) (fun cdv Ar outer s H vs Q E hr h=>?_)
 obtain⟨_,F,as,ws,ce,S,rs,Pf⟩:=h
 refine⟨toTS (Gx K) E _,(zal (zaC (zeh ze8 (zby (N:=["board", "stand"]) (psc:=zai zeX) (js:=[1]) (N':=["points", "stand"]) (by decide +kernel)) rfl rfl (zgU (zao (zbJ G_z) (hr.mono (by decide)) rfl T.g_z T.F_z.kp T.b_z (flies_cxOf.passes rfl) (zaa (zab 0) (zaa (zab 1) zag)))) (fun _ _ _ _=>(zcd (zl6 (hr.cmp 8) (zaA (zab 1) (zaA (zab 0) zaj (fun _ _=>rfl)) (fun _ _=>rfl)) zaj))) (fun _ _ _ _=>(zab 0))))),?_⟩
 exact zay (G:=Gx K) (E:=E) zbL ["board", "stand"] S rs Pf
set_option maxHeartbeats 0 in
theorem zmH(fu:Nat)(T:Txt K mg A):FnOk P w K mg base (CXx P w) 3 A.f_ha A.d_ha ["board", "stand"] (spD K 2 (d_ha fu)):=by
 have G_z:=zfJ (P:=P) (w:=w) (base:=base) fu T
 refine T.F_ha.okX (k:=2) zmE (fun vs H Q E h=>h.1) (fun cdv Ar outer s H vs Q E hr h=>?_)
 obtain⟨_,F,as,ws,ce,S,rs,Pf⟩:=h
 refine⟨toTS (Gx K) E _,(zal (zaC (zeh ze8 (zby (N:=["board", "stand"]) (psc:=zai zdi) (js:=[1]) (N':=["points", "stand"]) (by decide +kernel)) rfl rfl (zgU (zao (zbJ G_z) (hr.mono (by decide)) rfl T.g_z T.F_z.kp T.b_z (flies_cxOf.passes rfl) (zaa (zab 0) (zaa (zab 1) zag)))) (fun _ _ _ _=>(zcd (zc6 (hr.cmp 8) (zaA (zab 1) (zaA (zab 0) zaj (fun _ _=>rfl)) (fun _ _=>rfl)) zaj))) (fun _ _ _ _=>(zab 0))))),?_⟩
 exact zay (G:=Gx K) (E:=E) zbL ["board", "stand"] S rs Pf
set_option maxHeartbeats 0 in
theorem zcK(fu:Nat)(T:Txt K mg A):FnOk P w K mg base (CXx P w) 1 A.f_f A.d_f ["board", "points"] (spD K 2 (d_f fu)):=by
 refine T.F_f.okX (k:=0) sc_f (fun vs H Q E h=>h.1) (fun cdv Ar outer s H vs Q E hr h=>?_)
 obtain⟨_,F,as,ws,ce,S,rs,Pf⟩:=h
 refine⟨toTS (Gx K) E _,(zah (zas (i:=2) sc_f.nd rfl (Or.inl rfl) zkt)
   (zah (zbi PassesOwn.leaving rfl (zgU (zab 1)) (zaS (i:=3) sc_f.nd rfl (Or.inl rfl))
   (zal (zbi PassesOwn.leaving rfl (zlB (zaA (zab 0) (zab 3) (fun _ _=>rfl))) (zaS (i:=4) sc_f.nd rfl (Or.inl rfl))
   (zal (zkz (hr.cmp 1) (zab 2) (zab 4) zgO)))))
   (zal (zaC (zaG (zjk rfl rfl) (zjl K zkw) rfl T.n_sorted PyProof.Rows.boot_sorted (zaa (zab 2) zag)))))),?_⟩
 exact zay (G:=Gx K) (E:=E) zei ["board", "points", "found", "point", "beside"] S rs Pf
set_option maxHeartbeats 0 in
theorem zfK(fu:Nat)(T:Txt K mg A):FnOk P w K mg base (CXx P w) 2 A.f_aa A.d_aa ["board", "stand", "row"] (spD K 3 (d_aa fu)):=by
 have G_f:=zcK (P:=P) (w:=w) (base:=base) fu T
 refine T.F_aa.okX (k:=1) zjo (fun vs H Q E h=>h.1) (fun cdv Ar outer s H vs Q E hr h=>?_)
 obtain⟨_,F,as,ws,ce,S,rs,Pf⟩:=h
 refine⟨toTS (Gx K) E _,(zal (zaC (zeh zkw (zby (N:=["board", "stand", "row"]) (psc:=zai zb6) (js:=[1]) (N':=["point", "stand"]) (by decide +kernel)) rfl rfl (zgU (zao (zbJ G_f) (hr.mono (by decide)) rfl T.g_f T.F_f.kp T.b_f (flies_cxOf.passes rfl) (zaa (zab 0) (zaa (zab 2) zag)))) (fun _ _ _ _=>(zcd (zc6 (hr.cmp 8) (zaA (zab 1) (zab 0) (fun _ _=>rfl)) zaj))) (fun _ _ _ _=>(zab 0))))),?_⟩
 exact zay (G:=Gx K) (E:=E) zei ["board", "stand", "row"] S rs Pf
set_option maxHeartbeats 0 in
theorem zmI(fu:Nat)(T:Txt K mg A):FnOk P w K mg base (CXx P w) 2 A.f_ga A.d_ga ["board", "stand", "land"] (spD K 3 (d_ga fu)):=by
 have G_f:=zcK (P:=P) (w:=w) (base:=base) fu T
 refine T.F_ga.okX (k:=1) sc_ga (fun vs H Q E h=>h.1) (fun cdv Ar outer s H vs Q E hr h=>?_)
 obtain⟨_,F,as,ws,ce,S,rs,Pf⟩:=h
 refine⟨toTS (Gx K) E _,(zah (zas (i:=3) sc_ga.nd rfl (Or.inr rfl) (zeh ze8 (zby (N:=["board", "stand", "land", "held"]) (psc:=zai zcX) (js:=[1]) (N':=["point", "stand"]) (by decide +kernel)) rfl rfl (zgU (zao (zbJ G_f) (hr.mono (by decide)) rfl T.g_f T.F_f.kp T.b_f (flies_cxOf.passes rfl) (zaa (zab 0) (zaa (zab 2) zag)))) (fun _ _ _ _=>zbF) (fun _ _ _ _=>(zaA (zab 1) (zab 0) (fun _ _=>rfl)))))
   (zal (zaC (zeh zkw (zby (N:=["board", "stand", "land", "held"]) (psc:=zai zcX) (js:=[3]) (N':=["hand", "held"]) (by decide +kernel)) rfl rfl (zlB (zaT (zaa zaj (zaa zaj zag)))) (fun _ _ _ _=>(zcd (zsY (hr.cmp 9) (zab 0) (zab 1) (by with_unfolding_all rfl)))) (fun _ _ _ _=>(zab 0)))))),?_⟩
 exact zay (G:=Gx K) (E:=E) zei ["board", "stand", "land", "held"] S rs Pf
set_option maxHeartbeats 0 in
theorem zjq(fu:Nat)(T:Txt K mg A):FnOk P w K mg base (CXx P w) 4 A.f_ca A.d_ca ["board", "stand", "hand"] (spD K 3 (d_ca fu)):=by
 have G_ha:=zmH (P:=P) (w:=w) (base:=base) fu T
 have G_ga:=zmI (P:=P) (w:=w) (base:=base) fu T
 refine T.F_ca.okX (k:=3) zjp (fun vs H Q E h=>h.1) (fun cdv Ar outer s H vs Q E hr h=>?_)
 obtain⟨_,F,as,ws,ce,S,rs,Pf⟩:=h
 refine⟨toTS (Gx K) E _,(zal (zaC (zaG zmw (zts K) rfl T.n_sum PyProof.Rows.boot_sum (zaa (zeh ze8 (zby (N:=["board", "stand", "hand"]) (psc:=zai zb7) (js:=[0,1,2]) (N':=["land", "board", "stand", "hand"]) (by decide +kernel)) rfl rfl (zgU (zao G_ha (hr.mono (by decide)) rfl T.g_ha T.F_ha.kp T.b_ha (flies_cxOf.passes rfl) (zaa (zab 0) (zaa (zab 1) zag)))) (fun _ _ _ _=>(zcd (zru (zc6 (hr.cmp 8) (zao (zbJ G_ga) (hr.mono (by decide)) rfl T.g_ga T.F_ga.kp T.b_ga zk0 (zaa (zab 1) (zaa (zab 2) (zaa (zab 0) zag)))) (zbp (zaa (zab 3) zag)))))) (fun _ _ _ _=>(zaG (zcM rfl) (zcN K) rfl T.n_len PySem.boot_len (zaa (zab 0) zag)))) zag)))),?_⟩
 exact zay (G:=Gx K) (E:=E) zbL ["board", "stand", "hand"] S rs Pf
set_option maxHeartbeats 0 in
theorem zhj(fu:Nat)(T:Txt K mg A):FnOk P w K mg base (CXx P w) 5 A.f_s A.d_s ["board", "stand"] (spD K 2 (d_s fu)):=by
 have G_ca:=zjq (P:=P) (w:=w) (base:=base) fu T
 refine T.F_s.okX (k:=4) sc_s (fun vs H Q E h=>h.1) (fun cdv Ar outer s H vs Q E hr h=>?_)
 obtain⟨_,F,as,ws,ce,S,rs,Pf⟩:=h
 refine⟨toTS (Gx K) E _,(zah (zji (k:=2) ze8 (zby (N:=["board", "stand", "held"]) (psc:=zai zbn) (js:=[0,1]) (N':=["hand", "board", "stand"]) (by decide +kernel)) rfl rfl (zlB (zaT (zaa zaj (zaa zaj zag)))) (fun _ _ _ _=>zbF) (fun _ _ _ _=>(zrt (zbz (zro PySem.F.slot_tuple_count PySem.F.type_tuple_count zo5 (zrp K) (zab 2) (zaa (zab 0) zag)) (zao G_ca (hr.mono (by decide)) rfl T.g_ca T.F_ca.kp T.b_ca zk0 (zaa (zab 1) (zaa (zab 2) (zaa (zab 0) zag))))))) sc_s.nd rfl rfl (by with_unfolding_all rfl))
   (zal (zaC (zaX (zcP K) (zb1 K) rfl T.n_tuple PyProof.Rows.boot_tuple (zaa (zab 2) zag))))),?_⟩
 exact zay (G:=Gx K) (E:=E) zbL ["board", "stand", "held"] S rs Pf
set_option maxHeartbeats 0 in
theorem zk6(fu:Nat)(T:Txt K mg A):FnOk P w K mg base (CXx P w) 1 A.f_da A.d_da ["stand", "points", "what"] (spD K 3 (d_da fu)):=by
 refine T.F_da.okX (k:=0) sc_da (fun vs H Q E h=>h.1) (fun cdv Ar outer s H vs Q E hr h=>?_)
 obtain⟨_,F,as,ws,ce,S,rs,Pf⟩:=h
 refine⟨toTS (Gx K) E _,(zah (zas (i:=3) sc_da.nd rfl (Or.inl rfl) (zaX (znm rfl rfl) (znn K zkw) rfl T.n_list PyProof.Rows.boot_list (zaa (zab 0) zag)))
   (zah (zbi PassesOwn.leaving rfl (zgU (zab 1)) (zaS (i:=4) sc_da.nd rfl (Or.inl rfl))
   (zal (zeH (zab 2) (zdU (E:=E0) (zab 3) (zab 4)))))
   (zal (zaC (zaX (zcP K) (zb1 K) rfl T.n_tuple PyProof.Rows.boot_tuple (zaa (zab 3) zag)))))),?_⟩
 exact zay (G:=Gx K) (E:=E) zbL ["stand", "points", "what", "changed", "point"] S rs Pf
set_option maxHeartbeats 0 in
theorem zgg(fu:Nat)(T:Txt K mg A):FnOk P w K mg base (CXx P w) 4 A.f_k A.d_k ["board", "stand", "hand"] (spD K 3 (d_k fu)):=by
 have G_ka:=zpg (P:=P) (w:=w) (base:=base) fu T
 have G_aa:=zfK (P:=P) (w:=w) (base:=base) fu T
 refine T.F_k.okX (k:=3) sc_k (fun vs H Q E h=>h.1) (fun cdv Ar outer s H vs Q E hr h=>?_)
 obtain⟨_,F,as,ws,ce,S,rs,Pf⟩:=h
 refine⟨toTS (Gx K) E _,(zah (zas (i:=3) sc_k.nd rfl (Or.inl rfl) (zcj zag))
   (zah (zbi PassesOwn.leaving rfl (zgU (zao G_ka (hr.mono (by decide)) rfl T.g_ka T.F_ka.kp T.b_ka (flies_cxOf.passes rfl) (zaa (zab 0) (zaa (zab 1) zag)))) (zaS (i:=4) sc_k.nd rfl (Or.inl rfl))
   (zal (zbw (PW.pt (zgS (zc6 (hr.cmp 8) (zaA (zab 1) (zaA (zab 4) zaj (fun _ _=>rfl)) (fun _ _=>rfl)) (zab 2)) (zeG (zko (zkg (zao (zbJ G_aa) (hr.mono (by decide)) rfl T.g_aa T.F_aa.kp T.b_aa (flies_cxOf.passes rfl) (zaa (zab 0) (zaa (zab 1) (zaa (zab 4) zag))))))))) (zal (zbx (zdu PySem.F.slot_list_extend PySem.F.type_list_extend zkC zqS (zab 3) (zaa (zab 4) zag)))) zaL)))
   (zal (zaC (zaG (zjk rfl rfl) (zjl K zkw) rfl T.n_sorted PyProof.Rows.boot_sorted (zaa (zab 3) zag)))))),?_⟩
 exact zay (G:=Gx K) (E:=E) zei ["board", "stand", "hand", "found", "row"] S rs Pf
set_option maxHeartbeats 0 in
theorem zph(fu:Nat)(T:Txt K mg A):FnOk P w K mg base (CXx P w) 5 A.f_la A.d_la ["board", "stand", "hand", "point"] (spD K 4 (d_la fu)):=by
 have G_da:=zk6 (P:=P) (w:=w) (base:=base) fu T
 have G_k:=zgg (P:=P) (w:=w) (base:=base) fu T
 have G_n:=zdN (P:=P) (w:=w) (base:=base) fu T
 have G_aa:=zfK (P:=P) (w:=w) (base:=base) fu T
 have G_ja:=zmG (P:=P) (w:=w) (base:=base) fu T
 refine T.F_la.okX (k:=4) sc_la (fun vs H Q E h=>h.1) (fun cdv Ar outer s H vs Q E hr h=>?_)
 obtain⟨_,F,as,ws,ce,S,rs,Pf⟩:=h
 refine⟨toTS (Gx K) E _,(zah (zbw (zl6 (hr.cmp 8) (zaA (zab 1) (zab 3) (fun _ _=>rfl)) zaj) (zal (zgc (l:=[3]) flies_cxOf rfl T.xt rfl rfl rfl hr.hd (zhV (zbR zfD (zbR (znE 3) (zbR zfD zhU)))) (fun _ h=>⟨trivial,h 3 (by decide),trivial,trivial⟩))) zaL)
   (zah (zas (i:=4) sc_la.nd rfl (Or.inl rfl) (zao G_da (hr.mono (by decide)) rfl T.g_da T.F_da.kp T.b_da (flies_cxOf.passes rfl) (zaa (zab 1) (zaa (zbp (zaa (zab 3) zag)) (zaa (zab 2) zag)))))
   (zah (zas (i:=5) sc_la.nd rfl (Or.inl rfl) (zao (zbJ G_k) (hr.mono (by decide)) rfl T.g_k T.F_k.kp T.b_k (flies_cxOf.passes rfl) (zaa (zab 0) (zaa (zab 4) (zaa (zao G_n (hr.mono (by decide)) rfl T.g_n T.F_n.kp T.b_n (flies_cxOf.passes rfl) (zaa (zab 2) zag)) zag)))))
   (zah (zas (i:=6) sc_la.nd rfl (Or.inl rfl) (zao G_da (hr.mono (by decide)) rfl T.g_da T.F_da.kp T.b_da (flies_cxOf.passes rfl) (zaa (zab 4) (zaa (zab 5) (zaa zaj zag)))))
   (zah (zbw (zko (zkg (zao (zbJ G_aa) (hr.mono (by decide)) rfl T.g_aa T.F_aa.kp T.b_aa (flies_cxOf.passes rfl) (zaa (zab 0) (zaa (zab 6) (zaa (zao (zbJ G_ja) (hr.mono (by decide)) rfl T.g_ja T.F_ja.kp T.b_ja (flies_cxOf.passes rfl) (zaa (zab 0) (zaa (zab 6) (zaa (zab 3) zag)))) zag)))))) (zal (zgc (l:=[3]) flies_cxOf rfl T.xt rfl rfl rfl hr.hd (zhV (zbR zfD (zbR (znE 3) (zbR zfD zhU)))) (fun _ h=>⟨trivial,h 3 (by decide),trivial,trivial⟩))) zaL)
   (zal (zaC (zaT (zaa (zab 6) (zaa (zab 5) zag)))))))))),?_⟩
 exact zay (G:=Gx K) (E:=E) zbL ["board", "stand", "hand", "point", "full", "taken", "behind"] S rs Pf
set_option maxHeartbeats 0 in
theorem zjr(fu:Nat)(T:Txt K mg A):FnOk P w K mg base (CXx P w) 6 A.f_ba A.d_ba ["board", "stand", "hand", "points"] (spD K 4 (d_ba fu)):=by
 have G_la:=zph (P:=P) (w:=w) (base:=base) fu T
 refine T.F_ba.okX (k:=5) sc_ba (fun vs H Q E h=>h.1) (fun cdv Ar outer s H vs Q E hr h=>?_)
 obtain⟨_,F,as,ws,ce,S,rs,Pf⟩:=h
 refine⟨toTS (Gx K) E _,(zah (zas (i:=4) sc_ba.nd rfl (Or.inl rfl) (zcj zag))
   (zah (zbi PassesOwn.leaving rfl (zgU (zab 3)) (zaS (i:=5) sc_ba.nd rfl (Or.inl rfl))
   (zah (zo9 (i:=6) rfl rfl rfl sc_ba.nd rfl (Or.inl rfl) G_la (hr.mono (by decide)) rfl T.g_la T.F_la.kp T.b_la (zaa (zab 0) (zaa (zab 1) (zaa (zab 2) (zaa (zab 5) zag)))) (zrA rfl T.xt rfl rfl rfl rfl (fun _=>(zal zhI))))
   (zal (zbx (zdu PySem.F.slot_list_append PySem.F.type_list_append zbc zeJ (zab 4) (zaa (zaT (zaa (zab 5) (zaa (zaA (zab 6) zaj (fun _ _=>rfl)) (zaa (zaA (zab 6) zaj (fun _ _=>rfl)) zag)))) zag))))))
   (zal (zaC (zab 4))))),?_⟩
 exact zay (G:=Gx K) (E:=E) zei ["board", "stand", "hand", "points", "found", "point", "told"] S rs Pf
set_option maxHeartbeats 0 in
theorem zhZ(fu:Nat)(T:Txt K mg A):FnOk P w K mg base (CXx P w) 7 A.f_y A.d_y ["board", "came", "hand", "points"] (spD K 4 (d_y fu)):=by
 have G_ba:=zjr (P:=P) (w:=w) (base:=base) fu T
 refine T.F_y.okX (k:=6) zhY (fun vs H Q E h=>h.1) (fun cdv Ar outer s H vs Q E hr h=>?_)
 obtain⟨_,F,as,ws,ce,S,rs,Pf⟩:=h
 refine⟨toTS (Gx K) E _,(zal (zaC (zeh ze8 (zby (N:=["board", "came", "hand", "points"]) (psc:=zai zbA) (js:=[1]) (N':=["lay", "came"]) (by decide +kernel)) rfl rfl (zgU (zao (zbJ G_ba) (hr.mono (by decide)) rfl T.g_ba T.F_ba.kp T.b_ba (flies_cxOf.passes rfl) (zaa (zab 0) (zaa (zaA (zab 1) (zeF zaj) (fun _ _=>rfl)) (zaa (zab 2) (zaa (zab 3) zag)))))) (fun _ _ _ _=>(zcd (zfT (hr.cmp 9) (zaA (zab 0) zaj (fun _ _=>rfl)) (zab 1) (by with_unfolding_all rfl)))) (fun _ _ _ _=>(zab 0))))),?_⟩
 exact zay (G:=Gx K) (E:=E) zbL ["board", "came", "hand", "points"] S rs Pf
set_option maxHeartbeats 0 in
theorem zmJ(fu:Nat)(T:Txt K mg A):FnOk P w K mg base (CXx P w) 8 A.f_fa A.d_fa ["board", "came", "hand"] (spD K 3 (d_fa fu)):=by
 have G_y:=zhZ (P:=P) (w:=w) (base:=base) fu T
 refine T.F_fa.okX (k:=7) sc_fa (fun vs H Q E h=>h.1) (fun cdv Ar outer s H vs Q E hr h=>?_)
 obtain⟨_,F,as,ws,ce,S,rs,Pf⟩:=h
 refine⟨toTS (Gx K) E _,(zah (zji (k:=3) zkw (zby (N:=["board", "came", "hand", "found"]) (psc:=zai zdj) (js:=[]) (N':=["lay"]) (by decide +kernel)) rfl rfl (zgU (zao G_y (hr.mono (by decide)) rfl T.g_y T.F_y.kp T.b_y (flies_cxOf.passes rfl) (zaa (zab 0) (zaa (zab 1) (zaa (zab 2) (zaa (zkB ze8 rfl rfl T.n_list rfl T.n_range (zaa (zaG (zcM rfl) (zcN K) rfl T.n_len PySem.boot_len (zaa (zab 0) zag)) zag)) zag)))))) (fun _ _ _ _=>zbF) (fun _ _ _ _=>(zaT (zaa (zaA (zab 0) zaj (fun _ _=>rfl)) (zaa (zaA (zab 0) zaj (fun _ _=>rfl)) zag)))) sc_fa.nd rfl rfl (by with_unfolding_all rfl))
   (zah (zbx (zdu PySem.F.slot_list_append PySem.F.type_list_append zbc zeJ (zab 3) (zaa (zaT (zaa zcp (zaa (zaA (zab 1) (zeF zaj) (fun _ _=>rfl)) zag))) zag)))
   (zal (zaC (zab 3))))),?_⟩
 exact zay (G:=Gx K) (E:=E) zei ["board", "came", "hand", "found"] S rs Pf
set_option maxHeartbeats 0 in
theorem zel(fu:Nat)(T:Txt K mg A):FnOk P w K mg base (CXx P w) 1 A.f_e A.d_e ["self"] (spD K 1 (d_e fu)):=by
 refine T.F_e.okX (k:=0) zej (fun vs H Q E h=>h.1) (fun cdv Ar outer s H vs Q E hr h=>?_)
 obtain⟨_,F,as,ws,ce,S,rs,Pf⟩:=h
 refine⟨toTS (Gx K) E _,(zah (zpd T.cls_End T.na_End_gone (zab 0) zaj)
   (zal (zbw (zoC (zd8 T.cls_End T.na_End_gone (zab 0)) (zmb rfl T.c_MOST_ROWS)) (zal (zgc (l:=[]) flies_cxOf rfl T.xt rfl rfl rfl hr.hd (zhV (zbR zfD (zbR (zo7 rfl T.c_MOST_ROWS) (zbR zfD zhU)))) (fun _ h=>⟨trivial,trivial,trivial,trivial⟩))) zaL))),?_⟩
 exact zay (G:=Gx K) (E:=E) zbL ["self"] S rs Pf
set_option maxHeartbeats 0 in
theorem zdO(fu:Nat)(T:Txt K mg A):FnOk P w K mg base (CXx P w) 1 A.f_c A.d_c ["self", "stand", "deeds"] (spD K 3 (d_c fu)):=by
 refine T.F_c.okX (k:=0) zdM (fun vs H Q E h=>h.1) (fun cdv Ar outer s H vs Q E hr h=>?_)
 obtain⟨_,F,as,ws,ce,S,rs,Pf⟩:=h
 refine⟨toTS (Gx K) E _,(zah (zbw (PW.pt (zkn (zsZ (zaG (zcM rfl) (zcN K) rfl T.n_len PySem.boot_len (zaa (zab 2) zag)) (zd8 T.cls_End T.na_End_most (zab 0))) (zgR (zc6 (hr.cmp 8) (zrr (zab 2) (zoI (zeF zaj)) zoH) (zaT (zaa zcp (zaa zcp zag))))))) (zal (zaC zgO)) zaL)
   (zal (zaC (zaG (zs5 rfl rfl) (zs6 K) rfl T.n_any PyProof.Rows.boot_any (zaa (zeh ze8 (zby (N:=["self", "stand", "deeds"]) (psc:=zai zaP) (js:=[1]) (N':=["stone", "stand"]) (by decide +kernel)) rfl rfl (zlB (zd8 T.cls_End T.na_End_racing (zab 0))) (fun _ _ _ _=>zbF) (fun _ _ _ _=>(zqB (hr.cmp 8) (zaA (zab 1) (zab 0) (fun _ _=>rfl)) zaj))) zag))))),?_⟩
 exact zay (G:=Gx K) (E:=E) zbL ["self", "stand", "deeds"] S rs Pf
set_option maxHeartbeats 0 in
theorem zhk(fu:Nat)(T:Txt K mg A):FnOk P w K mg base (CXx P w) 6 A.f_t A.d_t ["self", "stand"] (spD K 2 (d_t fu)):=by
 have G_s:=zhj (P:=P) (w:=w) (base:=base) fu T
 refine T.F_t.okX (k:=5) sc_t (fun vs H Q E h=>h.1) (fun cdv Ar outer s H vs Q E hr h=>?_)
 obtain⟨_,F,as,ws,ce,S,rs,Pf⟩:=h
 refine⟨toTS (Gx K) E _,(zah (zbw (zc6 (hr.cmp 8) (zd8 T.cls_End T.na_End_racing (zab 0)) (zaT zag)) (zah (zas (i:=2) sc_t.nd rfl (Or.inl rfl) (zao G_s (hr.mono (by decide)) rfl T.g_s T.F_s.kp T.b_s (flies_cxOf.passes rfl) (zaa (zd8 T.cls_End T.na_End_joined (zab 0)) (zaa (zab 1) zag))))
   (zal (zaC (zdq (zaA (zab 2) zaj (fun _ _=>rfl)) (zaA (zab 2) zaj (fun _ _=>rfl)))))) zaL)
   (zah (zbw (zc6 (hr.cmp 8) (zaA (zab 1) (zaA (zd8 T.cls_End T.na_End_racing (zab 0)) zaj (fun _ _=>rfl)) (fun _ _=>rfl)) zaj) (zal (zaC (zeF zaj))) zaL)
   (zal (zaC (zkp (zc6 (hr.cmp 8) (zaA (zab 1) (zaA (zd8 T.cls_End T.na_End_racing (zab 0)) zaj (fun _ _=>rfl)) (fun _ _=>rfl)) zaj) zaj zaj))))),?_⟩
 exact zay (G:=Gx K) (E:=E) zbL ["self", "stand", "held"] S rs Pf
set_option maxHeartbeats 0 in
theorem zhl(fu:Nat)(T:Txt K mg A):FnOk P w K mg base (CXx P w) 1 A.f_v A.d_v ["hand", "worth", "best"] (spD K 3 (d_v fu)):=by
 refine T.F_v.okX (k:=0) zhi (fun vs H Q E h=>h.1) (fun cdv Ar outer s H vs Q E hr h=>?_)
 obtain⟨_,F,as,ws,ce,S,rs,Pf⟩:=h
 refine⟨toTS (Gx K) E _,(zal (zaC (zkp (zc6 (hr.cmp 8) (zab 0) zaj) (zqw (zab 1) (zab 2)) (zsU (zab 1) (zab 2))))),?_⟩
 exact zay (G:=Gx K) (E:=E) zbL ["hand", "worth", "best"] S rs Pf
set_option maxHeartbeats 0 in
theorem zfg(fu:Nat)(T:Txt K mg A)(j:Nat){r_u:List W->M W}(G_u:FnOk P w K mg base (CXx P w) (8+j) A.f_u A.d_u ["self", "came", "deeds", "hand"] (spD K 4 r_u)):FnOk P w K mg base (CXx P w) (8+j+1) A.f_u A.d_u ["self", "came", "deeds", "hand"] (spD K 4 (zbS fu r_u)):=by
 have G_e:FnOk P w K mg base (CXx P w) (1) A.f_e A.d_e ["self"] (spD K 1 (d_e fu)):=zel fu T
 have G_c:FnOk P w K mg base (CXx P w) (1) A.f_c A.d_c ["self", "stand", "deeds"] (spD K 3 (d_c fu)):=zdO fu T
 have G_fa:FnOk P w K mg base (CXx P w) (8) A.f_fa A.d_fa ["board", "came", "hand"] (spD K 3 (d_fa fu)):=zmJ fu T
 have G_t:FnOk P w K mg base (CXx P w) (6) A.f_t A.d_t ["self", "stand"] (spD K 2 (d_t fu)):=zhk fu T
 have G_n:FnOk P w K mg base (CXx P w) (1) A.f_n A.d_n ["hand"] (spD K 1 (d_n fu)):=zdN fu T
 have G_v:FnOk P w K mg base (CXx P w) (1) A.f_v A.d_v ["hand", "worth", "best"] (spD K 3 (d_v fu)):=zhl fu T
 refine T.F_u.okX (k:=8+j) sc_u (fun vs H Q E h=>h.1) (fun cdv Ar outer s H vs Q E hr h=>?_)
 obtain⟨_,F,as,ws,ce,S,rs,Pf⟩:=h
 refine⟨toTS (Gx K) E _,(zah (zbx (zmy T.cls_End T.mt_e G_e (hr.mono (by omega)) T.b_e (flies_cxOf.passes rfl) (zab 0)))
   (zah (zbw (zfw (zeU T.cls_End T.mt_c G_c (hr.mono (by omega)) T.b_c (flies_cxOf.passes rfl) (zab 0) (zaa (zaA (zab 1) (zeF zaj) (fun _ _=>rfl)) (zaa (zab 2) zag)))) (zal (zaC (zaT (zaa (zeU T.cls_End T.mt_t G_t (hr.mono (by omega)) T.b_t (flies_cxOf.passes rfl) (zab 0) (zaa (zaA (zab 1) (zeF zaj) (fun _ _=>rfl)) zag)) (zaa (zbp zag) (zaa (zbp zag) zag)))))) zaL)
   (zah (zas (i:=4) sc_u.nd rfl (Or.inl rfl) zcp)
   (zah (zas (i:=5) sc_u.nd rfl (Or.inl rfl) zcp)
   (zah (zas (i:=6) sc_u.nd rfl (Or.inl rfl) (zcj zag))
   (zah (zbi PassesOwn.leaving rfl (zgU (zao (zbJ G_fa) (hr.mono (by omega)) rfl T.g_fa T.F_fa.kp T.b_fa (flies_cxOf.passes rfl) (zaa (zd8 T.cls_End T.na_End_joined (zab 0)) (zaa (zab 1) (zaa (zab 3) zag))))) (zaS (i:=7) sc_u.nd rfl (Or.inl rfl))
   (zah (zas (i:=8) sc_u.nd rfl (Or.inl rfl) (zeU T.cls_End T.mt_u (zhT G_u) (hr.mono (by omega)) T.b_u (flies_cxOf.passes rfl) (zab 0) (zaa (zkx ze8 (zab 1) (zbp (zaa (zaA (zab 7) zaj (fun _ _=>rfl)) zag))) (zaa (zoY (zab 2) (zaT (zaa (zaA (zab 7) zaj (fun _ _=>rfl)) zag))) (zaa (zao G_n (hr.mono (by omega)) rfl T.g_n T.F_n.kp T.b_n (flies_cxOf.passes rfl) (zaa (zab 3) zag)) zag)))))
   (zah (zbx (zdu PySem.F.slot_list_extend PySem.F.type_list_extend zkC zqS (zab 6) (zaa (zaA (zab 8) (zao G_n (hr.mono (by omega)) rfl T.g_n T.F_n.kp T.b_n (flies_cxOf.passes rfl) (zaa (zab 3) zag)) (fun _ _=>rfl)) zag)))
   (zal (zbw (PW.pt (zkn (znf (zab 4)) (zgR (zfw (zao G_v (hr.mono (by omega)) rfl T.g_v T.F_v.kp T.b_v (flies_cxOf.passes rfl) (zaa (zab 3) (zaa (zaA (zab 8) zaj (fun _ _=>rfl)) (zaa (zaA (zab 4) zaj (fun _ _=>rfl)) zag)))))))) (zah (zas (i:=4) sc_u.nd rfl (Or.inl rfl) (zab 8))
   (zal (zas (i:=5) sc_u.nd rfl (Or.inl rfl) (zaA (zab 7) zaj (fun _ _=>rfl))))) zaL)))))
   (zah (zas (i:=9) sc_u.nd rfl (Or.inl rfl) (zkx ze8 (zbp (zaa (zaT (zaa (zab 2) (zaa (zab 5) zag))) zag)) (zaA (zab 4) (zab 3) (fun _ _=>rfl))))
   (zal (zaC (zkp (zc6 (hr.cmp 8) (zab 3) zaj) (zaT (zaa (zaA (zab 4) zaj (fun _ _=>rfl)) (zaa (zab 9) (zaa (zab 6) zag)))) (zaT (zaa (zaA (zab 4) zaj (fun _ _=>rfl)) (zaa (zab 6) (zaa (zab 9) zag)))))))))))))),?_⟩
 exact zay (G:=Gx K) (E:=E) zqK ["self", "came", "deeds", "hand", "best", "deed", "answering", "step", "told", "choosing"] S rs Pf
theorem zcL(fu:Nat)(T:Txt K mg A):∀j:Nat,(FnOk P w K mg base (CXx P w) (8+j) A.f_u A.d_u ["self", "came", "deeds", "hand"] (spD K 4 (zaY fu j)))
 | 0=>zmC rfl
 | j+1=>by
  have h0:=zcL fu T j
  exact zfg fu T j h0
theorem zec(fu:Nat)(T:Txt K mg A):FnOk P w K mg base (CXx P w) (16) A.f_u A.d_u ["self", "came", "deeds", "hand"] (spD K 4 (d_u fu)):=(zcL fu T 8)
set_option maxHeartbeats 0 in
theorem zcY(fu:Nat)(T:Txt K mg A):FnOk P w K mg base (CXx P w) 1 A.f_h A.d_h ["self", "board", "most", "racing"] (spD K 4 (d_h fu)):=by
 refine T.F_h.okX (k:=0) zeY (fun vs H Q E h=>h.1) (fun cdv Ar outer s H vs Q E hr h=>?_)
 obtain⟨_,F,as,ws,ce,S,rs,Pf⟩:=h
 refine⟨toTS (Gx K) E _,(zah (ziH T.cls_End T.na_End_joined (zab 0) (zab 1))
   (zah (ziH T.cls_End T.na_End_most (zab 0) (zab 2))
   (zah (ziH T.cls_End T.na_End_racing (zab 0) (zab 3))
   (zal (ziH T.cls_End T.na_End_gone (zab 0) zaj))))),?_⟩
 exact zay (G:=Gx K) (E:=E) zqK ["self", "board", "most", "racing"] S rs Pf
set_option maxHeartbeats 0 in
theorem zhm(fu:Nat)(T:Txt K mg A):FnOk P w K mg base (CXx P w) 17 A.f_ea A.d_ea ["board", "stand", "hand", "deeds"] (spD K 4 (d_ea fu)):=by
 have G_u:=zec (P:=P) (w:=w) (base:=base) fu T
 have G_h:=zcY (P:=P) (w:=w) (base:=base) fu T
 refine T.F_ea.okX (k:=16) zk5 (fun vs H Q E h=>h.1) (fun cdv Ar outer s H vs Q E hr h=>?_)
 obtain⟨_,F,as,ws,ce,S,rs,Pf⟩:=h
 refine⟨toTS (Gx K) E _,(zal (zaC (zeU T.cls_End T.mt_u (zhT G_u) (hr.mono (by decide)) T.b_u (flies_cxOf.passes rfl) (zk2 T.mk_End G_h (hr.mono (by decide)) rfl T.gc_End T.b_h (flies_cxOf.passes rfl) (zaa (zab 0) (zaa (zab 3) (zaa (zaT zag) zag)))) (zaa (zbp (zaa (zab 1) zag)) (zaa (zaT zag) (zaa (zab 2) zag)))))),?_⟩
 exact zay (G:=Gx K) (E:=E) zbL ["board", "stand", "hand", "deeds"] S rs Pf
set_option maxHeartbeats 0 in
theorem zmK(fu:Nat)(T:Txt K mg A):FnOk P w K mg base (CXx P w) 17 A.f_ia A.d_ia ["board", "stand", "hand", "one", "other", "deeds"] (spD K 6 (d_ia fu)):=by
 have G_u:=zec (P:=P) (w:=w) (base:=base) fu T
 have G_h:=zcY (P:=P) (w:=w) (base:=base) fu T
 refine T.F_ia.okX (k:=16) zmF (fun vs H Q E h=>h.1) (fun cdv Ar outer s H vs Q E hr h=>?_)
 obtain⟨_,F,as,ws,ce,S,rs,Pf⟩:=h
 refine⟨toTS (Gx K) E _,(zal (zaC (zeU T.cls_End T.mt_u (zhT G_u) (hr.mono (by decide)) T.b_u (flies_cxOf.passes rfl) (zk2 T.mk_End G_h (hr.mono (by decide)) rfl T.gc_End T.b_h (flies_cxOf.passes rfl) (zaa (zab 0) (zaa (zab 5) (zaa (zaT (zaa (zab 3) (zaa (zab 4) zag))) zag)))) (zaa (zbp (zaa (zab 1) zag)) (zaa (zaT zag) (zaa (zab 2) zag)))))),?_⟩
 exact zay (G:=Gx K) (E:=E) zbL ["board", "stand", "hand", "one", "other", "deeds"] S rs Pf
set_option maxHeartbeats 0 in
theorem zb8(fu:Nat)(T:Txt K mg A):FnOk P w K mg base (CXx P w) 1 A.f_g A.d_g ["_law_script", "_law_k"] (spD K 2 (d_g fu)):=by
 refine T.F_g.okX (k:=0) zeZ (fun vs H Q E h=>h.1) (fun cdv Ar outer s H vs Q E hr h=>?_)
 obtain⟨_,F,as,ws,ce,S,rs,Pf⟩:=h
 refine⟨toTS (Gx K) E _,(zah (zbw (zoB (zab 1) (zaG (zcM rfl) (zcN K) rfl T.n_len PySem.boot_len (zaa (zab 0) zag))) (zal (zaC (zaA (zab 0) (zab 1) (fun _ _=>rfl)))) zaL)
   (zal (zaC (zbz (zbY (zbY zaj (zab 1)) (zab 1)) (zbY zaj (zab 1)))))),?_⟩
 exact zay (G:=Gx K) (E:=E) zbL ["_law_script", "_law_k"] S rs Pf
set_option maxHeartbeats 0 in
theorem zb9(fu:Nat)(T:Txt K mg A):FnOk P w K mg base (CXx P w) 1 A.f_w A.d_w ["_law_cell", "_law_k"] (spD K 2 (d_w fu)):=by
 refine T.F_w.okX (k:=0) sc_w (fun vs H Q E h=>h.1) (fun cdv Ar outer s H vs Q E hr h=>?_)
 obtain⟨_,F,as,ws,ce,S,rs,Pf⟩:=h
 refine⟨toTS (Gx K) E _,(zah (zas (i:=2) sc_w.nd rfl (Or.inl rfl) (zbo (zbY (zbz (zbo (zab 0) zaj) zaj) (zbz zaj (zbY (zbY zaj (zab 1)) (zab 1)))) zaj))
   (zal (zaC (zbo (zbz (zbY (zab 2) (zab 2)) (zbY zaj (zab 1))) zaj)))),?_⟩
 exact zay (G:=Gx K) (E:=E) zbL ["_law_cell", "_law_k", "_law_one"] S rs Pf
set_option maxHeartbeats 0 in
theorem zgh(fu:Nat)(T:Txt K mg A):FnOk P w K mg base (CXx P w) 2 A.f_o A.d_o ["_law_cell", "_law_most"] (spD K 2 (d_o fu)):=by
 have G_w:=zb9 (P:=P) (w:=w) (base:=base) fu T
 refine T.F_o.okX (k:=1) sc_o (fun vs H Q E h=>h.1) (fun cdv Ar outer s H vs Q E hr h=>?_)
 obtain⟨_,F,as,ws,ce,S,rs,Pf⟩:=h
 refine⟨toTS (Gx K) E _,(zah (zas (i:=2) sc_o.nd rfl (Or.inl rfl) (zbp (zaa (zaT (zaa zaj (zaa zaj zag))) (zaa (zaT (zaa zaj (zaa zaj zag))) (zaa (zaT (zaa zaj (zaa zaj zag))) (zaa (zaT (zaa zaj (zaa zaj zag))) (zaa (zaT (zaa zaj (zaa zaj zag))) (zaa (zaT (zaa zaj (zaa zaj zag))) (zaa (zaT (zaa zaj (zaa zaj zag))) (zaa (zaT (zaa zaj (zaa zaj zag))) (zaa (zaT (zaa zaj (zaa zaj zag))) (zaa (zaT (zaa zaj (zaa zaj zag))) (zaa (zaT (zaa zaj (zaa zaj zag))) (zaa (zaT (zaa zaj (zaa zaj zag))) zag))))))))))))))
   (zah (zeH (zaA (zab 2) (zbo (zao G_w (hr.mono (by decide)) rfl T.g_w T.F_w.kp T.b_w (flies_cxOf.passes rfl) (zaa (zab 0) (zaa zaj zag))) (zab 1)) (fun _ _=>rfl)) (zqG rfl (zim (zaS (i:=3) sc_o.nd rfl (Or.inl rfl)) (zim (zaS (i:=4) sc_o.nd rfl (Or.inl rfl)) zoM))))
   (zah (zji (k:=5) ze8 (zby (N:=["_law_cell", "_law_most", "_law_some", "_law_wide", "_law_high", "_law_joined", "_law_one", "_law_other", "_law_beside", "_law_drawn"]) (psc:=zai za5) (js:=[]) (N':=["_law_k"]) (by decide +kernel)) rfl rfl (zdV rfl T.n_range (zaa (zbY (zab 3) (zab 4)) zag)) (fun _ _ _ _=>zbF) (fun _ _ _ _=>(zcj zag)) sc_o.nd rfl rfl (by with_unfolding_all rfl))
   (zah (zbi PassesOwn.leaving rfl (zdV rfl T.n_range (zaa (zbY (zab 3) (zab 4)) zag)) (zaS (i:=6) sc_o.nd rfl (Or.inl rfl))
   (zal (zbi PassesOwn.leaving rfl (zdV rfl T.n_range (zaa (zab 6) zag)) (zaS (i:=7) sc_o.nd rfl (Or.inl rfl))
   (zah (zas (i:=8) sc_o.nd rfl (Or.inl rfl) (zqD (ziq (zdq (zab 6) (zab 7)) (zab 3)) (zik (zng (ziq (zdq (zab 6) (zab 7)) zaj) (zik (zqw (zbo (zab 6) (zab 3)) zaj))))))
   (zah (zas (i:=9) sc_o.nd rfl (Or.inl rfl) (ziq (zbo (zao G_w (hr.mono (by decide)) rfl T.g_w T.F_w.kp T.b_w (flies_cxOf.passes rfl) (zaa (zab 0) (zaa (zbz (zbz zaj (zbY zaj (zab 6))) (zab 7)) zag))) zaj) zaj))
   (zah (zbw (zeK (zbo (zao G_w (hr.mono (by decide)) rfl T.g_w T.F_w.kp T.b_w (flies_cxOf.passes rfl) (zaa (zab 0) (zaa zaj zag))) zaj) zaj) (zal (zas (i:=8) sc_o.nd rfl (Or.inl rfl) (zqD (zab 8) (zik (zab 9))))) zaL)
   (zah (zbw (zeK (zbo (zao G_w (hr.mono (by decide)) rfl T.g_w T.F_w.kp T.b_w (flies_cxOf.passes rfl) (zaa (zab 0) (zaa zaj zag))) zaj) zaj) (zal (zas (i:=8) sc_o.nd rfl (Or.inl rfl) (zng (zab 8) (zik (zqE (zab 9)))))) zaL)
   (zal (zbw (zfw (zab 8)) (zah (zbx (zdu PySem.F.slot_list_append PySem.F.type_list_append zbc zeJ (zaA (zab 5) (zab 6) (fun _ _=>rfl)) (zaa (zab 7) zag)))
   (zal (zbx (zdu PySem.F.slot_list_append PySem.F.type_list_append zbc zeJ (zaA (zab 5) (zab 7) (fun _ _=>rfl)) (zaa (zab 6) zag))))) zaL)))))))))
   (zal (zaC (zaX (zcP K) (zb1 K) rfl T.n_tuple PyProof.Rows.boot_tuple (zaa (zeh ze8 (zby (N:=["_law_cell", "_law_most", "_law_some", "_law_wide", "_law_high", "_law_joined", "_law_one", "_law_other", "_law_beside", "_law_drawn"]) (psc:=zai za5) (js:=[]) (N':=["_law_row"]) (by decide +kernel)) rfl rfl (zgU (zab 5)) (fun _ _ _ _=>zbF) (fun _ _ _ _=>(zaX (zcP K) (zb1 K) rfl T.n_tuple PyProof.Rows.boot_tuple (zaa (zaG (zjk rfl rfl) (zjl K ze8) rfl T.n_sorted PyProof.Rows.boot_sorted (zaa (zab 0) zag)) zag)))) zag)))))))),?_⟩
 exact zay (G:=Gx K) (E:=E) zbL ["_law_cell", "_law_most", "_law_some", "_law_wide", "_law_high", "_law_joined", "_law_one", "_law_other", "_law_beside", "_law_drawn"] S rs Pf
set_option maxHeartbeats 0 in
theorem zgi(fu:Nat)(T:Txt K mg A):FnOk P w K mg base (CXx P w) 3 A.f_j A.d_j ["_law_script"] (spD K 1 (d_j fu)):=by
 have G_g:=zb8 (P:=P) (w:=w) (base:=base) fu T
 have G_o:=zgh (P:=P) (w:=w) (base:=base) fu T
 have G_w:=zb9 (P:=P) (w:=w) (base:=base) fu T
 refine T.F_j.okX (k:=2) sc_j (fun vs H Q E h=>h.1) (fun cdv Ar outer s H vs Q E hr h=>?_)
 obtain⟨_,F,as,ws,ce,S,rs,Pf⟩:=h
 refine⟨toTS (Gx K) E _,(zah (zas (i:=1) sc_j.nd rfl (Or.inl rfl) (zao G_g (hr.mono (by decide)) rfl T.g_g T.F_g.kp T.b_g (flies_cxOf.passes rfl) (zaa (zab 0) (zaa zaj zag))))
   (zah (zbw (zoC (zbo (zao G_w (hr.mono (by decide)) rfl T.g_w T.F_w.kp T.b_w (flies_cxOf.passes rfl) (zaa (zab 1) (zaa zaj zag))) zaj) zaj) (zal (zaC (zao G_o (hr.mono (by decide)) rfl T.g_o T.F_o.kp T.b_o (flies_cxOf.passes rfl) (zaa (zab 1) (zaa zaj zag))))) zaL)
   (zah (zas (i:=2) sc_j.nd rfl (Or.inl rfl) (zbz zaj (zbo (zao G_w (hr.mono (by decide)) rfl T.g_w T.F_w.kp T.b_w (flies_cxOf.passes rfl) (zaa (zab 1) (zaa zaj zag))) zaj)))
   (zah (zji (k:=3) ze8 (zby (N:=["_law_script", "_law_cell", "_law_many", "_law_joined", "_law_one", "_law_other"]) (psc:=zai za6) (js:=[]) (N':=["_law_k"]) (by decide +kernel)) rfl rfl (zdV rfl T.n_range (zaa (zab 2) zag)) (fun _ _ _ _=>zbF) (fun _ _ _ _=>(zcj zag)) sc_j.nd rfl rfl (by with_unfolding_all rfl))
   (zah (zbi PassesOwn.leaving rfl (zdV rfl T.n_range (zaa (zab 2) zag)) (zaS (i:=4) sc_j.nd rfl (Or.inl rfl))
   (zal (zbi PassesOwn.leaving rfl (zdV rfl T.n_range (zaa (zab 4) zag)) (zaS (i:=5) sc_j.nd rfl (Or.inl rfl))
   (zal (zbw (zoC (zbo (zao G_w (hr.mono (by decide)) rfl T.g_w T.F_w.kp T.b_w (flies_cxOf.passes rfl) (zaa (zab 1) (zaa (zbz (zbz zaj (zbY zaj (zab 4))) (zab 5)) zag))) zaj) zaj) (zah (zbx (zdu PySem.F.slot_list_append PySem.F.type_list_append zbc zeJ (zaA (zab 3) (zab 4) (fun _ _=>rfl)) (zaa (zab 5) zag)))
   (zal (zbx (zdu PySem.F.slot_list_append PySem.F.type_list_append zbc zeJ (zaA (zab 3) (zab 5) (fun _ _=>rfl)) (zaa (zab 4) zag))))) zaL)))))
   (zal (zaC (zaX (zcP K) (zb1 K) rfl T.n_tuple PyProof.Rows.boot_tuple (zaa (zeh ze8 (zby (N:=["_law_script", "_law_cell", "_law_many", "_law_joined", "_law_one", "_law_other"]) (psc:=zai za6) (js:=[]) (N':=["_law_row"]) (by decide +kernel)) rfl rfl (zgU (zab 3)) (fun _ _ _ _=>zbF) (fun _ _ _ _=>(zaX (zcP K) (zb1 K) rfl T.n_tuple PyProof.Rows.boot_tuple (zaa (zaG (zjk rfl rfl) (zjl K ze8) rfl T.n_sorted PyProof.Rows.boot_sorted (zaa (zab 0) zag)) zag)))) zag))))))))),?_⟩
 exact zay (G:=Gx K) (E:=E) zbL ["_law_script", "_law_cell", "_law_many", "_law_joined", "_law_one", "_law_other"] S rs Pf
set_option maxHeartbeats 0 in
theorem zgj(fu:Nat)(T:Txt K mg A):FnOk P w K mg base (CXx P w) 1 A.f_q A.d_q ["_law_board_here", "_law_stand_here", "_law_point"] (spD K 3 (d_q fu)):=by
 refine T.F_q.okX (k:=0) sc_q (fun vs H Q E h=>h.1) (fun cdv Ar outer s H vs Q E hr h=>?_)
 obtain⟨_,F,as,ws,ce,S,rs,Pf⟩:=h
 refine⟨toTS (Gx K) E _,(zah (zas (i:=3) sc_q.nd rfl (Or.inl rfl) (zcj (zaa (zab 2) zag)))
   (zah (zas (i:=4) sc_q.nd rfl (Or.inl rfl) zaj)
   (zah (zio fu PassesOwn.leaving (zoB (zab 4) (zaG (zcM rfl) (zcN K) rfl T.n_len PySem.boot_len (zaa (zab 3) zag))) (zah (zbi PassesOwn.leaving rfl (zlB (zaA (zab 0) (zaA (zab 3) (zab 4) (fun _ _=>rfl)) (fun _ _=>rfl))) (zaS (i:=5) sc_q.nd rfl (Or.inl rfl))
   (zal (zbw (PW.pt (zgS (zeK (zaA (zab 1) (zab 5) (fun _ _=>rfl)) (zaA (zab 1) (zab 2) (fun _ _=>rfl))) (zeG (zfT (hr.cmp 9) (zab 5) (zab 3) (by with_unfolding_all rfl))))) (zal (zbx (zdu PySem.F.slot_list_append PySem.F.type_list_append zbc zeJ (zab 3) (zaa (zab 5) zag)))) zaL)))
   (zal (zas (i:=4) sc_q.nd rfl (Or.inl rfl) (zbz (zab 4) zaj)))))
   (zal (zaC (zab 3)))))),?_⟩
 exact zay (G:=Gx K) (E:=E) zei ["_law_board_here", "_law_stand_here", "_law_point", "_law_found", "_law_at", "_law_other"] S rs Pf
set_option maxHeartbeats 0 in
theorem ze1(fu:Nat)(T:Txt K mg A):FnOk P w K mg base (CXx P w) 1 A.f_i A.d_i ["_law_board_here", "_law_stand_here", "_law_row"] (spD K 3 (d_i fu)):=by
 refine T.F_i.okX (k:=0) sc_i (fun vs H Q E h=>h.1) (fun cdv Ar outer s H vs Q E hr h=>?_)
 obtain⟨_,F,as,ws,ce,S,rs,Pf⟩:=h
 refine⟨toTS (Gx K) E _,(zah (zas (i:=3) sc_i.nd rfl (Or.inl rfl) (zcj zag))
   (zah (zbi PassesOwn.leaving rfl (zgU (zab 2)) (zaS (i:=4) sc_i.nd rfl (Or.inl rfl))
   (zal (zbi PassesOwn.leaving rfl (zlB (zaA (zab 0) (zab 4) (fun _ _=>rfl))) (zaS (i:=5) sc_i.nd rfl (Or.inl rfl))
   (zal (zbw (PW.pt (zgS (zeK (zaA (zab 1) (zab 5) (fun _ _=>rfl)) zaj) (zeG (zfT (hr.cmp 9) (zab 5) (zab 3) (by with_unfolding_all rfl))))) (zal (zbx (zdu PySem.F.slot_list_append PySem.F.type_list_append zbc zeJ (zab 3) (zaa (zab 5) zag)))) zaL)))))
   (zal (zaC (zab 3))))),?_⟩
 exact zay (G:=Gx K) (E:=E) zei ["_law_board_here", "_law_stand_here", "_law_row", "_law_found", "_law_point", "_law_other"] S rs Pf
set_option maxHeartbeats 0 in
theorem zhn(fu:Nat)(T:Txt K mg A):FnOk P w K mg base (CXx P w) 2 A.f_r A.d_r ["_law_board_here", "_law_stand_here", "_law_hand", "_law_point"] (spD K 4 (d_r fu)):=by
 have G_i:=ze1 (P:=P) (w:=w) (base:=base) fu T
 have G_q:=zgj (P:=P) (w:=w) (base:=base) fu T
 refine T.F_r.okX (k:=1) sc_r (fun vs H Q E h=>h.1) (fun cdv Ar outer s H vs Q E hr h=>?_)
 obtain⟨_,F,as,ws,ce,S,rs,Pf⟩:=h
 refine⟨toTS (Gx K) E _,(zah (zbw (znp (zaA (zab 1) (zab 3) (fun _ _=>rfl)) zaj) (zal (zaC zcp)) zaL)
   (zah (zas (i:=4) sc_r.nd rfl (Or.inl rfl) (zaX (znm rfl rfl) (znn K zkw) rfl T.n_list PyProof.Rows.boot_list (zaa (zab 1) zag)))
   (zah (zeH (zab 2) (zdU (E:=E0) (zab 4) (zab 3)))
   (zah (zas (i:=5) sc_r.nd rfl (Or.inl rfl) (zbp zag))
   (zah (zbi PassesOwn.leaving rfl (zlB (zaA (zab 0) (zab 3) (fun _ _=>rfl))) (zaS (i:=6) sc_r.nd rfl (Or.inl rfl))
   (zal (zbw (zeK (zaA (zab 4) (zab 6) (fun _ _=>rfl)) (zdq zaj (zab 2))) (zah (zas (i:=7) sc_r.nd rfl (Or.inl rfl) (zao (zbJ G_q) (hr.mono (by decide)) rfl T.g_q T.F_q.kp T.b_q (flies_cxOf.passes rfl) (zaa (zab 0) (zaa (zab 4) (zaa (zab 6) zag)))))
   (zal (zbw (zc6 (hr.cmp 8) (zao (zbJ G_i) (hr.mono (by decide)) rfl T.g_i T.F_i.kp T.b_i (flies_cxOf.passes rfl) (zaa (zab 0) (zaa (zab 4) (zaa (zab 7) zag)))) (zbp zag)) (zal (zas (i:=5) sc_r.nd rfl (Or.inl rfl) (zkx ze8 (zab 5) (zab 7)))) zaL))) zaL)))
   (zah (zbi PassesOwn.leaving rfl (zgU (zab 5)) (zaS (i:=6) sc_r.nd rfl (Or.inl rfl))
   (zal (zeH zaj (zdU (E:=E0) (zab 4) (zab 6)))))
   (zah (zbw (zc6 (hr.cmp 8) (zao (zbJ G_i) (hr.mono (by decide)) rfl T.g_i T.F_i.kp T.b_i (flies_cxOf.passes rfl) (zaa (zab 0) (zaa (zab 4) (zaa (zao (zbJ G_q) (hr.mono (by decide)) rfl T.g_q T.F_q.kp T.b_q (flies_cxOf.passes rfl) (zaa (zab 0) (zaa (zab 4) (zaa (zab 3) zag)))) zag)))) (zbp zag)) (zal (zaC zcp)) zaL)
   (zal (zaC (zaX (zcP K) (zb1 K) rfl T.n_tuple PyProof.Rows.boot_tuple (zaa (zab 4) zag))))))))))),?_⟩
 exact zay (G:=Gx K) (E:=E) zbL ["_law_board_here", "_law_stand_here", "_law_hand", "_law_point", "_law_there", "_law_taken", "_law_other", "_law_row"] S rs Pf
set_option maxHeartbeats 0 in
theorem zgk(fu:Nat)(T:Txt K mg A):FnOk P w K mg base (CXx P w) 3 A.f_m A.d_m ["_law_script", "_law_at", "_law_board_here"] (spD K 3 (d_m fu)):=by
 have G_g:=zb8 (P:=P) (w:=w) (base:=base) fu T
 have G_r:=zhn (P:=P) (w:=w) (base:=base) fu T
 have G_w:=zb9 (P:=P) (w:=w) (base:=base) fu T
 refine T.F_m.okX (k:=2) sc_m (fun vs H Q E h=>h.1) (fun cdv Ar outer s H vs Q E hr h=>?_)
 obtain⟨_,F,as,ws,ce,S,rs,Pf⟩:=h
 refine⟨toTS (Gx K) E _,(zah (zas (i:=3) sc_m.nd rfl (Or.inl rfl) (zaX (zcP K) (zb1 K) rfl T.n_tuple PyProof.Rows.boot_tuple (zaa (zeh ze8 (zby (N:=["_law_script", "_law_at", "_law_board_here", "_law_stand_here", "_law_k", "_law_cell", "_law_found"]) (psc:=zai zbg) (js:=[]) (N':=["_law_point"]) (by decide +kernel)) rfl rfl (zlB (zab 2)) (fun _ _ _ _=>zbF) (fun _ _ _ _=>zaj)) zag)))
   (zah (zbi PassesOwn.leaving rfl (zdV rfl T.n_range (zaa (zbo (zao G_w (hr.mono (by decide)) rfl T.g_w T.F_w.kp T.b_w (flies_cxOf.passes rfl) (zaa (zao G_g (hr.mono (by decide)) rfl T.g_g T.F_g.kp T.b_g (flies_cxOf.passes rfl) (zaa (zab 0) (zaa (zab 1) zag))) (zaa zaj zag))) (zbz (zbY zaj (zaG (zcM rfl) (zcN K) rfl T.n_len PySem.boot_len (zaa (zab 2) zag))) zaj)) zag)) (zaS (i:=4) sc_m.nd rfl (Or.inl rfl))
   (zah (zas (i:=5) sc_m.nd rfl (Or.inl rfl) (zao G_g (hr.mono (by decide)) rfl T.g_g T.F_g.kp T.b_g (flies_cxOf.passes rfl) (zaa (zab 0) (zaa (zbz (zbz (zab 1) zaj) (zab 4)) zag))))
   (zah (zas (i:=6) sc_m.nd rfl (Or.inl rfl) (zao G_r (hr.mono (by decide)) rfl T.g_r T.F_r.kp T.b_r (flies_cxOf.passes rfl) (zaa (zab 2) (zaa (zab 3) (zaa (zbz zaj (zbo (zao G_w (hr.mono (by decide)) rfl T.g_w T.F_w.kp T.b_w (flies_cxOf.passes rfl) (zaa (zab 5) (zaa (zbz zaj (zab 4)) zag))) zaj)) (zaa (zbo (zao G_w (hr.mono (by decide)) rfl T.g_w T.F_w.kp T.b_w (flies_cxOf.passes rfl) (zaa (zab 5) (zaa zaj zag))) (zaG (zcM rfl) (zcN K) rfl T.n_len PySem.boot_len (zaa (zab 2) zag))) zag))))))
   (zal (zbw (zoD (zab 6)) (zal (zas (i:=3) sc_m.nd rfl (Or.inl rfl) (zab 6))) zaL)))))
   (zal (zaC (zab 3))))),?_⟩
 exact zay (G:=Gx K) (E:=E) zbL ["_law_script", "_law_at", "_law_board_here", "_law_stand_here", "_law_k", "_law_cell", "_law_found"] S rs Pf
set_option maxHeartbeats 0 in
theorem zgl(fu:Nat)(T:Txt K mg A):FnOk P w K mg base (CXx P w) 2 A.f_p A.d_p ["_law_cell", "_law_many"] (spD K 2 (d_p fu)):=by
 have G_w:=zb9 (P:=P) (w:=w) (base:=base) fu T
 refine T.F_p.okX (k:=1) sc_p (fun vs H Q E h=>h.1) (fun cdv Ar outer s H vs Q E hr h=>?_)
 obtain⟨_,F,as,ws,ce,S,rs,Pf⟩:=h
 refine⟨toTS (Gx K) E _,(zah (zas (i:=2) sc_p.nd rfl (Or.inl rfl) (zkB zkw rfl rfl T.n_list rfl T.n_range (zaa (zab 1) zag)))
   (zah (zas (i:=3) sc_p.nd rfl (Or.inl rfl) (zcj zag))
   (zah (zbi PassesOwn.leaving rfl (zdV rfl T.n_range (zaa (zab 1) zag)) (zaS (i:=4) sc_p.nd rfl (Or.inl rfl))
   (zal (zbx (zdu PySem.F.slot_list_append PySem.F.type_list_append zbc zeJ (zab 3) (zaa (zdu PySem.F.slot_list_pop PySem.F.type_list_pop zlV zry (zab 2) (zaa (zbo (zao G_w (hr.mono (by decide)) rfl T.g_w T.F_w.kp T.b_w (flies_cxOf.passes rfl) (zaa (zab 0) (zaa (zbz zaj (zab 4)) zag))) (zaG (zcM rfl) (zcN K) rfl T.n_len PySem.boot_len (zaa (zab 2) zag))) zag)) zag)))))
   (zal (zaC (zab 3)))))),?_⟩
 exact zay (G:=Gx K) (E:=E) zei ["_law_cell", "_law_many", "_law_left", "_law_found", "_law_k"] S rs Pf
set_option maxHeartbeats 0 in
theorem zdk(fu:Nat)(T:Txt K mg A):FnOk P w K mg base (CXx P w) 1 A.f_a A.d_a ["_law_board_here", "_law_order_here"] (spD K 2 (d_a fu)):=by
 refine T.F_a.okX (k:=0) sc_a (fun vs H Q E h=>h.1) (fun cdv Ar outer s H vs Q E hr h=>?_)
 obtain⟨_,F,as,ws,ce,S,rs,Pf⟩:=h
 refine⟨toTS (Gx K) E _,(zah (zas (i:=2) sc_a.nd rfl (Or.inl rfl) (zkE zkw (zaa (zaT zag) zag) (zaG (zcM rfl) (zcN K) rfl T.n_len PySem.boot_len (zaa (zab 0) zag))))
   (zah (zbi PassesOwn.leaving rfl (zdV rfl T.n_range (zaa (zaG (zcM rfl) (zcN K) rfl T.n_len PySem.boot_len (zaa (zab 0) zag)) zag)) (zaS (i:=3) sc_a.nd rfl (Or.inl rfl))
   (zal (zeH (zaX (zcP K) (zb1 K) rfl T.n_tuple PyProof.Rows.boot_tuple (zaa (zaG (zjk rfl rfl) (zjl K ze8) rfl T.n_sorted PyProof.Rows.boot_sorted (zaa (zeh ze8 (zby (N:=["_law_board_here", "_law_order_here", "_law_found", "_law_point"]) (psc:=zai zaN) (js:=[1]) (N':=["_law_other", "_law_order_here"]) (by decide +kernel)) rfl rfl (zlB (zaA (zab 0) (zab 3) (fun _ _=>rfl))) (fun _ _ _ _=>zbF) (fun _ _ _ _=>(zaA (zab 1) (zab 0) (fun _ _=>rfl)))) zag)) zag)) (zdU (E:=E0) (zab 2) (zaA (zab 1) (zab 3) (fun _ _=>rfl))))))
   (zal (zaC (zaX (zcP K) (zb1 K) rfl T.n_tuple PyProof.Rows.boot_tuple (zaa (zab 2) zag)))))),?_⟩
 exact zay (G:=Gx K) (E:=E) zbL ["_law_board_here", "_law_order_here", "_law_found", "_law_point"] S rs Pf
set_option maxHeartbeats 0 in
theorem zdl(fu:Nat)(T:Txt K mg A):FnOk P w K mg base (CXx P w) 1 A.f_b A.d_b ["_law_stand_here", "_law_order_here", "_law_turned"] (spD K 3 (d_b fu)):=by
 refine T.F_b.okX (k:=0) sc_b (fun vs H Q E h=>h.1) (fun cdv Ar outer s H vs Q E hr h=>?_)
 obtain⟨_,F,as,ws,ce,S,rs,Pf⟩:=h
 refine⟨toTS (Gx K) E _,(zah (zas (i:=3) sc_b.nd rfl (Or.inl rfl) (zkE zkw (zaa zaj zag) (zaG (zcM rfl) (zcN K) rfl T.n_len PySem.boot_len (zaa (zab 0) zag))))
   (zah (zbi PassesOwn.leaving rfl (zdV rfl T.n_range (zaa (zaG (zcM rfl) (zcN K) rfl T.n_len PySem.boot_len (zaa (zab 0) zag)) zag)) (zaS (i:=4) sc_b.nd rfl (Or.inl rfl))
   (zah (zeH (zaA (zab 0) (zab 4) (fun _ _=>rfl)) (zdU (E:=E0) (zab 3) (zaA (zab 1) (zab 4) (fun _ _=>rfl))))
   (zal (zbw (PW.pt (zgS (zfw (zab 2)) (zeG (znp (zaA (zab 0) (zab 4) (fun _ _=>rfl)) zaj)))) (zal (zeH (zdq zaj (zaA (zab 0) (zab 4) (fun _ _=>rfl))) (zdU (E:=E0) (zab 3) (zaA (zab 1) (zab 4) (fun _ _=>rfl))))) zaL))))
   (zal (zaC (zaX (zcP K) (zb1 K) rfl T.n_tuple PyProof.Rows.boot_tuple (zaa (zab 3) zag)))))),?_⟩
 exact zay (G:=Gx K) (E:=E) zbL ["_law_stand_here", "_law_order_here", "_law_turned", "_law_found", "_law_point"] S rs Pf
set_option maxHeartbeats 0 in
theorem zgm(fu:Nat)(T:Txt K mg A):FnOk P w K mg base (CXx P w) 18 A.f_l A.d_l ["_law_board_here", "_law_stones", "_law_stand_here", "_law_hand", "_law_deeds"] (spD K 5 (d_l fu)):=by
 have G_ea:=zhm (P:=P) (w:=w) (base:=base) fu T
 have G_ia:=zmK (P:=P) (w:=w) (base:=base) fu T
 refine T.F_l.okX (k:=17) sc_l (fun vs H Q E h=>h.1) (fun cdv Ar outer s H vs Q E hr h=>?_)
 obtain⟨_,F,as,ws,ce,S,rs,Pf⟩:=h
 refine⟨toTS (Gx K) E _,(zah (zas (i:=5) sc_l.nd rfl (Or.inl rfl) (zbp (zaa zaj (zaa zcp (zaa zcp zag)))))
   (zah (zpe rfl rfl rfl (ztu (znf (zab 1)) (znK (i:=5) rfl sc_l.nd rfl (Or.inl rfl) G_ea (hr.mono (by decide)) rfl T.g_ea T.F_ea.kp T.b_ea (zaa (zab 0) (zaa (zab 2) (zaa (zab 3) (zaa (zab 4) zag))))) (znK (i:=5) rfl sc_l.nd rfl (Or.inl rfl) G_ia (hr.mono (by decide)) rfl T.g_ia T.F_ia.kp T.b_ia (zaa (zab 0) (zaa (zab 2) (zaa (zab 3) (zaa (zaA (zab 1) zaj (fun _ _=>rfl)) (zaa (zaA (zab 1) zaj (fun _ _=>rfl)) (zaa (zab 4) zag)))))))) (zrv (fl:=true) rfl T.xt rfl rfl (fun _=>(zal (zas (i:=5) sc_l.nd rfl (Or.inl rfl) (zbp (zaa znb (zaa zcp (zaa zcp zag)))))))))
   (zal (zaC (zaA (zab 5) zaj (fun _ _=>rfl)))))),?_⟩
 exact zay (G:=Gx K) (E:=E) zbL ["_law_board_here", "_law_stones", "_law_stand_here", "_law_hand", "_law_deeds", "_law_found"] S rs Pf
set_option maxHeartbeats 0 in
theorem zem(fu:Nat)(T:Txt K mg A):FnOk P w K mg base (CXx P w) 1 A.f_d A.d_d ["_law_worth", "_law_turned"] (spD K 2 (d_d fu)):=by
 refine T.F_d.okX (k:=0) zek (fun vs H Q E h=>h.1) (fun cdv Ar outer s H vs Q E hr h=>?_)
 obtain⟨_,F,as,ws,ce,S,rs,Pf⟩:=h
 refine⟨toTS (Gx K) E _,(zah (zbw (PW.pt (zkn (zc6 (hr.cmp 8) (zab 0) znb) (zgR (zko (zfw (zab 1)))))) (zal (zaC (zab 0))) zaL)
   (zal (zaC (zeF (zab 0))))),?_⟩
 exact zay (G:=Gx K) (E:=E) zbL ["_law_worth", "_law_turned"] S rs Pf
set_option maxHeartbeats 0 in
theorem zrF(fu:Nat)(T:Txt K mg A):FnOk P w K mg base (CXx P w) 19 A.f_law A.d_law ["_law_script"] (spD K 1 (d_law fu)):=by
 have G_j:=zgi (P:=P) (w:=w) (base:=base) fu T
 have G_m:=zgk (P:=P) (w:=w) (base:=base) fu T
 have G_g:=zb8 (P:=P) (w:=w) (base:=base) fu T
 have G_p:=zgl (P:=P) (w:=w) (base:=base) fu T
 have G_a:=zdk (P:=P) (w:=w) (base:=base) fu T
 have G_b:=zdl (P:=P) (w:=w) (base:=base) fu T
 have G_l:=zgm (P:=P) (w:=w) (base:=base) fu T
 have G_w:=zb9 (P:=P) (w:=w) (base:=base) fu T
 have G_d:=zem (P:=P) (w:=w) (base:=base) fu T
 have G_ea:=zhm (P:=P) (w:=w) (base:=base) fu T
 refine T.F_law.okX (k:=18) sc_law (fun vs H Q E h=>h.1) (fun cdv Ar outer s H vs Q E hr h=>?_)
 obtain⟨_,F,as,ws,ce,S,rs,Pf⟩:=h
 refine⟨toTS (Gx K) E _,(zah (zas (i:=1) sc_law.nd rfl (Or.inl rfl) (zao G_j (hr.mono (by decide)) rfl T.g_j T.F_j.kp T.b_j (flies_cxOf.passes rfl) (zaa (zab 0) zag)))
   (zah (zas (i:=2) sc_law.nd rfl (Or.inr rfl) (zao G_m (hr.mono (by decide)) rfl T.g_m T.F_m.kp T.b_m (flies_cxOf.passes rfl) (zaa (zab 0) (zaa zaj (zaa (zab 1) zag)))))
   (zah (zas (i:=3) sc_law.nd rfl (Or.inl rfl) (zao G_g (hr.mono (by decide)) rfl T.g_g T.F_g.kp T.b_g (flies_cxOf.passes rfl) (zaa (zab 0) (zaa zaj zag))))
   (zah (zas (i:=4) sc_law.nd rfl (Or.inl rfl) (zbz zaj (zbo (zao G_w (hr.mono (by decide)) rfl T.g_w T.F_w.kp T.b_w (flies_cxOf.passes rfl) (zaa (zab 3) (zaa zaj zag))) zaj)))
   (zah (zas (i:=5) sc_law.nd rfl (Or.inl rfl) (zao (zbJ G_p) (hr.mono (by decide)) rfl T.g_p T.F_p.kp T.b_p (flies_cxOf.passes rfl) (zaa (zab 3) (zaa (zaG (zcM rfl) (zcN K) rfl T.n_len PySem.boot_len (zaa (zab 1) zag)) zag))))
   (zah (zas (i:=6) sc_law.nd rfl (Or.inl rfl) (ziq (zbo (zao G_w (hr.mono (by decide)) rfl T.g_w T.F_w.kp T.b_w (flies_cxOf.passes rfl) (zaa (zab 3) (zaa zaj zag))) zaj) zaj))
   (zah (zas (i:=7) sc_law.nd rfl (Or.inl rfl) (zbo (zao G_w (hr.mono (by decide)) rfl T.g_w T.F_w.kp T.b_w (flies_cxOf.passes rfl) (zaa (zab 3) (zaa zaj zag))) zaj))
   (zah (zas (i:=8) sc_law.nd rfl (Or.inl rfl) (zao G_a (hr.mono (by decide)) rfl T.g_a T.F_a.kp T.b_a (flies_cxOf.passes rfl) (zaa (zab 1) (zaa (zab 5) zag))))
   (zah (zas (i:=9) sc_law.nd rfl (Or.inl rfl) (zao G_b (hr.mono (by decide)) rfl T.g_b T.F_b.kp T.b_b (flies_cxOf.passes rfl) (zaa (zab 2) (zaa (zab 5) (zaa (zab 6) zag)))))
   (zah (zas (i:=10) sc_law.nd rfl (Or.inl rfl) (zaT (zaa (zab 1) (zaa (zab 2) (zaa (zab 8) (zaa (zab 9) zag))))))
   (zah (zas (i:=11) sc_law.nd rfl (Or.inl rfl) (zaA (zbp (zaa (zab 4) (zaa (zdq zaj (zab 4)) zag))) (zaX zjS ztp rfl T.n_int PyProof.Rows.boot_int (zaa (zab 6) zag)) (fun _ _=>rfl)))
   (zah (zas (i:=12) sc_law.nd rfl (Or.inl rfl) (zao G_l (hr.mono (by decide)) rfl T.g_l T.F_l.kp T.b_l (flies_cxOf.passes rfl) (zaa (zab 1) (zaa zcp (zaa (zab 2) (zaa (zab 4) (zaa (zab 7) zag)))))))
   (zah (zbw (zl6 (hr.cmp 8) (zao G_l (hr.mono (by decide)) rfl T.g_l T.F_l.kp T.b_l (flies_cxOf.passes rfl) (zaa (zab 8) (zaa zcp (zaa (zab 9) (zaa (zab 11) (zaa (zab 7) zag)))))) (zao G_d (hr.mono (by decide)) rfl T.g_d T.F_d.kp T.b_d (flies_cxOf.passes rfl) (zaa (zab 12) (zaa (zab 6) zag)))) (zal (zaC zgO)) zaL)
   (zah (zas (i:=13) sc_law.nd rfl (Or.inl rfl) (zdq (zaA (zao G_ea (hr.mono (by decide)) rfl T.g_ea T.F_ea.kp T.b_ea (flies_cxOf.passes rfl) (zaa (zab 1) (zaa (zab 2) (zaa (zab 4) (zaa zaj zag))))) zaj (fun _ _=>rfl)) (zaA (zao G_ea (hr.mono (by decide)) rfl T.g_ea T.F_ea.kp T.b_ea (flies_cxOf.passes rfl) (zaa (zab 1) (zaa (zab 2) (zaa (zab 4) (zaa zaj zag))))) zaj (fun _ _=>rfl))))
   (zah (zbw (PW.pt (zkn (zoB (zbY (zab 13) (zdq zaj (zbY zaj (zab 4)))) zaj) (zgR (zl6 (hr.cmp 8) (zab 10) (zaT (zaa (zab 1) (zaa (zab 2) (zaa (zab 8) (zaa (zab 9) zag))))))))) (zal (zaC zgO)) zaL)
   (zah (zji (k:=14) ze8 (zby (N:=["_law_script", "_law_board_here", "_law_stand_here", "_law_cell", "_law_hand", "_law_order_here", "_law_turned", "_law_deeds", "_law_other", "_law_beyond", "_law_kept", "_law_later", "_law_worth", "_law_gain", "_law_ones", "_law_others", "_law_stones", "_law_named", "_law_found"]) (psc:=zai zhh) (js:=[2]) (N':=["_law_point", "_law_stand_here"]) (by decide +kernel)) rfl rfl (zdV rfl T.n_range (zaa (zaG (zcM rfl) (zcN K) rfl T.n_len PySem.boot_len (zaa (zab 1) zag)) zag)) (fun _ _ _ _=>(zcd (zeK (zaA (zab 1) (zab 0) (fun _ _=>rfl)) zaj))) (fun _ _ _ _=>(zab 0)) sc_law.nd rfl rfl (by with_unfolding_all rfl))
   (zah (zji (k:=15) ze8 (zby (N:=["_law_script", "_law_board_here", "_law_stand_here", "_law_cell", "_law_hand", "_law_order_here", "_law_turned", "_law_deeds", "_law_other", "_law_beyond", "_law_kept", "_law_later", "_law_worth", "_law_gain", "_law_ones", "_law_others", "_law_stones", "_law_named", "_law_found"]) (psc:=zai zhh) (js:=[2]) (N':=["_law_point", "_law_stand_here"]) (by decide +kernel)) rfl rfl (zdV rfl T.n_range (zaa (zaG (zcM rfl) (zcN K) rfl T.n_len PySem.boot_len (zaa (zab 1) zag)) zag)) (fun _ _ _ _=>(zcd (zeK (zaA (zab 1) (zab 0) (fun _ _=>rfl)) zaj))) (fun _ _ _ _=>(zab 0)) sc_law.nd rfl rfl (by with_unfolding_all rfl))
   (zah (zbw (PW.pt (zkn (zc6 (hr.cmp 8) (zab 14) (zbp zag)) (zgR (zc6 (hr.cmp 8) (zab 15) (zbp zag))))) (zal (zaC zgO)) zaL)
   (zah (zas (i:=16) sc_law.nd rfl (Or.inl rfl) (zbp (zaa (zaA (zab 14) (zbo (zao G_w (hr.mono (by decide)) rfl T.g_w T.F_w.kp T.b_w (flies_cxOf.passes rfl) (zaa (zab 3) (zaa zaj zag))) (zaG (zcM rfl) (zcN K) rfl T.n_len PySem.boot_len (zaa (zab 14) zag))) (fun _ _=>rfl)) (zaa (zaA (zab 15) (zbo (zao G_w (hr.mono (by decide)) rfl T.g_w T.F_w.kp T.b_w (flies_cxOf.passes rfl) (zaa (zab 3) (zaa zaj zag))) (zaG (zcM rfl) (zcN K) rfl T.n_len PySem.boot_len (zaa (zab 15) zag))) (fun _ _=>rfl)) zag))))
   (zah (zas (i:=17) sc_law.nd rfl (Or.inl rfl) (zbp (zaa (zaA (zab 5) (zaA (zab 16) zaj (fun _ _=>rfl)) (fun _ _=>rfl)) (zaa (zaA (zab 5) (zaA (zab 16) zaj (fun _ _=>rfl)) (fun _ _=>rfl)) zag))))
   (zah (zbw (zfw (zab 6)) (zal (zas (i:=17) sc_law.nd rfl (Or.inl rfl) (zbp (zaa (zaA (zab 17) zaj (fun _ _=>rfl)) (zaa (zaA (zab 17) zaj (fun _ _=>rfl)) zag))))) zaL)
   (zah (zas (i:=18) sc_law.nd rfl (Or.inl rfl) (zao G_l (hr.mono (by decide)) rfl T.g_l T.F_l.kp T.b_l (flies_cxOf.passes rfl) (zaa (zab 1) (zaa (zab 16) (zaa (zab 2) (zaa (zab 4) (zaa (zab 7) zag)))))))
   (zal (zaC (zqB (hr.cmp 8) (zao G_l (hr.mono (by decide)) rfl T.g_l T.F_l.kp T.b_l (flies_cxOf.passes rfl) (zaa (zab 8) (zaa (zab 17) (zaa (zab 9) (zaa (zab 11) (zaa (zab 7) zag)))))) (zao G_d (hr.mono (by decide)) rfl T.g_d T.F_d.kp T.b_d (flies_cxOf.passes rfl) (zaa (zab 18) (zaa (zab 6) zag)))))))))))))))))))))))))))),?_⟩
 exact zay (G:=Gx K) (E:=E) zbL ["_law_script", "_law_board_here", "_law_stand_here", "_law_cell", "_law_hand", "_law_order_here", "_law_turned", "_law_deeds", "_law_other", "_law_beyond", "_law_kept", "_law_later", "_law_worth", "_law_gain", "_law_ones", "_law_others", "_law_stones", "_law_named", "_law_found"] S rs Pf
end
set_option maxHeartbeats 0 in
theorem all_mk{K:PySem.W.Frag}{h:Heap}{mg:Str->Option Value}{fa:Addr}(X:K.In h)(G:h.Ns mainGlobals mg)(hfa:mg "law" = some (.ref fa)){f0:Addr}{od0 an0:Option Addr}{sl0:Array (Option Value)}{oc0 kV0 dc0 pm0 cd0 ct0:Value}{f1:Addr}{od1 an1:Option Addr}{sl1:Array (Option Value)}{oc1 kV1 dc1 pm1 cd1 ct1:Value}{f2:Addr}{od2 an2:Option Addr}{sl2:Array (Option Value)}{oc2 kV2 dc2 pm2 cd2 ct2:Value}{f3:Addr}{od3 an3:Option Addr}{sl3:Array (Option Value)}{oc3 kV3 dc3 pm3 cd3 ct3:Value}{f4:Addr}{od4 an4:Option Addr}{sl4:Array (Option Value)}{oc4 kV4 dc4 pm4 cd4 ct4:Value}{f5:Addr}{od5 an5:Option Addr}{sl5:Array (Option Value)}{oc5 kV5 dc5 pm5 cd5 ct5:Value}{f6:Addr}{od6 an6:Option Addr}{sl6:Array (Option Value)}{oc6 kV6 dc6 pm6 cd6 ct6:Value}{f7:Addr}{od7 an7:Option Addr}{sl7:Array (Option Value)}{oc7 kV7 dc7 pm7 cd7 ct7:Value}{f8:Addr}{od8 an8:Option Addr}{sl8:Array (Option Value)}{oc8 kV8 dc8 pm8 cd8 ct8:Value}{f9:Addr}{od9 an9:Option Addr}{sl9:Array (Option Value)}{oc9 kV9 dc9 pm9 cd9 ct9:Value}{f10:Addr}{od10 an10:Option Addr}{sl10:Array (Option Value)}{oc10 kV10 dc10 pm10 cd10 ct10:Value}{f11:Addr}{od11 an11:Option Addr}{sl11:Array (Option Value)}{oc11 kV11 dc11 pm11 cd11 ct11:Value}{f12:Addr}{od12 an12:Option Addr}{sl12:Array (Option Value)}{oc12 kV12 dc12 pm12 cd12 ct12:Value}{f13:Addr}{od13 an13:Option Addr}{sl13:Array (Option Value)}{oc13 kV13 dc13 pm13 cd13 ct13:Value}{f14:Addr}{od14 an14:Option Addr}{sl14:Array (Option Value)}{oc14 kV14 dc14 pm14 cd14 ct14:Value}{f15:Addr}{od15 an15:Option Addr}{sl15:Array (Option Value)}{oc15 kV15 dc15 pm15 cd15 ct15:Value}{f16:Addr}{od16 an16:Option Addr}{sl16:Array (Option Value)}{oc16 kV16 dc16 pm16 cd16 ct16:Value}{f17:Addr}{od17 an17:Option Addr}{sl17:Array (Option Value)}{oc17 kV17 dc17 pm17 cd17 ct17:Value}{f18:Addr}{od18 an18:Option Addr}{sl18:Array (Option Value)}{oc18 kV18 dc18 pm18 cd18 ct18:Value}{f19:Addr}{od19 an19:Option Addr}{sl19:Array (Option Value)}{oc19 kV19 dc19 pm19 cd19 ct19:Value}{f20:Addr}{od20 an20:Option Addr}{sl20:Array (Option Value)}{oc20 kV20 dc20 pm20 cd20 ct20:Value}{f21:Addr}{od21 an21:Option Addr}{sl21:Array (Option Value)}{oc21 kV21 dc21 pm21 cd21 ct21:Value}{f22:Addr}{od22 an22:Option Addr}{sl22:Array (Option Value)}{oc22 kV22 dc22 pm22 cd22 ct22:Value}{f23:Addr}{od23 an23:Option Addr}{sl23:Array (Option Value)}{oc23 kV23 dc23 pm23 cd23 ct23:Value}{f24:Addr}{od24 an24:Option Addr}{sl24:Array (Option Value)}{oc24 kV24 dc24 pm24 cd24 ct24:Value}{f25:Addr}{od25 an25:Option Addr}{sl25:Array (Option Value)}{oc25 kV25 dc25 pm25 cd25 ct25:Value}{f26:Addr}{od26 an26:Option Addr}{sl26:Array (Option Value)}{oc26 kV26 dc26 pm26 cd26 ct26:Value}{f27:Addr}{od27 an27:Option Addr}{sl27:Array (Option Value)}{oc27 kV27 dc27 pm27 cd27 ct27:Value}{f28:Addr}{od28 an28:Option Addr}{sl28:Array (Option Value)}{oc28 kV28 dc28 pm28 cd28 ct28:Value}{f29:Addr}{od29 an29:Option Addr}{sl29:Array (Option Value)}{oc29 kV29 dc29 pm29 cd29 ct29:Value}{f30:Addr}{od30 an30:Option Addr}{sl30:Array (Option Value)}{oc30 kV30 dc30 pm30 cd30 ct30:Value}{f31:Addr}{od31 an31:Option Addr}{sl31:Array (Option Value)}{oc31 kV31 dc31 pm31 cd31 ct31:Value}{f32:Addr}{od32 an32:Option Addr}{sl32:Array (Option Value)}{oc32 kV32 dc32 pm32 cd32 ct32:Value}{f33:Addr}{od33 an33:Option Addr}{sl33:Array (Option Value)}{oc33 kV33 dc33 pm33 cd33 ct33:Value}{f34:Addr}{od34 an34:Option Addr}{sl34:Array (Option Value)}{oc34 kV34 dc34 pm34 cd34 ct34:Value}{f35:Addr}{od35 an35:Option Addr}{sl35:Array (Option Value)}{oc35 kV35 dc35 pm35 cd35 ct35:Value}{f36:Addr}{od36 an36:Option Addr}{sl36:Array (Option Value)}{oc36 kV36 dc36 pm36 cd36 ct36:Value}{f37:Addr}{od37 an37:Option Addr}{sl37:Array (Option Value)}{oc37 kV37 dc37 pm37 cd37 ct37:Value}{f38:Addr}{od38 an38:Option Addr}{sl38:Array (Option Value)}{oc38 kV38 dc38 pm38 cd38 ct38:Value}{C_End:Addr}(ac_End:PySem.W.nsIn K mainGlobals "End" = some (some (.ref C_End)))(pg_End:PySem.W.plainGet K C_End Str.empty=true)(hd_End:PySem.W.hasDictIn K C_End=true)(po_End:PySem.W.plainOver K C_End=true)(sa_End:PySem.W.findIn K (.ref C_End) "__setattr__" = some (some (.builtin "object.__setattr__")))(mi_End:PySem.W.makesIn K C_End=true)(kc_End:PySem.W.keepIn K (.ref C_End)=true)(na_End_gone:PySem.W.findIn K (.ref C_End) "gone" = some none)(na_End_joined:PySem.W.findIn K (.ref C_End) "joined" = some none)(na_End_most:PySem.W.findIn K (.ref C_End) "most" = some none)(na_End_racing:PySem.W.findIn K (.ref C_End) "racing" = some none)(a0:PySem.W.nsIn K mainGlobals "other_hand" = some (some (.ref f0)))(l0:K.lookup f0=some ⟨oc0,od0,.func (PySem.W.fnOf "other_hand" "other_hand" (zaw zbr) (zav zbr) (zai zbr) .none kV0 dc0 pm0 an0 cd0 ct0),sl0⟩)(c0:PySem.W.codeIn K cd0 "other_hand" = true)(k0:PySem.W.keepIn K (.ref f0)=true)(a1:PySem.W.nsIn K mainGlobals "patch_of" = some (some (.ref f1)))(l1:K.lookup f1=some ⟨oc1,od1,.func (PySem.W.fnOf "patch_of" "patch_of" (zaw zbV) (zav zbV) (zai zbV) .none kV1 dc1 pm1 an1 cd1 ct1),sl1⟩)(c1:PySem.W.codeIn K cd1 "patch_of" = true)(k1:PySem.W.keepIn K (.ref f1)=true)(a2:PySem.W.nsIn K mainGlobals "patches" = some (some (.ref f2)))(l2:K.lookup f2=some ⟨oc2,od2,.func (PySem.W.fnOf "patches" "patches" (zaw zcs) (zav zcs) (zai zcs) .none kV2 dc2 pm2 an2 cd2 ct2),sl2⟩)(c2:PySem.W.codeIn K cd2 "patches" = true)(k2:PySem.W.keepIn K (.ref f2)=true)(a3:PySem.W.nsIn K mainGlobals "patch" = some (some (.ref f3)))(l3:K.lookup f3=some ⟨oc3,od3,.func (PySem.W.fnOf "patch" "patch" (zaw zd1) (zav zd1) (zai zd1) .none kV3 dc3 pm3 an3 cd3 ct3),sl3⟩)(c3:PySem.W.codeIn K cd3 "patch" = true)(k3:PySem.W.keepIn K (.ref f3)=true)(a4:PySem.W.nsIn K mainGlobals "rows" = some (some (.ref f4)))(l4:K.lookup f4=some ⟨oc4,od4,.func (PySem.W.fnOf "rows" "rows" (zaw zeX) (zav zeX) (zai zeX) .none kV4 dc4 pm4 an4 cd4 ct4),sl4⟩)(c4:PySem.W.codeIn K cd4 "rows" = true)(k4:PySem.W.keepIn K (.ref f4)=true)(a5:PySem.W.nsIn K mainGlobals "lands" = some (some (.ref f5)))(l5:K.lookup f5=some ⟨oc5,od5,.func (PySem.W.fnOf "lands" "lands" (zaw zdi) (zav zdi) (zai zdi) .none kV5 dc5 pm5 an5 cd5 ct5),sl5⟩)(c5:PySem.W.codeIn K cd5 "lands" = true)(k5:PySem.W.keepIn K (.ref f5)=true)(a6:PySem.W.nsIn K mainGlobals "breaths" = some (some (.ref f6)))(l6:K.lookup f6=some ⟨oc6,od6,.func (PySem.W.fnOf "breaths" "breaths" (zaw zb6) (zav zb6) (zai zb6) .none kV6 dc6 pm6 an6 cd6 ct6),sl6⟩)(c6:PySem.W.codeIn K cd6 "breaths" = true)(k6:PySem.W.keepIn K (.ref f6)=true)(a7:PySem.W.nsIn K mainGlobals "sides" = some (some (.ref f7)))(l7:K.lookup f7=some ⟨oc7,od7,.func (PySem.W.fnOf "sides" "sides" (zaw zcX) (zav zcX) (zai zcX) .none kV7 dc7 pm7 an7 cd7 ct7),sl7⟩)(c7:PySem.W.codeIn K cd7 "sides" = true)(k7:PySem.W.keepIn K (.ref f7)=true)(a8:PySem.W.nsIn K mainGlobals "points_beside" = some (some (.ref f8)))(l8:K.lookup f8=some ⟨oc8,od8,.func (PySem.W.fnOf "points_beside" "points_beside" (zaw za1) (zav za1) (zai za1) .none kV8 dc8 pm8 an8 cd8 ct8),sl8⟩)(c8:PySem.W.codeIn K cd8 "points_beside" = true)(k8:PySem.W.keepIn K (.ref f8)=true)(a9:PySem.W.nsIn K mainGlobals "by_stones" = some (some (.ref f9)))(l9:K.lookup f9=some ⟨oc9,od9,.func (PySem.W.fnOf "by_stones" "by_stones" (zaw zbn) (zav zbn) (zai zbn) .none kV9 dc9 pm9 an9 cd9 ct9),sl9⟩)(c9:PySem.W.codeIn K cd9 "by_stones" = true)(k9:PySem.W.keepIn K (.ref f9)=true)(a10:PySem.W.nsIn K mainGlobals "land_of" = some (some (.ref f10)))(l10:K.lookup f10=some ⟨oc10,od10,.func (PySem.W.fnOf "land_of" "land_of" (zaw zb7) (zav zb7) (zai zb7) .none kV10 dc10 pm10 an10 cd10 ct10),sl10⟩)(c10:PySem.W.codeIn K cd10 "land_of" = true)(k10:PySem.W.keepIn K (.ref f10)=true)(a11:PySem.W.nsIn K mainGlobals "laid" = some (some (.ref f11)))(l11:K.lookup f11=some ⟨oc11,od11,.func (PySem.W.fnOf "laid" "laid" (zaw zfI) (zav zfI) (zai zfI) .none kV11 dc11 pm11 an11 cd11 ct11),sl11⟩)(c11:PySem.W.codeIn K cd11 "laid" = true)(k11:PySem.W.keepIn K (.ref f11)=true)(a12:PySem.W.nsIn K mainGlobals "lays_on" = some (some (.ref f12)))(l12:K.lookup f12=some ⟨oc12,od12,.func (PySem.W.fnOf "lays_on" "lays_on" (zaw zct) (zav zct) (zai zct) .none kV12 dc12 pm12 an12 cd12 ct12),sl12⟩)(c12:PySem.W.codeIn K cd12 "lays_on" = true)(k12:PySem.W.keepIn K (.ref f12)=true)(a13:PySem.W.nsIn K mainGlobals "new_lays" = some (some (.ref f13)))(l13:K.lookup f13=some ⟨oc13,od13,.func (PySem.W.fnOf "new_lays" "new_lays" (zaw zbA) (zav zbA) (zai zbA) .none kV13 dc13 pm13 an13 cd13 ct13),sl13⟩)(c13:PySem.W.codeIn K cd13 "new_lays" = true)(k13:PySem.W.keepIn K (.ref f13)=true)(a14:PySem.W.nsIn K mainGlobals "steps" = some (some (.ref f14)))(l14:K.lookup f14=some ⟨oc14,od14,.func (PySem.W.fnOf "steps" "steps" (zaw zdj) (zav zdj) (zai zdj) .none kV14 dc14 pm14 an14 cd14 ct14),sl14⟩)(c14:PySem.W.codeIn K cd14 "steps" = true)(k14:PySem.W.keepIn K (.ref f14)=true)(a15:PySem.W.nsIn K mainGlobals "filled" = some (some (.ref f15)))(l15:K.lookup f15=some ⟨oc15,od15,.func (PySem.W.fnOf "filled" "filled" (zaw zc4) (zav zc4) (zai zc4) .none kV15 dc15 pm15 an15 cd15 ct15),sl15⟩)(c15:PySem.W.codeIn K cd15 "filled" = true)(k15:PySem.W.keepIn K (.ref f15)=true)(a16:PySem.W.nsIn K mainGlobals "breathless" = some (some (.ref f16)))(l16:K.lookup f16=some ⟨oc16,od16,.func (PySem.W.fnOf "breathless" "breathless" (zaw zbs) (zav zbs) (zai zbs) .none kV16 dc16 pm16 an16 cd16 ct16),sl16⟩)(c16:PySem.W.codeIn K cd16 "breathless" = true)(k16:PySem.W.keepIn K (.ref f16)=true)(a17:PySem.W.nsIn K mainGlobals "worked" = some (some (.ref f17)))(l17:K.lookup f17=some ⟨oc17,od17,.func (PySem.W.fnOf "worked" "worked" (zaw zc5) (zav zc5) (zai zc5) .none kV17 dc17 pm17 an17 cd17 ct17),sl17⟩)(c17:PySem.W.codeIn K cd17 "worked" = true)(k17:PySem.W.keepIn K (.ref f17)=true)(a18:PySem.W.nsIn K mainGlobals "raced" = some (some (.ref f18)))(l18:K.lookup f18=some ⟨oc18,od18,.func (PySem.W.fnOf "raced" "raced" (zaw zd2) (zav zd2) (zai zd2) .none kV18 dc18 pm18 an18 cd18 ct18),sl18⟩)(c18:PySem.W.codeIn K cd18 "raced" = true)(k18:PySem.W.keepIn K (.ref f18)=true)(a19:PySem.W.nsIn K mainGlobals "is_better" = some (some (.ref f19)))(l19:K.lookup f19=some ⟨oc19,od19,.func (PySem.W.fnOf "is_better" "is_better" (zaw zbB) (zav zbB) (zai zbB) .none kV19 dc19 pm19 an19 cd19 ct19),sl19⟩)(c19:PySem.W.codeIn K cd19 "is_better" = true)(k19:PySem.W.keepIn K (.ref f19)=true)(a20:PySem.W.nsIn K mainGlobals "_law_cell_at" = some (some (.ref f20)))(l20:K.lookup f20=some ⟨oc20,od20,.func (PySem.W.fnOf "_law_cell_at" "_law_cell_at" (zaw za8) (zav za8) (zai za8) .none kV20 dc20 pm20 an20 cd20 ct20),sl20⟩)(c20:PySem.W.codeIn K cd20 "_law_cell_at" = true)(k20:PySem.W.keepIn K (.ref f20)=true)(a21:PySem.W.nsIn K mainGlobals "_law_mix" = some (some (.ref f21)))(l21:K.lookup f21=some ⟨oc21,od21,.func (PySem.W.fnOf "_law_mix" "_law_mix" (zaw zbW) (zav zbW) (zai zbW) .none kV21 dc21 pm21 an21 cd21 ct21),sl21⟩)(c21:PySem.W.codeIn K cd21 "_law_mix" = true)(k21:PySem.W.keepIn K (.ref f21)=true)(a22:PySem.W.nsIn K mainGlobals "_law_board" = some (some (.ref f22)))(l22:K.lookup f22=some ⟨oc22,od22,.func (PySem.W.fnOf "_law_board" "_law_board" (zaw za5) (zav za5) (zai za5) .none kV22 dc22 pm22 an22 cd22 ct22),sl22⟩)(c22:PySem.W.codeIn K cd22 "_law_board" = true)(k22:PySem.W.keepIn K (.ref f22)=true)(a23:PySem.W.nsIn K mainGlobals "_law_small" = some (some (.ref f23)))(l23:K.lookup f23=some ⟨oc23,od23,.func (PySem.W.fnOf "_law_small" "_law_small" (zaw za6) (zav za6) (zai za6) .none kV23 dc23 pm23 an23 cd23 ct23),sl23⟩)(c23:PySem.W.codeIn K cd23 "_law_small" = true)(k23:PySem.W.keepIn K (.ref f23)=true)(a24:PySem.W.nsIn K mainGlobals "_law_patch" = some (some (.ref f24)))(l24:K.lookup f24=some ⟨oc24,od24,.func (PySem.W.fnOf "_law_patch" "_law_patch" (zaw zbt) (zav zbt) (zai zbt) .none kV24 dc24 pm24 an24 cd24 ct24),sl24⟩)(c24:PySem.W.codeIn K cd24 "_law_patch" = true)(k24:PySem.W.keepIn K (.ref f24)=true)(a25:PySem.W.nsIn K mainGlobals "_law_breaths" = some (some (.ref f25)))(l25:K.lookup f25=some ⟨oc25,od25,.func (PySem.W.fnOf "_law_breaths" "_law_breaths" (zaw za9) (zav za9) (zai za9) .none kV25 dc25 pm25 an25 cd25 ct25),sl25⟩)(c25:PySem.W.codeIn K cd25 "_law_breaths" = true)(k25:PySem.W.keepIn K (.ref f25)=true)(a26:PySem.W.nsIn K mainGlobals "_law_laid" = some (some (.ref f26)))(l26:K.lookup f26=some ⟨oc26,od26,.func (PySem.W.fnOf "_law_laid" "_law_laid" (zaw zbC) (zav zbC) (zai zbC) .none kV26 dc26 pm26 an26 cd26 ct26),sl26⟩)(c26:PySem.W.codeIn K cd26 "_law_laid" = true)(k26:PySem.W.keepIn K (.ref f26)=true)(a27:PySem.W.nsIn K mainGlobals "_law_stand" = some (some (.ref f27)))(l27:K.lookup f27=some ⟨oc27,od27,.func (PySem.W.fnOf "_law_stand" "_law_stand" (zaw zbg) (zav zbg) (zai zbg) .none kV27 dc27 pm27 an27 cd27 ct27),sl27⟩)(c27:PySem.W.codeIn K cd27 "_law_stand" = true)(k27:PySem.W.keepIn K (.ref f27)=true)(a28:PySem.W.nsIn K mainGlobals "_law_order" = some (some (.ref f28)))(l28:K.lookup f28=some ⟨oc28,od28,.func (PySem.W.fnOf "_law_order" "_law_order" (zaw zbu) (zav zbu) (zai zbu) .none kV28 dc28 pm28 an28 cd28 ct28),sl28⟩)(c28:PySem.W.codeIn K cd28 "_law_order" = true)(k28:PySem.W.keepIn K (.ref f28)=true)(a29:PySem.W.nsIn K mainGlobals "_law_named_board" = some (some (.ref f29)))(l29:K.lookup f29=some ⟨oc29,od29,.func (PySem.W.fnOf "_law_named_board" "_law_named_board" (zaw zaN) (zav zaN) (zai zaN) .none kV29 dc29 pm29 an29 cd29 ct29),sl29⟩)(c29:PySem.W.codeIn K cd29 "_law_named_board" = true)(k29:PySem.W.keepIn K (.ref f29)=true)(a30:PySem.W.nsIn K mainGlobals "_law_named_stand" = some (some (.ref f30)))(l30:K.lookup f30=some ⟨oc30,od30,.func (PySem.W.fnOf "_law_named_stand" "_law_named_stand" (zaw zaR) (zav zaR) (zai zaR) .none kV30 dc30 pm30 an30 cd30 ct30),sl30⟩)(c30:PySem.W.codeIn K cd30 "_law_named_stand" = true)(k30:PySem.W.keepIn K (.ref f30)=true)(a31:PySem.W.nsIn K mainGlobals "_law_asked" = some (some (.ref f31)))(l31:K.lookup f31=some ⟨oc31,od31,.func (PySem.W.fnOf "_law_asked" "_law_asked" (zaw zbv) (zav zbv) (zai zbv) .none kV31 dc31 pm31 an31 cd31 ct31),sl31⟩)(c31:PySem.W.codeIn K cd31 "_law_asked" = true)(k31:PySem.W.keepIn K (.ref f31)=true)(a32:PySem.W.nsIn K mainGlobals "_law_opposite" = some (some (.ref f32)))(l32:K.lookup f32=some ⟨oc32,od32,.func (PySem.W.fnOf "_law_opposite" "_law_opposite" (zaw za2) (zav za2) (zai za2) .none kV32 dc32 pm32 an32 cd32 ct32),sl32⟩)(c32:PySem.W.codeIn K cd32 "_law_opposite" = true)(k32:PySem.W.keepIn K (.ref f32)=true)(a33:PySem.W.nsIn K mainGlobals "law" = some (some (.ref f33)))(l33:K.lookup f33=some ⟨oc33,od33,.func (PySem.W.fnOf "law" "law" (zaw zhh) (zav zhh) (zai zhh) .none kV33 dc33 pm33 an33 cd33 ct33),sl33⟩)(c33:PySem.W.codeIn K cd33 "law" = true)(k33:PySem.W.keepIn K (.ref f33)=true)(a34:PySem.W.findIn K (.ref C_End) "__init__" = some (some (.ref f34)))(fn34:PySem.W.isFn K (.ref f34)=true)(l34:K.lookup f34=some ⟨oc34,od34,.func (PySem.W.fnOf "__init__" "End.__init__" (zaw zba) (zav zba) (zai zba) .none kV34 dc34 pm34 an34 cd34 ct34),sl34⟩)(c34:PySem.W.codeIn K cd34 "End.__init__" = true)(k34:PySem.W.keepIn K (.ref f34)=true)(a35:PySem.W.findIn K (.ref C_End) "tried" = some (some (.ref f35)))(fn35:PySem.W.isFn K (.ref f35)=true)(l35:K.lookup f35=some ⟨oc35,od35,.func (PySem.W.fnOf "tried" "End.tried" (zaw zbD) (zav zbD) (zai zbD) .none kV35 dc35 pm35 an35 cd35 ct35),sl35⟩)(c35:PySem.W.codeIn K cd35 "End.tried" = true)(k35:PySem.W.keepIn K (.ref f35)=true)(a36:PySem.W.findIn K (.ref C_End) "count_row" = some (some (.ref f36)))(fn36:PySem.W.isFn K (.ref f36)=true)(l36:K.lookup f36=some ⟨oc36,od36,.func (PySem.W.fnOf "count_row" "End.count_row" (zaw za3) (zav za3) (zai za3) .none kV36 dc36 pm36 an36 cd36 ct36),sl36⟩)(c36:PySem.W.codeIn K cd36 "End.count_row" = true)(k36:PySem.W.keepIn K (.ref f36)=true)(a37:PySem.W.findIn K (.ref C_End) "has_stopped" = some (some (.ref f37)))(fn37:PySem.W.isFn K (.ref f37)=true)(l37:K.lookup f37=some ⟨oc37,od37,.func (PySem.W.fnOf "has_stopped" "End.has_stopped" (zaw zaP) (zav zaP) (zai zaP) .none kV37 dc37 pm37 an37 cd37 ct37),sl37⟩)(c37:PySem.W.codeIn K cd37 "End.has_stopped" = true)(k37:PySem.W.keepIn K (.ref f37)=true)(a38:PySem.W.findIn K (.ref C_End) "worth" = some (some (.ref f38)))(fn38:PySem.W.isFn K (.ref f38)=true)(l38:K.lookup f38=some ⟨oc38,od38,.func (PySem.W.fnOf "worth" "End.worth" (zaw zbE) (zav zbE) (zai zbE) .none kV38 dc38 pm38 an38 cd38 ct38),sl38⟩)(c38:PySem.W.codeIn K cd38 "End.worth" = true)(k38:PySem.W.keepIn K (.ref f38)=true){t0:Tok}(q0:PySem.W.nsIn K mainGlobals "MOST_ROWS" = some (some (.int 500 t0)))(z_any:PySem.W.nsIn K mainGlobals "any" = some none)(z_int:PySem.W.nsIn K mainGlobals "int" = some none)(z_len:PySem.W.nsIn K mainGlobals "len" = some none)(z_list:PySem.W.nsIn K mainGlobals "list" = some none)(z_range:PySem.W.nsIn K mainGlobals "range" = some none)(z_sorted:PySem.W.nsIn K mainGlobals "sorted" = some none)(z_sum:PySem.W.nsIn K mainGlobals "sum" = some none)(z_tuple:PySem.W.nsIn K mainGlobals "tuple" = some none)(xt:ztq K XTB=true)(nl:noL K=true)
  : ∃A:Adr,Txt K mg A/\fa=A.f_law/\∀(s:Shared) (v:Value),BindsTo s A.d_law ⟨[v],[]⟩ [("_law_script",v)]:=by
 have e:=hfa.symm.trans (PySem.W.mg_of X G a33)
 cases e
 have ec_End:C_End=clOf K "End" := by unfold VS.clOf;rw[ac_End]
 subst ec_End
 have F0:=zaM (st:=zbr) l0 c0 k0
 have b0:=F0.binds (ps:=["hand"]) fun _ _ _ _ _ _ us hl=>VS.us1 (fun _=>rfl) us hl
 have F1:=zaM (st:=zbV) l1 c1 k1
 have b1:=F1.binds (ps:=["board", "marks", "start"]) fun _ _ _ _ _ _ us hl=>VS.us3 (fun _ _ _=>rfl) us hl
 have F2:=zaM (st:=zcs) l2 c2 k2
 have b2:=F2.binds (ps:=["board", "marks"]) fun _ _ _ _ _ _ us hl=>VS.us2 (fun _ _=>rfl) us hl
 have F3:=zaM (st:=zd1) l3 c3 k3
 have b3:=F3.binds (ps:=["board", "stand", "point"]) fun _ _ _ _ _ _ us hl=>VS.us3 (fun _ _ _=>rfl) us hl
 have F4:=zaM (st:=zeX) l4 c4 k4
 have b4:=F4.binds (ps:=["board", "stand"]) fun _ _ _ _ _ _ us hl=>VS.us2 (fun _ _=>rfl) us hl
 have F5:=zaM (st:=zdi) l5 c5 k5
 have b5:=F5.binds (ps:=["board", "stand"]) fun _ _ _ _ _ _ us hl=>VS.us2 (fun _ _=>rfl) us hl
 have F6:=zaM (st:=zb6) l6 c6 k6
 have b6:=F6.binds (ps:=["board", "stand", "row"]) fun _ _ _ _ _ _ us hl=>VS.us3 (fun _ _ _=>rfl) us hl
 have F7:=zaM (st:=zcX) l7 c7 k7
 have b7:=F7.binds (ps:=["board", "stand", "land"]) fun _ _ _ _ _ _ us hl=>VS.us3 (fun _ _ _=>rfl) us hl
 have F8:=zaM (st:=za1) l8 c8 k8
 have b8:=F8.binds (ps:=["board", "points"]) fun _ _ _ _ _ _ us hl=>VS.us2 (fun _ _=>rfl) us hl
 have F9:=zaM (st:=zbn) l9 c9 k9
 have b9:=F9.binds (ps:=["board", "stand"]) fun _ _ _ _ _ _ us hl=>VS.us2 (fun _ _=>rfl) us hl
 have F10:=zaM (st:=zb7) l10 c10 k10
 have b10:=F10.binds (ps:=["board", "stand", "hand"]) fun _ _ _ _ _ _ us hl=>VS.us3 (fun _ _ _=>rfl) us hl
 have F11:=zaM (st:=zfI) l11 c11 k11
 have b11:=F11.binds (ps:=["board", "stand", "hand", "point"]) fun _ _ _ _ _ _ us hl=>VS.us4 (fun _ _ _ _=>rfl) us hl
 have F12:=zaM (st:=zct) l12 c12 k12
 have b12:=F12.binds (ps:=["board", "stand", "hand", "points"]) fun _ _ _ _ _ _ us hl=>VS.us4 (fun _ _ _ _=>rfl) us hl
 have F13:=zaM (st:=zbA) l13 c13 k13
 have b13:=F13.binds (ps:=["board", "came", "hand", "points"]) fun _ _ _ _ _ _ us hl=>VS.us4 (fun _ _ _ _=>rfl) us hl
 have F14:=zaM (st:=zdj) l14 c14 k14
 have b14:=F14.binds (ps:=["board", "came", "hand"]) fun _ _ _ _ _ _ us hl=>VS.us3 (fun _ _ _=>rfl) us hl
 have F15:=zaM (st:=zc4) l15 c15 k15
 have b15:=F15.binds (ps:=["stand", "points", "what"]) fun _ _ _ _ _ _ us hl=>VS.us3 (fun _ _ _=>rfl) us hl
 have F16:=zaM (st:=zbs) l16 c16 k16
 have b16:=F16.binds (ps:=["board", "stand", "hand"]) fun _ _ _ _ _ _ us hl=>VS.us3 (fun _ _ _=>rfl) us hl
 have F17:=zaM (st:=zc5) l17 c17 k17
 have b17:=F17.binds (ps:=["board", "stand", "hand", "deeds"]) fun _ _ _ _ _ _ us hl=>VS.us4 (fun _ _ _ _=>rfl) us hl
 have F18:=zaM (st:=zd2) l18 c18 k18
 have b18:=F18.binds (ps:=["board", "stand", "hand", "one", "other", "deeds"]) fun _ _ _ _ _ _ us hl=>VS.us6 (fun _ _ _ _ _ _=>rfl) us hl
 have F19:=zaM (st:=zbB) l19 c19 k19
 have b19:=F19.binds (ps:=["hand", "worth", "best"]) fun _ _ _ _ _ _ us hl=>VS.us3 (fun _ _ _=>rfl) us hl
 have F20:=zaM (st:=za8) l20 c20 k20
 have b20:=F20.binds (ps:=["_law_script", "_law_k"]) fun _ _ _ _ _ _ us hl=>VS.us2 (fun _ _=>rfl) us hl
 have F21:=zaM (st:=zbW) l21 c21 k21
 have b21:=F21.binds (ps:=["_law_cell", "_law_k"]) fun _ _ _ _ _ _ us hl=>VS.us2 (fun _ _=>rfl) us hl
 have F22:=zaM (st:=za5) l22 c22 k22
 have b22:=F22.binds (ps:=["_law_cell", "_law_most"]) fun _ _ _ _ _ _ us hl=>VS.us2 (fun _ _=>rfl) us hl
 have F23:=zaM (st:=za6) l23 c23 k23
 have b23:=F23.binds (ps:=["_law_script"]) fun _ _ _ _ _ _ us hl=>VS.us1 (fun _=>rfl) us hl
 have F24:=zaM (st:=zbt) l24 c24 k24
 have b24:=F24.binds (ps:=["_law_board_here", "_law_stand_here", "_law_point"]) fun _ _ _ _ _ _ us hl=>VS.us3 (fun _ _ _=>rfl) us hl
 have F25:=zaM (st:=za9) l25 c25 k25
 have b25:=F25.binds (ps:=["_law_board_here", "_law_stand_here", "_law_row"]) fun _ _ _ _ _ _ us hl=>VS.us3 (fun _ _ _=>rfl) us hl
 have F26:=zaM (st:=zbC) l26 c26 k26
 have b26:=F26.binds (ps:=["_law_board_here", "_law_stand_here", "_law_hand", "_law_point"]) fun _ _ _ _ _ _ us hl=>VS.us4 (fun _ _ _ _=>rfl) us hl
 have F27:=zaM (st:=zbg) l27 c27 k27
 have b27:=F27.binds (ps:=["_law_script", "_law_at", "_law_board_here"]) fun _ _ _ _ _ _ us hl=>VS.us3 (fun _ _ _=>rfl) us hl
 have F28:=zaM (st:=zbu) l28 c28 k28
 have b28:=F28.binds (ps:=["_law_cell", "_law_many"]) fun _ _ _ _ _ _ us hl=>VS.us2 (fun _ _=>rfl) us hl
 have F29:=zaM (st:=zaN) l29 c29 k29
 have b29:=F29.binds (ps:=["_law_board_here", "_law_order_here"]) fun _ _ _ _ _ _ us hl=>VS.us2 (fun _ _=>rfl) us hl
 have F30:=zaM (st:=zaR) l30 c30 k30
 have b30:=F30.binds (ps:=["_law_stand_here", "_law_order_here", "_law_turned"]) fun _ _ _ _ _ _ us hl=>VS.us3 (fun _ _ _=>rfl) us hl
 have F31:=zaM (st:=zbv) l31 c31 k31
 have b31:=F31.binds (ps:=["_law_board_here", "_law_stones", "_law_stand_here", "_law_hand", "_law_deeds"]) fun _ _ _ _ _ _ us hl=>VS.us5 (fun _ _ _ _ _=>rfl) us hl
 have F32:=zaM (st:=za2) l32 c32 k32
 have b32:=F32.binds (ps:=["_law_worth", "_law_turned"]) fun _ _ _ _ _ _ us hl=>VS.us2 (fun _ _=>rfl) us hl
 have F33:=zaM (st:=zhh) l33 c33 k33
 have b33:=F33.binds (ps:=["_law_script"]) fun _ _ _ _ _ _ us hl=>VS.us1 (fun _=>rfl) us hl
 have F34:=zaM (st:=zba) l34 c34 k34
 have b34:=F34.binds (ps:=["self", "board", "most", "racing"]) fun _ _ _ _ _ _ us hl=>VS.us4 (fun _ _ _ _=>rfl) us hl
 have F35:=zaM (st:=zbD) l35 c35 k35
 have b35:=F35.binds (ps:=["self", "came", "deeds", "hand"]) fun _ _ _ _ _ _ us hl=>VS.us4 (fun _ _ _ _=>rfl) us hl
 have F36:=zaM (st:=za3) l36 c36 k36
 have b36:=F36.binds (ps:=["self"]) fun _ _ _ _ _ _ us hl=>VS.us1 (fun _=>rfl) us hl
 have F37:=zaM (st:=zaP) l37 c37 k37
 have b37:=F37.binds (ps:=["self", "stand", "deeds"]) fun _ _ _ _ _ _ us hl=>VS.us3 (fun _ _ _=>rfl) us hl
 have F38:=zaM (st:=zbE) l38 c38 k38
 have b38:=F38.binds (ps:=["self", "stand"]) fun _ _ _ _ _ _ us hl=>VS.us2 (fun _ _=>rfl) us hl
 refine⟨⟨_,_,_,_,_,_,_,_,_,_,_,_,_,_,_,_,_,_,_,_,_,_,_,_,_,_,_,_,_,_,_,_,_,_,_,_,_,_,_,_,_,_,_,_,_,_,_,_,_,_,_,_,_,_,_,_,_,_,_,_,_,_,_,_,_,_,_,_,_,_,_,_,_,_,_,_,_,_⟩,⟨PySem.W.mg_of X G a0,F0,b0,PySem.W.mg_of X G a1,F1,b1,PySem.W.mg_of X G a2,F2,b2,PySem.W.mg_of X G a3,F3,b3,PySem.W.mg_of X G a4,F4,b4,PySem.W.mg_of X G a5,F5,b5,PySem.W.mg_of X G a6,F6,b6,PySem.W.mg_of X G a7,F7,b7,PySem.W.mg_of X G a8,F8,b8,PySem.W.mg_of X G a9,F9,b9,PySem.W.mg_of X G a10,F10,b10,PySem.W.mg_of X G a11,F11,b11,PySem.W.mg_of X G a12,F12,b12,PySem.W.mg_of X G a13,F13,b13,PySem.W.mg_of X G a14,F14,b14,PySem.W.mg_of X G a15,F15,b15,PySem.W.mg_of X G a16,F16,b16,PySem.W.mg_of X G a17,F17,b17,PySem.W.mg_of X G a18,F18,b18,PySem.W.mg_of X G a19,F19,b19,PySem.W.mg_of X G a20,F20,b20,PySem.W.mg_of X G a21,F21,b21,PySem.W.mg_of X G a22,F22,b22,PySem.W.mg_of X G a23,F23,b23,PySem.W.mg_of X G a24,F24,b24,PySem.W.mg_of X G a25,F25,b25,PySem.W.mg_of X G a26,F26,b26,PySem.W.mg_of X G a27,F27,b27,PySem.W.mg_of X G a28,F28,b28,PySem.W.mg_of X G a29,F29,b29,PySem.W.mg_of X G a30,F30,b30,PySem.W.mg_of X G a31,F31,b31,PySem.W.mg_of X G a32,F32,b32,PySem.W.mg_of X G a33,F33,b33,⟨a34,fn34,k34⟩,F34,b34,⟨a35,fn35,k35⟩,F35,b35,⟨a36,fn36,k36⟩,F36,b36,⟨a37,fn37,k37⟩,F37,b37,⟨a38,fn38,k38⟩,F38,b38,⟨pg_End,hd_End,po_End,sa_End⟩,⟨mi_End,a34,fn34,kc_End⟩,PySem.W.mg_of X G ac_End,na_End_gone,na_End_joined,na_End_most,na_End_racing,⟨_,PySem.W.mg_of X G q0⟩,PySem.W.mg_none_of X G z_any,PySem.W.mg_none_of X G z_int,PySem.W.mg_none_of X G z_len,PySem.W.mg_none_of X G z_list,PySem.W.mg_none_of X G z_range,PySem.W.mg_none_of X G z_sorted,PySem.W.mg_none_of X G z_sum,PySem.W.mg_none_of X G z_tuple,ztr X G xt,nl⟩,rfl,fun s v=>.of_eq rfl⟩
end K47
namespace K47
open L2 VS
def FU:Nat:=1000
theorem zQn{sl sl':Sl}{ce:Ce}{i:Nat}{w:Option W}{b:DS}{Q:O->Prop}(q:Run b sl' ce Q)(h:SetAt sl i w sl':=by repeat (first|exact SetAt.zero|apply SetAt.succ)):Run b (sl.set i w) ce Q:=zam h q
local macro_rules|`(tactic| trivial)=>`(tactic| repeat' (first
 | with_reducible (refine zam (by repeat (first|exact SetAt.zero|apply SetAt.succ)) ?_)
 | with_reducible (refine id (α:=_=some (R.ok _ _)) ?_;assumption)
 | (with_reducible apply zac);rfl
 | with_reducible exact zaI
 | with_reducible apply zaq
 | with_reducible apply zd6
 | with_reducible apply zaF
 | with_reducible apply zca
 | with_reducible apply zat
 | with_reducible apply zae
 | with_reducible exact zak
 | with_reducible apply zbb
 | with_reducible apply zf4
 | with_reducible apply zeO
 | with_reducible apply zf5
 | with_reducible exact ev_yes
 | with_reducible apply zrc
 | with_reducible apply zmi
 | with_reducible apply zix
 | with_reducible exact eqI0
 | with_reducible exact eqE0
 | with_reducible exact eqE1
 | with_reducible exact zoU
 | with_reducible exact eqEN1
 | with_reducible exact zuN
 | with_reducible exact inS0
 | with_reducible exact inS1
 | with_reducible exact zri
 | with_reducible exact inSL1
 | with_reducible exact inL0
 | with_reducible exact inL1
 | with_reducible (apply inC0;assumption)
 | with_reducible (apply zt7;assumption)
 | with_reducible (apply dinC0;assumption)
 | with_reducible (apply ztm;assumption)
 | ((with_reducible apply zmk);trivial;done)
 | with_reducible apply zrh
 | with_reducible apply ztl
 | with_reducible apply zrg
 | with_reducible apply lcF
 | with_reducible apply zt6
 | with_reducible apply lcC
 | with_reducible apply zeQ
 | with_reducible apply zhM
 | with_reducible apply zeP
 | with_reducible apply zhN
 | with_reducible apply zhO
 | with_reducible apply SrcFix.is
 | with_reducible (refine id (α:=LstOf _ _ _) ?_;first|assumption|exact .fr _|exact .cl (by assumption))
 | with_reducible apply zg5
 | with_reducible apply zrb
 | with_reducible apply zdf
 | with_reducible apply zbj
 | with_reducible apply zbf
 | with_reducible apply zmp
 | with_reducible exact lf_isB0
 | with_reducible exact lf_isB1
 | with_reducible exact eqB0
 | with_reducible exact eqB1
 | with_reducible exact isiB
 | with_reducible exact lf_all
 | with_reducible (apply zoZ;assumption)
 | with_reducible exact zoR
 | with_reducible apply zdX
 | with_reducible apply zkR
 | with_reducible apply ziw
 | with_reducible apply zre
 | with_reducible apply zeN
 | with_reducible apply zau
 | with_reducible apply zg4
 | with_reducible apply zbk
 | with_reducible apply zbO
 | with_reducible apply zap
 | with_reducible apply ziu
 | with_reducible apply zoS
 | with_reducible apply zbe
 | with_reducible apply zkO
 | with_reducible apply zaV
 | with_reducible apply zb2
 | with_reducible (refine id (α:=_=_) ?_;assumption)
 | (refine id (α:=(_:Nat)<_) ?_;first|assumption|omega)
 | (refine id (α:=(_:Nat)<=_) ?_;first|assumption|omega|decide|(simp only[length_cons,length_nil];decide))
 | with_reducible (apply ziy;first|assumption|omega)
 | with_reducible (apply zbP;first|assumption|omega)
 | with_reducible (apply zdb;first|assumption|omega)
 | with_reducible (apply zny;assumption;first|assumption|omega)
 | with_reducible (apply zcH;assumption)
 | with_reducible (apply zg6;assumption;first|assumption|omega)
 | with_reducible (apply lf_sortCF;assumption;first|assumption|omega)
 | with_reducible (apply tupCN;assumption;first|assumption|omega)
 | with_reducible (apply tupCB;assumption;first|assumption|omega)
 | with_reducible (apply zmn;assumption;first|assumption|omega)
 | with_reducible (apply tupLN;first|assumption|omega)
 | with_reducible (apply zoV;first|assumption|omega)
 | with_reducible (apply zoW;first|assumption|omega)
 | ((with_reducible apply zbm);rfl;rfl;first|assumption|exact mul_small (.inr (by omega))|exact mul_small (.inl (by omega)))
 | with_reducible (apply lf_listL;first|assumption|omega)
 | with_reducible (apply lf_sortS;first|assumption|omega)
 | with_reducible exact eqLL0
 | with_reducible exact eqLL1
 | with_reducible (apply eqLC1;assumption)
 | with_reducible (apply eqSC1;assumption)
 | with_reducible exact zcS
 | with_reducible exact zhL
 | with_reducible exact zf7
 | with_reducible (apply zkS;assumption)
 | intro _
 | ((with_reducible apply zcA)<;>rfl)
 | ((with_reducible apply zhP)<;>rfl)
 | ((with_reducible apply zfB)<;>rfl)
 | ((with_reducible apply lf_fLe)<;>rfl)
 | ((with_reducible apply zfC)<;>rfl)
 | ((with_reducible apply lf_fGe)<;>rfl)
 | ((with_reducible apply zck)<;>rfl)
 | ((with_reducible apply zhQ)<;>rfl)
 | ((with_reducible apply lf_fNeg);rfl)
 | ((with_reducible apply zrj);rfl)
 | with_reducible exact isiN
 | with_reducible exact isiNB
 | with_reducible exact isiI
 | with_reducible exact isiIB
 | ((with_reducible apply lf_min)<;>rfl)
 | ((with_reducible apply lf_max)<;>rfl)
 | ((with_reducible apply zf9);rfl;rfl;omega)
 | ((with_reducible apply lf_fDiv);rfl;rfl;omega)
 | (refine id (α:=(_:Nat)=_) ?_;rfl)
 | with_reducible rfl))
def rC(r:List Nat):C:=.lst (r.map nW)
def upR(rows:List (List Nat))(p q:Nat):List (List Nat):=rows.set p (rows.getD p []++[q])
def znL(rows:List (List Nat))(p q:Nat):List (List Nat):=upR (upR rows p q) q p
theorem zh0(rows:List (List Nat))(p q:Nat):(upR rows p q).length=rows.length:=by simp[upR]
theorem ziJ(rows:List (List Nat))(p q:Nat):(znL rows p q).length=rows.length:=by simp[znL,zh0]
theorem zd3{rows:List (List Nat)}{p:Nat}(hp:p<rows.length)(q i:Nat):(upR rows p q).getD i []=if i=p then rows.getD p []++[q] else rows.getD i []:=by
 unfold upR
 simp only[getD_eq_getElem?_getD]
 by_cases h:i=p
 ·subst h;simp[hp]
 ·rw[getElem?_set_ne (Ne.symm h)];simp[h]
structure Rows (n:Nat) (rows:List (List Nat)):Prop where
 len:rows.length=n
 bd:∀i j,j∈rows.getD i []->j<n
 sym:∀i j,j∈rows.getD i []->i∈rows.getD j []
section
variable {ce:Ce} {n mS:Nat} {rows:List (List Nat)} {gs:Ce}
abbrev zfh(ce:Ce)(n:Nat):W:=.lst ((List.range n).map fun i=>W.cel (ce.length+i))
abbrev bC(ce:Ce)(rows:List (List Nat))(gs:Ce):Ce:=ce++(rows.map rC++gs)
theorem znM{p:Nat}(hp:p<rows.length):(bC ce rows gs)[ce.length+p]?=some (rC (rows.getD p [])):=by
 rw[zr8,getElem?_append_left (by simpa using hp),getElem?_map,getD_eq_getElem?_getD]
 simp[hp]
theorem zrG{p q:Nat}(hp:p<rows.length):(bC ce rows gs).set (ce.length+p) (.lst ((rows.getD p []).map nW++[nW q]))=bC ce (upR rows p q) gs:=by
 rw[ztO,set_append_left _ _ (by simpa using hp)]
 show _=ce++((rows.set p (rows.getD p []++[q])).map rC++gs)
 rw[map_set]
 have e:C.lst ((rows.getD p []).map nW++[nW q])=rC (rows.getD p []++[q]):=by simp only[rC,map_append,map_cons,map_nil]
 rw[e]
theorem zrH(c:Ce){p:Nat}(hp:p<n):ixW c (zfh ce n) (nW p)=some (W.cel (ce.length+p)):=by
 rw[zg1 (xs:=(List.range n).map fun i=>W.cel (ce.length+i)) rfl,getElem?_map]
 simp[hp]
theorem ap1{sl:Sl}{a b p q:Nat}(h4:sl[mS]?=some (some (zfh ce n)))(ha:sl[a]?=some (some (nW p)))(hb:sl[b]?=some (some (nW q)))(hr:rows.length=n)(hp:p<n)(hz:(rows.getD p []).length<PySem.sizeLine) :
  dEx (dMt zer (zaD ixW (zaf mS) (zaf a)) (zad (zaf b) zan)) sl (bC ce rows gs)=some (.go .nx sl (bC ce (upR rows p q) gs)):=by
 have hp':p<rows.length:=by omega
 have g:=znM (ce:=ce) (gs:=gs) hp'
 have e1:zaD ixW (zaf mS) (zaf a) sl (bC ce rows gs)=some (.ok (W.cel (ce.length+p)) (bC ce rows gs)):=by
  simp only[zqX,zme,zir,h4,ha,znq,zrH _ hp,map_some]
 have e2:zad (zaf b) zan sl (bC ce rows gs)=some (.ok [nW q] (bC ce rows gs)):=by
  simp only[zkG,zme,zir,hb,znr,zqW]
 have lq:zlC (bC ce rows gs) (W.cel (ce.length+p))=some ():=by
  unfold zlC
  rw[zcH (xs:=(rows.getD p []).map nW) g]
  rfl
 have ap:zer (W.cel (ce.length+p)) [nW q] (bC ce rows gs)=some (.ok .non (bC ce (upR rows p q) gs)):=by
  rw[zqZ (zfA (xs:=(rows.getD p []).map nW) g) (by rw[length_map];exact hz),zrG hp']
 generalize bC ce rows gs=c1 at *
 generalize bC ce (upR rows p q) gs=c2 at *
 simp only[zte,ztj,zme,zta,znq,e1,e2,lq,ap,map_some]
theorem ap2{sl:Sl}{a b p q:Nat}(h4:sl[mS]?=some (some (zfh ce n)))(ha:sl[a]?=some (some (nW p)))(hb:sl[b]?=some (some (nW q)))(hr:rows.length=n)(hp:p<n)(hq:q<n)(hz:∀i,(rows.getD i []).length<1000) :
  zax (dEx (dMt zer (zaD ixW (zaf mS) (zaf a)) (zad (zaf b) zan))) (dEx (dMt zer (zaD ixW (zaf mS) (zaf b)) (zad (zaf a) zan))) sl (bC ce rows gs)=some (.go .nx sl (bC ce (znL rows p q) gs)):=by
 have z:(1001:Nat)<PySem.sizeLine:=by decide
 rw[zkF (ap1 h4 ha hb hr hp (by have:=hz p;omega))]
 refine ap1 h4 hb ha (by rw[zh0];exact hr) hq ?_
 rw[zd3 (by omega)]
 split
 ·have:=hz p;rw[length_append,length_singleton];omega
 ·have:=hz q;omega
theorem zjs{p:Nat}(hp:p<rows.length)(h:(rows.getD p []).length<=60)(cs:Sl):dBi zbd (zad (dBi (za0 zb0) (zad (zaf 0) zan)) zan) (some (W.cel (ce.length+p))::cs) (bC ce rows gs)=some (.ok (wT (zcb (rows.getD p []))) (bC ce rows gs)):=by
 have g:=znM (ce:=ce) (gs:=gs) hp
 have hz:(61:Nat)<PySem.sizeLine:=by decide
 have l1:(srt (toI (rows.getD p []))).length=(rows.getD p []).length:=by rw[(zbH _).length_eq,zbU]
 have so:za0 zb0 [W.cel (ce.length+p)] (bC ce rows gs)=some (.ok (.lst ((zcb (rows.getD p [])).map nW)) (bC ce rows gs)):=by
  simp only[za0,zcH (xs:=(rows.getD p []).map nW) g,zf2,zbU]
  rw[if_pos (by omega),zkH _ (by rw[length_map,l1];omega),zdw]
 have tu:zbd [.lst ((zcb (rows.getD p [])).map nW)] (bC ce rows gs)=some (.ok (wT (zcb (rows.getD p []))) (bC ce rows gs)):=by
  have e:((zcb (rows.getD p [])).map nW).length=(rows.getD p []).length:=by rw[<- zdw,length_map,l1]
  show zoJ _ _=_
  rw[zqY _ (by rw[e];omega)]
  rfl
 generalize bC ce rows gs=c1 at *
 simp only[ztf,zme,zkG,zir,getElem?_cons_zero,znr,zqW,so,tu]
theorem zed(hr:rows.length=n)(h36:n<=36)(h:∀i,(rows.getD i []).length<=60){sl:Sl}(h4:sl[mS]?=some (some (zfh ce n))) :
  dLC zb0 [] (dIL (zaf mS)) zd4 (dBi zbd (zad (dBi (za0 zb0) (zad (zaf 0) zan)) zan)) sl (bC ce rows gs)=some (.ok (.lst (((List.range n).map fun i=>zcb (rows.getD i [])).map wT)) (bC ce rows gs)):=by
 have hz:=sl36
 have hi:dIL (zaf mS) sl (bC ce rows gs)=some (.ok (.lst ((List.range n).map fun i=>W.cel (ce.length+i))) (bC ce rows gs)):=by
  show bnd (zaf mS sl) (fun w=>look fun ce=>zin ce w) (bC ce rows gs)=_
  rw[zce (a:=zfh ce n) (ce':=bC ce rows gs) (by simp only[zir,h4])]
  rfl
 obtain⟨zs,e,pz⟩:=zq6 (mk:=zb0) (js:=[]) (s:=.lst ((List.range n).map fun i=>W.cel (ce.length+i))) (e:=dBi zbd (zad (dBi (za0 zb0) (zad (zaf 0) zan)) zan)) hi trivial (fun x y=>∃i,i<n/\x=W.cel (ce.length+i)/\y=wT (zcb (rows.getD i []))) (fun x hx=>by
  simp only[Src.items,mem_map,mem_range] at hx
  obtain⟨i,hi,rfl⟩:=hx
  exact⟨_,⟨i,hi,rfl,rfl⟩,zjs (by omega) (h i) _⟩) (by simp only[Src.items,length_map,length_range];omega)
 rw[e]
 obtain⟨hl,hn⟩:=VS.Paired.nth pz
 simp only[Src.items,length_map,length_range] at hl
 have ez:zs=((List.range n).map fun i=>zcb (rows.getD i [])).map wT:=by
  apply ext_getElem?
  intro i
  by_cases hi:i<n
  ·have h1:((List.range n).map fun i=>W.cel (ce.length+i))[i]?=some (W.cel (ce.length+i)):=by simp[hi]
   have h2:zs[i]?=some (zs[i]'(by omega)):=getElem?_eq_getElem _
   obtain⟨j,_,q1,q2⟩:=hn i _ _ h1 h2
   have hij:i=j:=by
    injection q1 with q1
    omega
   subst hij
   rw[h2,q2]
   simp[hi]
  ·rw[getElem?_eq_none (by omega),getElem?_eq_none (by simp;omega)]
 rw[zkH _ (by rw[<- hl];omega),ez]
theorem ziK{di:Sl->M Src}{sl:Sl}(hi:di sl ce=some (.ok (.rng 0 n) ce))(h36:n<=36):dLC zb0 [] di zd4 (zcq zan) sl ce=some (.ok (zfh ce n) (bC ce (List.replicate n []) [])):=by
 have hz:=sl36
 show bnd (di sl) (fun s=>bnd (lcL s (zdR [] sl) zd4 (zcq zan) s.items []) zb0) ce=_
 have al:=zg2 (s:=.rng 0 n) (cs:=zdR [] sl) (fun _=>trivial) (Src.rng 0 n).items [] ce (by rw[zeM];simp;omega)
 rw[zce hi,zce al,zeM,zkH _ (by simp;omega)]
 simp[bC,rC,zfh]
end
theorem zfi{fin:Ce->Ce->W->Option (R W)}{n:Nat}{body:DS}{ws:List W}{ce:Ce}{P:W->Ce->Prop}(sl:Sl)(e:ws.map some++List.replicate (n-ws.length) none=sl)(h:Run body sl ce (Rt fun v ce'=>∃w c',fin ce ce' v=some (.ok w c')/\P w c')):∃w c',dFn fin n body ws ce=some (.ok w c')/\P w c':=by
 subst e
 obtain⟨o,e,q⟩:=h
 cases o with
 | ex x c=>exact q.elim
 | go f sl c=>cases f with
  | rt w =>
   obtain⟨w',c',h1,h2⟩:=q
   exact⟨w',c',znw e h1,h2⟩
  | nx=>exact q.elim
  | bk=>exact q.elim
  | ct=>exact q.elim
theorem ze2{d r:List Nat}{p n:Nat}(e:d++p::r=List.range n):d=List.range p:=by
 have hl:d.length<n:=by have:=congrArg List.length e;simp at this;omega
 have h1:(List.range n)[d.length]?=some p:=by rw[<- e];simp
 rw[getElem?_range hl] at h1
 cases h1
 have h2:(List.range n).take d.length=d:=by rw[<- e];simp
 rw[<- h2,take_range,min_eq_left (le_of_lt hl)]
 simp
structure LsOk (n:Nat) (ls:List (Nat×Nat)):Prop where
 nd:ls.Nodup
 lt:∀p∈ls,p.1<p.2/\p.2<n
theorem zh1{sl:Sl}{ce c1 c2:Ce}{a b:Sl->M W}{x y:W}{xs ys:List W}(ha:a sl ce=some (.ok x c1))(hb:b sl c1=some (.ok y c2))(hx:zdr c2 x=some xs)(hy:zdr c2 y=some ys)(hz:xs.length+ys.length<=PySem.sizeLine) :
  zlA zb0 a b sl ce=some (.ok (.lst (xs++ys)) c2):=by
 simp only[zlA,bnd,ha,hb,zs0,hx,hy,if_pos hz]
 exact zf6 (by rw[length_append];exact hz)
def adj(ls:List (Nat×Nat))(i:Nat):List Nat:=ls.filterMap fun p=>if p.1=i then some p.2 else if p.2=i then some p.1 else none
theorem zh2{ls:List (Nat×Nat)}{n:Nat}(h:LsOk n ls){i j:Nat}:j∈adj ls i↔(i,j)∈ls\/(j,i)∈ls:=by
 unfold adj
 rw[mem_filterMap]
 constructor
 ·rintro⟨⟨a,b⟩,hp,e⟩
  simp only at e
  split at e
  ·cases e;rename_i h1;subst h1;exact .inl hp
  ·split at e
   ·cases e;simp_all
   ·cases e
 ·rintro(hp|hp)
  ·exact⟨(i,j),hp,by simp⟩
  ·have:=(h.lt _ hp).1
   simp only at this
   refine⟨(j,i),hp,?_⟩
   simp only
   rw[if_neg (by omega)]
   simp
theorem znN{ls:List (Nat×Nat)}{n:Nat}(h:LsOk n ls)(i:Nat):(adj ls i).Nodup:=by
 unfold adj
 refine List.Pairwise.filterMap _ ?_ (List.Pairwise.and_mem.mp h.nd)
 rintro⟨a,b⟩ ⟨c,d⟩ ⟨h1,h2,hne⟩ x hx y hy e
 subst e
 have l1:=(h.lt _ h1).1
 have l2:=(h.lt _ h2).1
 simp only at hx hy l1 l2
 apply hne
 split at hx<;>split at hy
 ·cases hx;cases hy;simp_all
 ·split at hy
  ·cases hx;cases hy;simp_all;omega
  ·cases hy
 ·split at hx
  ·cases hx;cases hy;simp_all;omega
  ·cases hx
 ·split at hx
  ·split at hy
   ·cases hx;cases hy;simp_all
   ·cases hy
  ·cases hx
theorem ziL{ls:List (Nat×Nat)}{n:Nat}(h:LsOk n ls){i j:Nat}(hj:j∈adj ls i):j<n/\i<n:=by
 rcases(zh2 h).mp hj with hp|hp<;>(have:=h.lt _ hp;simp only at this;omega)
def zfL(n:Nat)(ls:List (Nat×Nat)):List (List Nat):=(List.range n).map fun i=>zcb (adj ls i)
theorem zgn(n:Nat)(ls:List (Nat×Nat))(i:Nat):(zfL n ls).getD i []=if i<n then zcb (adj ls i) else []:=by
 unfold zfL
 rw[getD_eq_getElem?_getD,getElem?_map]
 by_cases h:i<n
 ·simp[h]
 ·rw[getElem?_eq_none (by simp;omega)];simp[h]
structure Brd (b:List (List Nat)):Prop where
 bd:Bd b
 sym:Sym b
 h36:b.length<=36
 pos:0<b.length
 row:∀i,(b.getD i []).length<=36
 srt:∀i,zcb (b.getD i [])=b.getD i []
theorem zjt{l m:List Nat}(h:l.Perm m):zcb l=zcb m:=by unfold zcb;rw[zkK h]
theorem zk7(l:List Nat):(zcb l).Perm l:=by
 have h:(zcb l).Perm ((toI l).map Int.toNat):=(zbH (toI l)).map _
 have e:(toI l).map Int.toNat=l:=by
  unfold toI
  rw[map_map]
  conv=>rhs;rw[<- map_id l]
  apply map_congr_left
  intro x _
  simp
 rwa [e] at h
theorem zho(l:List Nat):zcb (zcb l)=zcb l:=zjt (zk7 l)
theorem zpi{n:Nat}{ls:List (Nat×Nat)}(h:LsOk n ls)(h0:0<n)(h36:n<=36):Brd (zfL n ls):=by
 have hl:(zfL n ls).length=n:=by simp[zfL]
 refine⟨fun r hr x hx=>?_,fun i j hj=>?_,by omega,by omega,fun i=>?_,fun i=>?_⟩
 ·obtain⟨i,hi,rfl⟩:=mem_map.mp hr
  rw[hl]
  exact(ziL h ((zdx _ _).mp hx)).1
 ·rw[zgn] at hj ⊢
  split at hj
  ·have hj:=(zdx _ _).mp hj
   rw[if_pos (ziL h hj).1]
   exact(zdx _ _).mpr ((zh2 h).mpr ((zh2 h).mp hj).symm)
  ·simp at hj
 ·rw[zgn]
  split
  ·rw[zch]
   exact le_trans (zaQ (znN h i) fun x hx=>(ziL h hx).1) h36
  ·simp
 ·rw[zgn]
  split
  ·exact zho _
  ·exact length_eq_zero_iff.mp (zch [])
theorem zpj(d:List (Nat×Nat))(p q i:Nat)(hpq:p≠q):adj (d++[(p,q)]) i=adj d i++((if i=p then [q] else [])++(if i=q then [p] else [])):=by
 unfold adj
 rw[filterMap_append]
 congr 1
 by_cases h1:i=p
 ·subst h1
  have:¬i=q:=hpq
  simp[this]
 ·by_cases h2:i=q
  ·subst h2
   simp[h1,hpq]
  ·have h1':¬p=i:=fun e=>h1 e.symm
   have h2':¬q=i:=fun e=>h2 e.symm
   simp[h1,h2,h1',h2']
theorem ziM(n:Nat)(d:List (Nat×Nat)){p q:Nat}(hp:p<n)(hq:q<n)(hpq:p≠q):znL ((List.range n).map (adj d)) p q=(List.range n).map (adj (d++[(p,q)])):=by
 have gd:∀(e:List (Nat×Nat)) (i:Nat),i<n->((List.range n).map (adj e)).getD i []=adj e i:=fun e i hi=>by simp[getD_eq_getElem?_getD,hi]
 apply ext_getElem?
 intro i
 by_cases hi:i<n
 ·have e1:∀(l:List (List Nat)),l.length=n->l[i]?=some (l.getD i []):=fun l hl=>by
   rw[getD_eq_getElem?_getD,getElem?_eq_getElem (by omega)];rfl
  rw[e1 _ (by rw[ziJ];simp),e1 _ (by simp),gd _ i hi,zpj d p q i hpq]
  unfold znL
  rw[zd3 (by rw[zh0];simpa using hq),zd3 (by simpa using hp),zd3 (by simpa using hp),gd _ _ hp,gd _ _ hq,gd _ _ hi]
  congr 1
  by_cases h1:i=q
  ·subst h1
   rw[if_pos rfl,if_neg (Ne.symm hpq),if_pos rfl,if_neg (Ne.symm hpq)]
   simp
  ·rw[if_neg h1,if_neg h1]
   by_cases h2:i=p
   ·subst h2;simp
   ·simp[h2]
 ·rw[getElem?_eq_none (by rw[ziJ];simp;omega),getElem?_eq_none (by simp;omega)]
section
variable {b:List (List Nat)} {mk:W} {vl:Nat->Int} {s:Nat} {ce:Ce}
def Mk(b:List (List Nat))(mk:W)(vl:Nat->Int):Prop:=∀(ce:Ce) (x y:Nat),x<b.length->y<b.length->∃wx wy,ixW ce mk (nW x)=some wx/\ixW ce mk (nW y)=some wy/\eqW false ce wx wy=some (.bl (decide (vl x=vl y)))
theorem ztv{is:List Int}(h:is.length=b.length):Mk b (wS is) (fun x=>is.getD x 0):=fun ce x y hx hy=>⟨_,_,zbP (by omega),zbP (by omega),eqI0⟩
theorem ze3(fu:Nat)(hfu:200<=fu)(hm:Mk b mk vl)(hb:Bd b)(h36:b.length<=36)(hs:s<b.length) :
  d_x fu [wB b,mk,nW s] ce=some (.ok (.cel ce.length) (ce++[.lst ((cpt b vl s).map nW)])):=by
 have hz:=sl36
 unfold d_x
 refine zbK [some (wB b),some mk,some (nW s),none,none,none,none] rfl ?_
 trivial
 have O0:=((Own.start ce).alloc (C.dct (kvs [s]))).alloc (C.lst ([s].map nW))
 refine(?_:Run _ _ ((ce++[C.dct (kvs [s])])++[C.lst ([s].map nW)]) _)
 generalize h4:(ce++[C.dct (kvs [s])]).length=k4 at O0
 have h4':∀x:Key×W,(ce++[C.dct [x]]).length=k4:=fun x=>by rw[<- h4];simp
 rw[h4']
 generalize h3:ce.length=k3 at O0 ⊢
 generalize (ce++[C.dct (kvs [s])])++[C.lst ([s].map nW)]=c0 at O0 ⊢
 refine zg7 (σ:=List Nat×List Nat) (fun st sl c=>∃x5 x6,sl=[some (wB b),some mk,some (nW s),some (.cel k3),some (.cel k4),x5,x6]/\Own ce c [(k4,C.lst (st.2.map nW)),(k3,C.dct (kvs st.1))]/\st.1.Nodup/\s∈st.1/\(∀x∈st.1,x<b.length)/\(∀x∈st.2,x∈st.1)/\st.2.length<=st.1.length/\(∀x∈st.1,Reach b (okV vl s) s x)/\∀x∈st.1,x∉st.2->∀y∈b.getD x [],okV vl s y->y∈st.1)
  (fun st=>st.2.length+2*(36-st.1.length)) ([s],[s]) ⟨_,_,rfl,O0,by simp,by simp,by simpa using hs,by simp,by simp,by simpa using Reach.refl,by simp⟩ (by show [s].length+2*(36-[s].length)<fu;simp;omega) ?_
 rintro⟨F,Wt⟩ sl c ⟨x5,x6,rfl,O,nd,hsF,lt,sub,hW,re,cl⟩
 have g4:=O.g0
 have g3:=O.g1
 dsimp only at g4 g3 O nd hsF lt sub hW re cl
 have hF36:F.length<=36:=le_trans (zaQ nd lt) h36
 refine⟨!(Wt.map nW).isEmpty,by trivial,fun q=>?_,fun q=>?_⟩
 ·rcases eq_nil_or_concat Wt with rfl|⟨W0,p,hWt⟩
  ·simp at q
  ·rw[concat_eq_append] at hWt
   subst hWt
   have hpF:p∈F:=sub p (by simp)
   have hp:=lt p hpF
   have pp:=zrl (ys:=W0.map nW) (y:=nW p) g4 (by simp)
   have O1:=O.set0 (C.lst (W0.map nW))
   generalize c.set k4 (C.lst (W0.map nW))=c1 at O1 pp
   unfold zeW
   trivial
   refine zc2 (zs:=b.getD p []) (en:=nW) (zeP (by trivial)) (fun d sl c=>∃new x6,sl=[some (wB b),some mk,some (nW s),some (.cel k3),some (.cel k4),some (nW p),x6]/\Own ce c [(k4,C.lst ((W0++new).map nW)),(k3,C.dct (kvs (F++new)))]/\(F++new).Nodup/\(∀x∈new,x∈b.getD p []/\okV vl s x)/\∀x∈d,okV vl s x->x∈F++new)
    ⟨[],x6,rfl,by simpa using O1,by simpa using nd,by simp,by simp⟩ ?_ ?_
   ·rintro d y r sl c e hy ⟨new,x6,rfl,O,nd2,hnew,hd⟩
    have g4:=O.g0
    have g3:=O.g1
    have gd:=zkI g3
    have hy':=hb.get hy
    obtain⟨wx,wy,i1,i2,q1⟩:=hm c y s hy' hs
    have lt2:∀x∈F++new,x<b.length:=fun x hx=>by
     rcases mem_append.mp hx with hx|hx
     ·exact lt x hx
     ·exact hb.get (hnew x hx).1
    have hl2:=zaQ nd2 lt2
    have hk:(kvs (F++new)).length<PySem.sizeLine:=by rw[zdW];omega
    have hw:((W0++new).map nW).length<PySem.sizeLine:=by
     rw[length_map,length_append]
     rw[length_append] at hl2
     simp only[length_append,length_cons,length_nil] at hW
     omega
    unfold zeV
    refine zbO (p:=!decide (y∈F++new)&&decide (vl y=vl s)) (ce':=c) (by trivial) (fun q=>?_) (fun q=>?_)
    ·simp only[and_eq_true,not_eq_true',decide_eq_false_iff_not,decide_eq_true_eq] at q
     have O2:=O.set1 (C.dct (zjh (kvs (F++new)) (.inl (y:Int)) (.bl true)))
     rw[zhJ _ _ q.1] at O2
     have g4:=O2.g0
     have e1:C.dct (kvs (F++new++[y]))=C.dct (zjh (kvs (F++new)) (.inl (y:Int)) (.bl true)):=by rw[zhJ _ _ q.1]
     rw[e1] at g4
     trivial
     refine⟨new++[y],_,rfl,?_,?_,fun x hx=>?_,fun x hx o=>?_⟩
     ·have e2:(W0++(new++[y])).map nW=(W0++new).map nW++[nW y]:=by simp
      rw[<- e1,e2,<- append_assoc]
      exact O2.set0 _
     ·rw[<- append_assoc,nodup_append]
      exact⟨nd2,by simp,fun a ha c hc=>by rw[mem_singleton] at hc;subst hc;intro e;subst e;exact q.1 ha⟩
     ·rcases mem_append.mp hx with hx|hx
      ·exact hnew x hx
      ·rw[mem_singleton] at hx;subst hx;exact⟨hy,q.2⟩
     ·rw[<- append_assoc]
      rcases mem_append.mp hx with hx|hx
      ·exact mem_append_left _ (hd x hx o)
      ·rw[mem_singleton] at hx;subst hx;simp
    ·trivial
     refine⟨new,_,rfl,O,nd2,hnew,fun x hx o=>?_⟩
     rcases mem_append.mp hx with hx|hx
     ·exact hd x hx o
     ·rw[mem_singleton] at hx
      subst hx
      have o':vl x=vl s:=o
      simp only[o',decide_true,Bool.and_true,not_eq_false',decide_eq_true_eq] at q
      exact q
   ·rintro sl c ⟨new,x6,rfl,O,nd2,hnew,hd⟩
    have lt2:∀x∈F++new,x<b.length:=fun x hx=>by
     rcases mem_append.mp hx with hx|hx
     ·exact lt x hx
     ·exact hb.get (hnew x hx).1
    have hl2:=zaQ nd2 lt2
    simp only[length_append] at hl2
    simp only[length_append,length_cons,length_nil] at hW
    refine⟨(F++new,W0++new),?_,_,_,rfl,O,nd2,mem_append_left _ hsF,lt2,fun x hx=>?_,?_,fun x hx=>?_,fun x hx hn y hy o=>?_⟩
    ·show(W0++new).length+2*(36-(F++new).length)<(W0++[p]).length+2*(36-F.length)
     simp only[length_append,length_cons,length_nil]
     omega
    ·rcases mem_append.mp hx with hx|hx
     ·exact mem_append_left _ (sub x (by simp[hx]))
     ·exact mem_append_right _ hx
    ·show(W0++new).length<=(F++new).length
     simp only[length_append]
     omega
    ·rcases mem_append.mp hx with hx|hx
     ·exact re x hx
     ·exact(re p hpF).step (hnew x hx).1 (hnew x hx).2
    ·rcases mem_append.mp hx with hx|hx
     ·by_cases hxp:x=p
      ·subst hxp;exact hd y hy o
      ·exact mem_append_left _ (cl x hx (fun q=>by rcases mem_append.mp q with q|q;exact hn (mem_append_left _ q);exact hxp (by simpa using q)) y hy o)
     ·exact absurd (mem_append_right _ hx) hn
 ·have hW0:Wt=[]:=by simpa using q
  subst hW0
  have comp:Comp b (okV vl s) s F:=⟨nd,hsF,lt,fun x hx y hy o=>cl x hx (by simp) y hy o,re⟩
  trivial
  ·rw[ziz g3 (by omega),zcR (by rw[length_map,zch];omega)]
  ·rw[zo4 comp]
   subst h3
   exact(O.alloc _).finO (by simp only[ze9];exact bels_nW _ _)
theorem zrI(fu:Nat)(hfu:200<=fu)(hm:Mk b mk vl)(hb:Bd b)(h36:b.length<=36)(hs:s<b.length):zcr (d_x fu) [wB b,mk,nW s] ce=some (.ok (wL (cpt b vl s)) ce) :=
 zbM (ze3 fu hfu hm hb h36 hs) (bels_nW _ _)
end
section
variable {b:List (List Nat)} {mk:W} {vl:Nat->Int} {s:Nat} {ce:Ce}
theorem zju(fu:Nat)(hfu:200<=fu)(hm:Mk b mk vl)(hb:Bd b)(sym:Sym b)(h36:b.length<=36) :
  d_z fu [wB b,mk] ce=some (.ok (.cel ce.length) (ce++[.lst ((ptc b vl).map wL)])):=by
 have hz:=sl36
 unfold d_z
 refine zbK [some (wB b),some mk,none,none,none,none,none] rfl ?_
 trivial
 have O0:=((Own.start ce).alloc (C.dct (kvs []))).alloc (C.lst [])
 refine(?_:Run _ _ ((ce++[C.dct (kvs [])])++[C.lst []]) _)
 generalize h3:(ce++[C.dct []]).length=k3
 have h3':(ce++[C.dct (kvs [])]).length=k3:=h3
 rw[h3'] at O0
 generalize h2:ce.length=k2 at O0 ⊢
 generalize (ce++[C.dct (kvs [])])++[C.lst []]=c0 at O0 ⊢
 have hl':b.length<=1000:=by omega
 refine zbh (zs:=List.range b.length) (en:=nW) (zeQ (by trivial) hl')
  (fun d sl c=>∃S x4 x5 x6,sl=[some (wB b),some mk,some (.cel k2),some (.cel k3),x4,x5,x6]/\Own ce c [(k3,C.lst (((d.filter (zbQ b vl)).map (cpt b vl)).map wL)),(k2,C.dct (kvs S))]/\S.Nodup/\(∀x∈S,x<b.length)/\∀x,x∈S↔∃y∈d,x∈cpt b vl y)
  ⟨[],_,_,_,rfl,O0,by simp,by simp,by simp⟩ ?_ ?_
 ·rintro d p r sl c e hp ⟨S,x4,x5,x6,rfl,O,nd,lt,mem⟩
  have hp':p<b.length:=mem_range.mp hp
  have hd:=ze2 e
  have g3:=O.g0
  have g2:=O.g1
  have key:p∈S↔¬zbQ b vl p=true:=by
   rw[mem]
   constructor
   ·rintro⟨y,hy,hpy⟩ hl
    rw[hd] at hy
    have hy':=mem_range.mp hy
    unfold zbQ at hl
    rw[all_eq_true] at hl
    have:=of_decide_eq_true (hl y (ziB hb sym (by omega) hpy))
    omega
   ·intro hl
    unfold zbQ at hl
    rw[all_eq_true] at hl
    obtain⟨y,hy⟩:=Classical.not_forall.mp hl
    obtain⟨hy,hn⟩:=Classical.not_imp.mp hy
    have hn':¬p<=y:=fun q=>hn (decide_eq_true q)
    exact⟨y,by rw[hd];exact mem_range.mpr (by omega),ziB hb sym hp' hy⟩
  unfold zfG
  have hdl:d.length<b.length:=by have:=congrArg List.length e;simp at this;omega
  have hm3:(((d.filter (zbQ b vl)).map (cpt b vl)).map wL).length<PySem.sizeLine:=by simp only[length_map];have:=length_filter_le (zbQ b vl) d;omega
  have e1:=fun c=>zrI (ce:=c) fu hfu hm hb h36 hp'
  have e1c:=e1 c
  trivial
  ·rename_i q
   have q':p∉S:=by simpa using q
   have hl:zbQ b vl p=true:=Classical.byContradiction fun h=>q' (key.mpr h)
   have O1:=O.set0 (C.lst (((d.filter (zbQ b vl)).map (cpt b vl)).map wL++[wL (cpt b vl p)]))
   generalize c.set k3 (C.lst (((d.filter (zbQ b vl)).map (cpt b vl)).map wL++[wL (cpt b vl p)]))=c1 at O1 ⊢
   have ef:((d++[p]).filter (zbQ b vl)).map (cpt b vl)=(d.filter (zbQ b vl)).map (cpt b vl)++[cpt b vl p]:=by rw[filter_append,filter_cons_of_pos hl];simp
   refine zc2 (zs:=cpt b vl p) (en:=nW) (zhM (by trivial)) (fun d' sl c=>∃S' x6,sl=[some (wB b),some mk,some (.cel k2),some (.cel k3),some (nW p),some (wL (cpt b vl p)),x6]/\Own ce c [(k3,C.lst ((((d++[p]).filter (zbQ b vl)).map (cpt b vl)).map wL)),(k2,C.dct (kvs S'))]/\S'.Nodup/\(∀x∈S',x<b.length)/\∀x,x∈S'↔x∈S\/x∈d')
    ⟨S,x6,rfl,by rw[ef,map_append];exact O1,nd,lt,by simp⟩ ?_ ?_
   ·rintro d' y r' sl c e' hy ⟨S',x6,rfl,O,nd',lt',mem'⟩
    have gd:=zkI O.g1
    have hS:=zaQ nd' lt'
    have hk:(kvs S').length<PySem.sizeLine:=by rw[zdW];omega
    unfold zfF
    trivial
    refine⟨ins S' y,_,rfl,by rw[zkT];exact O.set1 _,znz nd',fun x hx=>?_,fun x=>?_⟩
    ·rcases ins_mem.mp hx with hx|rfl
     ·exact lt' x hx
     ·exact cpt_lt hy
    ·rw[ins_mem,mem',mem_append,mem_singleton,or_assoc]
   ·rintro sl c ⟨S',x6,rfl,O,nd',lt',mem'⟩
    refine⟨S',_,_,_,rfl,O,nd',lt',fun x=>?_⟩
    rw[mem',mem]
    constructor
    ·rintro(⟨y,hy,h⟩|h)
     ·exact⟨y,mem_append_left _ hy,h⟩
     ·exact⟨p,by simp,h⟩
    ·rintro⟨y,hy,h⟩
     rcases mem_append.mp hy with hy|hy
     ·exact .inl ⟨y,hy,h⟩
     ·rw[mem_singleton] at hy;subst hy;exact .inr h
  ·rename_i q
   have q':p∈S:=by simpa using q
   have hl:¬zbQ b vl p=true:=key.mp q'
   refine⟨S,_,_,_,rfl,?_,nd,lt,fun x=>?_⟩
   ·rw[filter_append,filter_cons_of_neg hl,filter_nil,append_nil];exact O
   ·rw[mem]
    constructor
    ·rintro⟨y,hy,h⟩
     exact⟨y,mem_append_left _ hy,h⟩
    ·rintro⟨y,hy,h⟩
     rcases mem_append.mp hy with hy|hy
     ·exact⟨y,hy,h⟩
     ·rw[mem_singleton] at hy
      subst hy
      obtain⟨z,hz,hyz⟩:=(mem y).mp q'
      have hz':z<b.length:=by rw[hd] at hz;have:=mem_range.mp hz;omega
      exact⟨z,hz,by rw[<- zdz hb sym hz' hyz];exact h⟩
 ·rintro sl c ⟨S,x4,x5,x6,rfl,O,nd,lt,mem⟩
  trivial
  subst h2
  exact O.finO (by simp only[ze9];exact zeR _ _)
theorem znO(fu:Nat)(hfu:200<=fu)(hm:Mk b mk vl)(hb:Bd b)(sym:Sym b)(h36:b.length<=36):zcr (d_z fu) [wB b,mk] ce=some (.ok (.lst ((ptc b vl).map wL)) ce) :=
 zbM (zju fu hfu hm hb sym h36) (zeR _ _)
end
def zaO(b:List (List Nat))(row:List Nat):List Nat:=(List.range b.length).filter fun y=>row.any fun p=>decide (y∈b.getD p [])
section
variable {b:List (List Nat)} {b0 ce:Ce} {row:List Nat}
theorem zen(fu:Nat)(hb:Bd b)(h36:b.length<=36){w1:W}(hw:LstOf ce w1 (row.map nW))(hr:∀p∈row,p<b.length) :
  d_f fu [wB b,w1] ce=some (.ok (.cel ce.length) (ce++[.lst ((zaO b row).map nW)])):=by
 unfold d_f
 have hz:=sl36
 refine zfo ?_
 simp only[map_cons,map_nil,cons_append,nil_append,length_cons,length_nil,List.replicate,Nat.reduceAdd,Nat.reduceSub]
 trivial
 have O0:=(Own.start ce).alloc (C.dct [])
 obtain⟨s,hs,hsi,_⟩:=hw.src
 have hst:∀{c1:Ce} {l:List (Nat×C)},Own ce c1 l->s.Stays c1:=by
  intro c1 l h
  obtain⟨t,rfl⟩:=h.cut
  cases hw with
  | fr=>simp only[zin] at hs;cases hs;exact True.intro
  | cl g =>
   simp only[zin,g] at hs
   cases hs
   show(ce++t)[_]?=_
   rw[getElem?_append_left (List.getElem?_eq_some_iff.mp g).1]
   exact g
 have hs':∀{c1:Ce} {l:List (Nat×C)},Own ce c1 l->zin c1 w1=some s:=by
  intro c1 l h
  obtain⟨t,rfl⟩:=h.cut
  cases hw with
  | fr=>exact hs
  | cl g =>
   simp only[zin,g] at hs ⊢
   rw[getElem?_append_left (List.getElem?_eq_some_iff.mp g).1,g]
   exact hs
 refine zhK (xs:=row) (en:=nW) (src:=s) (ce0:=ce++[C.dct []]) (by trivial;exact hs' O0) hsi
  (fun d sl c=>∃F x3 x4,sl=[some (wB b),some w1,some (.cel ce.length),x3,x4]/\Own ce c [(ce.length,C.dct (kvs F))]/\F.Nodup/\(∀x∈F,x<b.length)/\∀x,x∈F↔∃p∈d,x∈b.getD p [])
  ⟨[],none,none,rfl,O0,by simp,by simp,by simp⟩ ?_ (fun sl c h=>by obtain⟨_,_,_,_,O,_⟩:=h;exact hst O) ?_
 ·rintro d p r sl c e hp ⟨F,x3,x4,rfl,O,nd,lt,mem⟩
  refine⟨hst O,?_⟩
  have hp':=hr p hp
  unfold zcJ
  refine zc2 (zs:=b.getD p []) (en:=nW) (zeP (by trivial))
   (fun d' sl c=>∃F x4,sl=[some (wB b),some w1,some (.cel ce.length),some (nW p),x4]/\Own ce c [(ce.length,C.dct (kvs F))]/\F.Nodup/\(∀x∈F,x<b.length)/\∀x,x∈F↔(∃p∈d,x∈b.getD p [])\/x∈d')
   ⟨F,x4,rfl,O,nd,lt,by simpa using mem⟩ ?_ ?_
  ·rintro d' y r' sl c e' hy ⟨F,x4,rfl,O,nd,lt,mem⟩
   unfold zcI
   have g:=zkI O.g0
   have hl:(kvs F).length<PySem.sizeLine:=by rw[zdW];have:=zaQ nd lt;omega
   trivial
   refine⟨ins F y,some (nW y),rfl,?_,znz nd,fun x hx=>?_,fun x=>?_⟩
   ·rw[zkT];exact O.set0 _
   ·rcases ins_mem.mp hx with hx|rfl
    ·exact lt x hx
    ·exact hb.get hy
   ·rw[ins_mem,mem,mem_append,mem_singleton,or_assoc]
  ·rintro sl c ⟨F,x4,rfl,O,nd,lt,mem⟩
   refine⟨F,some (nW p),x4,rfl,O,nd,lt,fun x=>?_⟩
   rw[mem]
   constructor
   ·rintro(⟨q,hq,h⟩|h)
    ·exact⟨q,mem_append_left _ hq,h⟩
    ·exact⟨p,by simp,h⟩
   ·rintro⟨q,hq,h⟩
    rcases mem_append.mp hq with hq|hq
    ·exact .inl ⟨q,hq,h⟩
    ·rw[mem_singleton] at hq;subst hq;exact .inr h
 ·rintro sl c ⟨F,x3,x4,rfl,O,nd,lt,mem⟩
  have hl:=zaQ nd lt
  have es:zcb F=zaO b row:=by
   rw[zf8 nd lt]
   unfold zaO
   apply filter_congr
   intro x _
   rw[Bool.eq_iff_iff]
   simp[mem]
  trivial
  ·rw[ziz O.g0 (by omega),zcR (by rw[es,length_map];unfold zaO;have:=length_filter_le (fun y=>row.any fun p=>decide (y∈b.getD p [])) (List.range b.length);rw[length_range] at this;omega)]
  ·rw[es]
   exact((O.alloc _).finO (by simp only[ze9];exact bels_nW _ _))
end
def brs(b:List (List Nat))(is:List Int)(row:List Nat):List Nat:=(zaO b row).filter fun p=>decide (is.getD p 0=0)
section
variable {b:List (List Nat)} {ce:Ce} {row:List Nat} {is:List Int}
theorem zcu{y:Nat}(h:y∈zaO b row):y<b.length:=mem_range.mp (mem_filter.mp h).1
theorem ze4:(zaO b row).length<=b.length:=by
 have:=length_filter_le (fun y=>row.any fun p=>decide (y∈b.getD p [])) (List.range b.length)
 rw[length_range] at this
 exact this
theorem znP(fu:Nat)(hb:Bd b)(h36:b.length<=36){w1:W}(hw:LstOf ce w1 (row.map nW))(hr:∀p∈row,p<b.length):zcr (d_f fu) [wB b,w1] ce=some (.ok (wL (zaO b row)) ce) :=
 zbM (zen fu hb h36 hw hr) (bels_nW _ _)
theorem zjv(fu:Nat)(hb:Bd b)(h36:b.length<=36)(hl:is.length=b.length){w1:W}(hw:LstOf ce w1 (row.map nW))(hr:∀p∈row,p<b.length) :
  d_aa fu [wB b,wS is,w1] ce=some (.ok (.cel ce.length) (ce++[.lst ((brs b is row).map nW)])):=by
 unfold d_aa
 have hz:=sl36
 have e1:=znP fu hb h36 hw hr
 have h2:=ze4 (b:=b) (row:=row)
 refine zbK [some (wB b),some (wS is),some w1] rfl ?_
 refine zau (ztl (zs:=zaO b row) (en:=nW) (t:=fun p=>decide (is.getD p 0=0)) (by trivial) (by omega) (fun p hp=>?_)) ?_
 ·have:=zcu hp
  have hp':p<is.length:=by omega
  trivial
 ·exact(((Own.start ce).alloc _).finO (by simp only[ze9];exact bels_nW _ _))
end
open Classical in
def vT(T:List Nat):Nat->Int:=fun x=>if x∈T then 0 else 1
theorem zrJ{T:List Nat}{x:Nat}(h:x∈T):vT T x=0:=if_pos h
theorem zk8{T:List Nat}{s y:Nat}(hs:s∈T):okV (vT T) s y↔y∈T:=by
 unfold okV
 rw[zrJ hs]
 constructor
 ·intro h
  by_cases hy:y∈T
  ·exact hy
  ·unfold vT at h;rw[if_neg hy] at h;omega
 ·exact zrJ
def thr(is H:List Int):List Nat:=(List.range is.length).filter fun p=>decide (is.getD p 0∈H)
def lpt(b:List (List Nat))(T:List Nat):List (List Nat):=(T.filter (zbQ b (vT T))).map (cpt b (vT T))
theorem zrK{is H:List Int}{x:Nat}(h:x∈thr is H):x<is.length:=mem_range.mp (mem_filter.mp h).1
theorem zbI(is:List Int)(p q:Nat)(v:Int):(is.set p v).getD q 0=if p=q/\p<is.length then v else is.getD q 0:=by
 simp only[getD_eq_getElem?_getD,getElem?_set]
 by_cases h:p=q
 ·subst h
  by_cases h2:p<is.length
  ·simp[h2]
  ·simp[h2]
 ·simp[h]
abbrev vS(is:List Int):Nat->Int:=fun x=>is.getD x 0
abbrev vH(is:List Int)(h:Int):Nat->Int:=fun x=>if is.getD x 0=h then 1 else 0
theorem zcv{b:List (List Nat)}{ok ok':Nat->Prop}{s:Nat}(h:∀x y,Reach b ok s x->Reach b ok' s x->y∈b.getD x []->ok y->ok' y){x:Nat}(r:Reach b ok s x):Reach b ok' s x:=by
 induction r with
 | refl=>exact .refl
 | step r hy o ih=>exact ih.step hy (h _ _ r ih hy o)
open Classical in
theorem zk9{b:List (List Nat)}{vl vl':Nat->Int}{s:Nat}(e:∀y,Reach b (okV vl s) s y↔Reach b (okV vl' s) s y):cpt b vl s=cpt b vl' s:=by
 unfold cpt
 apply filter_congr
 intro y _
 rw[Bool.eq_iff_iff,decide_eq_true_eq,decide_eq_true_eq]
 exact e y
theorem ziN{b:List (List Nat)}{vl:Nat->Int}(hb:Bd b)(sym:Sym b){s t q:Nat}(hs:s<b.length)(ht:t<b.length)(h1:q∈cpt b vl s)(h2:q∈cpt b vl t):cpt b vl s=cpt b vl t:=by
 rw[<- zdz hb sym hs h1,<- zdz hb sym ht h2]
def zla(b:List (List Nat))(is:List Int)(h:Int):Prop:=∀s,s<b.length->is.getD s 0=h->∃x y,Reach b (okV (vS is) s) s x/\y∈b.getD x []/\is.getD y 0=0
theorem zdm{b:List (List Nat)}{is:List Int}{r:List Nat}(hb:Bd b){y:Nat}:y∈brs b is r↔(∃x∈r,y∈b.getD x [])/\is.getD y 0=0:=by
 unfold brs zaO
 rw[mem_filter,mem_filter,mem_range,any_eq_true,decide_eq_true_eq]
 constructor
 ·rintro⟨⟨_,x,hx,q⟩,h0⟩
  exact⟨⟨x,hx,of_decide_eq_true q⟩,h0⟩
 ·rintro⟨⟨x,hx,q⟩,h0⟩
  exact⟨⟨hb.get q,x,hx,decide_eq_true q⟩,h0⟩
theorem zlb{b:List (List Nat)}{is:List Int}{r:List Nat}(hb:Bd b):brs b is r=[]↔∀x∈r,∀y∈b.getD x [],is.getD y 0≠0:=by
 rw[eq_nil_iff_forall_not_mem]
 constructor
 ·intro h x hx y hy h0
  exact h y ((zdm hb).mpr ⟨⟨x,hx,hy⟩,h0⟩)
 ·intro h y hy
  obtain⟨⟨x,hx,hy⟩,h0⟩:=(zdm hb).mp hy
  exact h x hx y hy h0
structure Swp (b:List (List Nat)) (is:List Int) (h:Int) (d:List (List Nat)) (is':List Int) (D:List (List Nat)):Prop where
 len:is'.length=is.length
 sub:∀r∈D,r∈d
 zp:∀r∈D,∀q∈r,is'.getD q 0=0
 was:∀q,is'.getD q 0=is.getD q 0\/(is'.getD q 0=0/\∃r∈D,q∈r)
 fre:∀r∈d,r∈D\/∃x∈r,∃y∈b.getD x [],is'.getD y 0=0
 no:∀r∈D,∀x∈r,∀y∈b.getD x [],is.getD y 0≠0
theorem thr_mem{is:List Int}{h:Int}{p:Nat}:p∈thr is [h]↔p<is.length/\is.getD p 0=h:=by
 unfold thr
 rw[mem_filter,mem_range,decide_eq_true_eq,mem_singleton]
theorem ziO{b:List (List Nat)}{T:List Nat}(hb:Bd b)(sym:Sym b)(hT:∀x∈T,x<b.length){s:Nat}(hs:s∈T):cpt b (vT T) s∈lpt b T:=by
 obtain⟨m,h1,h2,h3⟩:=zdA (vl:=vT T) hb sym (hT s hs)
 have hm:m∈T:=(zk8 hs).mp (cpt_val hb (hT s hs) h1)
 exact mem_map.mpr ⟨m,mem_filter.mpr ⟨hm,h2⟩,h3⟩
theorem ziP{b:List (List Nat)}{T:List Nat}{c:List Nat}(h:c∈lpt b T):∃s∈T,c=cpt b (vT T) s:=by
 obtain⟨s,hs,rfl⟩:=mem_map.mp h
 exact⟨s,(mem_filter.mp hs).1,rfl⟩
theorem ze5{b:List (List Nat)}{is:List Int}(hb:Bd b)(hl:is.length=b.length){s:Nat}(hs:s<b.length):cpt b (vT (thr is [is.getD s 0])) s=cpt b (vS is) s:=by
 have hT:s∈thr is [is.getD s 0]:=thr_mem.mpr ⟨by omega,rfl⟩
 refine zk9 fun y=>⟨fun r=>zcv (fun x y _ _ _ o=>?_) r,fun r=>zcv (fun x y _ _ hy o=>?_) r⟩
 ·exact(thr_mem.mp ((zk8 hT).mp o)).2
 ·exact(zk8 hT).mpr (thr_mem.mpr ⟨by rw[hl];exact hb.get hy,o⟩)
section
variable {b:List (List Nat)} {is is':List Int} {h o:Int} {D:List (List Nat)}
theorem Swp.hand{d:List (List Nat)}(S:Swp b is h d is' D)(hb:Bd b)(hl:is.length=b.length)(hd:∀r∈d,r∈lpt b (thr is [h])){r:List Nat}(hr:r∈D){q:Nat}(hq:q∈r):is.getD q 0=h/\r=cpt b (vS is) q\/¬Sym b:=by
 by_cases sym:Sym b
 ·left
  obtain⟨s,hs,rfl⟩:=ziP (hd r (S.sub r hr))
  have hs':=thr_mem.mp hs
  have hsb:s<b.length:=by omega
  have e:=hs'.2
  subst e
  rw[ze5 hb hl hsb] at hq ⊢
  exact⟨cpt_val hb hsb hq,(zdz hb sym hsb hq).symm⟩
 ·exact .inr sym
theorem Swp.hand'{d:List (List Nat)}(S:Swp b is h d is' D)(hb:Bd b)(sym:Sym b)(hl:is.length=b.length)(hd:∀r∈d,r∈lpt b (thr is [h])){r:List Nat}(hr:r∈D){q:Nat}(hq:q∈r):is.getD q 0=h/\r=cpt b (vS is) q:=(S.hand hb hl hd hr hq).resolve_right (fun n=>n sym)
theorem Swp.snd(S:Swp b is h (lpt b (thr is [h])) is' D)(hb:Bd b)(sym:Sym b)(hl:is.length=b.length)(h0:h≠0):zla b is' h:=by
 intro s hs e
 have es:is.getD s 0=h:=by
  rcases S.was s with q|q
  ·rw[<- q];exact e
  ·exact absurd (e.symm.trans q.1) h0
 have hr:cpt b (vS is) s∈lpt b (thr is [h]):=by
  have:=ziO (T:=thr is [is.getD s 0]) hb sym (fun x hx=>by have:=(thr_mem.mp hx).1;omega) (thr_mem.mpr ⟨by omega,rfl⟩:s∈_)
  rwa [ze5 hb hl hs,es] at this
 have nD:cpt b (vS is) s∉D:=fun hD=>h0 (by rw[<- e];exact S.zp _ hD s (zcB hb hs))
 rcases S.fre _ hr with q|⟨x,hx,y,hy,hy0⟩
 ·exact absurd q nD
 ·refine⟨x,y,?_,hy,hy0⟩
  refine zcv (fun u z ru _ hz oz=>?_) ((zcl hb hs).mp hx)
  have hzr:z∈cpt b (vS is) s:=(zcl hb hs).mpr (ru.step hz oz)
  show is'.getD z 0=is'.getD s 0
  rw[e]
  rcases S.was z with q|⟨_,r,hrD,hzr2⟩
  ·rw[q];exact oz.trans es
  ·obtain⟨_,er⟩:=S.hand' hb sym hl (fun r hr=>hr) hrD hzr2
   rw[er,zdz hb sym hs hzr] at hrD
   exact absurd hrD nD
structure Pap (b:List (List Nat)) (is:List Int) (h:Int) (R C:List (List Nat)):Prop where
 row:∀r∈R,∃s,s<b.length/\is.getD s 0=h/\r=cpt b (vS is) s
 cl:∀c∈C,∃s,s<b.length/\is.getD s 0≠h/\c=cpt b (vH is h) s
 firm:∀r∈R,∃c1∈C,∃c2∈C,c1≠c2/\(∀p∈c1,is.getD p 0=0->p∈brs b is r)/\∀p∈c2,is.getD p 0=0->p∈brs b is r
 wall:∀c∈C,∀x∈c,∀y∈b.getD x [],is.getD y 0=h->∃r∈R,y∈r
structure LaidOk (b:List (List Nat)) (is:List Int) (h o:Int) (p:Nat) (is':List Int) (D:List (List Nat)):Prop where
 hl:is.length=b.length
 hp:p<b.length
 p0:is.getD p 0=0
 sw:Swp b (is.set p o) h (lpt b (thr (is.set p o) [h])) is' D
 br:∃x y,Reach b (okV (vS is') p) p x/\y∈b.getD x []/\is'.getD y 0=0
structure Hands (h o:Int):Prop where
 h0:h≠0
 o0:o≠0
 ho:o≠h
theorem LaidOk.set1{p:Nat}(L:LaidOk b is h o p is' D)(q:Nat):(is.set p o).getD q 0=if q=p then o else is.getD q 0:=by
 rw[zbI]
 by_cases e:q=p
 ·subst e;rw[if_pos ⟨rfl,by rw[L.hl];exact L.hp⟩,if_pos rfl]
 ·rw[if_neg (fun x=>e x.1.symm),if_neg e]
theorem LaidOk.val{p:Nat}(L:LaidOk b is h o p is' D)(hb:Bd b)(sym:Sym b)(H:Hands h o)(q:Nat):is'.getD q 0=(if q=p then o else is.getD q 0)\/(is'.getD q 0=0/\is.getD q 0=h/\q≠p/\∃r∈D,q∈r):=by
 rcases L.sw.was q with e|⟨e,r,hr,hq⟩
 ·left;rw[e,L.set1]
 ·obtain⟨e1,_⟩:=L.sw.hand' hb sym (by rw[length_set];exact L.hl) (fun r hr=>hr) hr hq
  rw[L.set1] at e1
  by_cases hqp:q=p
  ·rw[if_pos hqp] at e1;exact absurd e1 H.ho
  ·rw[if_neg hqp] at e1;exact .inr ⟨e,e1,hqp,r,hr,hq⟩
theorem LaidOk.isO{p:Nat}(L:LaidOk b is h o p is' D)(hb:Bd b)(sym:Sym b)(H:Hands h o){q:Nat}(e:is.getD q 0=o):is'.getD q 0=o:=by
 rcases L.val hb sym H q with v|v
 ·rw[v];split
  ·rfl
  ·exact e
 ·exact absurd (e.symm.trans v.2.1) H.ho
theorem LaidOk.isP{p:Nat}(L:LaidOk b is h o p is' D)(hb:Bd b)(sym:Sym b)(H:Hands h o):is'.getD p 0=o:=by
 rcases L.val hb sym H p with v|v
 ·rw[v,if_pos rfl]
 ·exact absurd rfl v.2.2.1
theorem LaidOk.is0{p:Nat}(L:LaidOk b is h o p is' D)(hb:Bd b)(sym:Sym b)(H:Hands h o){q:Nat}(e:is.getD q 0=0)(hq:q≠p):is'.getD q 0=0:=by
 rcases L.val hb sym H q with v|v
 ·rw[v,if_neg hq];exact e
 ·exact v.1
theorem LaidOk.snd{p:Nat}(L:LaidOk b is h o p is' D)(hb:Bd b)(sym:Sym b)(H:Hands h o)(N:zla b is o):zla b is' o:=by
 intro s hs e
 have eP:=L.isP hb sym H
 by_cases hsp:Reach b (okV (vS is') s) s p
 ·obtain⟨x,y,r,hy,h0⟩:=L.br
  refine⟨x,y,hsp.trans ?_,hy,h0⟩
  have:okV (vS is') s=okV (vS is') p:=znC (vl:=vS is') (x:=s) (s:=p) (e.trans eP.symm)
  rw[this];exact r
 ·have hne:s≠p:=fun q=>hsp (by subst q;exact .refl)
  have es:is.getD s 0=o:=by
   rcases L.val hb sym H s with v|v
   ·rw[if_neg hne] at v;exact v.symm.trans e
   ·exact absurd (e.symm.trans v.1) H.o0
  obtain⟨x,y,r,hy,h0⟩:=N s hs es
  have r':Reach b (okV (vS is') s) s x:=zcv (fun u z _ _ _ oz=>by
   show is'.getD z 0=is'.getD s 0
   rw[e];exact L.isO hb sym H (oz.trans es)) r
  refine⟨x,y,r',hy,L.is0 hb sym H h0 fun q=>hsp ?_⟩
  subst q
  exact r'.step hy (eP.trans e.symm)
end
theorem zgo{n:Nat}{t:Nat->Bool}{x:Nat}:x∈(List.range n).filter t↔x<n/\t x=true:=by rw[mem_filter,mem_range]
def lD(b:List (List Nat))(is:List Int)(o:Int)(p:Nat):List (List Nat):=(lpt b (thr (is.set p o) [3-o])).filter fun r=>decide (brs b (is.set p o) r=[])
def lT(b:List (List Nat))(is:List Int)(o:Int)(p:Nat):List Nat:=(List.range b.length).filter fun q=>(lD b is o p).any fun r=>decide (q∈r)
def lS(b:List (List Nat))(is:List Int)(o:Int)(p:Nat):List Int:=(List.range is.length).map fun q=>if q=p then o else if q∈lT b is o p then 0 else is.getD q 0
structure LyA (b:List (List Nat)) (is:List Int) (o:Int) (p:Nat):Prop where
 bd:Bd b
 sym:Sym b
 hl:is.length=b.length
 hp:p<b.length
 p0:is.getD p 0=0
 H:Hands (3-o) o
 v:∀q,q<b.length->is.getD q 0=0\/is.getD q 0=3-o\/is.getD q 0=o
 nh:zla b is (3-o)
 no:zla b is o
section
variable {b:List (List Nat)} {is:List Int} {o:Int} {p:Nat}
theorem zee:(lS b is o p).length=is.length:=by simp[lS]
theorem LyA.s1(A:LyA b is o p)(q:Nat):(is.set p o).getD q 0=if q=p then o else is.getD q 0:=by
 rw[zbI]
 by_cases e:q=p
 ·subst e;rw[if_pos ⟨rfl,by rw[A.hl];exact A.hp⟩,if_pos rfl]
 ·rw[if_neg (fun x=>e x.1.symm),if_neg e]
theorem LyA.l1(A:LyA b is o p):(is.set p o).length=b.length:=by rw[length_set];exact A.hl
theorem LyA.get(A:LyA b is o p){q:Nat}(hq:q<b.length):(lS b is o p).getD q 0=if q=p then o else if q∈lT b is o p then 0 else is.getD q 0:=by
 unfold lS
 rw[getD_eq_getElem?_getD,getElem?_map,getElem?_range (by rw[A.hl];exact hq)]
 rfl
theorem LyA.far(A:LyA b is o p){q:Nat}(hq:¬q<b.length):(lS b is o p).getD q 0=0/\is.getD q 0=0:=by
 have h1:=A.hl
 constructor
 ·rw[getD_eq_getElem?_getD,getElem?_eq_none (by rw[zee];omega)];rfl
 ·rw[getD_eq_getElem?_getD,getElem?_eq_none (by omega)];rfl
theorem LyA.dead(A:LyA b is o p){r:List Nat}:r∈lD b is o p↔∃s,s<b.length/\is.getD s 0=3-o/\r=cpt b (vS is) s/\∀x∈r,∀y∈b.getD x [],is.getD y 0=0->y=p:=by
 have hT:∀{s},s∈thr (is.set p o) [3-o]↔s<b.length/\is.getD s 0=3-o:=fun {s}=>by
  rw[thr_mem,A.l1,A.s1]
  constructor
  ·rintro⟨h1,h2⟩
   by_cases e:s=p
   ·rw[if_pos e] at h2;exact absurd h2 A.H.ho
   ·rw[if_neg e] at h2;exact⟨h1,h2⟩
  ·rintro⟨h1,h2⟩
   have e:s≠p:=fun e=>by subst e;exact A.H.h0 (h2.symm.trans A.p0)
   exact⟨h1,by rw[if_neg e];exact h2⟩
 have hc:∀{s},s<b.length->is.getD s 0=3-o->cpt b (vT (thr (is.set p o) [3-o])) s=cpt b (vS is) s:=fun {s} hs es=>by
  have hsT:=hT.mpr ⟨hs,es⟩
  refine zk9 fun y=>⟨fun r=>zcv (fun u z _ _ hz oz=>?_) r,fun r=>zcv (fun u z _ _ hz oz=>?_) r⟩
  ·exact(hT.mp ((zk8 hsT).mp oz)).2.trans es.symm
  ·exact(zk8 hsT).mpr (hT.mpr ⟨A.bd.get hz,Eq.trans oz es⟩)
 have hb1:∀{r:List Nat},brs b (is.set p o) r=[]↔∀x∈r,∀y∈b.getD x [],is.getD y 0=0->y=p:=fun {r}=>by
  rw[zlb A.bd]
  constructor
  ·intro h x hx y hy y0
   apply Classical.byContradiction
   intro hne
   exact h x hx y hy (by rw[A.s1,if_neg hne];exact y0)
  ·intro h x hx y hy
   rw[A.s1]
   by_cases e:y=p
   ·rw[if_pos e];exact A.H.o0
   ·rw[if_neg e];exact fun y0=>e (h x hx y hy y0)
 unfold lD
 rw[mem_filter,decide_eq_true_eq,hb1]
 constructor
 ·rintro⟨h1,h2⟩
  obtain⟨s,hs,rfl⟩:=ziP h1
  obtain⟨q1,q2⟩:=hT.mp hs
  rw[hc q1 q2] at h2 ⊢
  exact⟨s,q1,q2,rfl,h2⟩
 ·rintro⟨s,q1,q2,rfl,h2⟩
  refine⟨?_,h2⟩
  have:=ziO (T:=thr (is.set p o) [3-o]) A.bd A.sym (fun x hx=>(hT.mp hx).1) (hT.mpr ⟨q1,q2⟩)
  rwa [hc q1 q2] at this
theorem LyA.tk(A:LyA b is o p){q:Nat}:q∈lT b is o p↔∃r∈lD b is o p,q∈r:=by
 unfold lT
 rw[zgo,any_eq_true]
 constructor
 ·rintro⟨_,r,hr,hq⟩;exact⟨r,hr,of_decide_eq_true hq⟩
 ·rintro⟨r,hr,hq⟩
  obtain⟨s,hs,_,rfl,_⟩:=A.dead.mp hr
  exact⟨cpt_lt hq,_,hr,decide_eq_true hq⟩
theorem LyA.tkh(A:LyA b is o p){q:Nat}(h:q∈lT b is o p):q<b.length/\is.getD q 0=3-o/\q≠p:=by
 obtain⟨r,hr,hq⟩:=A.tk.mp h
 obtain⟨s,hs,es,rfl,_⟩:=A.dead.mp hr
 have e:is.getD q 0=3-o:=(cpt_val A.bd hs hq).trans es
 exact⟨cpt_lt hq,e,fun e'=>by subst e';exact A.H.h0 (e.symm.trans A.p0)⟩
theorem LyA.swp(A:LyA b is o p):Swp b (is.set p o) (3-o) (lpt b (thr (is.set p o) [3-o])) (lS b is o p) (lD b is o p):=by
 have low:∀y,(is.set p o).getD y 0=0->(lS b is o p).getD y 0=0:=fun y h0=>by
  by_cases hy:y<b.length
  ·rw[A.s1] at h0
   rw[A.get hy]
   by_cases e:y=p
   ·rw[if_pos e] at h0;exact absurd h0 A.H.o0
   ·rw[if_neg e] at h0 ⊢
    split
    ·rfl
    ·exact h0
  ·exact(A.far hy).1
 refine⟨by rw[zee,length_set],fun r hr=>(mem_filter.mp hr).1,fun r hr q hq=>?_,fun q=>?_,fun r hr=>?_,fun r hr=>?_⟩
 ·have ht:=A.tk.mpr ⟨r,hr,hq⟩
  obtain⟨h1,_,h3⟩:=A.tkh ht
  rw[A.get h1,if_neg h3,if_pos ht]
 ·by_cases hq:q<b.length
  ·rw[A.get hq,A.s1]
   by_cases e:q=p
   ·rw[if_pos e,if_pos e];exact .inl rfl
   ·rw[if_neg e,if_neg e]
    by_cases ht:q∈lT b is o p
    ·rw[if_pos ht];exact .inr ⟨rfl,A.tk.mp ht⟩
    ·rw[if_neg ht];exact .inl rfl
  ·left
   rw[(A.far hq).1,A.s1,if_neg (fun e=>hq (by rw[e];exact A.hp)),(A.far hq).2]
 ·by_cases e:brs b (is.set p o) r=[]
  ·exact .inl (mem_filter.mpr ⟨hr,decide_eq_true e⟩)
  ·obtain⟨y,hy⟩:=exists_mem_of_ne_nil _ e
   obtain⟨⟨x,hx,hy⟩,h0⟩:=(zdm A.bd).mp hy
   exact .inr ⟨x,hx,y,hy,low y h0⟩
 ·exact(zlb A.bd).mp (of_decide_eq_true (mem_filter.mp hr).2)
def Frb(b:List (List Nat))(is:List Int)(o:Int)(p:Nat):Prop:=brs b (lS b is o p) (cpt b (vS (lS b is o p)) p)≠[]
theorem LyA.laid(A:LyA b is o p)(h:Frb b is o p):LaidOk b is (3-o) o p (lS b is o p) (lD b is o p):=by
 refine⟨A.hl,A.hp,A.p0,A.swp,?_⟩
 obtain⟨y,hy⟩:=exists_mem_of_ne_nil _ h
 obtain⟨⟨x,hx,hy⟩,h0⟩:=(zdm A.bd).mp hy
 exact⟨x,y,(zcl A.bd A.hp).mp hx,hy,h0⟩
theorem LyA.snd(A:LyA b is o p)(h:Frb b is o p):zla b (lS b is o p) o/\zla b (lS b is o p) (3-o) :=
 ⟨(A.laid h).snd A.bd A.sym A.H A.no,A.swp.snd A.bd A.sym A.l1 A.H.h0⟩
theorem LyA.vals(A:LyA b is o p):∀q,q<b.length->(lS b is o p).getD q 0=0\/(lS b is o p).getD q 0=3-o\/(lS b is o p).getD q 0=o:=fun q hq=>by
 rw[A.get hq]
 split
 ·exact .inr (.inr rfl)
 ·split
  ·exact .inl rfl
  ·exact A.v q hq
end
structure PosA (b:List (List Nat)) (is:List Int) (o:Int):Prop where
 bd:Bd b
 sym:Sym b
 hl:is.length=b.length
 H:Hands (3-o) o
 v:∀q,q<b.length->is.getD q 0=0\/is.getD q 0=3-o\/is.getD q 0=o
 nh:zla b is (3-o)
 no:zla b is o
section
variable {b:List (List Nat)} {is:List Int} {o:Int} {p:Nat}
theorem PosA.ly(P:PosA b is o)(hp:p<b.length)(p0:is.getD p 0=0):LyA b is o p:=⟨P.bd,P.sym,P.hl,hp,p0,P.H,P.v,P.nh,P.no⟩
theorem PosA.next(P:PosA b is o)(A:LyA b is o p)(f:Frb b is o p):PosA b (lS b is o p) o :=
 ⟨P.bd,P.sym,by rw[zee];exact P.hl,P.H,A.vals,(A.snd f).2,(A.snd f).1⟩
inductive Way (b:List (List Nat)) (o:Int):List Int->List Int->Prop where
 | refl {is:List Int}:Way b o is is
 | step {is is':List Int} {p:Nat} (A:LyA b is o p) (f:Frb b is o p) (w:Way b o (lS b is o p) is'):Way b o is is'
structure Att (b:List (List Nat)) (o:Int) (q:Nat) (i0 is:List Int):Prop where
 hs:∀z,is.getD z 0=3-o->i0.getD z 0=3-o
 row:∀z,is.getD z 0=3-o->∀y∈cpt b (vS i0) z,is.getD y 0=3-o
 chg:∀z,is.getD z 0≠i0.getD z 0->is.getD z 0≠3-o/\∃u∈cpt b (vS i0) q,∃w∈b.getD u [],is.getD w 0≠3-o/\Reach b (okV (vH is (3-o)) z) z w
structure Cap (b:List (List Nat)) (o:Int) (q:Nat) (i0 is:List Int):Prop where
 q0:is.getD q 0=0
 hs:∀z,is.getD z 0=3-o->i0.getD z 0=3-o
 row:∀z,is.getD z 0=3-o->∀y∈cpt b (vS i0) z,is.getD y 0=3-o
 chg:∀z,is.getD z 0≠i0.getD z 0->is.getD z 0≠3-o/\Reach b (okV (vH is (3-o)) z) z q
end
section
variable {b:List (List Nat)} {is:List Int} {o:Int} {p:Nat} {ce:Ce}
theorem znQ(hb:Bd b){vl:Nat->Int}:(ptc b vl).Nodup:=by
 unfold ptc
 refine List.Pairwise.map _ ?_ (List.Pairwise.and_mem.mp (List.Pairwise.filter _ nodup_range))
 rintro s t ⟨hs,ht,hne⟩ e
 obtain⟨s1,s2⟩:=mem_filter.mp hs
 obtain⟨t1,t2⟩:=mem_filter.mp ht
 have a:=zc3 (vl:=vl) hb (mem_range.mp s1) s2
 rw[e,zc3 hb (mem_range.mp t1) t2] at a
 exact hne a.symm
theorem zgp(hb:Bd b){vl:Nat->Int}{c:List Nat}(h:c∈ptc b vl):0<c.length/\c.length<=b.length/\∀p∈c,p<b.length:=by
 obtain⟨s,hs,_,rfl⟩:=(zdg hb).mp h
 exact⟨length_pos_of_mem (zcB hb hs),zo3,fun p hp=>cpt_lt hp⟩
theorem zh3{c:List Nat}{n:Nat}(h0:0<c.length)(h:∀p∈c,p<n):c.getD 0 0<n:=by
 rw[getD_eq_getElem?_getD,getElem?_eq_getElem h0]
 exact h _ (getElem_mem h0)
theorem zlc{c:List Nat}(h0:0<c.length):ixW ce (wL c) (.int 0)=some (nW (c.getD 0 0)):=zdb (p:=0) h0
def ze6(b:List (List Nat))(is:List Int):List (List Nat):=(ptc b (vS is)).filter fun c=>!decide (is.getD (c.getD 0 0) 0=0)
theorem zpk(fu:Nat)(hfu:200<=fu)(B:Brd b)(hl:is.length=b.length):d_ka fu [wB b,wS is] ce=some (.ok (.lst ((ze6 b is).map wL)) ce):=by
 have hz:=sl36
 have h36:=B.h36
 have e1:=znO (ce:=ce) fu hfu (ztv hl) B.bd B.sym h36
 have hzl:(ptc b (vS is)).length<=PySem.sizeLine:=by have:=zhS (b:=b) (vl:=vS is);omega
 unfold d_ka
 refine zbK [some (wB b),some (wS is)] rfl ?_
 refine zau (zrh (zs:=ptc b (vS is)) (en:=wL) (t:=fun c=>!decide (is.getD (c.getD 0 0) 0=0)) (zhO (zat (ws:=[wB b,wS is]) (by trivial) rfl e1) (.fr _)) hzl (fun c hc=>?_)) ?_
 ·obtain⟨p0,_,p2⟩:=zgp B.bd hc
  have hh:c.getD 0 0<is.length:=by rw[hl];exact zh3 p0 p2
  have i1:=zlc (ce:=ce) p0
  have i2:=zbP (ce:=ce) hh
  trivial
 ·exact zaB (by simp only[Bel];exact zeR _ _)
end
section
variable {b:List (List Nat)} {is:List Int} {ce:Ce}
theorem zrL(fu:Nat)(B:Brd b)(hl:is.length=b.length){r:List Nat}(hr:∀p∈r,p<b.length):zcr (d_aa fu) [wB b,wS is,wL r] ce=some (.ok (wL (brs b is r)) ce):=zbM (zjv fu B.bd B.h36 hl (.fr _) hr) (bels_nW _ _)
end
theorem zdP{x y:List Int}(hl:x.length=y.length)(h:∀i,i<x.length->x.getD i 0=y.getD i 0):x=y:=by
 apply ext_getElem hl
 intro i h1 h2
 have:=h i h1
 rw[getD_eq_getElem?_getD,getD_eq_getElem?_getD,getElem?_eq_getElem h1,getElem?_eq_getElem h2] at this
 exact this
section
variable {b:List (List Nat)} {is:List Int} {o:Int} {p:Nat} {ce:Ce}
theorem zgq(fu:Nat)(h:Int):d_n fu [.int h] ce=some (.ok (.int (3-h)) ce):=by
 unfold d_n
 refine zbK [some (.int h)] rfl ?_
 refine zau (w:=.int (3-h)) (ce':=ce) (by trivial) (zaB (by simp only[Bel]))
theorem zjw(fu:Nat){pts:List Nat}{v:Int}{w1:W}(hw:LstOf ce w1 (pts.map nW))(hl:is.length<=36)(hp:∀q∈pts,q<is.length):∃is',d_da fu [wS is,w1,.int v] ce=some (.ok (wS is') ce)/\is'.length=is.length/\(∀q∈pts,is'.getD q 0=v)/\∀q,q∉pts->is'.getD q 0=is.getD q 0:=by
 have hz:=sl36
 suffices hs:∃w c',d_da fu [wS is,w1,.int v] ce=some (.ok w c')/\∃is',w=wS is'/\c'=ce/\is'.length=is.length/\(∀q∈pts,is'.getD q 0=v)/\∀q,q∉pts->is'.getD q 0=is.getD q 0 by
  obtain⟨w,c',e,is',rfl,rfl,h⟩:=hs
  exact⟨is',e,h⟩
 obtain⟨s,hs,hsi,_⟩:=hw.src
 have hst:∀{c1:Ce} {l:List (Nat×C)},Own ce c1 l->s.Stays c1:=by
  intro c1 l h
  obtain⟨t,rfl⟩:=h.cut
  cases hw with
  | fr=>simp only[zin] at hs;cases hs;exact True.intro
  | cl g =>
   simp only[zin,g] at hs
   cases hs
   show(ce++t)[_]?=_
   rw[getElem?_append_left (List.getElem?_eq_some_iff.mp g).1]
   exact g
 have hs':∀{c1:Ce} {l:List (Nat×C)},Own ce c1 l->zin c1 w1=some s:=by
  intro c1 l h
  obtain⟨t,rfl⟩:=h.cut
  cases hw with
  | fr=>exact hs
  | cl g =>
   simp only[zin,g] at hs ⊢
   rw[getElem?_append_left (List.getElem?_eq_some_iff.mp g).1,g]
   exact hs
 unfold d_da
 refine zfi [some (wS is),some w1,some (.int v),none,none] rfl ?_
 refine zap (w:=.cel ce.length) (ce':=ce++[.lst (is.map W.int)]) (zbb (zae (by trivial) zak) (by rw[zkU (xs:=is.map W.int) rfl,zcR (by rw[length_map];omega)])) ?_
 refine zQn ?_
 have O0:=(Own.start ce).alloc (C.lst (is.map W.int))
 generalize hk:ce.length=k3 at O0 ⊢
 generalize ce++[C.lst (is.map W.int)]=c0 at O0 ⊢
 refine zhK (xs:=pts) (en:=nW) (src:=s) (ce0:=c0) (zmi (zac rfl) (hs' O0)) hsi
  (fun d sl c=>∃is' x4,sl=[some (wS is),some w1,some (.int v),some (.cel k3),x4]/\Own ce c [(k3,C.lst (is'.map W.int))]/\is'.length=is.length/\(∀q∈d,is'.getD q 0=v)/\∀q,q∉d->is'.getD q 0=is.getD q 0)
  ⟨is,_,rfl,O0,rfl,by simp,fun _ _=>rfl⟩ ?_ (fun sl c h=>by obtain⟨_,_,_,O,_⟩:=h;exact hst O) ?_
 ·rintro d u r sl c e hu ⟨is',x4,rfl,O,l',z1,z2⟩
  refine⟨hst O,?_⟩
  have hul:u<is'.length:=by rw[l'];exact hp u hu
  unfold zhg
  refine zQn ?_
  refine zet (w:=.int v) (k:=k3) (ij:=u) (j:=u) (by trivial) (by trivial) (by trivial) O.g0 (zdY (by rw[length_map];exact hul)) ?_
  refine⟨is'.set u v,_,rfl,by rw[map_set];exact O.set0 _,by rw[length_set];exact l',fun q hq=>?_,fun q hq=>?_⟩
  ·rw[zbI]
   split
   ·rfl
   ·rename_i hn
    rcases mem_append.mp hq with hq|hq
    ·exact z1 q hq
    ·rw[mem_singleton] at hq;exact absurd ⟨hq.symm,hul⟩ hn
  ·rw[zbI,if_neg (fun x=>hq (by rw[<- x.1];simp))]
   exact z2 q fun x=>hq (mem_append_left _ x)
 ·rintro sl c ⟨is',x4,rfl,O,l',z1,z2⟩
  refine zau (w:=wS is') (ce':=c) (zbb (zae (by trivial) zak) (zmn O.g0 (by omega))) ?_
  subst hk
  exact⟨_,_,O.finC (by simp only[Bel];exact belInts _ _),is',rfl,rfl,l',z1,z2⟩
theorem zhp(fu:Nat){pts:List Nat}{v:Int}(hl:is.length<=36)(hp:∀q∈pts,q<is.length):∃is',d_da fu [wS is,wL pts,.int v] ce=some (.ok (wS is') ce)/\is'.length=is.length/\(∀q∈pts,is'.getD q 0=v)/\∀q,q∉pts->is'.getD q 0=is.getD q 0:=zjw fu (.fr _) hl hp
theorem zld{l:List Nat}:zhF ce (wL l)=some (!decide (l=[])):=by
 show some (!(l.map nW).isEmpty)=_
 cases l<;>simp
theorem zgr(fu:Nat)(hfu:200<=fu)(B:Brd b)(hl:is.length=b.length){h:Int}(h0:h≠0):d_k fu [wB b,wS is,.int h] ce=some (.ok (.cel ce.length) (ce++[.lst (((List.range b.length).filter fun q=>(ze6 b is).any fun r=>decide (is.getD (r.getD 0 0) 0=h)&&(decide (brs b is r=[])&&decide (q∈r))).map nW)])):=by
 have hz:=sl36
 have h36:=B.h36
 have e1:=zpk (ce:=ce++[C.lst []]) fu hfu B hl
 have rok:∀r∈ze6 b is,0<r.length/\r.length<=b.length/\∀p∈r,p<b.length:=fun r hr=>zgp B.bd (mem_filter.mp hr).1
 have rnd:(ze6 b is).Nodup:=List.Pairwise.filter _ (znQ B.bd)
 have rnd1:∀r∈ze6 b is,r.Nodup:=fun r hr=>by
  obtain⟨s,hs,_,rfl⟩:=(zdg B.bd).mp (mem_filter.mp hr).1
  exact znB
 have rmeet:∀r∈ze6 b is,∀r'∈ze6 b is,∀q,q∈r->q∈r'->r=r':=fun r hr r' hr' q h1 h2=>by
  obtain⟨s,hs,_,rfl⟩:=(zdg B.bd).mp (mem_filter.mp hr).1
  obtain⟨t,ht,_,rfl⟩:=(zdg B.bd).mp (mem_filter.mp hr').1
  exact ziN B.bd B.sym hs ht h1 h2
 unfold d_k
 refine zbK [some (wB b),some (wS is),some (.int h),none,none] rfl ?_
 refine zap (zdf zak (zero_le _)) ?_
 refine zQn ?_
 have O0:=(Own.start ce).alloc (C.lst (([]:List Nat).map nW))
 refine(?_:Run _ _ (ce++[C.lst []]) _)
 generalize hk:ce.length=k3 at O0 ⊢
 generalize hc0:ce++[C.lst []]=c0 at e1 ⊢
 have O0:Own ce c0 [(k3,C.lst (([]:List Nat).map nW))]:=by rw[<- hc0];exact O0
 generalize ze6 b is=R at *
 refine zbh (zs:=R) (en:=wL) (c1:=c0) (zhM (by trivial))
  (fun d sl c=>∃F x4,sl=[some (wB b),some (wS is),some (.int h),some (.cel k3),x4]/\Own ce c [(k3,C.lst (F.map nW))]/\F.Nodup/\(∀x∈F,x<b.length)/\∀x,x∈F↔∃r∈d,is.getD (r.getD 0 0) 0=h/\brs b is r=[]/\x∈r)
  ⟨[],_,rfl,O0,by simp,by simp,by simp⟩ ?_ ?_
 ·rintro d r rest sl c e hr ⟨F,x4,rfl,O,nd,lt,mem⟩
  obtain⟨r0,r1,r2⟩:=rok r hr
  have hh:r.getD 0 0<is.length:=by rw[hl];exact zh3 r0 r2
  have i1:=zlc (ce:=c) r0
  have i2:=zbP (ce:=c) hh
  have e2:=zrL (ce:=c) fu B hl r2
  have t2:=zld (ce:=c) (l:=brs b is r)
  have hdr:∀r'∈d,r'≠r:=fun r' hr' e'=>by
   subst e'
   rw[<- e] at rnd
   exact(nodup_append.mp rnd).2.2 r' hr' r' (by simp) rfl
  have hdR:∀r'∈d,r'∈R:=fun r' hr'=>by rw[<- e];exact mem_append_left _ hr'
  unfold zdD
  refine zQn ?_
  refine zbO (p:=decide (is.getD (r.getD 0 0) 0=h)&&!(!decide (brs b is r=[]))) (ce':=c) (zf4 (by trivial) (fun _=>zf5 (zkR (zat (ws:=[wB b,wS is,wL r]) (by trivial) rfl e2) t2))) (fun q=>?_) (fun q=>?_)
  ·simp only[not_not,and_eq_true,decide_eq_true_eq] at q
   have nd2:(F++r).Nodup:=by
    rw[nodup_append]
    refine⟨nd,?_,fun a ha b' hb' e'=>?_⟩
    ·exact rnd1 r hr
    ·subst e'
     obtain⟨r',hr',_,_,h3⟩:=(mem a).mp ha
     exact hdr r' hr' (rmeet r' (hdR r' hr') r hr a h3 hb')
   have lt2:∀x∈F++r,x<b.length:=fun x hx=>by
    rcases mem_append.mp hx with hx|hx
    ·exact lt x hx
    ·exact r2 x hx
   have hl2:=zaQ nd2 lt2
   rw[length_append] at hl2
   refine zg4 (w:=.non) (ce':=c.set k3 (.lst (F.map nW++r.map nW))) (zg5 (ws:=[wL r]) (by trivial) (zcH O.g0) (by trivial) (zkW O.g0 (ys:=r.map nW) rfl (by rw[length_map,length_map];omega))) ?_
   refine⟨F++r,_,rfl,by rw[map_append];exact O.set0 _,nd2,lt2,fun x=>?_⟩
   rw[mem_append,mem]
   constructor
   ·rintro(⟨r',hr',h⟩|hx)
    ·exact⟨r',mem_append_left _ hr',h⟩
    ·exact⟨r,by simp,q.1,q.2,hx⟩
   ·rintro⟨r',hr',h⟩
    rcases mem_append.mp hr' with hr'|hr'
    ·exact .inl ⟨r',hr',h⟩
    ·rw[mem_singleton] at hr';subst hr';exact .inr h.2.2
  ·refine zbk ?_
   refine⟨F,_,rfl,O,nd,lt,fun x=>?_⟩
   rw[mem]
   constructor
   ·rintro⟨r',hr',h⟩;exact⟨r',mem_append_left _ hr',h⟩
   ·rintro⟨r',hr',h⟩
    rcases mem_append.mp hr' with hr'|hr'
    ·exact⟨r',hr',h⟩
    ·rw[mem_singleton] at hr'
     subst hr'
     rw[decide_eq_true h.1,decide_eq_true h.2.1] at q
     cases q
 ·rintro sl c ⟨F,x4,rfl,O,nd,lt,mem⟩
  have hl':=zaQ nd lt
  have es:zcb F=(List.range b.length).filter fun q=>R.any fun r=>decide (is.getD (r.getD 0 0) 0=h)&&(decide (brs b is r=[])&&decide (q∈r)):=by
   rw[zf8 nd lt]
   apply filter_congr
   intro x _
   rw[Bool.eq_iff_iff,any_eq_true,decide_eq_true_eq,mem]
   simp only[and_eq_true,decide_eq_true_eq]
  rw[<- es]
  refine zau (zbb (zae (by trivial) zak) ((zmj (mk:=zfx) O.g0 (by omega)).trans (zcR (by rw[length_map,zch];omega)))) ?_
  subst hk
  exact(O.alloc _).finO (by simp only[ze9];exact bels_nW _ _)
theorem zmL(fu:Nat)(hfu:200<=fu)(B:Brd b)(hl:is.length=b.length)(hp:p<b.length):zcr (d_ja fu) [wB b,wS is,nW p] ce=some (.ok (wL (cpt b (vS is) p)) ce):=by
 refine zbM ?_ (bels_nW _ _)
 have e1:=ze3 (ce:=ce) fu hfu (ztv hl) B.bd B.h36 hp
 unfold d_ja
 refine zbK [some (wB b),some (wS is),some (nW p)] rfl ?_
 refine zau (zat (ws:=[wB b,wS is,nW p]) (by trivial) rfl e1) ?_
 exact((Own.start ce).alloc _).finO (by simp only[ze9];exact bels_nW _ _)
theorem LyA.rows(A:LyA b is o p){r:List Nat}:(r∈ze6 b (is.set p o)/\(is.set p o).getD (r.getD 0 0) 0=3-o)↔r∈lpt b (thr (is.set p o) [3-o]):=by
 have hT:∀{s},s∈thr (is.set p o) [3-o]↔s<b.length/\(is.set p o).getD s 0=3-o:=fun {s}=>by rw[thr_mem,A.l1]
 have hc:∀{s},s<b.length->(is.set p o).getD s 0=3-o->cpt b (vT (thr (is.set p o) [3-o])) s=cpt b (vS (is.set p o)) s:=fun {s} hs es=>by
  have:=ze5 (is:=is.set p o) A.bd A.l1 hs
  rwa [es] at this
 unfold ze6
 rw[mem_filter,zdg A.bd]
 constructor
 ·rintro⟨⟨⟨s,hs,hm,rfl⟩,_⟩,q⟩
  rw[zc3 A.bd hs hm] at q
  have:=ziO (T:=thr (is.set p o) [3-o]) A.bd A.sym (fun x hx=>(hT.mp hx).1) (hT.mpr ⟨hs,q⟩)
  rwa [hc hs q] at this
 ·intro h
  obtain⟨s,hs,rfl⟩:=ziP h
  obtain⟨q1,q2⟩:=hT.mp hs
  rw[hc q1 q2]
  obtain⟨m,h1,h2,h3⟩:=zdA (vl:=vS (is.set p o)) A.bd A.sym q1
  have hm:=cpt_lt h1
  have em:(is.set p o).getD m 0=3-o:=(cpt_val A.bd q1 h1).trans q2
  rw[<- h3,zc3 A.bd hm h2,em]
  have h0:=A.H.h0
  exact⟨⟨⟨m,hm,h2,rfl⟩,by simp[h0]⟩,rfl⟩
theorem LyA.blist(A:LyA b is o p):((List.range b.length).filter fun q=>(ze6 b (is.set p o)).any fun r=>decide ((is.set p o).getD (r.getD 0 0) 0=3-o)&&(decide (brs b (is.set p o) r=[])&&decide (q∈r)))=lT b is o p:=by
 unfold lT
 apply filter_congr
 intro q _
 rw[Bool.eq_iff_iff,any_eq_true,any_eq_true]
 simp only[and_eq_true,decide_eq_true_eq]
 constructor
 ·rintro⟨r,h1,h2,h3,h4⟩
  exact⟨r,mem_filter.mpr ⟨A.rows.mp ⟨h1,h2⟩,decide_eq_true h3⟩,h4⟩
 ·rintro⟨r,h1,h4⟩
  obtain⟨h1,h3⟩:=mem_filter.mp h1
  obtain⟨h1,h2⟩:=A.rows.mpr h1
  exact⟨r,h1,h2,of_decide_eq_true h3,h4⟩
theorem zrM{sl:Sl}{i p:Nat}(h:sl[i]?=some (some (nW p)))(hp:p<1000):[i].all (sml sl)=true:=by
 simp only[all_cons,all_nil,Bool.and_true,sml,h,nW]
 exact decide_eq_true (by simpa using hp)
theorem ziQ(fu:Nat)(hfu:200<=fu)(B:Brd b)(P:PosA b is o)(hp:p<b.length)(p0:is.getD p 0=0){Q:O->Prop}(h:Run (zax (dIf (zfc (zly (zar 3 (zcr (d_aa fu)) (zad (zaf 0) (zad (zaf 6) (zad (zar 3 (zcr (d_ja fu)) (zad (zaf 0) (zad (zaf 6) (zad (zaf 3) zan)))) zan)))))) (zcU "NoBreath" [3]) za4) (zbq (zbT (zad (zaf 6) (zad (zaf 5) zan)))))
   [some (wB b),some (wS is),some (.int o),some (nW p),some (wS (is.set p o)),some (wL (lT b is o p)),some (wS (lS b is o p))] ce Q) :
  Run (zax (dIf (dB (zaD (eqW true) (zaD ixW (zaf 1) (zaf 3)) (dC (.int 0)))) (zcU "NoLay" [3]) za4)
   (zax (zaU 4 (zar 3 (d_da fu) (zad (zaf 1) (zad (zc7 (zad (zaf 3) zan)) (zad (zaf 2) zan)))))
   (zax (zaU 5 (zar 3 (zcr (d_k fu)) (zad (zaf 0) (zad (zaf 4) (zad (zar 1 (d_n fu) (zad (zaf 2) zan)) zan)))))
   (zax (zaU 6 (zar 3 (d_da fu) (zad (zaf 4) (zad (zaf 5) (zad (dC (.int 0)) zan)))))
   (zax (dIf (zfc (zly (zar 3 (zcr (d_aa fu)) (zad (zaf 0) (zad (zaf 6) (zad (zar 3 (zcr (d_ja fu)) (zad (zaf 0) (zad (zaf 6) (zad (zaf 3) zan)))) zan)))))) (zcU "NoBreath" [3]) za4)
   (zbq (zbT (zad (zaf 6) (zad (zaf 5) zan)))))))))
   [some (wB b),some (wS is),some (.int o),some (nW p),none,none,none] ce Q:=by
 have hz:=sl36
 have A:=P.ly hp p0
 have h36:=B.h36
 have hl:=P.hl
 have jp:=zbP (ce:=ce) (is:=is) (p:=p) (by omega)
 refine zbe (p:=!decide (is.getD p 0=0)) (ce':=ce) (by trivial) (fun q=>by rw[decide_eq_true p0] at q;cases q) (fun _=>?_)
 refine zaV ?_
 obtain⟨is1,e1,l1,a1,b1⟩:=zhp (ce:=ce) (is:=is) fu (pts:=[p]) (v:=o) (by omega) (fun q hq=>by rw[mem_singleton] at hq;subst hq;omega)
 have ei1:is1=is.set p o:=zdP (by rw[l1,length_set]) fun q _=>by
  rw[A.s1]
  by_cases e:q=p
  ·rw[if_pos e,e];exact a1 p (by simp)
  ·rw[if_neg e];exact b1 q (by simpa using e)
 subst ei1
 have z1:1<=PySem.sizeLine:=by decide
 refine zap (w:=wS (is.set p o)) (ce':=ce) (zat (ws:=[wS is,wL [p],.int o]) (zae (by trivial) (zae (zbj (ws:=[nW p]) (by trivial) z1) (by trivial))) rfl e1) ?_
 refine zQn ?_
 have e2:=zgr (ce:=ce) (is:=is.set p o) fu hfu B A.l1 (h:=3-o) A.H.h0
 rw[A.blist] at e2
 have e2f:=zbM e2 (bels_nW _ _)
 have e3:=zgq (ce:=ce) fu o
 refine zap (w:=wL (lT b is o p)) (ce':=ce) (zat (ws:=[wB b,wS (is.set p o),.int (3-o)]) (by trivial) rfl e2f) ?_
 refine zQn ?_
 obtain⟨is2,e4,l2,a2,b2⟩:=zhp (ce:=ce) (is:=is.set p o) fu (pts:=lT b is o p) (v:=0) (by rw[A.l1];omega) (fun q hq=>by rw[A.l1];exact(A.tkh hq).1)
 have ei2:is2=lS b is o p:=zdP (by rw[l2,length_set,zee]) fun q hq=>by
  rw[l2,A.l1] at hq
  rw[A.get hq]
  by_cases e:q=p
  ·rw[if_pos e,b2 q (fun h=>(A.tkh h).2.2 e),A.s1,if_pos e]
  ·rw[if_neg e]
   by_cases ht:q∈lT b is o p
   ·rw[if_pos ht];exact a2 q ht
   ·rw[if_neg ht,b2 q ht,A.s1,if_neg e]
 subst ei2
 refine zap (w:=wS (lS b is o p)) (ce':=ce) (zat (ws:=[wS (is.set p o),wL (lT b is o p),.int 0]) (by trivial) rfl e4) ?_
 refine zQn ?_
 exact h
theorem zle(fu:Nat)(hfu:200<=fu)(B:Brd b)(P:PosA b is o)(hp:p<b.length){x1 x2 x4 x5:Option W} :
  zfc (zly (zar 3 (zcr (d_aa fu)) (zad (zaf 0) (zad (zaf 6) (zad (zar 3 (zcr (d_ja fu)) (zad (zaf 0) (zad (zaf 6) (zad (zaf 3) zan)))) zan))))) [some (wB b),x1,x2,some (nW p),x4,x5,some (wS (lS b is o p))] ce=some (.ok (!(!decide (brs b (lS b is o p) (cpt b (vS (lS b is o p)) p)=[]))) ce):=by
 have hl:(lS b is o p).length=b.length:=by rw[zee];exact P.hl
 have e1:=zmL (ce:=ce) fu hfu B hl hp
 have e2:=zrL (ce:=ce) (is:=lS b is o p) fu B hl (r:=cpt b (vS (lS b is o p)) p) (fun x hx=>cpt_lt hx)
 exact zf5 (zkR (zat (ws:=[wB b,wS (lS b is o p),wL (cpt b (vS (lS b is o p)) p)]) (zae (by trivial) (zae (by trivial) (zae (zat (ws:=[wB b,wS (lS b is o p),nW p]) (by trivial) rfl e1) zak))) rfl e2) zld)
theorem zpl(fu:Nat)(P:PosA b is o)(h36:b.length<=36)(hp:p<b.length)(p0:¬is.getD p 0=0):d_la fu [wB b,wS is,.int o,nW p] ce=some (.ex ⟨"NoLay",none⟩ ce):=by
 have hl:=P.hl
 have jp:=zbP (ce:=ce) (is:=is) (p:=p) (by omega)
 unfold d_la
 refine zev [some (wB b),some (wS is),some (.int o),some (nW p),none,none,none] rfl ?_
 refine zbe (p:=!decide (is.getD p 0=0)) (ce':=ce) (by trivial) (fun _=>zhb (zrM (p:=p) rfl (by omega)) ⟨rfl,[],by simp⟩) (fun q=>by rw[decide_eq_false p0] at q;cases q)
theorem zpm(fu:Nat)(hfu:200<=fu)(B:Brd b)(P:PosA b is o)(hp:p<b.length)(p0:is.getD p 0=0)(nf:¬Frb b is o p):d_la fu [wB b,wS is,.int o,nW p] ce=some (.ex ⟨"NoBreath",none⟩ ce):=by
 have h36:=B.h36
 have nf':brs b (lS b is o p) (cpt b (vS (lS b is o p)) p)=[]:=Classical.byContradiction nf
 have eb:=zle (ce:=ce) (o:=o) fu hfu B P hp (x1:=some (wS is)) (x2:=some (.int o)) (x4:=some (wS (is.set p o))) (x5:=some (wL (lT b is o p)))
 rw[decide_eq_true nf'] at eb
 unfold d_la
 refine zev [some (wB b),some (wS is),some (.int o),some (nW p),none,none,none] rfl ?_
 refine ziQ fu hfu B P hp p0 ?_
 exact zbe (p:=!(!true)) (ce':=ce) eb (fun _=>zhb (zrM (p:=p) rfl (by omega)) ⟨rfl,[],by simp⟩) (fun q=>by cases q)
theorem zpn(fu:Nat)(hfu:200<=fu)(B:Brd b)(P:PosA b is o)(hp:p<b.length)(p0:is.getD p 0=0)(nf:Frb b is o p):d_la fu [wB b,wS is,.int o,nW p] ce=some (.ok (.tup [wS (lS b is o p),wL (lT b is o p)]) ce):=by
 have z2:2<=PySem.sizeLine:=by decide
 have nf':¬brs b (lS b is o p) (cpt b (vS (lS b is o p)) p)=[]:=nf
 have eb:=zle (ce:=ce) (o:=o) fu hfu B P hp (x1:=some (wS is)) (x2:=some (.int o)) (x4:=some (wS (is.set p o))) (x5:=some (wL (lT b is o p)))
 rw[decide_eq_false nf'] at eb
 unfold d_la
 refine zbK [some (wB b),some (wS is),some (.int o),some (nW p),none,none,none] rfl ?_
 refine ziQ fu hfu B P hp p0 ?_
 refine zbe (p:=!(!false)) (ce':=ce) eb (fun q=>by cases q) (fun _=>zaV ?_)
 refine zau (w:=.tup [wS (lS b is o p),wL (lT b is o p)]) (ce':=ce) (zbf (ws:=[wS (lS b is o p),wL (lT b is o p)]) (zae (zac rfl) (zae (zac rfl) zak)) z2) ?_
 exact zaB (by simp only[Bel,zda];exact⟨belInts _ _,bels_nW _ _,trivial⟩)
end
theorem ziR{c:Sl->M W}{put:Option Nat}{ok:Exn->Bool}{hd:Exn->DS}{b:DS}{x:Exn}{sl sl':Sl}{ce c1 c2:Ce}{Q:O->Prop}(h:c sl ce=some (.ex x c1))(hok:ok x=true)(e:hd x sl c1=some (.go .ct sl' c2))(q:Q (.go .ct sl' c2)):Run (zax (znI c put ok hd) b) sl ce Q :=
 ⟨_,by simp only[zax,znI,h,hok,if_true,e],q⟩
section
variable {b:List (List Nat)} {is:List Int} {o:Int} {p q:Nat} {ce:Ce}
def zlf(b:List (List Nat))(is:List Int)(o:Int)(p:Nat):W:=.tup [nW p,wS (lS b is o p),wL (lT b is o p)]
open Classical in
def zgz(b:List (List Nat))(is:List Int)(o:Int)(p:Nat):Bool:=decide (is.getD p 0=0/\Frb b is o p)
open Classical in
theorem canL_iff:zgz b is o p=true↔is.getD p 0=0/\Frb b is o p:=by unfold zgz;exact decide_eq_true_iff
theorem zgs(n:Nat)(p:Nat):Bel n (zlf b is o p):=by simp only[Bel,zda,zlf,nW];exact⟨trivial,belInts _ _,bels_nW _ _,trivial⟩
theorem bels_map{α:Type}{f:α->W}(n:Nat)(h:∀x,Bel n (f x)):∀l:List α,zda n (l.map f)
 | []=>by simp only[map_nil,zda]
 | x::l=>by simp only[map_cons,zda];exact⟨h x,bels_map n h l⟩
theorem zjx(fu:Nat)(hfu:200<=fu)(B:Brd b)(P:PosA b is o){pts:List Nat}(hlt:∀p∈pts,p<b.length)(hlen:pts.length<=100) :
  zcr (d_ba fu) [wB b,wS is,.int o,wL pts] ce=some (.ok (.lst ((pts.filter (zgz b is o)).map (zlf b is o))) ce):=by
 have hz:=sl36
 have z200:200<PySem.sizeLine:=by decide
 have z3:3<=PySem.sizeLine:=by decide
 have h36:=B.h36
 refine zbM ?_ (bels_map _ (zgs _) _)
 unfold d_ba
 refine zbK [some (wB b),some (wS is),some (.int o),some (wL pts),none,none,none] rfl ?_
 refine zap (zdf zak (zero_le _)) ?_
 refine zQn ?_
 have O0:=(Own.start ce).alloc (C.lst [])
 refine zbh (zs:=pts) (en:=nW) (c1:=ce++[.lst []]) (zhM (zac rfl))
  (fun d sl c=>∃x5 x6,sl=[some (wB b),some (wS is),some (.int o),some (wL pts),some (.cel ce.length),x5,x6]/\Own ce c [(ce.length,C.lst ((d.filter (zgz b is o)).map (zlf b is o)))])
  ⟨_,_,rfl,O0⟩ ?_ ?_
 ·rintro d x r sl c e hx ⟨x5,x6,rfl,O⟩
  have hxb:=hlt x hx
  have hdl:d.length<100:=by
   have:=congrArg List.length e
   simp only[length_append,length_cons] at this
   omega
  have go:zar 4 (d_la fu) (zeu (zad (zaf 0) (zad (zaf 1) (zad (zaf 2) (zad (zaf 5) zan))))) [some (wB b),some (wS is),some (.int o),some (wL pts),some (.cel ce.length),some (nW x),x6] c=d_la fu [wB b,wS is,.int o,nW x] c:=by
   have:zeu (zad (zaf 0) (zad (zaf 1) (zad (zaf 2) (zad (zaf 5) zan)))) [some (wB b),some (wS is),some (.int o),some (wL pts),some (.cel ce.length),some (nW x),x6] c=some (.ok [wB b,wS is,.int o,nW x] c):=zd6 (zae (zac rfl) (zae (zac rfl) (zae (zac rfl) (zae (zac rfl) zak))))
   simp only[zar,bnd,this]
   rfl
  unfold zfH
  refine zQn ?_
  by_cases p0:is.getD x 0=0
  ·by_cases hf:Frb b is o x
   ·have ec:zgz b is o x=true:=canL_iff.mpr ⟨p0,hf⟩
    refine zmu (go.trans (zpn (ce:=c) fu hfu B P hxb p0 hf)) ?_
    have ea:=zg6 (y:=zlf b is o x) O.g0 (by rw[length_map];exact lt_of_le_of_lt (length_filter_le _ _) (by omega))
    refine zg4 (w:=.non) (zg5 (zac rfl) (zcH O.g0) (zae (zbf (ws:=[nW x,wS (lS b is o x),wL (lT b is o x)]) (zae (zac rfl) (zae (zaq (zac rfl) zaI (zdv (xs:=[wS (lS b is o x),wL (lT b is o x)]) (j:=0) rfl rfl)) (zae (zaq (zac rfl) zaI (zdv (xs:=[wS (lS b is o x),wL (lT b is o x)]) (j:=1) rfl rfl)) zak))) z3) zak) ea) ?_
    refine⟨_,_,rfl,?_⟩
    rw[filter_append,filter_cons_of_pos ec,filter_nil,map_append]
    exact O.set0 _
   ·have ec:¬zgz b is o x=true:=by intro q;exact hf (canL_iff.mp q).2
    refine ziR (go.trans (zpm (ce:=c) fu hfu B P hxb p0 hf)) (by decide +kernel) rfl ?_
    refine⟨_,_,rfl,?_⟩
    rw[filter_append,filter_cons_of_neg ec,filter_nil,append_nil]
    exact O
  ·have ec:¬zgz b is o x=true:=by intro q;exact p0 (canL_iff.mp q).1
   refine ziR (go.trans (zpl (ce:=c) fu P h36 hxb p0)) (by decide +kernel) rfl ?_
   refine⟨_,_,rfl,?_⟩
   rw[filter_append,filter_cons_of_neg ec,filter_nil,append_nil]
   exact O
 ·rintro sl c ⟨x5,x6,rfl,O⟩
  exact zau (w:=.cel ce.length) (ce':=c) (zac rfl) (O.finO (by simp only[ze9];exact bels_map _ (zgs _) _))
def cmW(l:List (List Int)):W:=.lst (l.map wS)
theorem znR(x y:List Int):peq (wS x) (wS y)=decide (x=y):=by simp only[wS,peq,zeL]
theorem zrN(ng:Bool)(x:List Int)(l:List (List Int)):inW ng ce (wS x) (cmW l)=some (.bl (if ng then !decide (x∈l) else decide (x∈l))):=by
 have h1:cln 8 (drf ce (wS x))=true:=zcf x 7
 have h2:(l.map wS).all (cln 8)=true:=by
  rw[all_eq_true]
  intro w hw
  obtain⟨y,_,rfl⟩:=mem_map.mp hw
  exact zcf y 7
 have h3:(l.map wS).any (peq · (wS x))=decide (x∈l):=by
  rw[Bool.eq_iff_iff,any_eq_true,decide_eq_true_eq]
  constructor
  ·rintro⟨w,hw,e⟩
   obtain⟨y,hy,rfl⟩:=mem_map.mp hw
   rw[znR,decide_eq_true_eq] at e
   subst e
   exact hy
  ·exact fun h=>⟨wS x,mem_map.mpr ⟨x,h,rfl⟩,by rw[znR];simp⟩
 have h4:drf ce (wS x)=wS x:=rfl
 simp only[inW,cmW,zfR,zdr,h4] at *
 simp only[h1,h2,h3,Bool.and_self,if_true]
open Classical in
def zlg(b:List (List Nat))(cm:List (List Int))(is:List Int)(o:Int)(pts:List Nat):List Nat:=pts.filter fun p=>zgz b is o p&&!decide (lS b is o p∈cm)
theorem zh4{l:List (List Int)}:ixW ce (cmW (l++[is])) (.int (-1))=some (wS is):=by
 have:zfR ce (cmW (l++[is]))=some ((l++[is]).map wS):=rfl
 have hl:((l++[is]).map wS).length=l.length+1:=by simp
 have hi:L2.ixN (l.length+1) (-1)=some l.length:=by
  unfold L2.ixN
  rw[if_neg (by omega),if_pos (by omega)]
  congr 1
  omega
 simp only[ixW,this,L2.atI,hl,hi,bind_some]
 simp
theorem zrO(fu:Nat)(hfu:200<=fu)(B:Brd b)(P:PosA b is o){pts:List Nat}{l:List (List Int)}(hlt:∀p∈pts,p<b.length)(hlen:pts.length<=100) :
  d_y fu [wB b,cmW (l++[is]),.int o,wL pts] ce=some (.ok (.lst ((zlg b (l++[is]) is o pts).map (zlf b is o))) ce):=by
 have z200:200<PySem.sizeLine:=by decide
 have e1:=zjx (ce:=ce) fu hfu B P hlt hlen
 unfold d_y
 refine zbK [some (wB b),some (cmW (l++[is])),some (.int o),some (wL pts)] rfl ?_
 refine zau (w:=.lst ((zlg b (l++[is]) is o pts).map (zlf b is o))) (ce':=ce) ?_ (zaB (by simp only[Bel];exact bels_map _ (zgs _) _))
 have:=zrh (zs:=pts.filter (zgz b is o)) (en:=zlf b is o) (c1:=ce) (js:=[1]) (sl:=[some (wB b),some (cmW (l++[is])),some (.int o),some (wL pts)]) (ce:=ce) (di:=dIL (zar 4 (zcr (d_ba fu)) (zad (zaf 0) (zad (zaD ixW (zaf 1) (dUn zjD (dC (.int 1)))) (zad (zaf 2) (zad (zaf 3) zan)))))) (c:=dB (zaD (inW true) (zaD ixW (zaf 0) (dC (.int 1))) (zaf 1))) (t:=fun p=>!decide (lS b is o p∈l++[is]))
  (zhO (zat (ws:=[wB b,wS is,.int o,wL pts]) (zae (zac rfl) (zae (zaq (zac rfl) (zdX zaI rfl) zh4) (zae (zac rfl) (zae (zac rfl) zak)))) rfl e1) (.fr _)) (le_trans (length_filter_le _ _) (by omega)) (fun p hp=>zca (zaq (zaq (zac rfl) zaI (zdv (xs:=[nW p,wS (lS b is o p),wL (lT b is o p)]) (j:=1) rfl rfl)) (zac rfl) (zrN true _ _)))
 rw[this,filter_filter]
 unfold zlg
 simp only[Bool.and_comm]
end
def dW:Option Nat->W
 | none=>.non
 | some p=>nW p
def dsW(l:List (Option Nat)):W:=.tup (l.map dW)
abbrev Web:=List (List (Option Nat)×Option Nat)
def wrW(p:List (Option Nat)×Option Nat):W:=.tup [dsW p.1,dW p.2]
def wbW(l:Web):W:=.lst (l.map wrW)
def wd:Bool->PySem.Str
 | true => "caught"
 | false => "free"
theorem dW_bel(n:Nat)(d:Option Nat):Bel n (dW d):=by cases d<;>simp only[dW,nW,Bel]
theorem zlh(n:Nat)(p:List (Option Nat)×Option Nat):Bel n (wrW p):=by
 simp only[wrW,dsW,Bel,zda]
 exact⟨bels_map n (dW_bel n) _,dW_bel n _,trivial⟩
section
variable {b:List (List Nat)} {o:Int} {q:Nat} {most:Nat}
def brq(b:List (List Nat))(q:Nat)(is:List Int):List Nat:=brs b is (cpt b (vS is) q)
open Classical in
def hlP(b:List (List Nat))(o:Int)(q:Nat)(cm:List (List Int))(is:List Int):List Nat :=
 (zlg b cm is o (brq b q is)).filter fun p=>decide ((lS b is o p).getD q 0=0)||decide (((brq b q (lS b is o p)).length:Int)<=1)
def stM(b:List (List Nat))(h:Int)(cm:List (List Int))(is:List Int):List (Option Nat×List Int) :=
 (zlg b cm is h (List.range b.length)).map (fun p=>(some p,lS b is h p))++[(none,is)]
def lF:Nat->Bool->Nat
 | 0,_=>0
 | r+1,true=>16*lF r false
 | r+1,false=>lF r true+1
def lC:Nat->Bool->Nat
 | 0,_=>0
 | r+1,true=>lC r false+1
 | r+1,false=>17*lC r true
theorem ziS{cm:List (List Int)}{is:List Int}{h:Int}{l:List Nat}:(zlg b cm is h l).length<=l.length:=length_filter_le _ _
theorem zpo{cm:List (List Int)}{is:List Int}{h:Int}:(stM b h cm is).length<=b.length+1:=by
 unfold stM
 rw[length_append,length_map]
 have:=ziS (b:=b) (cm:=cm) (is:=is) (h:=h) (l:=List.range b.length)
 rw[length_range] at this
 simp only[length_cons,length_nil]
 omega
end
section
variable {b:List (List Nat)} {is:List Int} {o:Int} {p q most k:Nat} {c:Ce}
theorem PosA.flip(P:PosA b is o):PosA b is (3-o):=by
 have e:3-(3-o)=o:=by omega
 refine⟨P.bd,P.sym,P.hl,⟨by rw[e];exact P.H.o0,P.H.h0,by rw[e];exact fun h=>P.H.ho h.symm⟩,fun q hq=>?_,by rw[e];exact P.no,P.nh⟩
 rw[e]
 rcases P.v q hq with h|h|h
 ·exact .inl h
 ·exact .inr (.inr h)
 ·exact .inr (.inl h)
theorem PosA.back(P:PosA b is (3-o)):PosA b is o:=by
 have:=P.flip
 rwa [show 3-(3-o)=o by omega] at this
theorem ziT(P:PosA b is o)(hp:p<b.length)(h:zgz b is o p=true):PosA b (lS b is o p) o:=by
 obtain⟨p0,f⟩:=canL_iff.mp h
 exact P.next (P.ly hp p0) f
theorem zgt{cm:List (List Int)}{l:List Nat}{p:Nat}(h:p∈zlg b cm is o l):p∈l/\zgz b is o p=true:=by
 obtain⟨h1,h2⟩:=mem_filter.mp h
 rw[and_eq_true] at h2
 exact⟨h1,h2.1⟩
theorem znS{p:Nat}(h:p∈brq b q is):p<b.length:=zcu (mem_filter.mp h).1
def stW(st:Option Nat×List Int):W:=.tup [dW st.1,wS st.2]
theorem zli(n:Nat)(st:Option Nat×List Int):Bel n (stW st):=by simp only[stW,Bel,zda];exact⟨dW_bel n _,belInts _ _,trivial⟩
theorem zpp{n:Nat}(h:n<=1000):zfZ zb0 [nW n] c=some (.ok (wL (List.range n)) c):=by
 have z:2000<PySem.sizeLine:=by decide
 have r1:zjF [nW n]=some (.rng 0 n):=by
  simp only[zjF,nW]
  rw[if_pos ⟨by omega,by omega⟩,toNat_natCast]
 simp only[zfZ,r1]
 rw[if_pos (by omega)]
 have e:(List.range n).map (fun(i:Nat)=>W.int (0+(i:Int)))=(List.range n).map nW:=by
  apply map_congr_left
  intro i _
  simp[nW]
 rw[e,zf6 (by rw[length_map,length_range];omega)]
theorem zmM(fu:Nat)(hfu:200<=fu)(B:Brd b)(P:PosA b is o){pre:List (List Int)}:zcr (d_fa fu) [wB b,cmW (pre++[is]),.int o] c=some (.ok (.lst ((stM b o (pre++[is]) is).map stW)) c):=by
 have z200:200<PySem.sizeLine:=by decide
 have z2:2<=PySem.sizeLine:=by decide
 have h36:=B.h36
 have e1:=zrO (ce:=c) (l:=pre) fu hfu B P (pts:=List.range b.length) (fun p hp=>mem_range.mp hp) (by simp;omega)
 have nl:=ziS (b:=b) (cm:=pre++[is]) (is:=is) (h:=o) (l:=List.range b.length)
 rw[length_range] at nl
 refine zbM ?_ (bels_map _ (zli _) _)
 unfold d_fa
 refine zbK [some (wB b),some (cmW (pre++[is])),some (.int o),none] rfl ?_
 have e0:zfZ zb0 [nW b.length] c=some (.ok (wL (List.range b.length)) c):=zpp (by omega)
 generalize hN:zlg b (pre++[is]) is o (List.range b.length)=N at *
 refine zap (w:=.cel c.length) (ce':=c++[.lst (N.map fun p=>stW (some p,lS b is o p))]) (zt6 (zs:=N) (en:=zlf b is o) (g:=fun p=>stW (some p,lS b is o p)) (zhO (zat (ws:=[wB b,cmW (pre++[is]),.int o,wL (List.range b.length)]) (zae (zac rfl) (zae (zac rfl) (zae (zac rfl) (zae (zbb (ws:=[nW b.length]) (zae (zbb (ws:=[wB b]) (zae (zac rfl) zak) zcS) zak) e0) zak)))) rfl e1) (.fr _)) (by omega) (fun p hp=>zbf (ws:=[nW p,wS (lS b is o p)]) (zae (zaq (x:=zlf b is o p) (zac rfl) zaI (zdv (xs:=[nW p,wS (lS b is o p),wL (lT b is o p)]) (j:=0) rfl rfl)) (zae (zaq (x:=zlf b is o p) (zac rfl) zaI (zdv (xs:=[nW p,wS (lS b is o p),wL (lT b is o p)]) (j:=1) rfl rfl)) zak)) z2)) ?_
 refine zQn ?_
 have O0:=(Own.start c).alloc (C.lst (N.map fun p=>stW (some p,lS b is o p)))
 have ea:=zg6 (y:=stW (none,is)) O0.g0 (by rw[length_map];omega)
 refine ziu (w:=.non) (zg5 (zac rfl) (zcH O0.g0) (zae (zbf (ws:=[.non,wS is]) (zae zaI (zae (zaq (zac rfl) (zdX zaI rfl) zh4) zak)) z2) zak) ea) ?_
 have O1:=O0.set0 (C.lst ((N.map fun p=>stW (some p,lS b is o p))++[stW (none,is)]))
 have es:(stM b o (pre++[is]) is).map stW=(N.map fun p=>stW (some p,lS b is o p))++[stW (none,is)]:=by
  unfold stM
  rw[hN,map_append,map_map]
  rfl
 rw[es]
 refine zau (w:=.cel c.length) (zac rfl) (O1.finO (by
  simp only[ze9]
  rw[<- es]
  exact bels_map _ (zli _) _))
theorem zcZ{α:Type}{f:α->W}{n d:Nat}{c:Ce}(h:∀x,zga n c d (f x)=some (f x)):∀l:List α,zdh n c d (l.map f)=some (l.map f)
 | []=>by simp only[map_nil,zdh]
 | x::l=>by simp only[map_cons,zdh,h x,zcZ h l]
theorem zlj(n d:Nat)(c:Ce)(x:Option Nat):zga n c d (dW x)=some (dW x):=by cases x<;>cases d<;>simp only[dW,nW,zga]
theorem zh5(n d:Nat)(c:Ce)(x:List (Option Nat)×Option Nat):zga n c (d+2) (wrW x)=some (wrW x):=by
 simp only[wrW,dsW,zga,zdh,zcZ (zlj n d c),zlj,map_some]
theorem zrP{sl:Sl}{d1 d2:Sl->M W}{l:List (List Int)}(h1:d1 sl c=some (.ok (cmW l) c))(h2:d2 sl c=some (.ok (wS is) c))(hl:l.length<=1000):zlA zb0 d1 (zc7 (zad d2 zan)) sl c=some (.ok (cmW (l++[is])) c):=by
 have z:2000<PySem.sizeLine:=by decide
 have z1:1<=PySem.sizeLine:=by decide
 have:=zh1 (sl:=sl) (ce:=c) (a:=d1) (b:=zc7 (zad d2 zan)) h1 (zbj (ws:=[wS is]) (zae h2 zak) z1) (xs:=l.map wS) (ys:=[wS is]) rfl rfl (by rw[length_map];show l.length+1<=_;omega)
 rw[this]
 simp only[cmW,map_append,map_cons,map_nil]
theorem zrQ{sl:Sl}{d1 d2:Sl->M W}{l:List (Option Nat)}{x:Option Nat}(h1:d1 sl c=some (.ok (dsW l) c))(h2:d2 sl c=some (.ok (dW x) c))(hl:l.length<=1000):zhR d1 (zbT (zad d2 zan)) sl c=some (.ok (dsW (l++[x])) c):=by
 have z:2000<PySem.sizeLine:=by decide
 have z1:1<=PySem.sizeLine:=by decide
 have:=zo0 (c1:=c) (xs:=l.map dW) (ys:=[dW x]) h1 (zbf (ws:=[dW x]) (zae h2 zak) z1) (by rw[length_map];show l.length+1<=_;omega)
 rw[this]
 simp only[dsW,map_append,map_cons,map_nil]
end
section
variable {b:List (List Nat)} {o:Int} {q most:Nat}
theorem zlk{is:List Int}{cm:List (List Int)}(P:PosA b is o){st:Option Nat×List Int}(h:st∈stM b (3-o) cm is):PosA b st.2 o:=by
 unfold stM at h
 rcases mem_append.mp h with h|h
 ·obtain⟨p,hp,rfl⟩:=mem_map.mp h
  obtain⟨h1,h2⟩:=zgt hp
  exact(ziT P.flip (mem_range.mp h1) h2).back
 ·rw[mem_singleton] at h
  subst h
  exact P
end
def sdl(b:List (List Nat))(is:List Int)(c:List Nat):List Int:=([1,2]:List Int).filter fun g=>decide (g∈(zaO b c).map fun y=>is.getD y 0)
def onl(b:List (List Nat))(is:List Int)(c:List Nat)(h:Int):Bool:=((zaO b c).any fun y=>decide (is.getD y 0=h))&&!((zaO b c).any fun y=>decide (is.getD y 0=3-h))
theorem zpq{b:List (List Nat)}{is:List Int}{c:List Nat}{h:Int}(hh:h=1\/h=2):decide (sdl b is c=[h])=onl b is c h:=by
 have key:∀g:Int,decide (g∈(zaO b c).map fun y=>is.getD y 0)=(zaO b c).any fun y=>decide (is.getD y 0=g):=fun g=>by
  rw[Bool.eq_iff_iff,decide_eq_true_eq,any_eq_true,mem_map]
  constructor
  ·rintro⟨y,hy,e⟩;exact⟨y,hy,decide_eq_true e⟩
  ·rintro⟨y,hy,e⟩;exact⟨y,hy,of_decide_eq_true e⟩
 unfold sdl onl
 simp only[filter_cons,filter_nil,key]
 rcases hh with rfl|rfl
 ·have e:(3:Int)-1=2:=by decide
  rw[e]
  cases (zaO b c).any fun y=>decide (is.getD y 0=1)<;>cases (zaO b c).any fun y=>decide (is.getD y 0=2)<;>decide
 ·have e:(3:Int)-2=1:=by decide
  rw[e]
  cases (zaO b c).any fun y=>decide (is.getD y 0=1)<;>cases (zaO b c).any fun y=>decide (is.getD y 0=2)<;>decide
def zsd(is:List Int)(h:Int)(q:Nat):Bool:=decide (is.getD q 0=h)
def znT(b:List (List Nat))(is:List Int)(h:Int)(q:Nat):Bool:=decide (is.getD q 0=0)&&onl b is (cpt b (vS is) q) h
def hit(b:List (List Nat))(is:List Int)(h:Int)(q:Nat):Bool:=zsd is h q||znT b is h q
def tot(b:List (List Nat))(is:List Int)(h:Int):Nat:=((List.range b.length).filter (hit b is h)).length
theorem zrR{l:List Nat}{s t:Nat->Bool}(h:∀x∈l,¬(s x=true/\t x=true)):(l.filter fun x=>s x||t x).length=(l.filter s).length+(l.filter t).length:=by
 induction l with
 | nil=>rfl
 | cons a l ih =>
  have ih:=ih fun x hx=>h x (mem_cons_of_mem _ hx)
  have ha:=h a mem_cons_self
  simp only[filter_cons]
  cases hs:s a<;>cases ht:t a
  ·simp only[Bool.or_self,false_eq_true,if_false,ih]
  ·simp only[Bool.false_or,false_eq_true,if_false,if_true,length_cons,ih];omega
  ·simp only[Bool.or_false,false_eq_true,if_false,if_true,length_cons,ih];omega
  ·exact absurd ⟨hs,ht⟩ ha
theorem zrS{b:List (List Nat)}{is:List Int}{h:Int}(h0:h≠0):tot b is h=((List.range b.length).filter (zsd is h)).length+((List.range b.length).filter (znT b is h)).length:=by
 unfold tot hit
 refine zrR fun x _ ⟨h1,h2⟩=>?_
 have e1:=of_decide_eq_true h1
 have e2:=of_decide_eq_true (and_eq_true_iff.mp h2).1
 exact h0 (e1.symm.trans e2)
theorem zll{is:List Int}{h:Int}:is.count h=((List.range is.length).filter (zsd is h)).length:=by
 have e:is=(List.range is.length).map fun q=>is.getD q 0:=by
  apply ext_getElem?
  intro i
  by_cases hi:i<is.length
  ·rw[getElem?_map,getElem?_range hi,map_some,getD_eq_getElem?_getD,getElem?_eq_getElem hi];rfl
  ·rw[getElem?_eq_none (by omega),getElem?_eq_none (by simpa using hi)]
 conv=>lhs;rw[e]
 rw[count_eq_countP,countP_map,countP_eq_length_filter]
 congr 1
theorem zlm:∀{L:List (List Nat)},(∀c∈L,c.Nodup)->L.Pairwise (fun c d=>∀x∈c,x∉d)->L.flatten.Nodup
 | [],_,_=>nodup_nil
 | c::L,h,p=>by
  rw[flatten_cons,nodup_append]
  obtain⟨p1,p2⟩:=pairwise_cons.mp p
  refine⟨h c mem_cons_self,zlm (fun d hd=>h d (mem_cons_of_mem _ hd)) p2,fun a ha d hd e=>?_⟩
  subst e
  obtain⟨m,hm,h2⟩:=mem_flatten.mp hd
  exact p1 m hm a ha h2
section
variable {b:List (List Nat)} {is:List Int} {h:Int}
def zmN(b:List (List Nat))(is:List Int):List (List Nat):=(ptc b (vS is)).filter fun c=>decide (is.getD (c.getD 0 0) 0=0)
theorem zpr(hb:Bd b)(sym:Sym b):(((zmN b is).filter fun c=>onl b is c h).map List.length).sum=((List.range b.length).filter (znT b is h)).length:=by
 rw[<- length_flatten]
 have rok:∀c∈zmN b is,∃s,s<b.length/\is.getD s 0=0/\c=cpt b (vS is) s:=fun c hc=>by
  obtain⟨h1,h2⟩:=mem_filter.mp hc
  obtain⟨s,hs,hm,rfl⟩:=(zdg hb).mp h1
  rw[zc3 hb hs hm] at h2
  exact⟨s,hs,of_decide_eq_true h2,rfl⟩
 have pw:((zmN b is).filter fun c=>onl b is c h).Pairwise (fun c d=>∀x∈c,x∉d):=by
  refine List.Pairwise.imp_of_mem ?_ (List.Pairwise.filter _ (List.Pairwise.filter _ (znQ (vl:=vS is) hb)))
  intro c d hc hd hne x hx hx2
  obtain⟨s,hs,_,rfl⟩:=rok c (mem_filter.mp hc).1
  obtain⟨t,ht,_,rfl⟩:=rok d (mem_filter.mp hd).1
  exact hne (ziN hb sym hs ht hx hx2)
 refine(zcz (zlm (fun c hc=>?_) pw) (List.Pairwise.filter _ nodup_range) fun x=>?_).length_eq
 ·obtain⟨s,hs,_,rfl⟩:=rok c (mem_filter.mp hc).1
  exact znB
 ·rw[mem_flatten,mem_filter,mem_range]
  unfold znT
  rw[and_eq_true,decide_eq_true_eq]
  constructor
  ·rintro⟨c,hc,hx⟩
   obtain⟨h1,h2⟩:=mem_filter.mp hc
   obtain⟨s,hs,es,rfl⟩:=rok c h1
   refine⟨cpt_lt hx,(cpt_val hb hs hx).trans es,?_⟩
   rw[zdz hb sym hs hx];exact h2
  ·rintro⟨hx,x0,ho⟩
   refine⟨cpt b (vS is) x,mem_filter.mpr ⟨mem_filter.mpr ⟨ptc_of hb sym hx,?_⟩,ho⟩,zcB hb hx⟩
   obtain⟨m,h1,h2,h3⟩:=zdA (vl:=vS is) hb sym hx
   rw[<- h3,zc3 hb (cpt_lt h1) h2]
   exact decide_eq_true ((cpt_val hb hx h1).trans x0)
end
section
variable {b:List (List Nat)} {is:List Int} {h:Int} {ce:Ce}
theorem zmO(fu:Nat)(hfu:200<=fu)(B:Brd b)(hl:is.length=b.length):d_ha fu [wB b,wS is] ce=some (.ok (.lst ((zmN b is).map wL)) ce):=by
 have hz:=sl36
 have h36:=B.h36
 have e1:=znO (ce:=ce) fu hfu (ztv hl) B.bd B.sym h36
 have hzl:(ptc b (vS is)).length<=PySem.sizeLine:=by have:=zhS (b:=b) (vl:=vS is);omega
 unfold d_ha
 refine zbK [some (wB b),some (wS is)] rfl ?_
 refine zau (zrh (zs:=ptc b (vS is)) (en:=wL) (t:=fun c=>decide (is.getD (c.getD 0 0) 0=0)) (zhO (zat (ws:=[wB b,wS is]) (by trivial) rfl e1) (.fr _)) hzl (fun c hc=>?_)) ?_
 ·obtain⟨p0,_,p2⟩:=zgp B.bd hc
  have hh:c.getD 0 0<is.length:=by rw[hl];exact zh3 p0 p2
  have i1:=zlc (ce:=ce) p0
  have i2:=zbP (ce:=ce) hh
  trivial
 ·exact zaB (by simp only[Bel];exact zeR _ _)
theorem zmP(fu:Nat)(B:Brd b)(hl:is.length=b.length){c:List Nat}(hc:∀p∈c,p<b.length):zcr (d_ga fu) [wB b,wS is,wL c] ce=some (.ok (sW (sdl b is c)) ce):=by
 have hz:=sl36
 have h36:=B.h36
 have e1:=znP (ce:=ce) fu B.bd h36 (.fr _) hc
 have h2:=ze4 (b:=b) (row:=c)
 have z2:2<=PySem.sizeLine:=by decide
 refine zbM (xs:=(sdl b is c).map W.int) ?_ (belInts _ _)
 unfold d_ga
 refine zbK [some (wB b),some (wS is),some (wL c),none] rfl ?_
 refine zap (w:=sW ((zaO b c).map fun y=>is.getD y 0)) (ce':=ce) (zmk (zs:=zaO b c) (en:=nW) (f:=fun y=>is.getD y 0) (zhO (zat (ws:=[wB b,wL c]) (by trivial) rfl e1) (.fr _)) (by omega) (fun p hp=>?_)) ?_
 ·have i1:=zbP (ce:=ce) (is:=is) (p:=p) (by have:=zcu hp;omega)
  trivial
 refine zQn ?_
 refine zau (ztl (zs:=([1,2]:List Int)) (en:=W.int) (t:=fun g=>decide (g∈(zaO b c).map fun y=>is.getD y 0)) (zhN (xs:=[.int 1,.int 2]) (zbf (ws:=[.int 1,.int 2]) (by trivial) z2)).is z2 (fun g hg=>?_)) ?_
 ·exact zca (zaq (zac rfl) (zac rfl) zri)
 ·exact((Own.start ce).alloc _).finO (by simp only[ze9];exact belInts _ _)
theorem zps(L:List (List Nat)):(L.map fun c=>(c.length:Int)).sum=((L.map List.length).sum:Nat):=by
 induction L with
 | nil=>rfl
 | cons a L ih=>simp only[map_cons,sum_cons,ih];omega
theorem zjy(fu:Nat)(hfu:200<=fu)(B:Brd b)(hl:is.length=b.length)(hh:h=1\/h=2):d_ca fu [wB b,wS is,.int h] ce=some (.ok (nW ((List.range b.length).filter (znT b is h)).length) ce):=by
 have hz:=sl36
 have h36:=B.h36
 have z1:1<=PySem.sizeLine:=by decide
 have e1:=zmO (ce:=ce) fu hfu B hl
 have hzl:(zmN b is).length<=PySem.sizeLine:=by
  have:=zhS (b:=b) (vl:=vS is)
  have:=length_filter_le (fun c=>decide (is.getD (c.getD 0 0) 0=0)) (ptc b (vS is))
  unfold zmN;omega
 unfold d_ca
 refine zbK [some (wB b),some (wS is),some (.int h)] rfl ?_
 have eL:=lcF (zs:=zmN b is) (en:=wL) (t:=fun c=>onl b is c h) (g:=fun c=>W.int (c.length:Int)) (js:=[0,1,2]) (di:=dIL (zar 2 (d_ha fu) (zad (zaf 0) (zad (zaf 1) zan)))) (sl:=[some (wB b),some (wS is),some (.int h)]) (ce:=ce) (c1:=ce)
  (c:=zeu (dB (zaD (eqW false) (zar 3 (zcr (d_ga fu)) (zad (zaf 1) (zad (zaf 2) (zad (zaf 0) zan)))) (zc7 (zad (zaf 3) zan))))) (e:=dBi zcG (zad (zaf 0) zan))
  (zhO (zat (ws:=[wB b,wS is]) (by trivial) rfl e1) (.fr _)) hzl (fun c hc=>by
   obtain⟨_,_,p2⟩:=zgp B.bd (mem_filter.mp hc).1
   have e2:=zmP (ce:=ce) (is:=is) fu B hl p2
   have e3:eqW false ce (sW (sdl b is c)) (.lst [.int h])=some (.bl (onl b is c h)):=by
    rw[<- zpq hh]
    exact(LstOf.fr _).eqI (m:=[h]) (.fr _) false
   exact zd6 (zca (zaq (zat (ws:=[wB b,wS is,wL c]) (by trivial) rfl e2) (zbj (ws:=[.int h]) (by trivial) z1) e3))) (fun c hc _=>by
   have l1:zcG [wL c] ce=some (.ok (.int (c.length:Int)) ce):=zf7
   exact zbb (by trivial) l1)
 have em:((zmN b is).filter fun c=>onl b is c h).map (fun c=>W.int (c.length:Int))=(((zmN b is).filter fun c=>onl b is c h).map fun c=>(c.length:Int)).map W.int:=by rw[map_map];rfl
 rw[em] at eL
 refine zau (zbb (zae eL zak) zpb) ?_
 rw[zps,zpr B.bd B.sym]
 exact zaB (by simp only[Bel])
theorem ztw(fu:Nat)(hfu:200<=fu)(B:Brd b)(hl:is.length=b.length):d_s fu [wB b,wS is] ce=some (.ok (wS [(tot b is 1:Int),(tot b is 2:Int)]) ce):=by
 have hz:=sl36
 have z2:2<=PySem.sizeLine:=by decide
 unfold d_s
 refine zbK [some (wB b),some (wS is),none] rfl ?_
 refine zap (w:=sW (([1,2]:List Int).map fun h=>(tot b is h:Int))) (ce':=ce) (zmk (zs:=([1,2]:List Int)) (en:=W.int) (f:=fun h=>(tot b is h:Int)) (zhN (xs:=[.int 1,.int 2]) (zbf (ws:=[.int 1,.int 2]) (by trivial) z2)).is z2 (fun h hh=>?_)) ?_
 ·have hh12:h=1\/h=2:=by simpa using hh
  have e1:=zjy (ce:=ce) fu hfu B hl hh12
  have c1:zkX (wS is) [.int h] ce=some (.ok (.int (is.count h:Nat)) ce):=by simp only[zkX,zdt]
  have f1:zcc (.int ((is.count h:Nat):Int)) (nW ((List.range b.length).filter (znT b is h)).length)=some (.int (tot b is h:Int)):=by
   refine(zcA (x:=.int ((is.count h:Nat):Int)) (i:=((is.count h:Nat):Int)) (j:=(((List.range b.length).filter (znT b is h)).length:Int)) rfl rfl).trans ?_
   rw[zrS (by omega),zll,hl]
   simp
  exact zd6 (zaF (zrq (zac rfl) (by trivial) c1) (zat (ws:=[wB b,wS is,.int h]) (by trivial) rfl e1) f1)
 ·refine zQn ?_
  refine zau (w:=wS [(tot b is 1:Int),(tot b is 2:Int)]) (ce':=ce) (zbb (zae (by trivial) zak) (zoW (m:=[(tot b is 1:Int),(tot b is 2:Int)]) z2)) ?_
  exact zaB (by simp only[Bel];exact belInts _ _)
end
theorem zhq{b:List (List Nat)}{is:List Int}{r r':List Nat}(h:∀x,x∈r↔x∈r'):brs b is r=brs b is r':=by
 unfold brs zaO
 congr 1
 apply filter_congr
 intro y _
 rw[Bool.eq_iff_iff,any_eq_true,any_eq_true]
 exact⟨fun⟨x,hx,q⟩=>⟨x,(h x).mp hx,q⟩,fun⟨x,hx,q⟩=>⟨x,(h x).mpr hx,q⟩⟩
section
variable {ce:Ce}
def StOf(ce:Ce)(w:W)(is:List Int):Prop:=zfR ce w=some (is.map W.int)
theorem StOf.ix{w:W}{is:List Int}(h:StOf ce w is){p:Nat}(hp:p<is.length):ixW ce w (nW p)=some (.int (is.getD p 0)):=by
 rw[zg1 h,getElem?_map,getD_eq_getElem?_getD,getElem?_eq_getElem hp];rfl
theorem zua{k:Nat}{is:List Int}(g:ce[k]?=some (.lst (is.map W.int))):StOf ce (.cel k) is:=zis g
theorem StOf.app{w:W}{is:List Int}(h:StOf ce w is)(t:Ce):StOf (ce++t) w is:=by
 unfold StOf at h ⊢
 cases w<;>simp only[zfR,zdr] at h⊢<;> first|exact h|skip
 rename_i k
 cases e:ce[k]? with
 | none=>rw[e] at h;cases h
 | some c=>rw[getElem?_append_left (List.getElem?_eq_some_iff.mp e).1,e];rw[e] at h;exact h
theorem StOf.own{w:W}{is:List Int}(h:StOf ce w is){c:Ce}{l:List (Nat×C)}(O:Own ce c l):StOf c w is:=by
 obtain⟨t,rfl⟩:=O.cut
 exact h.app t
end
section
variable {b:List (List Nat)} {is:List Int} {ce:Ce} {row:List Nat}
theorem zpt(fu:Nat)(hfu:200<=fu)(B:Brd b){w:W}(hw:StOf ce w is)(hl:is.length=b.length){s:Nat}(hs:s<b.length):∃F,d_q fu [wB b,w,nW s] ce=some (.ok (.cel ce.length) (ce++[.lst (F.map nW)]))/\Comp b (okV (vS is) s) s F:=by
 have hz:=sl36
 have h36:=B.h36
 have hb:=B.bd
 suffices h:∃v c,d_q fu [wB b,w,nW s] ce=some (.ok v c)/\∃F,v=.cel ce.length/\c=ce++[.lst (F.map nW)]/\Comp b (okV (vS is) s) s F by
  obtain⟨v,c,e,F,rfl,rfl,q⟩:=h
  exact⟨F,e,q⟩
 unfold d_q
 refine zfi [some (wB b),some (w),some (nW s),none,none,none] rfl ?_
 refine zap (zdf (ws:=[nW s]) (by trivial) (by show 1<=PySem.sizeLine;omega)) ?_
 refine zQn ?_
 have O0:=(Own.start ce).alloc (C.lst ([s].map nW))
 refine(?_:Run _ _ (ce++[C.lst ([s].map nW)]) _)
 generalize hk:ce.length=k3 at O0 ⊢
 generalize ce++[C.lst ([s].map nW)]=c0 at O0 ⊢
 refine zap (w:=nW 0) (ce':=c0) zaI ?_
 refine zQn ?_
 refine zg7 (σ:=List Nat×Nat) (fun st sl c=>∃x5,sl=[some (wB b),some (w),some (nW s),some (.cel k3),some (nW st.2),x5]/\Own ce c [(k3,C.lst (st.1.map nW))]/\st.1.Nodup/\s∈st.1/\(∀x∈st.1,x<b.length)/\st.2<=st.1.length/\(∀x∈st.1,Reach b (okV (vS is) s) s x)/\∀x∈st.1.take st.2,∀y∈b.getD x [],okV (vS is) s y->y∈st.1)
  (fun st=>36-st.2) ([s],0) ⟨_,rfl,O0,by simp,by simp,by simpa using hs,by simp,by simpa using Reach.refl,by simp⟩ (by show 36-0<fu;omega) ?_
 rintro⟨F,at'⟩ sl c ⟨x5,rfl,O,nd,hsF,lt,hat,re,cl⟩
 dsimp only at O nd hsF lt hat re cl
 have g3:=O.g0
 have hF36:F.length<=36:=le_trans (zaQ nd lt) h36
 have cmp:fLt (nW at') (nW F.length)=some (.bl (decide ((at':Int)<(F.length:Int)))):=zfB (i:=at') (j:=F.length) rfl rfl
 refine⟨decide ((at':Int)<(F.length:Int)),by trivial,fun q=>?_,fun q=>?_⟩
 ·have hlt:at'<F.length:=by have:=of_decide_eq_true q;omega
  have hpF:F.getD at' 0∈F:=by rw[getD_eq_getElem?_getD,getElem?_eq_getElem hlt];exact getElem_mem hlt
  have ix:=zny (p:=at') g3 hlt
  have etk:F.take (at'+1)=F.take at'++[F.getD at' 0]:=by
   rw[take_add_one,getElem?_eq_getElem hlt,getD_eq_getElem?_getD,getElem?_eq_getElem hlt];rfl
  generalize F.getD at' 0=p at hpF ix etk
  have hp:=lt p hpF
  unfold zdJ
  refine zbh (zs:=b.getD p []) (en:=nW) (c1:=c) (zeP (by trivial))
   (fun d sl c=>∃new x5,sl=[some (wB b),some (w),some (nW s),some (.cel k3),some (nW at'),x5]/\Own ce c [(k3,C.lst ((F++new).map nW))]/\(F++new).Nodup/\(∀x∈new,x∈b.getD p []/\okV (vS is) s x)/\∀x∈d,okV (vS is) s x->x∈F++new)
   ⟨[],x5,rfl,by simpa using O,by simpa using nd,by simp,by simp⟩ ?_ ?_
  ·rintro d y r sl c e hy ⟨new,x5,rfl,O,nd2,hnew,hd⟩
   have g3:=O.g0
   have hy':=hb.get hy
   have lt2:∀x∈F++new,x<b.length:=fun x hx=>by
    rcases mem_append.mp hx with hx|hx
    ·exact lt x hx
    ·exact hb.get (hnew x hx).1
   have hl2:=zaQ nd2 lt2
   have hzw:((F++new).map nW).length<PySem.sizeLine:=by rw[length_map];omega
   have j1:=(hw.own O).ix (p:=y) (by omega)
   have j2:=(hw.own O).ix (p:=s) (by omega)
   unfold zdI
   refine zQn ?_
   refine zbO (p:=decide (is.getD y 0=is.getD s 0)&&!decide (y∈F++new)) (ce':=c) (by trivial) (fun q=>?_) (fun q=>?_)
   ·simp only[and_eq_true,not_eq_true',decide_eq_false_iff_not,decide_eq_true_eq] at q
    trivial
    refine⟨new++[y],_,rfl,?_,?_,fun x hx=>?_,fun x hx o=>?_⟩
    ·have e2:(F++(new++[y])).map nW=(F++new).map nW++[nW y]:=by simp
     rw[e2]
     exact O.set0 _
    ·rw[<- append_assoc,nodup_append]
     exact⟨nd2,by simp,fun a ha c hc=>by rw[mem_singleton] at hc;subst hc;intro e;subst e;exact q.2 ha⟩
    ·rcases mem_append.mp hx with hx|hx
     ·exact hnew x hx
     ·rw[mem_singleton] at hx;subst hx;exact⟨hy,q.1⟩
    ·rw[<- append_assoc]
     rcases mem_append.mp hx with hx|hx
     ·exact mem_append_left _ (hd x hx o)
     ·rw[mem_singleton] at hx;subst hx;simp
   ·refine zbk ?_
    refine⟨new,_,rfl,O,nd2,hnew,fun x hx o=>?_⟩
    rcases mem_append.mp hx with hx|hx
    ·exact hd x hx o
    ·rw[mem_singleton] at hx
     subst hx
     have o':is.getD x 0=is.getD s 0:=o
     rw[decide_eq_true o',Bool.true_and,not_eq_false',decide_eq_true_eq] at q
     exact q
  ·rintro sl c ⟨new,x5,rfl,O,nd2,hnew,hd⟩
   have lt2:∀x∈F++new,x<b.length:=fun x hx=>by
    rcases mem_append.mp hx with hx|hx
    ·exact lt x hx
    ·exact hb.get (hnew x hx).1
   have fa:zcc (nW at') (.int 1)=some (nW (at'+1)):=zcA (i:=at') (j:=1) rfl rfl
   refine zeN (w:=nW (at'+1)) (ce':=c) (by trivial) ?_
   refine⟨(F++new,at'+1),(by show 36-(at'+1)<36-at';omega),x5,rfl,O,nd2,mem_append_left _ hsF,lt2,by show at'+1<=(F++new).length;rw[length_append];omega,fun x hx=>?_,fun x hx y hy o=>?_⟩
   ·rcases mem_append.mp hx with hx|hx
    ·exact re x hx
    ·exact(re p hpF).step (hnew x hx).1 (hnew x hx).2
   ·rw[take_append_of_le_length (by omega),etk] at hx
    rcases mem_append.mp hx with hx|hx
    ·exact mem_append_left _ (cl x hx y hy o)
    ·rw[mem_singleton] at hx;subst hx;exact hd y hy o
 ·have q':=of_decide_eq_false q
  have eat:at'=F.length:=by omega
  subst eat
  rw[take_length] at cl
  refine zau (w:=.cel k3) (ce':=c) (by trivial) ?_
  subst hk
  exact⟨_,_,O.finO (by simp only[ze9];exact bels_nW _ _),F,rfl,rfl,⟨nd,hsF,lt,cl,re⟩⟩
theorem ziU(fu:Nat)(hfu:200<=fu)(B:Brd b){w:W}(hw:StOf ce w is)(hl:is.length=b.length){s:Nat}(hs:s<b.length):∃F,zcr (d_q fu) [wB b,w,nW s] ce=some (.ok (wL F) ce)/\(∀x,x∈F↔x∈cpt b (vS is) s)/\F.length<=36/\∀x∈F,x<b.length:=by
 obtain⟨F,e,h⟩:=zpt (ce:=ce) fu hfu B hw hl hs
 exact⟨F,zbM e (bels_nW _ _),fun x=>by rw[zcl B.bd hs];exact h.mem x,le_trans (zaQ h.nd h.lt) B.h36,h.lt⟩
theorem zln(fu:Nat)(B:Brd b){w:W}(hw:StOf ce w is)(hl:is.length=b.length)(hr:∀p∈row,p<b.length):∃F,zcr (d_i fu) [wB b,w,wL row] ce=some (.ok (wL F) ce)/\F.length<=36/\F.Nodup/\∀y,y∈F↔y∈brs b is row:=by
 have hz:=sl36
 have h36:=B.h36
 have hb:=B.bd
 suffices h:∃v c,d_i fu [wB b,w,wL row] ce=some (.ok v c)/\∃F:List Nat,v=.cel ce.length/\c=ce++[.lst (F.map nW)]/\F.length<=36/\F.Nodup/\∀y,y∈F↔y∈brs b is row by
  obtain⟨v,c,e,F,rfl,rfl,q⟩:=h
  exact⟨F,zbM e (bels_nW _ _),q⟩
 unfold d_i
 refine zfi [some (wB b),some w,some (wL row),none,none,none] rfl ?_
 refine zap (zdf zak (zero_le _)) ?_
 refine zQn ?_
 have O0:=(Own.start ce).alloc (C.lst (([]:List Nat).map nW))
 refine(?_:Run _ _ (ce++[C.lst (([]:List Nat).map nW)]) _)
 generalize hk:ce.length=k3 at O0 ⊢
 generalize ce++[C.lst (([]:List Nat).map nW)]=c0 at O0 ⊢
 refine zbh (zs:=row) (en:=nW) (c1:=c0) (zhM (xs:=row.map nW) (zac rfl))
  (fun d sl c=>∃F x4 x5,sl=[some (wB b),some w,some (wL row),some (.cel k3),x4,x5]/\Own ce c [(k3,C.lst (F.map nW))]/\F.Nodup/\(∀x∈F,x<b.length)/\∀y,y∈F↔(∃x∈d,y∈b.getD x [])/\is.getD y 0=0)
  ⟨[],_,_,rfl,O0,by simp,by simp,by simp⟩ ?_ ?_
 ·rintro d p r sl c e hp ⟨F,x4,x5,rfl,O,nd,lt,mem⟩
  have hpb:=hr p hp
  have ib:=ziy (ce:=c) (b:=b) hpb
  unfold zcW
  refine zQn ?_
  refine zc2 (zs:=b.getD p []) (en:=nW) (c1:=c) (zeP (zaq (zac rfl) (zac rfl) ib))
   (fun d' sl c=>∃F x5,sl=[some (wB b),some w,some (wL row),some (.cel k3),some (nW p),x5]/\Own ce c [(k3,C.lst (F.map nW))]/\F.Nodup/\(∀x∈F,x<b.length)/\∀y,y∈F↔((∃x∈d,y∈b.getD x [])\/y∈d')/\is.getD y 0=0)
   ⟨F,x5,rfl,O,nd,lt,fun y=>by rw[mem];simp⟩ ?_ ?_
  ·rintro d' y r' sl c e' hy ⟨F,x5,rfl,O,nd,lt,mem⟩
   have hyb:=hb.get hy
   have hFl:=zaQ nd lt
   have j1:=(hw.own O).ix (p:=y) (by omega)
   have jn:=zt7 (p:=y) (l:=F) O.g0
   have hzF:(F.map nW).length<PySem.sizeLine:=by rw[length_map];omega
   unfold zcV
   refine zQn ?_
   refine zbO (p:=decide (is.getD y 0=0)&&!decide (y∈F)) (ce':=c) (zf4 (zca (zaF (zaq (zac rfl) (zac rfl) j1) zaI (zck rfl rfl))) (fun _=>zca (zaq (zac rfl) (zac rfl) jn))) (fun q=>?_) (fun q=>?_)
   ·simp only[and_eq_true,not_eq_true',decide_eq_false_iff_not,decide_eq_true_eq] at q
    refine zg4 (w:=.non) (zg5 (zac rfl) (zcH O.g0) (zae (zac rfl) zak) (zg6 (y:=nW y) O.g0 hzF)) ?_
    refine⟨F++[y],_,rfl,by rw[map_append];exact O.set0 _,?_,fun x hx=>?_,fun z=>?_⟩
    ·rw[nodup_append]
     exact⟨nd,by simp,fun a ha c hc=>by rw[mem_singleton] at hc;subst hc;intro e;subst e;exact q.2 ha⟩
    ·rcases mem_append.mp hx with hx|hx
     ·exact lt x hx
     ·rw[mem_singleton] at hx;subst hx;exact hyb
    ·rw[mem_append,mem_append,mem,mem_singleton]
     constructor
     ·rintro(⟨h1|h1,h2⟩|rfl)
      ·exact⟨.inl h1,h2⟩
      ·exact⟨.inr (.inl h1),h2⟩
      ·exact⟨.inr (.inr rfl),q.1⟩
     ·rintro⟨h1|h1|rfl,h2⟩
      ·exact .inl ⟨.inl h1,h2⟩
      ·exact .inl ⟨.inr h1,h2⟩
      ·exact .inr rfl
   ·refine zbk ?_
    refine⟨F,_,rfl,O,nd,lt,fun z=>?_⟩
    rw[mem,mem_append,mem_singleton]
    constructor
    ·rintro⟨h1|h1,h2⟩
     ·exact⟨.inl h1,h2⟩
     ·exact⟨.inr (.inl h1),h2⟩
    ·rintro⟨h1|h1|rfl,h2⟩
     ·exact⟨.inl h1,h2⟩
     ·exact⟨.inr h1,h2⟩
     ·rw[decide_eq_true h2,Bool.true_and,not_eq_false',decide_eq_true_eq] at q
      exact(mem z).mp q
  ·rintro sl c ⟨F,x5,rfl,O,nd,lt,mem⟩
   refine⟨F,_,_,rfl,O,nd,lt,fun y=>?_⟩
   rw[mem]
   constructor
   ·rintro⟨⟨x,hx,h⟩|h,h2⟩
    ·exact⟨⟨x,mem_append_left _ hx,h⟩,h2⟩
    ·exact⟨⟨p,by simp,h⟩,h2⟩
   ·rintro⟨⟨x,hx,h⟩,h2⟩
    rcases mem_append.mp hx with hx|hx
    ·exact⟨.inl ⟨x,hx,h⟩,h2⟩
    ·rw[mem_singleton] at hx;subst hx;exact⟨.inr h,h2⟩
 ·rintro sl c ⟨F,x4,x5,rfl,O,nd,lt,mem⟩
  refine zau (w:=.cel k3) (ce':=c) (zac rfl) ?_
  subst hk
  exact⟨_,_,O.finO (by simp only[ze9];exact bels_nW _ _),F,rfl,rfl,le_trans (zaQ nd lt) h36,nd,fun y=>by rw[mem,zdm hb]⟩
end
section
variable {b:List (List Nat)} {is:List Int} {o:Int} {p q:Nat} {ce:Ce}
theorem LyA.law(A:LyA b is o p){q:Nat}:q∈lT b is o p↔∃y∈b.getD p [],(is.set p o).getD y 0=3-o/\brs b (is.set p o) (cpt b (vS (is.set p o)) y)=[]/\q∈cpt b (vS (is.set p o)) y:=by
 have hb:=A.bd
 have sym:=A.sym
 have l1:=A.l1
 have hT:∀x∈thr (is.set p o) [3-o],x<b.length:=fun x hx=>by have:=zrK hx;omega
 rw[A.tk]
 constructor
 ·rintro⟨r,hr,hq⟩
  obtain⟨s,hs,es,er,hf⟩:=A.dead.mp hr
  obtain⟨x,y,rx,hy,y0⟩:=A.nh s hs es
  have hx:x∈r:=by rw[er];exact(zcl hb hs).mpr rx
  have hxb:x<b.length:=by rw[er] at hx;exact cpt_lt hx
  have hyp:=hf x hx y hy y0
  subst hyp
  have ex:is.getD x 0=3-o:=by rw[er] at hx;exact(cpt_val (vl:=vS is) hb hs hx).trans es
  have hxp:x≠y:=fun h=>by subst h;rw[ex] at y0;exact A.H.h0 y0
  have ex1:(is.set y o).getD x 0=3-o:=by rw[A.s1,if_neg hxp];exact ex
  have hm:=mem_filter.mp hr
  obtain⟨s',hs',er'⟩:=ziP hm.1
  have hxT:x∈cpt b (vT (thr (is.set y o) [3-o])) s':=by rw[<- er'];exact hx
  have e1:=zdz hb sym (hT s' hs') hxT
  have e2:=ze5 (is:=is.set y o) hb l1 hxb
  rw[ex1,e1,<- er'] at e2
  refine⟨x,sym _ _ hy,ex1,?_,?_⟩
  ·rw[<- e2];exact of_decide_eq_true hm.2
  ·rw[<- e2];exact hq
 ·rintro⟨y,hy,ey,hn,hq⟩
  have hyb:=hb.get hy
  have e2:=ze5 (is:=is.set p o) hb l1 hyb
  rw[ey] at e2
  refine⟨cpt b (vS (is.set p o)) y,mem_filter.mpr ⟨?_,decide_eq_true hn⟩,hq⟩
  rw[<- e2]
  exact ziO hb sym hT (thr_mem.mpr ⟨by omega,ey⟩)
theorem zjz{x y:List Int}(hl:x.length=y.length)(h:∀i,i<x.length->x.getD i 0=y.getD i 0):x=y:=by
 apply ext_getElem hl
 intro i h1 h2
 have:=h i h1
 rw[getD_eq_getElem?_getD,getD_eq_getElem?_getD,getElem?_eq_getElem h1,getElem?_eq_getElem h2] at this
 exact this
open Classical in
def znU(b:List (List Nat))(is:List Int)(o:Int)(p:Nat):Option (List Int):=if is.getD p 0=0/\Frb b is o p then some (lS b is o p) else none
def opW:Option (List Int)->W
 | none=>.non
 | some l=>wS l
theorem zmQ(fu:Nat)(hfu:200<=fu)(B:Brd b)(P:PosA b is o)(hp:p<b.length):d_r fu [wB b,wS is,.int o,nW p] ce=some (.ok (opW (znU b is o p)) ce):=by
 have hz:=sl36
 have z2000:2000<PySem.sizeLine:=by decide
 have h36:=B.h36
 have hl:=P.hl
 have hlz:is.length<=PySem.sizeLine:=by omega
 have hpl:p<is.length:=by omega
 have jp:=zbP (ce:=ce) (is:=is) (p:=p) hpl
 unfold d_r
 refine zbK [some (wB b),some (wS is),some (.int o),some (nW p),none,none,none,none] rfl ?_
 refine zbe (p:=!decide (is.getD p 0=0)) (ce':=ce) (zca (zaF (zaq (zac rfl) (zac rfl) jp) zaI (zhQ rfl rfl))) (fun q=>?_) (fun q=>?_)
 ·refine zb2 (zau (w:=.non) (ce':=ce) zaI ?_)
  unfold znU
  rw[if_neg (fun z=>by rw[z.1] at q;simp at q)]
  exact zaB (by simp only[Bel])
 have p0:is.getD p 0=0:=by simpa using q
 have A:=P.ly hp p0
 refine zaV ?_
 refine zap (w:=.cel ce.length) (ce':=ce++[.lst (is.map W.int)]) (zbb (zae (zac rfl) zak) (by rw[zkU (xs:=is.map W.int) rfl,zcR (by rw[length_map];exact hlz)])) ?_
 refine zQn ?_
 have O0:=(Own.start ce).alloc (C.lst (is.map W.int))
 generalize hk:ce.length=k4 at O0 ⊢
 generalize ce++[C.lst (is.map W.int)]=c0 at O0 ⊢
 refine ziE (w:=.int o) (k:=k4) (ij:=p) (j:=p) (zac rfl) (zac rfl) (zac rfl) O0.g0 (zdY (by rw[length_map];exact hpl)) ?_
 have O1:=O0.set0 (C.lst ((is.map W.int).set p (.int o)))
 have es:(is.map W.int).set p (.int o)=(is.set p o).map W.int:=by rw[map_set]
 rw[es] at O1 ⊢
 generalize c0.set k4 (C.lst ((is.set p o).map W.int))=c1 at O1 ⊢
 have l1:=A.l1
 refine zap (w:=.lst []) (ce':=c1) (zbj (ws:=[]) zak (zero_le _)) ?_
 refine zQn ?_
 have S1:StOf c1 (.cel k4) (is.set p o):=zua O1.g0
 have ib:=ziy (ce:=c1) (b:=b) hp
 have hrow:(b.getD p []).length<=36:=B.row p
 refine zbh (zs:=b.getD p []) (en:=nW) (c1:=c1) (zeP (zaq (zac rfl) (zac rfl) ib))
  (fun d sl c=>∃T x6 x7,sl=[some (wB b),some (wS is),some (.int o),some (nW p),some (.cel k4),some (wL T),x6,x7]/\c=c1/\T.length<=36*d.length/\(∀x∈T,x<b.length)/\∀q,q∈T↔∃y∈d,(is.set p o).getD y 0=3-o/\brs b (is.set p o) (cpt b (vS (is.set p o)) y)=[]/\q∈cpt b (vS (is.set p o)) y)
  ⟨[],_,_,rfl,rfl,by simp,by simp,by simp⟩ ?_ ?_
 ·rintro d y r sl c e hy ⟨T,x6,x7,rfl,rfl,lT',ltT,mT⟩
  have hyb:=B.bd.get hy
  have hdl:d.length<36:=by
   have:=congrArg List.length e
   simp only[length_append,length_cons] at this
   omega
  have jy:=S1.ix (p:=y) (by omega)
  obtain⟨F,e1,mF,lF',ltF⟩:=ziU (ce:=c) fu hfu B S1 l1 hyb
  obtain⟨G,e2,lG,nG,mG⟩:=zln (ce:=c) (row:=F) fu B S1 l1 ltF
  have eG:decide (G=[])=decide (brs b (is.set p o) (cpt b (vS (is.set p o)) y)=[]):=by
   have:G=[]↔brs b (is.set p o) (cpt b (vS (is.set p o)) y)=[]:=by
    rw[zhq (r':=F) (fun x=>(mF x).symm),eq_nil_iff_forall_not_mem,eq_nil_iff_forall_not_mem]
    exact⟨fun h x hx=>h x ((mG x).mpr hx),fun h x hx=>h x ((mG x).mp hx)⟩
   rw[Bool.eq_iff_iff,decide_eq_true_eq,decide_eq_true_eq]
   exact this
  have noadd:¬((is.set p o).getD y 0=3-o/\brs b (is.set p o) (cpt b (vS (is.set p o)) y)=[])->∀q,q∈T↔∃y'∈d++[y],(is.set p o).getD y' 0=3-o/\brs b (is.set p o) (cpt b (vS (is.set p o)) y')=[]/\q∈cpt b (vS (is.set p o)) y':=fun hn q=>by
   rw[mT]
   constructor
   ·rintro⟨y',hy',h⟩;exact⟨y',mem_append_left _ hy',h⟩
   ·rintro⟨y',hy',h⟩
    rcases mem_append.mp hy' with hy'|hy'
    ·exact⟨y',hy',h⟩
    ·rw[mem_singleton] at hy';subst hy';exact absurd ⟨h.1,h.2.1⟩ hn
  have up:T.length<=36*(d++[y]).length:=by simp only[length_append,length_cons,length_nil];omega
  unfold zeb
  refine zQn ?_
  refine zbO (p:=decide ((is.set p o).getD y 0=3-o)) (ce':=c) (zca (zaF (zaq (zac rfl) (zac rfl) jy) (zaF zaI (zac rfl) rfl) (zck rfl rfl))) (fun q1=>?_) (fun q1=>?_)
  ·have q1:=of_decide_eq_true q1
   refine zap (w:=wL F) (ce':=c) (zat (ws:=[wB b,.cel k4,nW y]) (zae (zac rfl) (zae (zac rfl) (zae (zac rfl) zak))) rfl e1) ?_
   refine zQn ?_
   refine zbO (p:=decide (G=[])) (ce':=c) (zca (zaq (zat (ws:=[wB b,.cel k4,wL F]) (zae (zac rfl) (zae (zac rfl) (zae (zac rfl) zak))) rfl e2) (zbj (ws:=[]) zak (zero_le _)) zoU)) (fun q2=>?_) (fun q2=>?_)
   ·have q2:brs b (is.set p o) (cpt b (vS (is.set p o)) y)=[]:=by rw[eG] at q2;exact of_decide_eq_true q2
    have ec:zlA zb0 (zaf 5) (zaf 7) [some (wB b),some (wS is),some (.int o),some (nW p),some (.cel k4),some (wL T),some (nW y),some (wL F)] c=some (.ok (wL (T++F)) c):=by
     have:=zh1 (sl:=[some (wB b),some (wS is),some (.int o),some (nW p),some (.cel k4),some (wL T),some (nW y),some (wL F)]) (ce:=c) (a:=zaf 5) (b:=zaf 7) (zac rfl) (zac rfl) (xs:=T.map nW) (ys:=F.map nW) rfl rfl (by rw[length_map,length_map];omega)
     rw[this]
     simp only[wL,map_append]
    refine zeN (w:=wL (T++F)) (ce':=c) ec ?_
    refine⟨T++F,_,_,rfl,rfl,by simp only[length_append,length_cons,length_nil];omega,fun x hx=>?_,fun q=>?_⟩
    ·rcases mem_append.mp hx with hx|hx
     ·exact ltT x hx
     ·exact ltF x hx
    ·rw[mem_append,mT,mF]
     constructor
     ·rintro(⟨y',hy',h⟩|h)
      ·exact⟨y',mem_append_left _ hy',h⟩
      ·exact⟨y,by simp,q1,q2,h⟩
     ·rintro⟨y',hy',h⟩
      rcases mem_append.mp hy' with hy'|hy'
      ·exact .inl ⟨y',hy',h⟩
      ·rw[mem_singleton] at hy';subst hy';exact .inr h.2.2
   ·refine zbk ⟨T,_,_,rfl,rfl,up,ltT,noadd fun h=>?_⟩
    rw[eG,decide_eq_true h.2] at q2
    cases q2
  ·exact zbk ⟨T,_,_,rfl,rfl,up,ltT,noadd fun h=>of_decide_eq_false q1 h.1⟩
 ·rintro sl c ⟨T,x6,x7,rfl,rfl,lT',ltT,mT⟩
  have mT':∀q,q∈T↔q∈lT b is o p:=fun q=>by rw[mT,A.law]
  refine zbh (zs:=T) (en:=nW) (c1:=c) (zhM (xs:=T.map nW) (zac rfl))
   (fun d sl c=>∃js x6,sl=[some (wB b),some (wS is),some (.int o),some (nW p),some (.cel k4),some (wL T),x6,x7]/\Own ce c [(k4,C.lst (js.map W.int))]/\js.length=b.length/\(∀q∈d,js.getD q 0=0)/\∀q,q∉d->js.getD q 0=(is.set p o).getD q 0)
   ⟨is.set p o,_,rfl,O1,l1,by simp,fun _ _=>rfl⟩ ?_ ?_
  ·rintro d y r sl c e hy ⟨js,x6,rfl,O,lj,z1,z2⟩
   have hyl:y<js.length:=by rw[lj];exact ltT y hy
   unfold zea
   refine zQn ?_
   refine zet (w:=.int 0) (k:=k4) (ij:=y) (j:=y) zaI (zac rfl) (zac rfl) O.g0 (zdY (by rw[length_map];exact hyl)) ?_
   refine⟨js.set y 0,_,rfl,by rw[map_set];exact O.set0 _,by rw[length_set];exact lj,fun q hq=>?_,fun q hq=>?_⟩
   ·rw[zbI]
    split
    ·rfl
    ·rename_i hn
     rcases mem_append.mp hq with hq|hq
     ·exact z1 q hq
     ·rw[mem_singleton] at hq;exact absurd ⟨hq.symm,hyl⟩ hn
   ·rw[zbI,if_neg (fun x=>hq (by rw[<- x.1];simp))]
    exact z2 q fun x=>hq (mem_append_left _ x)
  ·rintro sl c ⟨js,x6,rfl,O,lj,z1,z2⟩
   have ej:js=lS b is o p:=by
    refine zjz (by rw[lj,zee];exact hl.symm) fun i hi=>?_
    rw[A.get (by omega)]
    by_cases h:i∈T
    ·have h':=(mT' i).mp h
     rw[z1 i h,if_neg (A.tkh h').2.2,if_pos h']
    ·have h':i∉lT b is o p:=fun z=>h ((mT' i).mpr z)
     rw[z2 i h,A.s1,if_neg h']
   subst ej
   have S2:StOf c (.cel k4) (lS b is o p):=zua O.g0
   obtain⟨F,e1,mF,lF',ltF⟩:=ziU (ce:=c) fu hfu B S2 lj hp
   obtain⟨G,e2,lG,nG,mG⟩:=zln (ce:=c) (row:=F) fu B S2 lj ltF
   have eG:G=[]↔¬Frb b is o p:=by
    unfold Frb
    rw[zhq (r:=cpt b (vS (lS b is o p)) p) (r':=F) (fun x=>(mF x).symm),Classical.not_not,eq_nil_iff_forall_not_mem,eq_nil_iff_forall_not_mem]
    exact⟨fun h x hx=>h x ((mG x).mpr hx),fun h x hx=>h x ((mG x).mp hx)⟩
   subst hk
   refine zbe (p:=decide (G=[])) (ce':=c) (zca (zaq (zat (ws:=[wB b,.cel ce.length,wL F]) (zae (zac rfl) (zae (zac rfl) (zae (zat (ws:=[wB b,.cel ce.length,nW p]) (zae (zac rfl) (zae (zac rfl) (zae (zac rfl) zak))) rfl e1) zak))) rfl e2) (zbj (ws:=[]) zak (zero_le _)) zoU)) (fun q2=>?_) (fun q2=>?_)
   ·refine zb2 (zau (w:=.non) (ce':=c) zaI ?_)
    unfold znU
    rw[if_neg (fun z=>(eG.mp (of_decide_eq_true q2)) z.2)]
    exact O.finC (by simp only[Bel])
   ·refine zaV ?_
    have hf:Frb b is o p:=Classical.byContradiction fun h=>of_decide_eq_false q2 (eG.mpr h)
    refine zau (w:=wS (lS b is o p)) (ce':=c) (zbb (zae (zac rfl) zak) (zmn O.g0 (by omega))) ?_
    unfold znU
    rw[if_pos ⟨p0,hf⟩]
    exact O.finC (by simp only[opW,Bel];exact belInts _ _)
end
section
variable {ce:Ce}
theorem znV{x y:Sl->M W}{sl:Sl}{c1:Ce}{p q:Bool}(ha:x sl ce=some (.ok (.bl p) c1))(hb:p=false->y sl c1=some (.ok (.bl q) c1)):dOr x y sl ce=some (.ok (.bl (p||q)) c1):=by
 cases p with
 | true=>simp only[dOr,bnd,ha,ret,Bool.true_or]
 | false=>simp only[dOr,bnd,ha,hb rfl,Bool.false_or]
theorem zlo{x y:Sl->M W}{sl:Sl}{c1:Ce}{p q:Bool}(ha:x sl ce=some (.ok (.bl p) c1))(hb:p=true->y sl c1=some (.ok (.bl q) c1)):zoE x y sl ce=some (.ok (.bl (p&&q)) c1):=by
 cases p with
 | true=>simp only[zoE,bnd,ha,hb rfl,Bool.true_and]
 | false=>simp only[zoE,bnd,ha,ret,Bool.false_and]
theorem zrT{ns:List Int}{p:Nat}(h:p<ns.length)(c:Ce){i:Int}(ei:i=(p:Int)):ixW c (sW ns) (.int i)=some (.int (ns.getD p 0)):=by
 subst ei
 show ixW c (.lst (ns.map W.int)) (nW p)=_
 rw[zg1 (xs:=ns.map W.int) rfl,getElem?_map,getD_eq_getElem?_getD,getElem?_eq_getElem h];rfl
theorem zgu(fu:Nat){ns:List Int}{k:Nat}(hk:k<=10000):∃v,d_g fu [sW ns,nW k] ce=some (.ok (.int v) ce):=by
 have l1:zcG [sW ns] ce=some (.ok (nW ns.length) ce):=by simp[zcG];rfl
 by_cases h:k<ns.length
 ·refine⟨ns.getD k 0,?_⟩
  unfold d_g
  refine zbK [some (sW ns),some (nW k)] rfl ?_
  refine zbe (p:=true) (ce':=ce) (zca (zaF (zac rfl) (zbb (ws:=[sW ns]) (zae (zac rfl) zak) l1) ((zfB (i:=k) (j:=ns.length) rfl rfl).trans (by rw[decide_eq_true (by omega)])))) (fun _=>?_) (fun q=>by cases q)
  exact zb2 (zau (zaq (zac rfl) (zac rfl) (zrT h ce rfl)) (zaB (by simp only[Bel])))
 ·have m1:CMul 71 (k:Int):=.inl (by omega)
  have m2:CMul (71*(k:Int)) (k:Int):=.inl (by omega)
  have m3:CMul 7 (k:Int):=.inl (by omega)
  refine⟨71*(k:Int)*(k:Int)+7*(k:Int),?_⟩
  unfold d_g
  refine zbK [some (sW ns),some (nW k)] rfl ?_
  refine zbe (p:=false) (ce':=ce) (zca (zaF (zac rfl) (zbb (ws:=[sW ns]) (zae (zac rfl) zak) l1) ((zfB (i:=k) (j:=ns.length) rfl rfl).trans (by rw[decide_eq_false (by omega)])))) (fun q=>by cases q) (fun _=>zaV ?_)
  exact zau (zaF (zaF (zaF zaI (zac rfl) (zbm rfl rfl m1)) (zac rfl) (zbm rfl rfl m2)) (zaF zaI (zac rfl) (zbm rfl rfl m3)) rfl) (zaB (by simp only[Bel]))
theorem zrU(fu:Nat)(cc:Int){k:Nat}(hk:k<=10000):∃v:Nat,v<65519/\d_w fu [.int cc,nW k] ce=some (.ok (nW v) ce):=by
 have m1:CMul 2018 (k:Int):=.inl (by omega)
 have m2:CMul (2018*(k:Int)) (k:Int):=.inl (by omega)
 have m3:CMul (cc % 99991+1) (48271+2018*(k:Int)*(k:Int)):=.inl (by omega)
 have m4:CMul 7919 (k:Int):=.inl (by omega)
 generalize hone:(cc % 99991+1)*(48271+2018*(k:Int)*(k:Int)) % 65521=one
 have m5:CMul one one:=.inl (by omega)
 obtain⟨v,hv,ev⟩:=zkL (one*one+7919*(k:Int)) (n:=65519) (by omega)
 have e1:zdQ (.int (one*one+7919*(k:Int))) (.int 65519)=some (nW v):=znv (n:=65519) (by omega) ev
 refine⟨v,hv,?_⟩
 unfold d_w
 refine zbK [some (.int cc),some (nW k),none] rfl ?_
 refine zap (w:=.int one) (ce':=ce) (zaF (zaF (zaF (zaF (zac rfl) zaI (zf9 rfl rfl (by omega))) zaI rfl) (zaF zaI (zaF (zaF zaI (zac rfl) (zbm rfl rfl m1)) (zac rfl) (zbm rfl rfl m2)) rfl) (zbm rfl rfl m3)) zaI ((zf9 rfl rfl (by omega)).trans (by rw[hone]))) ?_
 refine zQn ?_
 exact zau (zaF (zaF (zaF (zac rfl) (zac rfl) (zbm rfl rfl m5)) (zaF zaI (zac rfl) (zbm rfl rfl m4)) rfl) zaI e1) (zaB (by simp only[Bel,nW]))
theorem zh6(fu:Nat)(cc:Int){k:Nat}(hk:k<=10000){m:Nat}(hm:0<m):∃v:Nat,v<m/\∀(sl:Sl) (a b:Sl->M W),a sl ce=some (.ok (.int cc) ce)->b sl ce=some (.ok (nW k) ce)->∀d:Sl->M W,d sl ce=some (.ok (nW m) ce)->dOp zdQ (zar 2 (d_w fu) (zad a (zad b zan))) d sl ce=some (.ok (nW v) ce):=by
 obtain⟨u,_,e⟩:=zrU (ce:=ce) fu cc hk
 obtain⟨v,hv,ev⟩:=zkL (u:Int) (n:=m) hm
 exact⟨v,hv,fun sl a b ha hb d hd=>zaF (zat (ws:=[.int cc,nW k]) (zae ha (zae hb zak)) rfl e) hd (znv hm ev)⟩
theorem zhr{rows:List (List Nat)}{p q:Nat}(hp:p<rows.length)(hq:q<rows.length)(hpq:p≠q):znL rows p q=znL rows q p:=by
 unfold znL
 have e1:(upR rows p q).getD q []=rows.getD q []:=by rw[zd3 hp,if_neg (fun h=>hpq h.symm)]
 have e2:(upR rows q p).getD p []=rows.getD p []:=by rw[zd3 hq,if_neg hpq]
 show(upR rows p q).set q ((upR rows p q).getD q []++[p])=(upR rows q p).set p ((upR rows q p).getD p []++[q])
 rw[e1,e2]
 unfold upR
 exact set_comm _ _ hpq
def szs:List (Nat×Nat):=[(2,2),(3,2),(5,1),(3,3),(4,2),(2,4),(7,1),(3,4),(4,3),(6,2),(5,2),(4,4)]
theorem ziV(n:Nat):(List.range n).map (adj [])=List.replicate n []:=by
 apply ext_getElem?
 intro i
 by_cases hi:i<n
 ·simp[hi,adj]
 ·rw[getElem?_eq_none (by simp;omega),getElem?_eq_none (by simp;omega)]
theorem zmR{n:Nat}{ls:List (Nat×Nat)}(n16:n<=16)(L:LsOk n ls)(i:Nat):(((List.range n).map (adj ls)).getD i []).length<=60:=by
 by_cases hi:i<n
 ·have:((List.range n).map (adj ls)).getD i []=adj ls i:=by simp[getD_eq_getElem?_getD,hi]
  rw[this]
  have:=zaQ (znN L i) fun x hx=>(ziL L hx).1
  omega
 ·rw[getD_eq_getElem?_getD,getElem?_eq_none (by simp;omega)];simp
theorem zlp{n:Nat}{ls:List (Nat×Nat)}:((List.range n).map fun i=>zcb (((List.range n).map (adj ls)).getD i []))=zfL n ls:=by
 unfold zfL
 apply map_congr_left
 intro i hi
 have hi:=mem_range.mp hi
 simp[getD_eq_getElem?_getD,hi]
theorem zmS(fu:Nat)(cc:Int){most:Nat}(m1:1<=most)(m12:most<=12):∃n ls,d_o fu [.int cc,nW most] ce=some (.ok (wB (zfL n ls)) ce)/\4<=n/\n<=16/\LsOk n ls:=by
 have hz:=sl36
 have z2:2<=PySem.sizeLine:=by decide
 obtain⟨i0,hi0,ei0⟩:=zh6 (ce:=ce) fu cc (k:=0) (by omega) (m:=most) (by omega)
 obtain⟨wd,hg,hw,s1,s2,s3,s4,s5⟩:∃wd hg:Nat,szs[i0]?=some (wd,hg)/\2<=wd/\wd<=7/\hg<=4/\4<=wd*hg/\wd*hg<=16:=by
  have:∀i,i<12->∃p,szs[i]?=some p/\2<=p.1/\p.1<=7/\p.2<=4/\4<=p.1*p.2/\p.1*p.2<=16:=by
   intro i hi
   have hm:∀p∈szs,2<=p.1/\p.1<=7/\p.2<=4/\4<=p.1*p.2/\p.1*p.2<=16:=by decide
   exact⟨szs[i]'hi,getElem?_eq_getElem hi,hm _ (getElem_mem hi)⟩
  obtain⟨⟨a,b⟩,h⟩:=this i0 (by omega)
  exact⟨a,b,h⟩
 have hix:ixW ce (.lst (szs.map pW)) (nW i0)=some (pW (wd,hg)):=by
  rw[zg1 (xs:=szs.map pW) rfl,getElem?_map,hw];rfl
 have cm:CMul (wd:Int) (hg:Int):=.inl (by omega)
 have emul:zeE (nW wd) (nW hg)=some (nW (wd*hg)):=(zbm (x:=nW wd) (y:=nW hg) (i:=wd) (j:=hg) rfl rfl cm).trans (by simp[nW])
 generalize wd*hg=n at s4 s5 emul
 have e17:∀k:Nat,k<16->CMul 17 (k:Int):=fun k hk=>.inl (by omega)
 suffices hs:∃w c,d_o fu [.int cc,nW most] ce=some (.ok w c)/\∃ls,w=wB (zfL n ls)/\c=ce/\LsOk n ls by
  obtain⟨w,c,e,ls,rfl,rfl,h⟩:=hs
  exact⟨n,ls,e,s4,s5,h⟩
 unfold d_o
 refine zfi [some (.int cc),some (nW most),none,none,none,none,none,none,none,none] rfl ?_
 refine zap (w:=.lst (szs.map pW)) (ce':=ce) ?_ ?_
 ·have two:∀(sl:Sl) (x y:Nat),zbT (zad (dC (.int x)) (zad (dC (.int y)) zan)) sl ce=some (.ok (pW (x,y)) ce):=fun sl x y=>zbf (ws:=[nW x,nW y]) (zae zaI (zae zaI zak)) z2
  refine zbj (ws:=szs.map pW) ?_ (by show 12<=PySem.sizeLine;decide)
  exact zae (two _ 2 2) (zae (two _ 3 2) (zae (two _ 5 1) (zae (two _ 3 3) (zae (two _ 4 2) (zae (two _ 2 4) (zae (two _ 7 1) (zae (two _ 3 4) (zae (two _ 4 3) (zae (two _ 6 2) (zae (two _ 5 2) (zae (two _ 4 4) zak)))))))))))
 refine zQn ?_
 refine zmr (x:=nW wd) (y:=nW hg) (c1:=ce) (zaq (zac rfl) (ei0 _ _ _ (zac rfl) zaI _ (zac rfl)) hix) ?_
 refine(?_:Run _ [some (.int cc),some (nW most),some (.lst (szs.map pW)),some (nW wd),some (nW hg),none,none,none,none,none] ce _)
 refine zap (ziK (ce:=ce) (n:=n) (zix (zae (zaF (zac rfl) (zac rfl) emul) zak) (by omega)) (by omega)) ?_
 refine zQn ?_
 have hn1000:n<=1000:=by omega
 refine zbh (zs:=List.range n) (en:=nW) (c1:=bC ce (List.replicate n []) []) (zeQ (zae (zaF (zac rfl) (zac rfl) emul) zak) hn1000)
  (fun d sl c=>∃ls x6 x7 x8 x9,sl=[some (.int cc),some (nW most),some (.lst (szs.map pW)),some (nW wd),some (nW hg),some (zfh ce n),x6,x7,x8,x9]/\c=bC ce ((List.range n).map (adj ls)) []/\LsOk n ls/\∀p∈ls,p.2<d.length)
  ⟨[],_,_,_,_,rfl,by rw[ziV],⟨by simp,by simp⟩,by simp⟩ ?_ ?_
 ·rintro d one r sl c e ho ⟨ls,x6,x7,x8,x9,rfl,rfl,L,hls⟩
  have ho:=mem_range.mp ho
  have ed:=ze2 e
  rw[ed,length_range] at hls
  unfold zdF
  refine zQn ?_
  refine zc2 (zs:=List.range one) (en:=nW) (c1:=bC ce ((List.range n).map (adj ls)) []) (zeQ (zae (zac rfl) zak) (by omega))
   (fun d' sl c=>∃ls x7 x8 x9,sl=[some (.int cc),some (nW most),some (.lst (szs.map pW)),some (nW wd),some (nW hg),some (zfh ce n),some (nW one),x7,x8,x9]/\c=bC ce ((List.range n).map (adj ls)) []/\LsOk n ls/\∀p∈ls,p.2<one\/(p.2=one/\p.1<d'.length))
   ⟨ls,_,_,_,rfl,rfl,L,fun p hp=>.inl (hls p hp)⟩ ?_ ?_
  ·rintro d' ot r' sl c e' hot ⟨ls,x7,x8,x9,rfl,rfl,L,hls⟩
   have hot:=mem_range.mp hot
   have ed':=ze2 e'
   rw[ed',length_range] at hls
   generalize hc1:bC ce ((List.range n).map (adj ls)) []=c1
   obtain⟨v1,_,ev1⟩:=zh6 (ce:=c1) fu cc (k:=9+17*one+ot) (by omega) (m:=7) (by omega)
   obtain⟨v2,_,ev2⟩:=zh6 (ce:=c1) fu cc (k:=1) (by omega) (m:=4) (by omega)
   have m17:=e17 one (by omega)
   have ek:∀x8 x9,dOp zcc (dOp zcc (dC (.int 9)) (dOp zeE (dC (.int 17)) (zaf 6))) (zaf 7) [some (.int cc),some (nW most),some (.lst (szs.map pW)),some (nW wd),some (nW hg),some (zfh ce n),some (nW one),some (nW ot),x8,x9] c1=some (.ok (nW (9+17*one+ot)) c1):=fun x8 x9=>by
    have a1:zcc (.int 9) (.int (17*(one:Int)))=some (nW (9+17*one)):=by simp[zcc,i2,nW]
    have a2:zcc (nW (9+17*one)) (nW ot)=some (nW (9+17*one+ot)):=by simp[zcc,i2,nW]
    exact zaF (zaF zaI (zaF zaI (zac rfl) (zbm rfl rfl m17)) a1) (zac rfl) a2
   have tail:∀(β:Bool) (x9:Option W),Run (dIf (dB (zaf 8)) (zax (dEx (dMt zer (zaD ixW (zaf 5) (zaf 6)) (zad (zaf 7) zan))) (dEx (dMt zer (zaD ixW (zaf 5) (zaf 7)) (zad (zaf 6) zan)))) za4)
     [some (.int cc),some (nW most),some (.lst (szs.map pW)),some (nW wd),some (nW hg),some (zfh ce n),some (nW one),some (nW ot),some (.bl β),x9] c1
     (Nx fun sl c=>∃ls x7 x8 x9,sl=[some (.int cc),some (nW most),some (.lst (szs.map pW)),some (nW wd),some (nW hg),some (zfh ce n),some (nW one),x7,x8,x9]/\c=bC ce ((List.range n).map (adj ls)) []/\LsOk n ls/\∀p∈ls,p.2<one\/(p.2=one/\p.1<(d'++[ot]).length)):=by
    intro β x9
    have hdl:(d'++[ot]).length=ot+1:=by rw[ed'];simp
    refine zbO (p:=β) (ce':=c1) (zca (zac rfl)) (fun _=>?_) (fun _=>?_)
    ·subst hc1
     have hz2:∀i,(((List.range n).map (adj ls)).getD i []).length<1000:=fun i=>by have:=zmR s5 L i;omega
     refine znx (ap2 (ce:=ce) (n:=n) (mS:=5) (rows:=(List.range n).map (adj ls)) (gs:=[]) (sl:=[some (.int cc),some (nW most),some (.lst (szs.map pW)),some (nW wd),some (nW hg),some (zfh ce n),some (nW one),some (nW ot),some (.bl β),x9]) (a:=6) (b:=7) (p:=one) (q:=ot) rfl rfl rfl (by simp) (by omega) (by omega) hz2) ?_
     refine⟨ls++[(ot,one)],_,_,_,rfl,?_,⟨?_,fun p hp=>?_⟩,fun p hp=>?_⟩
     ·rw[zhr (by simp;omega) (by simp;omega) (by omega),ziM n ls (by omega) (by omega) (by omega)]
     ·rw[nodup_append]
      refine⟨L.nd,by simp,fun a ha c hc=>?_⟩
      rw[mem_singleton] at hc
      subst hc
      intro e
      subst e
      have:=hls _ ha
      simp only at this
      omega
     ·rcases mem_append.mp hp with hp|hp
      ·exact L.lt p hp
      ·rw[mem_singleton] at hp;subst hp;exact⟨hot,ho⟩
     ·rw[hdl]
      rcases mem_append.mp hp with hp|hp
      ·have:=hls p hp;omega
      ·rw[mem_singleton] at hp;subst hp;exact .inr ⟨rfl,lt_succ_self _⟩
    ·subst hc1
     exact zbk ⟨ls,_,_,_,rfl,rfl,L,fun p hp=>by rw[hdl];have:=hls p hp;omega⟩
   have hwd:(0:Int)<(wd:Int):=by omega
   unfold zdE
   refine zQn ?_
   refine zap (znV (zaF (zaF (zac rfl) (zac rfl) (zhP (i:=one) (j:=ot) rfl rfl)) (zac rfl) (zck rfl rfl)) (fun _=>zlo (zaF (zaF (zac rfl) (zac rfl) (zhP (i:=one) (j:=ot) rfl rfl)) zaI (zck rfl rfl)) (fun _=>zaF (zaF (zac rfl) (zac rfl) (zf9 (i:=one) (j:=wd) rfl rfl hwd)) zaI (zfC rfl rfl)))) ?_
   refine zQn ?_
   generalize (decide ((one:Int)-(ot:Int)=(wd:Int))||(decide ((one:Int)-(ot:Int)=1)&&decide ((0:Int)<(one:Int) % (wd:Int))))=β
   refine zap (zaF (ev1 _ _ _ (zac rfl) (ek _ _) _ zaI) zaI (zck rfl rfl)) ?_
   refine zQn ?_
   generalize decide ((v1:Int)=0)=δ
   have mid:∀β:Bool,Run (zax (dIf (dB (dOp zf0 (dOp zdQ (zar 2 (d_w fu) (zad (zaf 0) (zad (dC (.int 1)) zan))) (dC (.int 4))) (dC (.int 1)))) (zaU 8 (zoE (zaf 8) (zqC (zaf 9)))) za4)
     (dIf (dB (zaf 8)) (zax (dEx (dMt zer (zaD ixW (zaf 5) (zaf 6)) (zad (zaf 7) zan))) (dEx (dMt zer (zaD ixW (zaf 5) (zaf 7)) (zad (zaf 6) zan)))) za4))
     [some (.int cc),some (nW most),some (.lst (szs.map pW)),some (nW wd),some (nW hg),some (zfh ce n),some (nW one),some (nW ot),some (.bl β),some (.bl δ)] c1
     (Nx fun sl c=>∃ls x7 x8 x9,sl=[some (.int cc),some (nW most),some (.lst (szs.map pW)),some (nW wd),some (nW hg),some (zfh ce n),some (nW one),x7,x8,x9]/\c=bC ce ((List.range n).map (adj ls)) []/\LsOk n ls/\∀p∈ls,p.2<one\/(p.2=one/\p.1<(d'++[ot]).length)):=by
    intro β
    refine zbe (p:=decide ((v2:Int)=1)) (ce':=c1) (zca (zaF (ev2 _ _ _ (zac rfl) zaI _ zaI) zaI (zck rfl rfl))) (fun _=>?_) (fun _=>zaV (tail β _))
    refine zap (zlo (zac rfl) (fun _=>zrD (zac rfl))) ?_
    exact tail _ _
   refine zbe (p:=decide ((v2:Int)=0)) (ce':=c1) (zca (zaF (ev2 _ _ _ (zac rfl) zaI _ zaI) zaI (zck rfl rfl))) (fun _=>?_) (fun _=>zaV (mid β))
   refine zap (znV (zac rfl) (fun _=>zac rfl)) ?_
   exact mid _
  ·rintro sl c ⟨ls,x7,x8,x9,rfl,rfl,L,hls⟩
   refine⟨ls,_,_,_,_,rfl,rfl,L,fun p hp=>?_⟩
   rw[ed,length_append,length_range,length_cons,length_nil]
   have:=hls p hp
   omega
 ·rintro sl c ⟨ls,x6,x7,x8,x9,rfl,rfl,L,hls⟩
  have er:=zed (ce:=ce) (gs:=[]) (mS:=5) (rows:=(List.range n).map (adj ls)) (n:=n) (by simp) (by omega) (zmR s5 L) (sl:=[some (.int cc),some (nW most),some (.lst (szs.map pW)),some (nW wd),some (nW hg),some (zfh ce n),x6,x7,x8,x9]) rfl
  rw[zlp] at er
  have hlb:(zfL n ls).length<=PySem.sizeLine:=by simp[zfL];omega
  refine zau (zbb (zae er zak) (zoV hlb)) ?_
  have Oe:Own ce (bC ce ((List.range n).map (adj ls)) []) []:=⟨⟨_,rfl⟩,by simp,by simp,by simp⟩
  exact⟨_,_,Oe.finC (zg3 _ _),ls,rfl,rfl,L⟩
end
section
variable {b:List (List Nat)} {ce:Ce}
theorem zuR(B:Brd b):PosA b (b.map fun _=>(0:Int)) 1:=by
 have z:∀q,(b.map fun _=>(0:Int)).getD q 0=0:=fun q=>by
  rw[getD_eq_getElem?_getD,getElem?_map]
  cases b[q]?<;>rfl
 exact⟨B.bd,B.sym,by simp,⟨by decide,by decide,by decide⟩,fun q _=>.inl (z q),fun s _ e=>by rw[z] at e;omega,fun s _ e=>by rw[z] at e;omega⟩
theorem PosA.of1{is:List Int}{o:Int}(P:PosA b is 1)(ho:o=1\/o=2):PosA b is o:=by
 rcases ho with rfl|rfl
 ·exact P
 ·exact P.flip
theorem PosA.to1{is:List Int}{o:Int}(P:PosA b is o)(ho:o=1\/o=2):PosA b is 1:=by
 rcases ho with rfl|rfl
 ·exact P
 ·exact P.flip
theorem zmT{is js:List Int}{o:Int}{p:Nat}(P:PosA b is o)(hp:p<b.length)(h:znU b is o p=some js):PosA b js o:=by
 unfold znU at h
 split at h
 ·rename_i z
  cases h
  exact P.next (P.ly hp z.1) z.2
 ·cases h
theorem zlq(fu:Nat)(hfu:200<=fu)(B:Brd b){ns:List Int}{at':Nat}(hat:at'<=100):∃is,d_m fu [sW ns,nW at',wB b] ce=some (.ok (wS is) ce)/\PosA b is 1:=by
 have hz:=sl36
 have h36:=B.h36
 have pos:=B.pos
 have hbz:b.length<=PySem.sizeLine:=by omega
 suffices hs:∃w c,d_m fu [sW ns,nW at',wB b] ce=some (.ok w c)/\∃is,w=wS is/\c=ce/\PosA b is 1 by
  obtain⟨w,c,e,is,rfl,rfl,h⟩:=hs
  exact⟨is,e,h⟩
 unfold d_m
 refine zfi [some (sW ns),some (nW at'),some (wB b),none,none,none,none] rfl ?_
 refine zap (w:=wS (b.map fun _=>0)) (ce':=ce) (zbb (zae (zmk (zs:=b) (en:=wT) (f:=fun _=>0) (zhN (zac rfl)).is hbz (fun x hx=>zaI)) zak) (zoW (by rw[length_map];exact hbz))) ?_
 refine zQn ?_
 obtain⟨c4,e4⟩:=zgu (ce:=ce) fu (ns:=ns) (k:=at') (by omega)
 obtain⟨m,hm,em⟩:=zh6 (ce:=ce) fu c4 (k:=4) (by omega) (m:=3*b.length+6) (by omega)
 have e5:∀x3 x4 x5 x6,(dOp zcc (dOp zeE (dC (.int 3)) (dBi zcG (zad (zaf 2) zan))) (dC (.int 6))) [some (sW ns),some (nW at'),some (wB b),x3,x4,x5,x6] ce=some (.ok (nW (3*b.length+6)) ce):=fun x3 x4 x5 x6=>by
  have l1:=zcS (ce:=ce) (b:=b)
  exact zaF (zaF zaI (zbb (ws:=[wB b]) (zae (zac rfl) zak) l1) ((zbm (x:=.int 3) (y:=nW b.length) (i:=3) (j:=b.length) rfl rfl (.inl (by omega))).trans (by show some (W.int (3*(b.length:Int)))=some (nW (3*b.length));simp[nW]))) zaI ((zcA (x:=nW (3*b.length)) (y:=.int 6) (i:=(3*b.length:Nat)) (j:=6) rfl rfl).trans (by simp[nW]))
 have m1000:m<=1000:=by omega
 refine zbh (zs:=List.range m) (en:=nW) (c1:=ce) (zeQ (zae (em _ _ _ (zat (ws:=[sW ns,nW at']) (zae (zac rfl) (zae (zac rfl) zak)) rfl e4) zaI _ (e5 _ _ _ _)) zak) m1000)
  (fun d sl c=>∃is x4 x5 x6,sl=[some (sW ns),some (nW at'),some (wB b),some (wS is),x4,x5,x6]/\c=ce/\PosA b is 1)
  ⟨_,_,_,_,rfl,rfl,zuR B⟩ ?_ ?_
 ·rintro d k r sl c e hk ⟨is,x4,x5,x6,rfl,rfl,P⟩
  have hk:=mem_range.mp hk
  have a1:zcc (nW at') (.int 1)=some (nW (at'+1)):=zcA (i:=at') (j:=1) rfl rfl
  have a2:zcc (nW (at'+1)) (nW k)=some (nW (at'+1+k)):=(zcA (x:=nW (at'+1)) (y:=nW k) (i:=(at'+1:Nat)) (j:=k) rfl rfl).trans (by simp[nW])
  have a3:zcc (.int 2) (nW k)=some (nW (2+k)):=(zcA (x:=.int 2) (y:=nW k) (i:=2) (j:=k) rfl rfl).trans (by simp[nW])
  obtain⟨c5,ec⟩:=zgu (ce:=c) fu (ns:=ns) (k:=at'+1+k) (by omega)
  obtain⟨h2,hh2,eh2⟩:=zh6 (ce:=c) fu c5 (k:=2+k) (by omega) (m:=2) (by omega)
  obtain⟨p,hp,ep⟩:=zh6 (ce:=c) fu c5 (k:=3) (by omega) (m:=b.length) pos
  have ho:(1:Int)+(h2:Int)=1\/(1:Int)+(h2:Int)=2:=by omega
  have Po:=P.of1 ho
  have e6:=zmQ (ce:=c) fu hfu B Po hp
  unfold zdK
  refine zQn ?_
  refine zap (w:=.int c5) (ce':=c) (zat (ws:=[sW ns,nW (at'+1+k)]) (zae (zac rfl) (zae (zaF (zaF (zac rfl) zaI a1) (zac rfl) a2) zak)) rfl ec) ?_
  refine zQn ?_
  refine zap (w:=opW (znU b is (1+(h2:Int)) p)) (ce':=c) (zat (ws:=[wB b,wS is,.int (1+(h2:Int)),nW p]) (zae (zac rfl) (zae (zac rfl) (zae (zaF zaI (eh2 _ _ _ (zac rfl) (zaF zaI (zac rfl) a3) _ zaI) rfl) (zae (ep _ _ _ (zac rfl) zaI _ (zbb (ws:=[wB b]) (zae (zac rfl) zak) zcS)) zak)))) rfl e6) ?_
  refine zQn ?_
  cases hl:znU b is (1+(h2:Int)) p with
  | none =>
   refine zbO (p:=false) (ce':=c) (zca (zdX (zac rfl) rfl)) (fun q=>by cases q) (fun _=>zbk ?_)
   exact⟨is,_,_,_,rfl,rfl,P⟩
  | some js =>
   refine zbO (p:=true) (ce':=c) (zca (zdX (zac rfl) rfl)) (fun _=>?_) (fun q=>by cases q)
   refine zeN (w:=wS js) (ce':=c) (zac rfl) ?_
   exact⟨js,_,_,_,rfl,rfl,(zmT Po hp hl).to1 ho⟩
 ·rintro sl c ⟨is,x4,x5,x6,rfl,rfl,P⟩
  refine zau (w:=wS is) (ce':=c) (zac rfl) ?_
  exact⟨_,_,zaB (by simp only[Bel];exact belInts _ _),is,rfl,rfl,P⟩
end
def cv(b:List (List Nat))(o:Int)(q most:Nat):Nat->Bool->List (List Int)->List Int->Nat->Bool
 | 0,_,_,_,_=>false
 | r+1,true,pre,is,m=>if most<=(m+1) / 2 then false else (hlP b o q (pre++[is]) is).any fun p=>decide ((lS b is o p).getD q 0=0)||cv b o q most r false (pre++[is]) (lS b is o p) (m+1)
 | r+1,false,pre,is,m=>if most<=(m+1) / 2 then false else (stM b (3-o) (pre++[is]) is).all fun st=>cv b o q most r true (pre++[is]) st.2 (m+1)
def turn(t:Bool)(v:Int):Int:=if t=true/\v≠0 then 3-v else v
theorem zew{t:Bool}{u v:Int}(hu:0<=u/\u<=2)(hv:0<=v/\v<=2):turn t u=turn t v↔u=v:=by
 unfold turn
 constructor
 ·intro h
  split at h<;>split at h<;>rename_i h1 h2<;>cases t<;>simp_all<;>omega
 ·rintro rfl;rfl
theorem zrV{t:Bool}{u:Int}(hu:0<=u/\u<=2):turn t u=0↔u=0:=by
 have:=zew (t:=t) hu (v:=0) (by omega)
 rw[show turn t 0=0 by simp[turn]] at this
 exact this
theorem zhs{t:Bool}{o:Int}(ho:o=1\/o=2):turn t (3-o)=3-turn t o:=by
 unfold turn
 rcases ho with rfl|rfl<;>cases t<;>simp
theorem zlr{t:Bool}{o:Int}(ho:o=1\/o=2):turn t o=1\/turn t o=2:=by
 unfold turn
 rcases ho with rfl|rfl<;>cases t<;>simp
structure Iso (n:Nat) (f g:Nat->Nat) (b b':List (List Nat)):Prop where
 lb:b.length=n
 lb':b'.length=n
 f1:∀i,i<n->f i<n
 g1:∀i,i<n->g i<n
 gf:∀i,i<n->g (f i)=i
 fg:∀i,i<n->f (g i)=i
 adj:∀i j,i<n->j<n->(f j∈b'.getD (f i) []↔j∈b.getD i [])
structure Va (n:Nat) (is:List Int):Prop where
 l:is.length=n
 v:∀i,i<n->0<=is.getD i 0/\is.getD i 0<=2
structure Rn (t:Bool) (n:Nat) (f:Nat->Nat) (is is':List Int):Prop where
 va:Va n is
 l':is'.length=n
 at_:∀i,i<n->is'.getD (f i) 0=turn t (is.getD i 0)
section
variable {n:Nat} {f g:Nat->Nat} {b b':List (List Nat)} {t:Bool} {is is':List Int} {o:Int} {p q s x y:Nat}
theorem Iso.eqf(I:Iso n f g b b'){i j:Nat}(hi:i<n)(hj:j<n):f i=f j↔i=j:=⟨fun h=>by rw[<- I.gf i hi,h,I.gf j hj],fun h=>by rw[h]⟩
theorem Rn.eq0(R:Rn t n f is is')(hx:x<n):is'.getD (f x) 0=0↔is.getD x 0=0:=by rw[R.at_ x hx];exact zrV (R.va.v x hx)
theorem Rn.eqs(R:Rn t n f is is')(hx:x<n)(hs:s<n):is'.getD (f x) 0=is'.getD (f s) 0↔is.getD x 0=is.getD s 0:=by rw[R.at_ x hx,R.at_ s hs];exact zew (R.va.v x hx) (R.va.v s hs)
theorem Rn.eqo(R:Rn t n f is is')(hx:x<n)(ho:o=1\/o=2):is'.getD (f x) 0=turn t o↔is.getD x 0=o:=by rw[R.at_ x hx];exact zew (R.va.v x hx) (by omega)
theorem Iso.reach(I:Iso n f g b b')(hb:Bd b)(hb':Bd b')(R:Rn t n f is is')(hs:s<n)(hx:x<n):Reach b' (okV (vS is') (f s)) (f s) (f x)↔Reach b (okV (vS is) s) s x:=by
 constructor
 ·intro h
  have key:∀y',Reach b' (okV (vS is') (f s)) (f s) y'->Reach b (okV (vS is) s) s (g y'):=by
   intro y' r
   induction r with
   | refl=>rw[I.gf s hs];exact .refl
   | @step u w h hw o ih =>
    have hu:u<n:=by have:=Reach.lt hb' (by rw[I.lb'];exact I.f1 s hs) h;rwa [I.lb'] at this
    have hwn:w<n:=by have:=hb'.get hw;rwa [I.lb'] at this
    rw[<- I.fg u hu,<- I.fg w hwn,I.adj _ _ (I.g1 u hu) (I.g1 w hwn)] at hw
    refine ih.step hw ?_
    have o:is'.getD w 0=is'.getD (f s) 0:=o
    rw[<- I.fg w hwn] at o
    exact(R.eqs (I.g1 w hwn) hs).mp o
  have:=key _ h
  rwa [I.gf x hx] at this
 ·intro h
  have key:∀y,Reach b (okV (vS is) s) s y->Reach b' (okV (vS is') (f s)) (f s) (f y):=by
   intro y r
   induction r with
   | refl=>exact .refl
   | @step u w h hw o ih =>
    have hu:u<n:=by have:=Reach.lt hb (by rw[I.lb];exact hs) h;rwa [I.lb] at this
    have hwn:w<n:=by have:=hb.get hw;rwa [I.lb] at this
    exact ih.step ((I.adj _ _ hu hwn).mpr hw) ((R.eqs hwn hs).mpr o)
  exact key x h
theorem Iso.cptM(I:Iso n f g b b')(hb:Bd b)(hb':Bd b')(R:Rn t n f is is')(hs:s<n)(hx:x<n):f x∈cpt b' (vS is') (f s)↔x∈cpt b (vS is) s:=by
 rw[zcl hb' (by rw[I.lb'];exact I.f1 s hs),zcl hb (by rw[I.lb];exact hs)]
 exact I.reach hb hb' R hs hx
theorem Iso.brsM(I:Iso n f g b b')(hb:Bd b)(hb':Bd b')(R:Rn t n f is is'){r r':List Nat}(hr:∀x∈r,x<n)(hr':∀x∈r',x<n)(h:∀x,x<n->(f x∈r'↔x∈r))(hy:y<n):f y∈brs b' is' r'↔y∈brs b is r:=by
 rw[zdm hb',zdm hb,R.eq0 hy]
 constructor
 ·rintro⟨⟨x,hx,h1⟩,h2⟩
  have hxn:=hr' x hx
  refine⟨⟨g x,?_,?_⟩,h2⟩
  ·rw[<- I.fg x hxn] at hx;exact(h _ (I.g1 x hxn)).mp hx
  ·rw[<- I.fg x hxn] at h1;exact(I.adj _ _ (I.g1 x hxn) hy).mp h1
 ·rintro⟨⟨x,hx,h1⟩,h2⟩
  have hxn:=hr x hx
  exact⟨⟨f x,(h x hxn).mpr hx,(I.adj _ _ hxn hy).mpr h1⟩,h2⟩
theorem Iso.brqM(I:Iso n f g b b')(hb:Bd b)(hb':Bd b')(R:Rn t n f is is')(hs:s<n)(hy:y<n):f y∈brq b' (f s) is'↔y∈brq b s is :=
 I.brsM hb hb' R (fun x hx=>by have:=cpt_lt hx;rwa [I.lb] at this) (fun x hx=>by have:=cpt_lt hx;rwa [I.lb'] at this) (fun x hx=>I.cptM hb hb' R hs hx) hy
theorem Iso.nilM(I:Iso n f g b b')(hb:Bd b)(hb':Bd b')(R:Rn t n f is is')(hs:s<n):brs b' is' (cpt b' (vS is') (f s))=[]↔brs b is (cpt b (vS is) s)=[]:=by
 rw[eq_nil_iff_forall_not_mem,eq_nil_iff_forall_not_mem]
 constructor
 ·intro h y hy
  have hyn:y<n:=by have:=znS (q:=s) hy;rwa [I.lb] at this
  exact h (f y) ((I.brqM hb hb' R hs hyn).mpr hy)
 ·intro h y hy
  have hyn:y<n:=by have:=znS (q:=f s) hy;rwa [I.lb'] at this
  rw[<- I.fg y hyn] at hy
  exact h (g y) ((I.brqM hb hb' R hs (I.g1 y hyn)).mp hy)
theorem Rn.set(R:Rn t n f is is')(I:Iso n f g b b')(hp:p<n)(ho:o=1\/o=2):Rn t n f (is.set p o) (is'.set (f p) (turn t o)):=by
 refine⟨⟨by rw[length_set];exact R.va.l,fun i hi=>?_⟩,by rw[length_set];exact R.l',fun i hi=>?_⟩
 ·rw[zbI]
  split
  ·omega
  ·exact R.va.v i hi
 ·rw[zbI,zbI,R.va.l,R.l']
  by_cases h:p=i
  ·subst h
   rw[if_pos ⟨rfl,I.f1 p hp⟩,if_pos ⟨rfl,hp⟩]
  ·rw[if_neg (fun z=>h ((I.eqf hp hi).mp z.1)),if_neg (fun z=>h z.1)]
   exact R.at_ i hi
theorem Iso.lTM(I:Iso n f g b b')(R:Rn t n f is is')(A:LyA b is o p)(A':LyA b' is' (turn t o) (f p))(ho:o=1\/o=2)(hp:p<n)(hq:q<n):f q∈lT b' is' (turn t o) (f p)↔q∈lT b is o p:=by
 have R1:=R.set I hp ho
 have h3:3-o=1\/3-o=2:=by omega
 rw[A'.law,A.law,<- zhs ho]
 constructor
 ·rintro⟨y,hy,h1,h2,h4⟩
  have hyn:y<n:=by have:=A'.bd.get hy;rwa [I.lb'] at this
  have gy:=I.g1 y hyn
  rw[<- I.fg y hyn] at hy h1 h2 h4
  exact⟨g y,(I.adj _ _ hp gy).mp hy,(R1.eqo gy h3).mp h1,(I.nilM A.bd A'.bd R1 gy).mp h2,(I.cptM A.bd A'.bd R1 gy hq).mp h4⟩
 ·rintro⟨y,hy,h1,h2,h4⟩
  have hyn:y<n:=by have:=A.bd.get hy;rwa [I.lb] at this
  exact⟨f y,(I.adj _ _ hp hyn).mpr hy,(R1.eqo hyn h3).mpr h1,(I.nilM A.bd A'.bd R1 hyn).mpr h2,(I.cptM A.bd A'.bd R1 hyn hq).mpr h4⟩
theorem Iso.lSM(I:Iso n f g b b')(R:Rn t n f is is')(A:LyA b is o p)(A':LyA b' is' (turn t o) (f p))(ho:o=1\/o=2)(hp:p<n):Rn t n f (lS b is o p) (lS b' is' (turn t o) (f p)):=by
 refine⟨⟨by rw[zee];exact R.va.l,fun i hi=>?_⟩,by rw[zee];exact R.l',fun i hi=>?_⟩
 ·have:=A.vals i (by rw[I.lb];exact hi)
  omega
 ·rw[A'.get (by rw[I.lb'];exact I.f1 i hi),A.get (by rw[I.lb];exact hi)]
  by_cases h:i=p
  ·rw[if_pos (by rw[h]),if_pos h]
  ·rw[if_neg (fun z=>h ((I.eqf hi hp).mp z)),if_neg h]
   by_cases h2:i∈lT b is o p
   ·rw[if_pos ((I.lTM R A A' ho hp hi).mpr h2),if_pos h2]
    simp[turn]
   ·rw[if_neg (fun z=>h2 ((I.lTM R A A' ho hp hi).mp z)),if_neg h2]
    exact R.at_ i hi
theorem Iso.frbM(I:Iso n f g b b')(R:Rn t n f is is')(A:LyA b is o p)(A':LyA b' is' (turn t o) (f p))(ho:o=1\/o=2)(hp:p<n):Frb b' is' (turn t o) (f p)↔Frb b is o p:=by
 unfold Frb
 exact not_congr (I.nilM A.bd A'.bd (I.lSM R A A' ho hp) hp)
theorem Iso.posM(I:Iso n f g b b')(hb':Bd b')(sym':Sym b')(R:Rn t n f is is')(P:PosA b is o)(ho:o=1\/o=2):PosA b' is' (turn t o):=by
 have snd:∀h:Int,h=1\/h=2->zla b is h->zla b' is' (turn t h):=fun h hh S s' hs' e=>by
  rw[I.lb'] at hs'
  have gs:=I.g1 s' hs'
  rw[<- I.fg s' hs'] at e ⊢
  obtain⟨x,y,r,hy,y0⟩:=S (g s') (by rw[I.lb];exact gs) ((R.eqo gs hh).mp e)
  have hx:x<n:=by have:=Reach.lt P.bd (by rw[I.lb];exact gs) r;rwa [I.lb] at this
  have hyn:y<n:=by have:=P.bd.get hy;rwa [I.lb] at this
  exact⟨f x,f y,(I.reach P.bd hb' R gs hx).mpr r,(I.adj _ _ hx hyn).mpr hy,(R.eq0 hyn).mpr y0⟩
 have h3:3-o=1\/3-o=2:=by omega
 have th:=zlr (t:=t) ho
 refine⟨hb',sym',by rw[R.l',I.lb'],⟨by omega,by omega,by omega⟩,fun q hq=>?_,by rw[<- zhs ho];exact snd _ h3 P.nh,snd _ ho P.no⟩
 rw[I.lb'] at hq
 have gq:=I.g1 q hq
 rw[<- I.fg q hq,R.at_ _ gq]
 rcases P.v (g q) (by rw[I.lb];exact gq) with h|h|h
 ·left;rw[h];simp[turn]
 ·right;left;rw[h];exact zhs ho
 ·right;right;rw[h]
def ren(t:Bool)(n:Nat)(g:Nat->Nat)(is:List Int):List Int:=(List.range n).map fun j=>turn t (is.getD (g j) 0)
theorem zgv{j:Nat}(hj:j<n):(ren t n g is).getD j 0=turn t (is.getD (g j) 0):=by
 unfold ren
 rw[getD_eq_getElem?_getD,getElem?_map,getElem?_range hj]
 rfl
theorem Iso.renM(I:Iso n f g b b')(V:Va n is):Rn t n f is (ren t n g is):=⟨V,by simp[ren],fun i hi=>by rw[zgv (I.f1 i hi),I.gf i hi]⟩
theorem Rn.uniq(R:Rn t n f is is')(I:Iso n f g b b'):is'=ren t n g is:=by
 refine zdP (by rw[R.l'];simp[ren]) fun j hj=>?_
 rw[R.l'] at hj
 rw[zgv hj,<- R.at_ _ (I.g1 j hj),I.fg j hj]
theorem Iso.renI(I:Iso n f g b b'){x y:List Int}(hx:Va n x)(hy:Va n y)(e:ren t n g x=ren t n g y):x=y:=by
 refine zdP (by rw[hx.l,hy.l]) fun i hi=>?_
 rw[hx.l] at hi
 have this:(ren t n g x).getD (f i) 0=(ren t n g y).getD (f i) 0:=by rw[e]
 rw[zgv (I.f1 i hi),zgv (I.f1 i hi),I.gf i hi] at this
 exact(zew (hx.v i hi) (hy.v i hi)).mp this
theorem Va.of(P:PosA b is o)(lb:b.length=n)(ho:o=1\/o=2):Va n is:=⟨by rw[P.hl,lb],fun i hi=>by have:=P.v i (by rw[lb];exact hi);omega⟩
theorem Iso.canM(I:Iso n f g b b')(hb':Bd b')(sym':Sym b')(R:Rn t n f is is')(P:PosA b is o)(ho:o=1\/o=2)(hp:p<n):zgz b' is' (turn t o) (f p)=true↔zgz b is o p=true:=by
 rw[canL_iff,canL_iff,R.eq0 hp]
 have P':=I.posM hb' sym' R P ho
 constructor
 ·rintro⟨h1,h2⟩
  exact⟨h1,(I.frbM R (P.ly (by rw[I.lb];exact hp) h1) (P'.ly (by rw[I.lb'];exact I.f1 p hp) ((R.eq0 hp).mpr h1)) ho hp).mp h2⟩
 ·rintro⟨h1,h2⟩
  exact⟨h1,(I.frbM R (P.ly (by rw[I.lb];exact hp) h1) (P'.ly (by rw[I.lb'];exact I.f1 p hp) ((R.eq0 hp).mpr h1)) ho hp).mpr h2⟩
theorem Iso.newM(I:Iso n f g b b')(hb':Bd b')(sym':Sym b'){cm:List (List Int)}(hc:∀x∈cm,Va n x)(P:PosA b is o)(ho:o=1\/o=2)(hp:p<n)(hcan:zgz b is o p=true):lS b' (ren t n g is) (turn t o) (f p)=ren t n g (lS b is o p)/\Va n (lS b is o p)/\PosA b (lS b is o p) o/\(lS b' (ren t n g is) (turn t o) (f p)∈cm.map (ren t n g)↔lS b is o p∈cm):=by
 have V:=Va.of P I.lb ho
 have R:=I.renM (t:=t) V
 have P':=I.posM hb' sym' R P ho
 have h1:=(canL_iff.mp hcan).1
 have A:=P.ly (by rw[I.lb];exact hp) h1
 have A':=P'.ly (by rw[I.lb'];exact I.f1 p hp) ((R.eq0 hp).mpr h1)
 have R2:=I.lSM R A A' ho hp
 have e:=R2.uniq I
 refine⟨e,R2.va,ziT P (by rw[I.lb];exact hp) hcan,?_⟩
 rw[e,mem_map]
 constructor
 ·rintro⟨x,hx,ex⟩
  rw[<- I.renI (hc x hx) R2.va ex]
  exact hx
 ·exact fun h=>⟨_,h,rfl⟩
end
section
variable {b:List (List Nat)} {is:List Int} {ce:Ce} {n:Nat}
theorem ziW{α:Type}(n:Nat)(x:α):(List.replicate n [x]).flatten=List.replicate n x:=by
 induction n with
 | zero=>rfl
 | succ m ih=>simp only[replicate_succ,flatten_cons,ih];rfl
theorem zmU(h:n<=1000):zfZ zfx [nW n] ce=some (.ok (.cel ce.length) (ce++[.lst ((List.range n).map nW)])):=by
 have z:2000<PySem.sizeLine:=by decide
 have r1:zjF [nW n]=some (.rng 0 n):=by
  simp only[zjF,nW]
  rw[if_pos ⟨by omega,by omega⟩,toNat_natCast]
 simp only[zfZ,r1]
 rw[if_pos (by omega)]
 have e:(List.range n).map (fun(i:Nat)=>W.int (0+(i:Int)))=(List.range n).map nW:=by
  apply map_congr_left
  intro i _
  simp[nW]
 rw[e,zcR (by rw[length_map,length_range];omega)]
theorem zef{α β:Type}(f:α->β):∀(l:List α) (i:Nat),(l.map f).eraseIdx i=(l.eraseIdx i).map f
 | [],_=>rfl
 | _::_,0=>rfl
 | x::l,i+1=>by simp only[map_cons,eraseIdx_cons_succ,zef f l i]
theorem zpu{c:Ce}{k:Nat}{Z:List Nat}(g:c[k]?=some (.lst (Z.map nW))){i:Nat}(hi:i<Z.length)(h62:Z.length<=100):zpG (.cel k) [nW i] c=some (.ok (nW (Z.getD i 0)) (c.set k (.lst ((Z.eraseIdx i).map nW)))):=by
 have h1:0<=(i:Int)/\(i:Int)<2 ^ 62:=⟨by omega,by omega⟩
 have h2:(Z.map nW)[i]?=some (nW (Z.getD i 0)):=by rw[getElem?_map,getElem?_eq_getElem hi,getD_eq_getElem?_getD,getElem?_eq_getElem hi];rfl
 show zpG (.cel k) [.int (i:Int)] c=_
 simp only[zpG,zfA g]
 rw[if_pos h1]
 simp only[toNat_natCast,h2,zef]
theorem zfM:∀(l:List Nat) (i:Nat),i<l.length->(l.getD i 0::l.eraseIdx i).Perm l
 | x::l,0,_=>.refl _
 | x::l,i+1,h=>by
  have ih:=zfM l i (by simpa using h)
  show(l.getD i 0::x::l.eraseIdx i).Perm (x::l)
  exact(List.Perm.swap _ _ _).trans (ih.cons x)
theorem zls(fu:Nat)(cc:Int)(n36:n<=36):∃od,zcr (d_p fu) [.int cc,nW n] ce=some (.ok (wL od) ce)/\od.Perm (List.range n):=by
 have hz:=sl36
 suffices hs:∃w c,d_p fu [.int cc,nW n] ce=some (.ok w c)/\∃od:List Nat,w=.cel ce.length/\c=ce++[.lst (od.map nW)]/\od.Perm (List.range n) by
  obtain⟨w,c,e,od,rfl,rfl,h⟩:=hs
  exact⟨od,zbM e (bels_nW _ _),h⟩
 unfold d_p
 refine zfi [some (.int cc),some (nW n),none,none,none] rfl ?_
 refine zap (w:=.cel ce.length) (ce':=ce++[.lst ((List.range n).map nW)]) (zbb (ws:=[nW n]) (zae (zac rfl) zak) (zmU (by omega))) ?_
 refine zQn ?_
 have O0:=(Own.start ce).alloc (C.lst ((List.range n).map nW))
 generalize ce++[C.lst ((List.range n).map nW)]=c0 at O0 ⊢
 refine zap (zdf zak (zero_le _)) ?_
 refine zQn ?_
 have O1:=O0.alloc (C.lst (([]:List Nat).map nW))
 refine(?_:Run _ _ (c0++[C.lst (([]:List Nat).map nW)]) _)
 generalize c0.length=k3 at O1 ⊢
 generalize c0++[C.lst (([]:List Nat).map nW)]=c1 at O1 ⊢
 refine zbh (zs:=List.range n) (en:=nW) (c1:=c1) (zeQ (zae (zac rfl) zak) (by omega))
  (fun d sl c=>∃(F L:List Nat) (x4:Option W),sl=[some (.int cc),some (nW n),some (.cel ce.length),some (.cel k3),x4]/\Own ce c [(k3,C.lst (F.map nW)),(ce.length,C.lst (L.map nW))]/\(F++L).Perm (List.range n)/\F.length=d.length)
  ⟨[],List.range n,_,rfl,O1,by simp,rfl⟩ ?_ ?_
 ·rintro d k r sl c e hk ⟨F,L,x4,rfl,O,pm,lF'⟩
  have hk:=mem_range.mp hk
  have hdl:d.length<n:=by
   have:=congrArg List.length e
   simp only[length_append,length_cons,length_range] at this
   omega
  have hlen:=pm.length_eq
  rw[length_append,length_range] at hlen
  have hL0:0<L.length:=by omega
  have a1:zcc (.int 30) (nW k)=some (nW (30+k)):=(zcA (x:=.int 30) (y:=nW k) (i:=30) (j:=k) rfl rfl).trans (by simp[nW])
  obtain⟨i,hi,ei⟩:=zh6 (ce:=c) fu cc (k:=30+k) (by omega) (m:=L.length) hL0
  have ll:=zkS (ce:=c) (l:=L) O.g1
  have e1:=zpu (c:=c) O.g1 hi (by omega)
  have O2:=O.set1 (C.lst ((L.eraseIdx i).map nW))
  have ea:=zg6 (y:=nW (L.getD i 0)) O2.g0 (by rw[length_map];omega)
  unfold zdL
  refine zQn ?_
  refine zg4 (w:=.non) (zg5 (ws:=[nW (L.getD i 0)]) (zac rfl) (zcH O.g0) (zae (zg5 (ws:=[nW i]) (zac rfl) (zcH O.g1) (zae (ei _ _ _ (zac rfl) (zaF zaI (zac rfl) a1) _ (zbb (ws:=[.cel ce.length]) (zae (zac rfl) zak) ll)) zak) e1) zak) ea) ?_
  refine⟨F++[L.getD i 0],L.eraseIdx i,_,rfl,by rw[map_append];exact O2.set0 _,?_,by simp only[length_append,length_cons,length_nil];omega⟩
  have q:=zfM L i hi
  rw[append_assoc]
  exact(List.Perm.append_left F q).trans pm
 ·rintro sl c ⟨F,L,x4,rfl,O,pm,lF'⟩
  rw[length_range] at lF'
  have hlen:=pm.length_eq
  rw[length_append,length_range] at hlen
  have:L=[]:=length_eq_zero_iff.mp (by omega)
  subst this
  rw[append_nil] at pm
  refine zau (w:=.cel k3) (ce':=c) (zac rfl) ?_
  exact⟨_,_,O.finO (by simp only[ze9];exact bels_nW _ _),F,rfl,rfl,pm⟩
end
section
variable {b:List (List Nat)} {is:List Int} {ce:Ce} {n:Nat} {od:List Nat}
structure Ord (n:Nat) (od:List Nat):Prop where
 l:od.length=n
 nd:od.Nodup
 lt:∀x∈od,x<n
 all:∀x,x<n->x∈od
theorem zrW(h:od.Perm (List.range n)):Ord n od:=⟨by rw[h.length_eq,length_range],h.nodup_iff.mpr nodup_range,fun x hx=>mem_range.mp (h.mem_iff.mp hx),fun x hx=>h.mem_iff.mpr (mem_range.mpr hx)⟩
theorem Ord.f1(O:Ord n od){i:Nat}(hi:i<n):od.getD i 0<n:=by
 rw[getD_eq_getElem?_getD,getElem?_eq_getElem (by rw[O.l];exact hi)]
 exact O.lt _ (getElem_mem _)
theorem Ord.inj(O:Ord n od){i j:Nat}(hi:i<n)(hj:j<n)(e:od.getD i 0=od.getD j 0):i=j:=by
 rw[getD_eq_getElem?_getD,getElem?_eq_getElem (by rw[O.l];exact hi),getD_eq_getElem?_getD,getElem?_eq_getElem (by rw[O.l];exact hj)] at e
 exact zgN O.nd (by rw[O.l];exact hi) (by rw[O.l];exact hj) e
def gO(od:List Nat)(j:Nat):Nat:=od.idxOf j
theorem Ord.g1(O:Ord n od){j:Nat}(hj:j<n):gO od j<n:=by
 have:=idxOf_lt_length_of_mem (O.all j hj)
 rwa [O.l] at this
theorem Ord.fg(O:Ord n od){j:Nat}(hj:j<n):od.getD (gO od j) 0=j:=by
 have h:=idxOf_lt_length_of_mem (O.all j hj)
 rw[getD_eq_getElem?_getD,show gO od j=od.idxOf j from rfl,getElem?_eq_getElem h]
 exact getElem_idxOf h
theorem Ord.gf(O:Ord n od){i:Nat}(hi:i<n):gO od (od.getD i 0)=i:=O.inj (O.g1 (O.f1 hi)) hi (O.fg (O.f1 hi))
theorem zlt(l:List (List Nat))(p q:Nat)(v:List Nat):(l.set p v).getD q []=if p=q/\p<l.length then v else l.getD q []:=by
 rw[getD_eq_getElem?_getD,getD_eq_getElem?_getD,getElem?_set]
 by_cases h:p=q
 ·subst h
  by_cases h2:p<l.length
  ·simp[h2]
  ·simp[h2]
 ·simp[h]
theorem zrX(fu:Nat)(B:Brd b)(hn:b.length=n)(O:Ord n od):∃b',d_a fu [wB b,wL od] ce=some (.ok (wB b') ce)/\b'.length=n/\∀i,i<n->b'.getD (od.getD i 0) []=zcb ((b.getD i []).map fun y=>od.getD y 0):=by
 have hz:=sl36
 have z0:0<=PySem.sizeLine:=by omega
 have z1:1<=PySem.sizeLine:=by decide
 have h36:=B.h36
 suffices hs:∃w c,d_a fu [wB b,wL od] ce=some (.ok w c)/\∃b',w=wB b'/\c=ce/\b'.length=n/\∀i,i<n->b'.getD (od.getD i 0) []=zcb ((b.getD i []).map fun y=>od.getD y 0) by
  obtain⟨w,c,e,b',rfl,rfl,h⟩:=hs
  exact⟨b',e,h⟩
 unfold d_a
 refine zfi [some (wB b),some (wL od),none,none] rfl ?_
 have e0:=zkY (k:=0) (n:=b.length) (ra:=zad (zbT zan) zan) (b:=dBi zcG (zad (zaf 0) zan)) (sl:=[some (wB b),some (wL od),none,none]) (ce:=ce) (c1:=ce) (c2:=ce) (xs:=[.tup []]) (zae (zbf zak z0) zak) z1 (zbb (ws:=[wB b]) (zae (zac rfl) zak) zcS) (by simp only[length_cons,length_nil];omega) (by omega)
 rw[ziW] at e0
 have er:List.replicate b.length (W.tup [])=(List.replicate n ([]:List Nat)).map wT:=by rw[hn];simp[wT]
 rw[er] at e0
 refine zap e0 ?_
 refine zQn ?_
 have O0:=(Own.start ce).alloc (C.lst ((List.replicate n ([]:List Nat)).map wT))
 generalize hk:ce.length=k2 at O0 ⊢
 generalize ce++[C.lst ((List.replicate n ([]:List Nat)).map wT)]=c0 at O0 ⊢
 refine zbh (zs:=List.range b.length) (en:=nW) (c1:=c0) (zeQ (zae (zbb (ws:=[wB b]) (zae (zac rfl) zak) zcS) zak) (by omega))
  (fun d sl c=>∃(R:List (List Nat)) (x3:Option W),sl=[some (wB b),some (wL od),some (.cel k2),x3]/\Own ce c [(k2,C.lst (R.map wT))]/\R.length=n/\∀i∈d,R.getD (od.getD i 0) []=zcb ((b.getD i []).map fun y=>od.getD y 0))
  ⟨_,_,rfl,O0,by simp,by simp⟩ ?_ ?_
 ·rintro d p r sl c e hp ⟨R,x3,rfl,Oc,lR,hR⟩
  have hp:=mem_range.mp hp
  have hpn:p<n:=by omega
  have hf:=O.f1 hpn
  have ib:=ziy (ce:=c) (b:=b) hp
  have io:=zdb (ce:=c) (l:=od) (p:=p) (by rw[O.l];exact hpn)
  have hrow:(b.getD p []).length<=36:=B.row p
  have e1:=ztk (zs:=b.getD p []) (en:=nW) (f:=fun y=>od.getD y 0) (js:=[1]) (di:=dIT (zaD ixW (zaf 0) (zaf 3))) (e:=zaD ixW (zaf 1) (zaf 0)) (sl:=[some (wB b),some (wL od),some (.cel k2),some (nW p)]) (ce:=c) (c1:=c) (zeP (zaq (zac rfl) (zac rfl) ib)).is (by omega) (fun y hy=>zaq (zac rfl) (zac rfl) (zdb (by rw[O.l];have:=B.bd.get hy;omega)))
  have e2:za0 zb0 [wL ((b.getD p []).map fun y=>od.getD y 0)] c=some (.ok (wL (zcb ((b.getD p []).map fun y=>od.getD y 0))) c):=(zmm (by rw[length_map];omega)).trans (zf6 (by rw[length_map,zch,length_map];omega))
  have e3:zbd [wL (zcb ((b.getD p []).map fun y=>od.getD y 0))] c=some (.ok (wT (zcb ((b.getD p []).map fun y=>od.getD y 0))) c):=zdy (.fr _) (by rw[length_map,zch,length_map];omega)
  unfold zb4
  refine zQn ?_
  refine zet (w:=wT (zcb ((b.getD p []).map fun y=>od.getD y 0))) (k:=k2) (ij:=(od.getD p 0:Nat)) (j:=od.getD p 0) (zbb (zae (zbb (zae e1 zak) e2) zak) e3) (zac rfl) (zaq (zac rfl) (zac rfl) io) Oc.g0 (zdY (by rw[length_map,lR];exact hf)) ?_
  refine⟨R.set (od.getD p 0) (zcb ((b.getD p []).map fun y=>od.getD y 0)),_,rfl,by rw[map_set];exact Oc.set0 _,by rw[length_set];exact lR,fun i hi=>?_⟩
  have hin:i<n:=by
   have:i∈List.range b.length:=by
    rw[<- e]
    rcases mem_append.mp hi with hi|hi
    ·exact mem_append_left _ hi
    ·rw[mem_singleton] at hi;subst hi;simp
   have:=mem_range.mp this
   omega
  rw[zlt,lR]
  by_cases h:i=p
  ·subst h;rw[if_pos ⟨rfl,hf⟩]
  ·rw[if_neg (fun z=>h (O.inj hin hpn z.1.symm))]
   rcases mem_append.mp hi with hi|hi
   ·exact hR i hi
   ·rw[mem_singleton] at hi;exact absurd hi h
 ·rintro sl c ⟨R,x3,rfl,Oc,lR,hR⟩
  refine zau (w:=wB R) (ce':=c) (zbb (ws:=[.cel k2]) (zae (zac rfl) zak) (zdy (.cl Oc.g0) (by rw[length_map];omega))) ?_
  subst hk
  exact⟨_,_,Oc.finC (zg3 _ _),R,rfl,rfl,lR,fun i hi=>hR i (mem_range.mpr (by omega))⟩
theorem zrY(fu:Nat)(hn:is.length=n)(n36:n<=36)(O:Ord n od)(t:Bool):∃is',d_b fu [wS is,wL od,.bl t] ce=some (.ok (wS is') ce)/\is'.length=n/\∀i,i<n->is'.getD (od.getD i 0) 0=turn t (is.getD i 0):=by
 have hz:=sl36
 have z1:1<=PySem.sizeLine:=by decide
 suffices hs:∃w c,d_b fu [wS is,wL od,.bl t] ce=some (.ok w c)/\∃is',w=wS is'/\c=ce/\is'.length=n/\∀i,i<n->is'.getD (od.getD i 0) 0=turn t (is.getD i 0) by
  obtain⟨w,c,e,b',rfl,rfl,h⟩:=hs
  exact⟨b',e,h⟩
 unfold d_b
 refine zfi [some (wS is),some (wL od),some (.bl t),none,none] rfl ?_
 have ls:=zhL (ce:=ce) (is:=is)
 have e0:=zkY (k:=0) (n:=is.length) (ra:=zad (dC (.int 0)) zan) (b:=dBi zcG (zad (zaf 0) zan)) (sl:=[some (wS is),some (wL od),some (.bl t),none,none]) (ce:=ce) (c1:=ce) (c2:=ce) (xs:=[.int 0]) (zae zaI zak) z1 (zbb (ws:=[wS is]) (zae (zac rfl) zak) ls) (by simp only[length_cons,length_nil];omega) (by omega)
 rw[ziW] at e0
 have er:List.replicate is.length (W.int 0)=(List.replicate n (0:Int)).map W.int:=by rw[hn];simp
 rw[er] at e0
 refine zap e0 ?_
 refine zQn ?_
 have O0:=(Own.start ce).alloc (C.lst ((List.replicate n (0:Int)).map W.int))
 generalize hk:ce.length=k2 at O0 ⊢
 generalize ce++[C.lst ((List.replicate n (0:Int)).map W.int)]=c0 at O0 ⊢
 refine zbh (zs:=List.range is.length) (en:=nW) (c1:=c0) (zeQ (zae (zbb (ws:=[wS is]) (zae (zac rfl) zak) zhL) zak) (by omega))
  (fun d sl c=>∃(R:List Int) (x3:Option W),sl=[some (wS is),some (wL od),some (.bl t),some (.cel k2),x3]/\Own ce c [(k2,C.lst (R.map W.int))]/\R.length=n/\∀i∈d,R.getD (od.getD i 0) 0=turn t (is.getD i 0))
  ⟨_,_,rfl,O0,by simp,by simp⟩ ?_ ?_
 ·rintro d p r sl c e hp ⟨R,x3,rfl,Oc,lR,hR⟩
  have hp:=mem_range.mp hp
  have hpn:p<n:=by omega
  have hf:=O.f1 hpn
  have hdn:∀i∈d,i<n:=fun i hi=>by
   have:i∈List.range is.length:=by rw[<- e];exact mem_append_left _ hi
   have:=mem_range.mp this
   omega
  have fin:∀(R':List Int) (v:Int),R'=R.set (od.getD p 0) v->v=turn t (is.getD p 0)->∀i∈d++[p],R'.getD (od.getD i 0) 0=turn t (is.getD i 0):=fun R' v hR' hv i hi=>by
   rw[hR',zbI,lR]
   rcases mem_append.mp hi with hi|hi
   ·by_cases h:i=p
    ·subst h;rw[if_pos ⟨rfl,hf⟩];exact hv
    ·rw[if_neg (fun z=>h (O.inj (hdn i hi) hpn z.1.symm))];exact hR i hi
   ·rw[mem_singleton] at hi;subst hi;rw[if_pos ⟨rfl,hf⟩];exact hv
  have js:=zbP (ce:=c) (is:=is) (p:=p) hp
  have io:=zdb (ce:=c) (l:=od) (p:=p) (by rw[O.l];exact hpn)
  unfold zb5
  refine zQn ?_
  refine ziE (w:=.int (is.getD p 0)) (k:=k2) (ij:=(od.getD p 0:Nat)) (j:=od.getD p 0) (zaq (zac rfl) (zac rfl) js) (zac rfl) (zaq (zac rfl) (zac rfl) io) Oc.g0 (zdY (by rw[length_map,lR];exact hf)) ?_
  have O2:=Oc.set0 (C.lst ((R.map W.int).set (od.getD p 0) (.int (is.getD p 0))))
  have es:(R.map W.int).set (od.getD p 0) (.int (is.getD p 0))=(R.set (od.getD p 0) (is.getD p 0)).map W.int:=by rw[map_set]
  rw[es] at O2 ⊢
  generalize c.set k2 (C.lst ((R.set (od.getD p 0) (is.getD p 0)).map W.int))=c2 at O2 ⊢
  have js2:=zbP (ce:=c2) (is:=is) (p:=p) hp
  have io2:=zdb (ce:=c2) (l:=od) (p:=p) (by rw[O.l];exact hpn)
  refine zbO (p:=t&&!decide (is.getD p 0=0)) (ce':=c2) (zf4 (zca (zac rfl)) (fun _=>zca (zaF (zaq (zac rfl) (zac rfl) js2) zaI (zhQ rfl rfl)))) (fun q=>?_) (fun q=>?_)
  ·simp only[and_eq_true,not_eq_true',decide_eq_false_iff_not] at q
   refine zet (w:=.int (3-is.getD p 0)) (k:=k2) (ij:=(od.getD p 0:Nat)) (j:=od.getD p 0) (zaF zaI (zaq (zac rfl) (zac rfl) js2) rfl) (zac rfl) (zaq (zac rfl) (zac rfl) io2) O2.g0 (zdY (by rw[length_map,length_set,lR];exact hf)) ?_
   refine⟨R.set (od.getD p 0) (3-is.getD p 0),_,rfl,?_,by rw[length_set];exact lR,fin _ (3-is.getD p 0) rfl ?_⟩
   ·have:=O2.set0 (C.lst (((R.set (od.getD p 0) (is.getD p 0)).map W.int).set (od.getD p 0) (.int (3-is.getD p 0))))
    rw[<- map_set,set_set] at this
    rw[<- map_set,set_set]
    exact this
   ·unfold turn;rw[if_pos q]
  ·refine zbk ⟨R.set (od.getD p 0) (is.getD p 0),_,rfl,O2,by rw[length_set];exact lR,fin _ (is.getD p 0) rfl ?_⟩
   unfold turn
   rw[if_neg (fun z=>by rw[z.1,decide_eq_false z.2] at q;cases q)]
 ·rintro sl c ⟨R,x3,rfl,Oc,lR,hR⟩
  refine zau (w:=wS R) (ce':=c) (zbb (ws:=[.cel k2]) (zae (zac rfl) zak) (zmn Oc.g0 (by omega))) ?_
  subst hk
  exact⟨_,_,Oc.finC (by simp only[Bel];exact belInts _ _),R,rfl,rfl,lR,fun i hi=>hR i (mem_range.mpr (by omega))⟩
end
section
variable {ce:Ce}
theorem zmV(fu:Nat)(ns:List Int):∃n ls,d_j fu [sW ns] ce=some (.ok (wB (zfL n ls)) ce)/\0<n/\n<=16/\LsOk n ls:=by
 have hz:=sl36
 obtain⟨cc,e0⟩:=zgu (ce:=ce) fu (ns:=ns) (k:=0) (by omega)
 obtain⟨u,hu,eu⟩:=zh6 (ce:=ce) fu cc (k:=8) (by omega) (m:=3) (by omega)
 obtain⟨v,hv,ev⟩:=zh6 (ce:=ce) fu cc (k:=9) (by omega) (m:=4) (by omega)
 have e0':d_g fu [sW ns,.int 0] ce=some (.ok (.int cc) ce):=e0
 suffices hs:∃w c,d_j fu [sW ns] ce=some (.ok w c)/\∃n ls,w=wB (zfL n ls)/\c=ce/\0<n/\n<=16/\LsOk n ls by
  obtain⟨w,c,e,n,ls,rfl,rfl,h⟩:=hs
  exact⟨n,ls,e,h⟩
 unfold d_j
 refine zfi [some (sW ns),none,none,none,none,none] rfl ?_
 refine zap (w:=.int cc) (ce':=ce) (zat (ws:=[sW ns,.int 0]) (zae (zac rfl) (zae zaI zak)) rfl e0') ?_
 refine zQn ?_
 refine zbe (p:=decide ((0:Int)<(u:Int))) (ce':=ce) (zca (zaF (eu _ _ _ (zac rfl) zaI _ zaI) zaI (zfC rfl rfl))) (fun _=>?_) (fun _=>zaV ?_)
 ·obtain⟨n,ls,eb,n4,n16,L⟩:=zmS (ce:=ce) fu cc (most:=12) (by omega) (by omega)
  have eb':d_o fu [.int cc,.int 12] ce=some (.ok (wB (zfL n ls)) ce):=eb
  refine zb2 (zau (w:=wB (zfL n ls)) (ce':=ce) (zat (ws:=[.int cc,.int 12]) (zae (zac rfl) (zae zaI zak)) rfl eb') ?_)
  exact⟨_,_,zaB (zg3 _ _),n,ls,rfl,rfl,by omega,n16,L⟩
 have a0:zcc (.int 1) (nW v)=some (nW (1+v)):=(zcA (x:=.int 1) (y:=nW v) (i:=1) (j:=v) rfl rfl).trans (by simp[nW])
 refine zap (w:=nW (1+v)) (ce':=ce) (zaF zaI (ev _ _ _ (zac rfl) zaI _ zaI) a0) ?_
 refine zQn ?_
 generalize hn:1+v=n
 have n1:0<n:=by omega
 have n4:n<=4:=by omega
 have s5:n<=16:=by omega
 refine zap (ziK (ce:=ce) (n:=n) (zix (zae (zac rfl) zak) (by omega)) (by omega)) ?_
 refine zQn ?_
 have hn1000:n<=1000:=by omega
 refine zbh (zs:=List.range n) (en:=nW) (c1:=bC ce (List.replicate n []) []) (zeQ (zae (zac rfl) zak) hn1000)
  (fun d sl c=>∃ls x4 x5,sl=[some (sW ns),some (.int cc),some (nW n),some (zfh ce n),x4,x5]/\c=bC ce ((List.range n).map (adj ls)) []/\LsOk n ls/\∀p∈ls,p.2<d.length)
  ⟨[],_,_,rfl,by rw[ziV],⟨by simp,by simp⟩,by simp⟩ ?_ ?_
 ·rintro d one r sl c e ho ⟨ls,x4,x5,rfl,rfl,L,hls⟩
  have ho:=mem_range.mp ho
  have ed:=ze2 e
  rw[ed,length_range] at hls
  unfold zdH
  refine zQn ?_
  refine zc2 (zs:=List.range one) (en:=nW) (c1:=bC ce ((List.range n).map (adj ls)) []) (zeQ (zae (zac rfl) zak) (by omega))
   (fun d' sl c=>∃ls x5,sl=[some (sW ns),some (.int cc),some (nW n),some (zfh ce n),some (nW one),x5]/\c=bC ce ((List.range n).map (adj ls)) []/\LsOk n ls/\∀p∈ls,p.2<one\/(p.2=one/\p.1<d'.length))
   ⟨ls,_,rfl,rfl,L,fun p hp=>.inl (hls p hp)⟩ ?_ ?_
  ·rintro d' ot r' sl c e' hot ⟨ls,x5,rfl,rfl,L,hls⟩
   have hot:=mem_range.mp hot
   have ed':=ze2 e'
   rw[ed',length_range] at hls
   generalize hc1:bC ce ((List.range n).map (adj ls)) []=c1
   obtain⟨v1,_,ev1⟩:=zh6 (ce:=c1) fu cc (k:=20+4*one+ot) (by omega) (m:=4) (by omega)
   have m4:CMul 4 (one:Int):=.inl (by omega)
   have ek:dOp zcc (dOp zcc (dC (.int 20)) (dOp zeE (dC (.int 4)) (zaf 4))) (zaf 5) [some (sW ns),some (.int cc),some (nW n),some (zfh ce n),some (nW one),some (nW ot)] c1=some (.ok (nW (20+4*one+ot)) c1):=by
    have a1:zcc (.int 20) (.int (4*(one:Int)))=some (nW (20+4*one)):=by simp[zcc,i2,nW]
    have a2:zcc (nW (20+4*one)) (nW ot)=some (nW (20+4*one+ot)):=by simp[zcc,i2,nW]
    exact zaF (zaF zaI (zaF zaI (zac rfl) (zbm rfl rfl m4)) a1) (zac rfl) a2
   have hdl:(d'++[ot]).length=ot+1:=by rw[ed'];simp
   unfold zdG
   refine zQn ?_
   refine zbO (p:=decide ((0:Int)<(v1:Int))) (ce':=c1) (zca (zaF (ev1 _ _ _ (zac rfl) ek _ zaI) zaI (zfC rfl rfl))) (fun _=>?_) (fun _=>?_)
   ·subst hc1
    have hz2:∀i,(((List.range n).map (adj ls)).getD i []).length<1000:=fun i=>by have:=zmR s5 L i;omega
    refine znx (ap2 (ce:=ce) (n:=n) (mS:=3) (rows:=(List.range n).map (adj ls)) (gs:=[]) (sl:=[some (sW ns),some (.int cc),some (nW n),some (zfh ce n),some (nW one),some (nW ot)]) (a:=4) (b:=5) (p:=one) (q:=ot) rfl rfl rfl (by simp) (by omega) (by omega) hz2) ?_
    refine⟨ls++[(ot,one)],_,rfl,?_,⟨?_,fun p hp=>?_⟩,fun p hp=>?_⟩
    ·rw[zhr (by simp;omega) (by simp;omega) (by omega),ziM n ls (by omega) (by omega) (by omega)]
    ·rw[nodup_append]
     refine⟨L.nd,by simp,fun a ha c hc=>?_⟩
     rw[mem_singleton] at hc
     subst hc
     intro e
     subst e
     have:=hls _ ha
     simp only at this
     omega
    ·rcases mem_append.mp hp with hp|hp
     ·exact L.lt p hp
     ·rw[mem_singleton] at hp;subst hp;exact⟨hot,ho⟩
    ·rw[hdl]
     rcases mem_append.mp hp with hp|hp
     ·have:=hls p hp;omega
     ·rw[mem_singleton] at hp;subst hp;exact .inr ⟨rfl,lt_succ_self _⟩
   ·subst hc1
    exact zbk ⟨ls,_,rfl,rfl,L,fun p hp=>by rw[hdl];have:=hls p hp;omega⟩
  ·rintro sl c ⟨ls,x5,rfl,rfl,L,hls⟩
   refine⟨ls,_,_,rfl,rfl,L,fun p hp=>?_⟩
   rw[ed,length_append,length_range,length_cons,length_nil]
   have:=hls p hp
   omega
 ·rintro sl c ⟨ls,x4,x5,rfl,rfl,L,hls⟩
  have er:=zed (ce:=ce) (gs:=[]) (mS:=3) (rows:=(List.range n).map (adj ls)) (n:=n) (by simp) (by omega) (zmR s5 L) (sl:=[some (sW ns),some (.int cc),some (nW n),some (zfh ce n),x4,x5]) rfl
  rw[zlp] at er
  have hlb:(zfL n ls).length<=PySem.sizeLine:=by simp[zfL];omega
  refine zau (zbb (zae er zak) (zoV hlb)) ?_
  have Oe:Own ce (bC ce ((List.range n).map (adj ls)) []) []:=⟨⟨_,rfl⟩,by simp,by simp,by simp⟩
  exact⟨_,_,Oe.finC (zg3 _ _),n,ls,rfl,rfl,n1,s5,L⟩
end
section
variable {b:List (List Nat)} {is:List Int} {most k g:Nat} {rc:Option (Nat×Nat)} {c:Ce}
theorem zpv{sl:Sl}{ce:Ce}{a:Sl->M W}{xs:List W}{dl dh:Sl->M (Option Int)}{lo hi:Option Int}(ha:a sl ce=some (.ok (.tup xs) ce))(hl:dl sl ce=some (.ok lo ce))(hh:dh sl ce=some (.ok hi ce))(hz:xs.length<=PySem.sizeLine):zsa a dl dh sl ce=some (.ok (.tup (zkv xs lo hi)) ce):=by
 simp only[zsa,bnd,ha,hl,hh,slA]
 refine zo1 ?_
 unfold zkv
 rw[length_take,length_drop]
 omega
theorem zht{fin:Ce->Ce->W->Option (R W)}{n:Nat}{body:DS}{ws:List W}{ce d:Ce}{x:Exn}(sl:Sl)(e:ws.map some++List.replicate (n-ws.length) none=sl)(G:Chg ce d)(h:Run body sl ce fun o=>∃t,o=.ex x (d++t)):dFn fin n body ws ce=some (.ex x d):=by
 subst e
 obtain⟨o,e,t,rfl⟩:=h
 simp only[dFn,e,G.take]
 exact if_pos G.cut
def rcW:Option (Nat×Nat)->W
 | none=>.tup []
 | some (p,q)=>.tup [nW p,nW q]
def enC(b:List (List Nat))(most:Nat)(rc:Option (Nat×Nat))(g:Nat):C:=.ins "End" [("joined",wB b),("most",nW most),("racing",rcW rc),("gone",nW g)]
theorem zpw(n:Nat)(rc:Option (Nat×Nat)):Bel n (rcW rc):=by
 cases rc with
 | none=>simp only[rcW,Bel,zda]
 | some p=>obtain⟨p,q⟩:=p;simp only[rcW,nW,Bel,zda];exact⟨True.intro,True.intro,True.intro⟩
theorem zh7(n:Nat):ze9 n (enC b most rc g):=by
 simp only[enC,ze9]
 intro p hp
 simp only[mem_cons,not_mem_nil,or_false] at hp
 rcases hp with rfl|rfl|rfl|rfl
 ·exact zg3 _ _
 ·simp only[nW,Bel]
 ·exact zpw _ _
 ·simp only[nW,Bel]
def tmx:Exn:=⟨"TooMuch",none⟩
theorem zmW(fu:Nat)(hg:c[k]?=some (enC b most rc g)):d_e fu [.cel k] c=some (if g+1<=500 then .ok .non (c.set k (enC b most rc (g+1))) else .ex tmx (c.set k (enC b most rc (g+1)))):=by
 have hk:k<c.length:=(List.getElem?_eq_some_iff.mp hg).1
 have a1:=zrB (sl:=[some (.cel k)]) (ce:=c) (c1:=c) (d:=zaf 0) (v:=dC (.int 1)) (i:=(g:Int)) (j:=1) (f := "gone") (zac rfl) hg rfl zaI (by show 4<1000;omega)
 have ep:(C.ins "End" (putA "gone" (W.int ((g:Int)+1)) [("joined",wB b),("most",nW most),("racing",rcW rc),("gone",nW g)]))=enC b most rc (g+1):=rfl
 rw[ep] at a1
 generalize hc1:c.set k (enC b most rc (g+1))=c1 at a1 ⊢
 have g1:c1[k]?=some (enC b most rc (g+1)):=by rw[<- hc1];exact getElem?_set_self hk
 have G:Chg c c1:=by rw[<- hc1];exact(Chg.refl c).set k (zh7 _)
 have cond:dB (dOp fGt (zjG "End" "gone" (zaf 0)) (dC (.int 500))) [some (.cel k)] c1=some (.ok (decide ((500:Int)<((g+1:Nat):Int))) c1):=zca (zaF (zdc (zac rfl) g1 rfl) zaI (zfC rfl rfl))
 unfold d_e
 by_cases h:g+1<=500
 ·rw[if_pos h]
  refine zrE [some (.cel k)] rfl ?_
  refine zcg a1 ?_
  refine zbO (ce':=c1) cond (fun q=>absurd (of_decide_eq_true q) (by omega)) (fun _=>zbk ?_)
  exact⟨_,_,rfl,(Own.start c1).finC' G (by simp only[Bel])⟩
 ·rw[if_neg h]
  refine zht [some (.cel k)] rfl G ?_
  refine zcg a1 ?_
  refine zbO (ce':=c1) cond (fun _=>zha rfl ⟨[],by rw[append_nil];rfl⟩) (fun q=>absurd (of_decide_eq_false q) (by omega))
def rcS(rc:Option (Nat×Nat))(is:List Int):Bool:=match rc with
 | none=>false
 | some (p,q)=>decide (is.getD p 0=0)||decide (is.getD q 0=0)
def stp(most:Nat)(rc:Option (Nat×Nat))(is:List Int)(ks:List Bool):Bool:=(decide (most<=ks.length)||decide (ks.drop (ks.length-2)=[true,true]))||rcS rc is
def wor(b:List (List Nat))(rc:Option (Nat×Nat))(is:List Int):Int:=match rc with
 | none=>(tot b is 1:Int)-(tot b is 2:Int)
 | some (p,q)=>if is.getD p 0=0 then -1 else if is.getD q 0=0 then 1 else 0
theorem zpx:∀l:List (Option Nat),peqs (l.map dW) [.non,.non]=decide (l.map Option.isNone=[true,true])
 | []=>rfl
 | [none]=>rfl
 | [some p]=>rfl
 | [none,none]=>rfl
 | [none,some q]=>rfl
 | [some p,none]=>rfl
 | [some p,some q]=>rfl
 | none::none::x::l=>by simp[peqs,peq,dW]
 | none::some q::x::l=>by simp[peqs,peq,dW,nW]
 | some p::y::x::l=>by simp[peqs,peq,dW,nW]
theorem ztx(ds:List (Option Nat)):zkv (ds.map dW) (some (-2)) none=(ds.drop (ds.length-2)).map dW:=by
 unfold zkv
 rw[length_map]
 have e:HT.sIx ds.length 0 (some (-2))=ds.length-2:=by
  show(if (-2:Int)<0 then ((-2:Int)+(ds.length:Int)).toNat else min (-2:Int).toNat ds.length)=_
  rw[if_pos (by omega)]
  omega
 rw[e,HT.sIx_none,take_of_length_le (by rw[length_drop,length_map];omega),map_drop]
theorem zpy{ds:List (Option Nat)}:zcG [dsW ds] c=some (.ok (nW ds.length) c):=by simp[zcG,dsW];rfl
theorem zjA(fu:Nat)(hg:c[k]?=some (enC b most rc g))(hl:is.length=b.length)(hr:∀p q,rc=some (p,q)->p<b.length/\q<b.length)(ds:List (Option Nat))(hd:ds.length<=100):d_c fu [.cel k,wS is,dsW ds] c=some (.ok (.bl (stp most rc is (ds.map Option.isNone))) c):=by
 have z2:2<=PySem.sizeLine:=by decide
 have z100:100<=PySem.sizeLine:=by decide
 have e1:fGe (nW ds.length) (nW most)=some (.bl (decide (most<=ds.length))):=by
  show some (W.bl (decide ((most:Int)<=(ds.length:Int))))=_
  rw[show decide ((most:Int)<=(ds.length:Int))=decide (most<=ds.length) by rw[Bool.eq_iff_iff,decide_eq_true_eq,decide_eq_true_eq];omega]
 have e2:eqW false c (.tup (zkv (ds.map dW) (some (-2)) none)) (.tup [.non,.non])=some (.bl (decide ((ds.map Option.isNone).drop ((ds.map Option.isNone).length-2)=[true,true]))):=by
  have hd2:(ds.map Option.isNone).drop ((ds.map Option.isNone).length-2)=(ds.drop (ds.length-2)).map Option.isNone:=by rw[length_map,map_drop]
  rw[hd2,ztx]
  generalize ds.drop (ds.length-2)=l
  have hc:cln 8 (.tup (l.map dW))=true:=by
   show(l.map dW).all (cln 7)=true
   rw[all_eq_true]
   intro w hw
   obtain⟨x,_,rfl⟩:=mem_map.mp hw
   cases x<;>rfl
  have hc2:cln 8 (.tup [.non,.non])=true:=rfl
  simp only[eqW,drf,hc,hc2,Bool.and_self,if_true,peq,zpx,false_eq_true,if_false]
 unfold d_c
 refine zbK [some (.cel k),some (wS is),some (dsW ds)] rfl ?_
 refine zbe (p:=decide (most<=ds.length)||decide ((ds.map Option.isNone).drop ((ds.map Option.isNone).length-2)=[true,true])) (ce':=c) (zeO (zca (zaF (zbb (ws:=[dsW ds]) (zae (zac rfl) zak) zpy) (zdc (zac rfl) hg rfl) e1)) (fun _=>zca (zaq (zpv (xs:=ds.map dW) (zac rfl) (zo2 (zdX zaI rfl)) rfl (by rw[length_map];omega)) (zbf (ws:=[.non,.non]) (zae zaI (zae zaI zak)) z2) e2))) (fun q=>?_) (fun q=>zaV ?_)
 ·refine zb2 (zau (w:=.bl true) (ce':=c) zaI ?_)
  have:stp most rc is (ds.map Option.isNone)=true:=by unfold stp;rw[length_map] at q ⊢;rw[q];rfl
  rw[this]
  exact zbN (zaB (by simp only[Bel]))
 ·have e3:stp most rc is (ds.map Option.isNone)=rcS rc is:=by unfold stp;rw[length_map] at q ⊢;rw[q];rfl
  rw[e3]
  cases rc with
  | none =>
   refine zau (w:=.bl (([]:List Bool).any id)) (ce':=c) (zbb (zae (zrg (zs:=([]:List Nat)) (en:=nW) (g:=fun p=>W.bl (decide (is.getD p 0=0))) (zhN (xs:=[]) (zdc (zac rfl) hg rfl)).is (by simp) (fun p hp=>by cases hp)) zak) (znA (bs:=[]))) ?_
   exact zbN (zaB (by simp only[Bel]))
  | some pq =>
   obtain⟨p,q⟩:=pq
   obtain⟨hp,hq⟩:=hr p q rfl
   refine zau (w:=.bl (([p,q].map fun p=>decide (is.getD p 0=0)).any id)) (ce':=c) (zbb (zae (zrg (zs:=[p,q]) (en:=nW) (g:=fun p=>W.bl (decide (is.getD p 0=0))) (zhN (xs:=[nW p,nW q]) (zdc (zac rfl) hg rfl)).is z2 (fun x hx=>?_)) zak) (znA (bs:=[p,q].map fun p=>decide (is.getD p 0=0)))) ?_
   ·have hx':x<is.length:=by
     rw[hl]
     simp only[mem_cons,not_mem_nil,or_false] at hx
     rcases hx with rfl|rfl
     ·exact hp
     ·exact hq
    exact zaq (zaq (zac rfl) (zac rfl) (zbP hx')) zaI eqI0
   ·have:([p,q].map fun p=>decide (is.getD p 0=0)).any id=rcS (some (p,q)) is:=by simp[rcS]
    rw[this]
    exact zbN (zaB (by simp only[Bel]))
theorem zmX(fu:Nat)(hfu:200<=fu)(B:Brd b)(hg:c[k]?=some (enC b most rc g))(hl:is.length=b.length)(hr:∀p q,rc=some (p,q)->p<b.length/\q<b.length):d_t fu [.cel k,wS is] c=some (.ok (.int (wor b rc is)) c):=by
 unfold d_t
 refine zbK [some (.cel k),some (wS is),none] rfl ?_
 cases rc with
 | none =>
  have e1:=ztw (ce:=c) fu hfu B hl
  refine zbe (p:=true) (ce':=c) (zca (zaq (zdc (zac rfl) hg rfl) (zbf zak (zero_le _)) rfl)) (fun _=>?_) (fun q=>by cases q)
  refine zkO ?_
  refine zap (w:=wS [(tot b is 1:Int),(tot b is 2:Int)]) (ce':=c) (zat (ws:=[wB b,wS is]) (zae (zdc (zac rfl) hg rfl) (zae (zac rfl) zak)) rfl e1) ?_
  refine zQn ?_
  refine zb2 (zau (w:=.int ((tot b is 1:Int)-(tot b is 2:Int))) (ce':=c) (zaF (zaq (zac rfl) zaI (zdv (xs:=[.int (tot b is 1:Int),.int (tot b is 2:Int)]) (j:=0) rfl rfl)) (zaq (zac rfl) zaI (zdv (xs:=[.int (tot b is 1:Int),.int (tot b is 2:Int)]) (j:=1) rfl rfl)) rfl) ?_)
  exact zbN (zaB (by simp only[Bel]))
 | some pq =>
  obtain⟨p,q⟩:=pq
  obtain⟨hp,hq⟩:=hr p q rfl
  have ip:=zbP (ce:=c) (is:=is) (p:=p) (by omega)
  have iq:=zbP (ce:=c) (is:=is) (p:=q) (by omega)
  have e0:eqW false c (rcW (some (p,q))) (.tup [])=some (.bl false):=rfl
  have i0:ixW c (rcW (some (p,q))) (.int 0)=some (nW p):=zdv (xs:=[nW p,nW q]) (j:=0) rfl rfl
  have i1:ixW c (rcW (some (p,q))) (.int 1)=some (nW q):=zdv (xs:=[nW p,nW q]) (j:=1) rfl rfl
  refine zbe (p:=false) (ce':=c) (zca (zaq (zdc (zac rfl) hg rfl) (zbf zak (zero_le _)) e0)) (fun q=>by cases q) (fun _=>zaV ?_)
  refine zbe (p:=decide (is.getD p 0=0)) (ce':=c) (zca (zaq (zaq (zac rfl) (zaq (zdc (zac rfl) hg rfl) zaI i0) ip) zaI eqI0)) (fun h=>?_) (fun h=>zaV ?_)
  ·refine zb2 (zau (w:=.int (-1)) (ce':=c) (zdX zaI rfl) ?_)
   have:wor b (some (p,q)) is=-1:=by simp only[wor];rw[if_pos (of_decide_eq_true h)]
   rw[this]
   exact zbN (zaB (by simp only[Bel]))
  ·refine zau (ce':=c) (ziw (p:=decide (is.getD q 0=0)) (x:=.int 1) (y:=.int 0) (zca (zaq (zaq (zac rfl) (zaq (zdc (zac rfl) hg rfl) zaI i1) iq) zaI eqI0)) (fun _=>zaI) (fun _=>zaI)) ?_
   have:(if decide (is.getD q 0=0)=true then W.int 1 else W.int 0)=.int (wor b (some (p,q)) is):=by
    simp only[wor]
    rw[if_neg (of_decide_eq_false h)]
    by_cases h2:is.getD q 0=0
    ·rw[if_pos (decide_eq_true h2),if_pos h2]
    ·rw[if_neg (by simpa using h2),if_neg h2]
   rw[this]
   exact zbN (zaB (by simp only[Bel]))
def btr(h u v:Int):Bool:=if h=1 then decide (v<u) else decide (u<v)
theorem zlu(fu:Nat)(h u v:Int)(hh:h=1\/h=2):d_v fu [.int h,.int u,.int v] c=some (.ok (.bl (btr h u v)) c):=by
 unfold d_v
 refine zbK [some (.int h),some (.int u),some (.int v)] rfl ?_
 have e:eqW false c (.int h) (.int 1)=some (.bl (decide (h=1))):=by
  rcases hh with rfl|rfl<;>rfl
 refine zau (ce':=c) (ziw (p:=decide (h=1)) (x:=.bl (decide (v<u))) (y:=.bl (decide (u<v))) (zca (zaq (zac rfl) zaI e)) (fun _=>zaF (zac rfl) (zac rfl) (zfC rfl rfl)) (fun _=>zaF (zac rfl) (zac rfl) (zfB rfl rfl))) ?_
 have:(if decide (h=1)=true then W.bl (decide (v<u)) else W.bl (decide (u<v)))=.bl (btr h u v):=by
  unfold btr
  by_cases h1:h=1<;>simp[h1]
 rw[this]
 exact zbN (zaB (by simp only[Bel]))
end
section
variable {b:List (List Nat)} {most:Nat} {rc:Option (Nat×Nat)}
def bs(h:Int):Option Int->Int->Option Int
 | none,v=>some v
 | some u,v=>if btr h v u=true then some v else some u
def bst(h:Int)(l:List Int):Option Int:=l.foldl (bs h) none
def evl(b:List (List Nat))(most:Nat)(rc:Option (Nat×Nat)):Nat->Int->List (List Int)->List Int->List Bool->Int×Nat
 | 0,_,_,_,_=>(0,0)
 | r+1,h,pre,is,ks=>if stp most rc is ks=true then (wor b rc is,1) else
  ((bst h ((stM b h (pre++[is]) is).map fun st=>(evl b most rc r (3-h) (pre++[is]) st.2 (ks++[st.1.isNone])).1)).getD 0,
   1+((stM b h (pre++[is]) is).map fun st=>(evl b most rc r (3-h) (pre++[is]) st.2 (ks++[st.1.isNone])).2).sum)
def bwW:Option (Int×Web×Web)->W
 | none=>.non
 | some (v,w1,w2)=>.tup [.int v,wbW w1,wbW w2]
theorem zrZ{v j:Int}{w1 w2:Web}(hj:j=1\/j=2):∃w:Web,(∀c:Ce,ixW c (.tup [.int v,wbW w1,wbW w2]) (.int j)=some (wbW w))/\∀N,w1.length<=N->w2.length<=N->w.length<=N:=by
 rcases hj with rfl|rfl
 ·exact⟨w1,fun c=>zdv (xs:=[.int v,wbW w1,wbW w2]) (j:=1) rfl rfl,fun N h _=>h⟩
 ·exact⟨w2,fun c=>zdv (xs:=[.int v,wbW w1,wbW w2]) (j:=2) rfl rfl,fun N _ h=>h⟩
theorem zmY{n j:Nat}{c:Ce}{v:Int}{l m:Web}(hn:n<=j)(g:c[j]?=some (.lst (l.map wrW))):zga n c 6 (.tup [.int v,wbW m,.cel j])=some (.tup [.int v,wbW m,wbW l]):=by
 have hk:¬j<n:=by omega
 simp only[zga,zdh,wbW,if_neg hk,g,zcZ (zh5 n _ c),map_some]
theorem zmZ{n j:Nat}{c:Ce}{v:Int}{l m:Web}(hn:n<=j)(g:c[j]?=some (.lst (l.map wrW))):zga n c 6 (.tup [.int v,.cel j,wbW m])=some (.tup [.int v,wbW l,wbW m]):=by
 have hk:¬j<n:=by omega
 simp only[zga,zdh,wbW,if_neg hk,g,zcZ (zh5 n _ c),map_some]
theorem zpz{n:Nat}{c:Ce}{v:Int}{l m:Web}:zga n c 6 (.tup [.int v,wbW l,wbW m])=some (.tup [.int v,wbW l,wbW m]):=by
 simp only[zga,zdh,wbW,zcZ (zh5 n _ c),map_some]
theorem zpA{α:Type}{f:α->Nat}{zs d r:List α}{x:α}(e:d++x::r=zs):(d.map f).sum+f x<=(zs.map f).sum:=by
 subst e
 simp only[map_append,map_cons,sum_append,sum_cons]
 omega
abbrev trQ(b:List (List Nat))(most:Nat)(rc:Option (Nat×Nat))(c:Ce)(k g:Nat)(E:Int×Nat)(o:O):Prop:=(g+E.2<=500/\∃w1 w2:Web,w1.length<=E.2/\w2.length<=E.2/\∃w sl' c' l,o=.go (.rt w) sl' c'/\Own (c.set k (enC b most rc (g+E.2))) c' l/\zga c.length c' 6 w=some (.tup [.int E.1,wbW w1,wbW w2]))\/(500<g+E.2/\∃g' t,o=.ex tmx (c.set k (enC b most rc g')++t))
abbrev trR(b:List (List Nat))(most:Nat)(rc:Option (Nat×Nat))(c:Ce)(k g:Nat)(E:Int×Nat)(R:Option (R W)):Prop:=(g+E.2<=500/\∃w1 w2:Web,w1.length<=E.2/\w2.length<=E.2/\R=some (.ok (.tup [.int E.1,wbW w1,wbW w2]) (c.set k (enC b most rc (g+E.2)))))\/(500<g+E.2/\∃g',R=some (.ex tmx (c.set k (enC b most rc g'))))
abbrev trI(b:List (List Nat))(most:Nat)(rc:Option (Nat×Nat))(F:Option Nat×List Int->Int×Nat)(c:Ce)(k g:Nat)(h:Int)(cm:List (List Int))(ds:List (Option Nat))(d:List (Option Nat×List Int))(sl:Sl)(c':Ce):Prop:=∃(bw:Option (Int×Web×Web)) (dd:Option Nat) (x7 x8:Option W) (acc:Web),sl=[some (.cel k),some (cmW cm),some (dsW ds),some (.int h),some (bwW bw),some (dW dd),some (.cel c.length),x7,x8,none]/\Own (c.set k (enC b most rc (g+1+(d.map fun s=>(F s).2).sum))) c' [(c.length,C.lst (acc.map wrW))]/\g+1+(d.map fun s=>(F s).2).sum<=500/\acc.length<=(d.map fun s=>(F s).2).sum/\bw.map (fun z=>z.1)=bst h (d.map fun s=>(F s).1)/\∀v w1 w2,bw=some (v,w1,w2)->w1.length<=(d.map fun s=>(F s).2).sum/\w2.length<=(d.map fun s=>(F s).2).sum
abbrev trX(b:List (List Nat))(most:Nat)(rc:Option (Nat×Nat))(c:Ce)(k g:Nat)(E:Int×Nat)(x:Exn)(c':Ce):Prop:=x=tmx/\500<g+E.2/\∃g' t,c'=c.set k (enC b most rc g')++t
theorem zty{fu r:Nat}{c:Ce}{k g:Nat}{E:Int×Nat}{pre:List (List Int)}{ds:List (Option Nat)}{h:Int}{bd:DS}(eb:zbS fu (zaY fu r)=dFn zqJ 10 bd)(hrun:Run bd [some (.cel k),some (cmW pre),some (dsW ds),some (.int h),none,none,none,none,none,none] c (trQ b most rc c k g E)):trR b most rc c k g E (ziD (zaY fu (r+1)) [.cel k,cmW pre,dsW ds,.int h] c):=by
 show trR b most rc c k g E (ziD (zbS fu (zaY fu r)) _ c)
 rw[eb]
 obtain⟨o,eo,q⟩:=hrun
 rcases q with ⟨hn,w1,w2,l1,l2,w,sl',c',l,rfl,O,ht⟩|⟨hn,g',t,rfl⟩
 ·refine .inl ⟨hn,w1,w2,l1,l2,Own.frzD' (w:=w) (c:=c') ?_ O ((Chg.refl c).set k (zh7 _)) ht⟩
  unfold dFn
  rw[show([W.cel k,cmW pre,dsW ds,W.int h].map some++List.replicate (10-[W.cel k,cmW pre,dsW ds,W.int h].length) none)=[some (.cel k),some (cmW pre),some (dsW ds),some (.int h),none,none,none,none,none,none] from rfl,eo]
  rfl
 ·refine .inr ⟨hn,g',?_⟩
  have e:=zht (fin:=zqJ) (n:=10) (ws:=[W.cel k,cmW pre,dsW ds,W.int h]) (x:=tmx) _ rfl ((Chg.refl c).set k (zh7 (b:=b) (most:=most) (rc:=rc) (g:=g') _)) ⟨_,eo,t,rfl⟩
  simp only[ziD,e]
set_option maxHeartbeats 1000000 in
theorem zr0(fu:Nat)(hfu:200<=fu)(B:Brd b)(hr:∀p q,rc=some (p,q)->p<b.length/\q<b.length):∀(r:Nat) (h:Int) (pre:List (List Int)) (is:List Int) (ds:List (Option Nat)) (c:Ce) (k g:Nat),h=1\/h=2->PosA b is h->c[k]?=some (enC b most rc g) ->
  ds.length<=most->most+1<=ds.length+r->pre.length=ds.length->ds.length+r<=100 ->
  trR b most rc c k g (evl b most rc r h pre is (ds.map Option.isNone)) (ziD (zaY fu r) [.cel k,cmW (pre++[is]),dsW ds,.int h] c)
 | 0,h,pre,is,ds,c,k,g,_,_,_,h0,h1,_,h3=>by omega
 | r+1,h,pre,is,ds,c,k,g,hh,P,hg,h0,h1,h2,h3=>by
  have z2:2<=PySem.sizeLine:=by decide
  have z3:3<=PySem.sizeLine:=by decide
  have z1:1<=PySem.sizeLine:=by decide
  have z5:2000<=PySem.sizeLine:=by decide
  have h36:=B.h36
  have hk:k<c.length:=(List.getElem?_eq_some_iff.mp hg).1
  have h3':3-h=1\/3-h=2:=by omega
  have Ph:PosA b is (3-h):=P.flip
  generalize hE:evl b most rc (r+1) h pre is (ds.map Option.isNone)=E
  have setl:∀x:C,(c.set k x).length=c.length:=fun x=>length_set
  have getk:∀x:C,(c.set k x)[k]?=some x:=fun x=>getElem?_set_self hk
  refine zty rfl ?_
  have ec:=zmW fu hg
  have last:∀(cc:Ce) (x4 x5 x6 x7 x8 x9:Option W),zaD ixW (zaf 1) (dUn zjD (dC (.int 1))) [some (.cel k),some (cmW (pre++[is])),some (dsW ds),some (.int h),x4,x5,x6,x7,x8,x9] cc=some (.ok (wS is) cc):=fun cc x4 x5 x6 x7 x8 x9=>zaq (zac rfl) (zdX zaI rfl) zh4
  have ecm:zdC "End" "count_row" 1 (d_e fu) (zaf 0) zan [some (.cel k),some (cmW (pre++[is])),some (dsW ds),some (.int h),none,none,none,none,none,none] c=_:=zcC (ws:=[]) (zac rfl) hg rfl zak rfl ec
  have E1:1<=E.2:=by
   rw[<- hE]
   unfold evl
   split
   ·exact le_refl _
   ·exact le_add_right _ _
  by_cases hc5:g+1<=500
  ·rw[if_pos hc5] at ecm
   refine ziu ecm ?_
   have gk:=getk (enC b most rc (g+1))
   have cl:=setl (enC b most rc (g+1))
   have es:=zjA (is:=is) fu gk P.hl hr ds (by omega)
   refine zbe (p:=stp most rc is (ds.map Option.isNone)) (ce':=c.set k (enC b most rc (g+1))) (zca (zcC (ws:=[wS is,dsW ds]) (zac rfl) gk rfl (zae (last _ _ _ _ _ _ _) (zae (zac rfl) zak)) rfl es)) (fun st=>?_) (fun st=>zaV ?_)
   ·have eE:E=(wor b rc is,1):=by rw[<- hE];unfold evl;rw[if_pos st]
    rw[eE]
    have ew:=zmX fu hfu B gk P.hl hr
    refine zb2 (zau (w:=.tup [.int (wor b rc is),.lst [],.lst []]) (ce':=c.set k (enC b most rc (g+1))) (zbf (ws:=[.int (wor b rc is),.lst [],.lst []]) (zae (zcC (ws:=[wS is]) (zac rfl) gk rfl (zae (last _ _ _ _ _ _ _) zak) rfl ew) (zae (zbj (ws:=[]) zak (zero_le _)) (zae (zbj (ws:=[]) zak (zero_le _)) zak))) z3) ?_)
    exact .inl ⟨hc5,[],[],by simp,by simp,_,_,_,[],rfl,Own.start _,zpz (l:=[]) (m:=[])⟩
   ·have nst:ds.length<most:=by
     unfold stp at st
     simp only[or_eq_false_iff,decide_eq_false_iff_not,length_map] at st
     omega
    generalize hF:(fun s:Option Nat×List Int=>evl b most rc r (3-h) (pre++[is]) s.2 (ds.map Option.isNone++[s.1.isNone]))=F
    have eE:E=((bst h ((stM b h (pre++[is]) is).map fun s=>(F s).1)).getD 0,1+((stM b h (pre++[is]) is).map fun s=>(F s).2).sum):=by
     rw[<- hE,<- hF];rw[evl];rw[if_neg (by rw[st];exact Bool.false_ne_true)]
    refine zap (w:=.non) (ce':=c.set k (enC b most rc (g+1))) zaI ?_
    refine zQn ?_
    refine zap (w:=.non) (ce':=c.set k (enC b most rc (g+1))) zaI ?_
    refine zQn ?_
    refine zap (zdf zak (zero_le _)) ?_
    refine zQn ?_
    have O0:=(Own.start (c.set k (enC b most rc (g+1)))).alloc (C.lst (([]:Web).map wrW))
    rw[cl] at O0 ⊢
    refine(?_:Run _ _ (c.set k (enC b most rc (g+1))++[C.lst (([]:Web).map wrW)]) _)
    have gO:∀{g1:Nat} {c':Ce} {l:List (Nat×C)},Own (c.set k (enC b most rc g1)) c' l->c'[k]?=some (enC b most rc g1):=fun {g1 c' l} O=>by
     rw[O.low (by rw[setl];exact hk)]
     exact getk _
    generalize c.set k (enC b most rc (g+1))++[C.lst (([]:Web).map wrW)]=c1 at O0 ⊢
    have eh:=zmM (c:=c1) (pre:=pre) fu hfu B P
    have hlm:∀s∈stM b h (pre++[is]) is,PosA b s.2 (3-h):=fun s hs=>zlk (o:=3-h) Ph (by rw[show 3-(3-h)=h by omega];exact hs)
    have hne:stM b h (pre++[is]) is≠[]:=by unfold stM;simp
    generalize stM b h (pre++[is]) is=zs at eh hlm hne eE
    have E2:E.2=1+(zs.map fun s=>(F s).2).sum:=by rw[eE]
    have E3:E.1=(bst h (zs.map fun s=>(F s).1)).getD 0:=by rw[eE]
    refine zmv (zs:=zs) (en:=stW) (c1:=c1) (zhM (zat (ws:=[wB b,cmW (pre++[is]),.int h]) (zae (zdc (zac rfl) (gO O0) rfl) (zae (zac rfl) (zae (zac rfl) zak))) rfl eh))
     (trI b most rc F c k g h (pre++[is]) ds)
     (trX b most rc c k g E)
     ⟨none,none,_,_,[],rfl,by simpa using O0,by simpa using hc5,by simp,rfl,fun v w1 w2 e=>by cases e⟩ ?_ ?_ ?_
    ·rintro d s rest sl c' e hs ⟨bw,dd,x7,x8,acc,rfl,O,n5,al,hb,hwl⟩
     have gk:=gO O
     have Pn:=hlm s hs
     have i0:∀cc,ixW cc (stW s) (.int 0)=some (dW s.1):=fun cc=>zdv (xs:=[dW s.1,wS s.2]) (j:=0) rfl rfl
     have i1:∀cc,ixW cc (stW s) (.int 1)=some (wS s.2):=fun cc=>zdv (xs:=[dW s.1,wS s.2]) (j:=1) rfl rfl
     have sp:=zpA (f:=fun s=>(F s).2) e
     have eF:F s=evl b most rc r (3-h) (pre++[is]) s.2 ((ds++[s.1]).map Option.isNone):=by rw[<- hF];simp
     have ih:=zr0 fu hfu B hr r (3-h) (pre++[is]) s.2 (ds++[s.1]) c' k _ h3' Pn gk (by simp only[length_append,length_cons,length_nil];omega) (by simp only[length_append,length_cons,length_nil];omega) (by simp only[length_append,length_cons,length_nil];omega) (by simp only[length_append,length_cons,length_nil];omega)
     rw[<- eF] at ih
     generalize hS:(d.map fun s=>(F s).2).sum=S at *
     unfold zd9
     refine zQn ?_
     have eo:=zgq (ce:=c') fu h
     have args:∀x8',zad (zlA zb0 (zaf 1) (zc7 (zad (zaD ixW (zaf 7) (dC (.int 1))) zan))) (zad (zhR (zaf 2) (zbT (zad (zaD ixW (zaf 7) (dC (.int 0))) zan))) (zad (zar 1 (d_n fu) (zad (zaf 3) zan)) zan)) [some (.cel k),some (cmW (pre++[is])),some (dsW ds),some (.int h),some (bwW bw),some (dW dd),some (.cel c.length),some (stW s),x8',none] c'=some (.ok [cmW (pre++[is]++[s.2]),dsW (ds++[s.1]),.int (3-h)] c'):=fun x8'=>zae (zrP (zac rfl) (zaq (zac rfl) zaI (i1 _)) (by simp only[length_append,length_cons,length_nil];omega)) (zae (zrQ (zac rfl) (zaq (zac rfl) zaI (i0 _)) (by omega)) (zae (zat (ws:=[.int h]) (zae (zac rfl) zak) rfl eo) zak))
     rcases ih with ⟨n6,w1,w2,l1,l2,er⟩|⟨n6,g',er⟩
     ·have O2:=O.base_set (k:=k) (by rw[setl];exact hk) (enC b most rc (g+1+S+(F s).2))
      rw[set_set] at O2
      refine zap (w:=.tup [.int (F s).1,wbW w1,wbW w2]) (ce':=c'.set k (enC b most rc (g+1+S+(F s).2))) (zcC (ws:=[cmW (pre++[is]++[s.2]),dsW (ds++[s.1]),.int (3-h)]) (zac rfl) gk rfl (args _) rfl er) ?_
      refine zQn ?_
      generalize c'.set k (enC b most rc (g+1+S+(F s).2))=c2 at O2 ⊢
      obtain⟨w,iw,lw⟩:=zrZ (v:=(F s).1) (w1:=w1) (w2:=w2) h3'
      have lw:=lw (F s).2 l1 l2
      have eo2:=zgq (ce:=c2) fu h
      refine ziu (w:=.non) (ce':=c2.set c.length (.lst (acc.map wrW++w.map wrW))) (zg5 (ws:=[wbW w]) (zac rfl) (zcH O2.g0) (zae (zaq (zac rfl) (zat (ws:=[.int h]) (zae (zac rfl) zak) rfl eo2) (iw _)) zak) (zkW O2.g0 (ys:=w.map wrW) rfl (by rw[length_map,length_map];omega))) ?_
      have O3:=O2.set0 (.lst (acc.map wrW++w.map wrW))
      rw[<- map_append] at O3 ⊢
      generalize c2.set c.length (.lst ((acc++w).map wrW))=c3 at O3 ⊢
      have eS:((d++[s]).map fun s=>(F s).2).sum=S+(F s).2:=by rw[map_append,sum_append,hS];simp
      have eB:bst h ((d++[s]).map fun s=>(F s).1)=bs h (bst h (d.map fun s=>(F s).1)) (F s).1:=by
       unfold bst
       rw[map_append,foldl_append]
       rfl
      have j0:∀cc,ixW cc (.tup [.int (F s).1,wbW w1,wbW w2]) (.int 0)=some (.int (F s).1):=fun cc=>zdv (xs:=[.int (F s).1,wbW w1,wbW w2]) (j:=0) rfl rfl
      have done:∀(bw':Option (Int×Web×Web)) (dd':Option Nat),bw'.map (fun z=>z.1)=bs h (bst h (d.map fun s=>(F s).1)) (F s).1->(∀v w1 w2,bw'=some (v,w1,w2)->w1.length<=S+(F s).2/\w2.length<=S+(F s).2)->NX (trI b most rc F c k g h (pre++[is]) ds (d++[s])) (trX b most rc c k g E) (.go .nx [some (.cel k),some (cmW (pre++[is])),some (dsW ds),some (.int h),some (bwW bw'),some (dW dd'),some (.cel c.length),some (stW s),some (.tup [.int (F s).1,wbW w1,wbW w2]),none] c3):=fun bw' dd' hb' hl'=>by
       refine⟨bw',dd',_,_,acc++w,rfl,?_,?_,?_,?_,?_⟩
       ·rw[eS,<- add_assoc];exact O3
       ·rw[eS];omega
       ·rw[eS,length_append];omega
       ·rw[eB];exact hb'
       ·rw[eS];exact hl'
      have better:bs h (bst h (d.map fun s=>(F s).1)) (F s).1=some (F s).1->Run (zax (zaU 4 (zaf 8)) (zaU 5 (zaD ixW (zaf 7) (dC (.int 0))))) [some (.cel k),some (cmW (pre++[is])),some (dsW ds),some (.int h),some (bwW bw),some (dW dd),some (.cel c.length),some (stW s),some (.tup [.int (F s).1,wbW w1,wbW w2]),none] c3 (NX (trI b most rc F c k g h (pre++[is]) ds (d++[s])) (trX b most rc c k g E)):=fun hbs=>by
       refine zap (ce':=c3) (zac rfl) ?_
       refine zQn ?_
       refine zeN (w:=dW s.1) (ce':=c3) (zaq (zac rfl) zaI (i0 _)) ?_
       exact done (some ((F s).1,w1,w2)) s.1 hbs.symm (fun v w1' w2' e=>by cases e;omega)
      cases bw with
      | none =>
       have hb':bst h (d.map fun s=>(F s).1)=none:=hb.symm
       refine zbO (p:=true||false) (ce':=c3) (zeO (zca (zdX (zac rfl) rfl)) (fun q=>by cases q)) (fun _=>better (by rw[hb'];rfl)) (fun q=>by cases q)
      | some z =>
       obtain⟨v,u1,u2⟩:=z
       have hb':bst h (d.map fun s=>(F s).1)=some v:=hb.symm
       have j1:∀cc,ixW cc (bwW (some (v,u1,u2))) (.int 0)=some (.int v):=fun cc=>zdv (xs:=[.int v,wbW u1,wbW u2]) (j:=0) rfl rfl
       have eb:=zlu (c:=c3) fu h (F s).1 v hh
       refine zbO (p:=false||btr h (F s).1 v) (ce':=c3) (zeO (zca (zdX (zac rfl) rfl)) (fun _=>zca (zat (ws:=[.int h,.int (F s).1,.int v]) (zae (zac rfl) (zae (zaq (zac rfl) zaI (j0 _)) (zae (zaq (zac rfl) zaI (j1 _)) zak))) rfl eb))) (fun q=>?_) (fun q=>?_)
       ·exact better (by rw[hb'];simp only[Bool.false_or] at q;simp only[bs];rw[if_pos q])
       ·simp only[Bool.false_or] at q
        refine zbk (done (some (v,u1,u2)) dd (by rw[hb'];simp only[bs];rw[if_neg (by rw[q];exact Bool.false_ne_true)];rfl) (fun v' a1 a2 e=>by cases e;have:=hwl v u1 u2 rfl;omega))
     ·have em:zdC "End" "tried" 4 (ziD (zaY fu r)) (zaf 0) (zad (zlA zb0 (zaf 1) (zc7 (zad (zaD ixW (zaf 7) (dC (.int 1))) zan))) (zad (zhR (zaf 2) (zbT (zad (zaD ixW (zaf 7) (dC (.int 0))) zan))) (zad (zar 1 (d_n fu) (zad (zaf 3) zan)) zan))) [some (.cel k),some (cmW (pre++[is])),some (dsW ds),some (.int h),some (bwW bw),some (dW dd),some (.cel c.length),some (stW s),x8,none] c'=_:=zcC (ws:=[cmW (pre++[is]++[s.2]),dsW (ds++[s.1]),.int (3-h)]) (zac rfl) gk rfl (args _) rfl er
      refine zk1 ⟨.ex tmx (c'.set k (enC b most rc g')),by simp only[zaU,lft,em],?_⟩
      obtain⟨t,rfl⟩:=O.cut
      refine⟨rfl,by omega,g',t,?_⟩
      rw[set_append_left _ _ (by rw[setl];exact hk),set_set]
    ·rintro x c' ⟨rfl,n5,g',t,rfl⟩
     exact .inr ⟨n5,g',t,rfl⟩
    ·rintro sl c' ⟨bw,dd,x7,x8,acc,rfl,O,n5,al,hb,hwl⟩
     have hbn:bst h (zs.map fun s=>(F s).1)≠none:=by
      intro hn
      have:∀l:List Int,l≠[]->bst h l≠none:=by
       intro l hl
       obtain⟨a,l',rfl⟩:=exists_cons_of_ne_nil hl
       have aux:∀(l:List Int) (u:Int),l.foldl (bs h) (some u)≠none:=by
        intro l
        induction l with
        | nil=>intro u;simp
        | cons x l ih=>intro u;rw[foldl_cons];simp only[bs];split<;>exact ih _
       exact aux l' a
      exact this _ (by simpa using hne) hn
     cases bw with
     | none=>exact absurd hb.symm hbn
     | some z =>
      obtain⟨v,u1,u2⟩:=z
      have hb':bst h (zs.map fun s=>(F s).1)=some v:=hb.symm
      obtain⟨lu1,lu2⟩:=hwl v u1 u2 rfl
      have Ev:E.1=v:=by rw[E3,hb'];rfl
      generalize hS:(zs.map fun s=>(F s).2).sum=S at *
      obtain⟨w,iw,lw⟩:=zrZ (v:=v) (w1:=u1) (w2:=u2) hh
      have lw:=lw S lu1 lu2
      have row:zbT (zad (zaf 2) (zad (zaf 5) zan)) [some (.cel k),some (cmW (pre++[is])),some (dsW ds),some (.int h),some (bwW (some (v,u1,u2))),some (dW dd),some (.cel c.length),x7,x8,none] c'=some (.ok (wrW (ds,dd)) c'):=zbf (ws:=[dsW ds,dW dd]) (zae (zac rfl) (zae (zac rfl) zak)) z2
      refine zap (w:=wbW ((ds,dd)::w)) (ce':=c') (zh1 (zbj (ws:=[wrW (ds,dd)]) (zae row zak) z1) (zaq (zac rfl) (zac rfl) (iw _)) (xs:=[wrW (ds,dd)]) (ys:=w.map wrW) rfl rfl (by rw[length_map];simp only[length_cons,length_nil];omega)) ?_
      refine zQn ?_
      have j0:∀cc,ixW cc (bwW (some (v,u1,u2))) (.int 0)=some (.int v):=fun cc=>zdv (xs:=[.int v,wbW u1,wbW u2]) (j:=0) rfl rfl
      have eq1:eqW false c' (.int h) (.int 1)=some (.bl (decide (h=1))):=by rcases hh with rfl|rfl<;>rfl
      have eG:g+E.2=g+1+S:=by omega
      refine zau (ce':=c') (ziw (p:=decide (h=1)) (x:=.tup [.int v,wbW ((ds,dd)::w),.cel c.length]) (y:=.tup [.int v,.cel c.length,wbW ((ds,dd)::w)]) (zca (zaq (zac rfl) zaI eq1)) (fun _=>zbf (ws:=[.int v,wbW ((ds,dd)::w),.cel c.length]) (zae (zaq (zac rfl) zaI (j0 _)) (zae (zac rfl) (zae (zac rfl) zak))) z3) (fun _=>zbf (ws:=[.int v,.cel c.length,wbW ((ds,dd)::w)]) (zae (zaq (zac rfl) zaI (j0 _)) (zae (zac rfl) (zae (zac rfl) zak))) z3)) ?_
      left
      refine⟨by omega,?_⟩
      rw[eG,Ev]
      rcases hh with rfl|rfl
      ·exact⟨(ds,dd)::w,acc,by simp only[length_cons];omega,by omega,_,_,_,_,rfl,O,zmY (le_refl _) O.g0⟩
      ·exact⟨acc,(ds,dd)::w,by omega,by simp only[length_cons];omega,_,_,_,_,rfl,O,zmZ (le_refl _) O.g0⟩
  ·rw[if_neg hc5] at ecm
   refine⟨.ex tmx (c.set k (enC b most rc (g+1))),by simp only[zax,dEx,lft,ecm],?_⟩
   exact .inr ⟨by omega,g+1,[],by rw[append_nil]⟩
end
section
variable {b:List (List Nat)} {is:List Int} {h:Int} {most:Nat} {rc:Option (Nat×Nat)}
theorem zr1(n:Nat)(v:Int)(w1 w2:Web):Bel n (.tup [.int v,wbW w1,wbW w2]):=by
 simp only[Bel,zda,wbW]
 exact⟨trivial,bels_map _ (zlh _) _,bels_map _ (zlh _) _,trivial⟩
theorem zlv(fu:Nat)(c:Ce):d_h fu [.cel c.length,wB b,nW most,rcW rc] (c++[.ins "End" []])=some (.ok .non (c++[enC b most rc 0])):=by
 have sl1:∀(x y:C),(c++[x]).set c.length y=c++[y]:=fun x y=>by simp
 unfold d_h
 refine zrE [some (.cel c.length),some (wB b),some (nW most),some (rcW rc)] rfl ?_
 refine zge (w:=wB b) (k:=c.length) (zac rfl) (zac rfl) (zcQ _ _) (lt_of_le_of_lt (le_refl 0) (by decide)) ?_
 rw[sl1]
 refine zge (w:=nW most) (k:=c.length) (zac rfl) (zac rfl) (zcQ _ _) (lt_of_le_of_lt (zd0 (le_refl 0)) (by decide)) ?_
 rw[sl1]
 refine zge (w:=rcW rc) (k:=c.length) (zac rfl) (zac rfl) (zcQ _ _) (lt_of_le_of_lt (zd0 (zd0 (le_refl 0))) (by decide)) ?_
 rw[sl1]
 refine zmB (w:=.int 0) (k:=c.length) zaI (zac rfl) (zcQ _ _) (lt_of_le_of_lt (zd0 (zd0 (zd0 (le_refl 0)))) (by decide)) ?_
 rw[sl1]
 exact⟨_,_,rfl,rfl⟩
theorem zlw(fu:Nat)(hfu:200<=fu)(B:Brd b)(hr:∀p q,rc=some (p,q)->p<b.length/\q<b.length)(hh:h=1\/h=2)(P:PosA b is h)(m6:most<=7)(c:Ce) :
  ((evl b most rc 8 h [] is []).2<=500/\∃w1 w2:Web,ziD (d_u fu) [.cel c.length,cmW [is],dsW [],.int h] (c++[enC b most rc 0])=some (.ok (.tup [.int (evl b most rc 8 h [] is []).1,wbW w1,wbW w2]) (c++[enC b most rc (evl b most rc 8 h [] is []).2]))) \/
  (500<(evl b most rc 8 h [] is []).2/\∃g',ziD (d_u fu) [.cel c.length,cmW [is],dsW [],.int h] (c++[enC b most rc 0])=some (.ex tmx (c++[enC b most rc g']))):=by
 have sl1:∀(x y:C),(c++[x]).set c.length y=c++[y]:=fun x y=>by simp
 have:=zr0 (most:=most) (rc:=rc) fu hfu B hr 8 h [] is [] (c++[enC b most rc 0]) c.length 0 hh P (zcQ _ _) (by simp) (by simp;omega) rfl (by simp)
 simp only[trR,sl1,map_nil,zero_add,nil_append] at this
 rcases this with ⟨n5,w1,w2,_,_,e⟩|⟨n5,g',e⟩
 ·exact .inl ⟨n5,w1,w2,e⟩
 ·exact .inr ⟨n5,g',e⟩
theorem ze7(fu:Nat)(hfu:200<=fu)(B:Brd b)(hh:h=1\/h=2)(P:PosA b is h)(m6:most<=7)(c:Ce) :
  ((evl b most none 8 h [] is []).2<=500/\∃w1 w2:Web,d_ea fu [wB b,wS is,.int h,nW most] c=some (.ok (.tup [.int (evl b most none 8 h [] is []).1,wbW w1,wbW w2]) c)) \/
  (500<(evl b most none 8 h [] is []).2/\d_ea fu [wB b,wS is,.int h,nW most] c=some (.ex tmx c)):=by
 have z1:1<=PySem.sizeLine:=by decide
 have i1:=zlv (b:=b) (most:=most) (rc:=none) fu c
 have mk:zhW "End" 4 (d_h fu) (zad (zaf 0) (zad (zaf 3) (zad (zbT zan) zan))) [some (wB b),some (wS is),some (.int h),some (nW most)] c=some (.ok (.cel c.length) (c++[enC b most none 0])):=zk3 (ws:=[wB b,nW most,rcW none]) (zae (zac rfl) (zae (zac rfl) (zae (zbf zak (zero_le _)) zak))) rfl i1
 have ar:zad (zc7 (zad (zaf 1) zan)) (zad (zbT zan) (zad (zaf 2) zan)) [some (wB b),some (wS is),some (.int h),some (nW most)] (c++[enC b most none 0])=some (.ok [cmW [is],dsW [],.int h] (c++[enC b most none 0])):=zae (zbj (ws:=[wS is]) (zae (zac rfl) zak) z1) (zae (zbf zak (zero_le _)) (zae (zac rfl) zak))
 unfold d_ea
 rcases zlw (rc:=none) fu hfu B (fun p q e=>by cases e) hh P m6 c with ⟨n5,w1,w2,e⟩|⟨n5,g',e⟩
 ·refine .inl ⟨n5,w1,w2,zbK [some (wB b),some (wS is),some (.int h),some (nW most)] rfl ?_⟩
  refine zau (zcC (k:=c.length) mk (zcQ _ _) rfl ar rfl e) (zbN (zes (zr1 _ _ _ _)))
 ·refine .inr ⟨n5,zev [some (wB b),some (wS is),some (.int h),some (nW most)] rfl ?_⟩
  exact ziG (zcC (k:=c.length) mk (zcQ _ _) rfl ar rfl e) ⟨rfl,_,rfl⟩
theorem zm0(fu:Nat)(hfu:200<=fu)(B:Brd b){p q:Nat}(hp:p<b.length)(hq:q<b.length)(hh:h=1\/h=2)(P:PosA b is h)(m6:most<=7)(c:Ce) :
  ((evl b most (some (p,q)) 8 h [] is []).2<=500/\∃w1 w2:Web,d_ia fu [wB b,wS is,.int h,nW p,nW q,nW most] c=some (.ok (.tup [.int (evl b most (some (p,q)) 8 h [] is []).1,wbW w1,wbW w2]) c)) \/
  (500<(evl b most (some (p,q)) 8 h [] is []).2/\d_ia fu [wB b,wS is,.int h,nW p,nW q,nW most] c=some (.ex tmx c)):=by
 have z1:1<=PySem.sizeLine:=by decide
 have z2:2<=PySem.sizeLine:=by decide
 have i1:=zlv (b:=b) (most:=most) (rc:=some (p,q)) fu c
 have mk:zhW "End" 4 (d_h fu) (zad (zaf 0) (zad (zaf 5) (zad (zbT (zad (zaf 3) (zad (zaf 4) zan))) zan))) [some (wB b),some (wS is),some (.int h),some (nW p),some (nW q),some (nW most)] c=some (.ok (.cel c.length) (c++[enC b most (some (p,q)) 0])):=zk3 (ws:=[wB b,nW most,rcW (some (p,q))]) (zae (zac rfl) (zae (zac rfl) (zae (zbf (ws:=[nW p,nW q]) (zae (zac rfl) (zae (zac rfl) zak)) z2) zak))) rfl i1
 have ar:zad (zc7 (zad (zaf 1) zan)) (zad (zbT zan) (zad (zaf 2) zan)) [some (wB b),some (wS is),some (.int h),some (nW p),some (nW q),some (nW most)] (c++[enC b most (some (p,q)) 0])=some (.ok [cmW [is],dsW [],.int h] (c++[enC b most (some (p,q)) 0])):=zae (zbj (ws:=[wS is]) (zae (zac rfl) zak) z1) (zae (zbf zak (zero_le _)) (zae (zac rfl) zak))
 unfold d_ia
 rcases zlw (rc:=some (p,q)) fu hfu B (fun p' q' e=>by cases e;exact⟨hp,hq⟩) hh P m6 c with ⟨n5,w1,w2,e⟩|⟨n5,g',e⟩
 ·refine .inl ⟨n5,w1,w2,zbK [some (wB b),some (wS is),some (.int h),some (nW p),some (nW q),some (nW most)] rfl ?_⟩
  refine zau (zcC (k:=c.length) mk (zcQ _ _) rfl ar rfl e) (zbN (zes (zr1 _ _ _ _)))
 ·refine .inr ⟨n5,zev [some (wB b),some (wS is),some (.int h),some (nW p),some (nW q),some (nW most)] rfl ?_⟩
  exact ziG (zcC (k:=c.length) mk (zcQ _ _) rfl ar rfl e) ⟨rfl,_,rfl⟩
def zdn(z:Int×Nat):W:=if z.2<=500 then .int z.1 else .str "much"
def raW:Option (Nat×Nat)->W
 | none=>.non
 | some (p,q)=>.lst [nW p,nW q]
theorem ziX(n:Nat)(z:Int×Nat):Bel n (zdn z):=by unfold zdn;split<;>simp only[Bel]
theorem zex(fu:Nat)(hfu:200<=fu)(B:Brd b)(hr:∀p q,rc=some (p,q)->p<b.length/\q<b.length)(hh:h=1\/h=2)(P:PosA b is h)(m6:most<=7)(c:Ce) :
  d_l fu [wB b,raW rc,wS is,.int h,nW most] c=some (.ok (zdn (evl b most rc 8 h [] is [])) c):=by
 have z3:3<=PySem.sizeLine:=by decide
 unfold d_l
 refine zbK [some (wB b),some (raW rc),some (wS is),some (.int h),some (nW most),none] rfl ?_
 refine zap (w:=.lst [.int 0,.non,.non]) (ce':=c) (zbj (ws:=[.int 0,.non,.non]) (zae zaI (zae zaI (zae zaI zak))) z3) ?_
 refine zQn ?_
 have fin:∀x5:W,(∀cc,ixW cc x5 (.int 0)=some (zdn (evl b most rc 8 h [] is [])))->Run (zbq (zaD ixW (zaf 5) (dC (.int 0)))) [some (wB b),some (raW rc),some (wS is),some (.int h),some (nW most),some x5] c (Rt fun v ce'=>finC c ce' v=some (.ok (zdn (evl b most rc 8 h [] is [])) c)):=fun x5 hx=>zau (zaq (zac rfl) zaI (hx _)) (zbN (zaB (ziX _ _)))
 have much:500<(evl b most rc 8 h [] is []).2->∀cc,ixW cc (.lst [.str "much",.non,.non]) (.int 0)=some (zdn (evl b most rc 8 h [] is [])):=fun hn cc=>by
  unfold zdn
  rw[if_neg (by omega)]
  exact zdv (xs:=[.str "much",.non,.non]) (j:=0) rfl rfl
 have good:(evl b most rc 8 h [] is []).2<=500->∀w1 w2 cc,ixW cc (.tup [.int (evl b most rc 8 h [] is []).1,wbW w1,wbW w2]) (.int 0)=some (zdn (evl b most rc 8 h [] is [])):=fun hn w1 w2 cc=>by
  unfold zdn
  rw[if_pos hn]
  exact zdv (xs:=[.int (evl b most rc 8 h [] is []).1,wbW w1,wbW w2]) (j:=0) rfl rfl
 have hd:znH (zaU 5 (zc7 (zad (dC (.str "much")) (zad (dC .non) (zad (dC .non) zan))))) [some (wB b),some (raW rc),some (wS is),some (.int h),some (nW most),some (.lst [.int 0,.non,.non])] c=some (.go .nx [some (wB b),some (raW rc),some (wS is),some (.int h),some (nW most),some (.lst [.str "much",.non,.non])] c):=by
  have e:=zbj (ra:=zad (dC (.str "much")) (zad (dC .non) (zad (dC .non) zan))) (sl:=[some (wB b),some (raW rc),some (wS is),some (.int h),some (nW most),some (.lst [.int 0,.non,.non])]) (ce:=c) (c1:=c) (ws:=[.str "much",.non,.non]) (zae zaI (zae zaI (zae zaI zak))) z3
  simp only[znH,zaU,lft,e]
  rfl
 cases rc with
 | none =>
  have cnd:zeu (dB (dUn zqx (zaf 1))) [some (wB b),some (raW none),some (wS is),some (.int h),some (nW most),some (.lst [.int 0,.non,.non])] c=some (.ok true c):=zd6 (zca (zdX (zac rfl) rfl))
  have ar:zeu (zad (zaf 0) (zad (zaf 2) (zad (zaf 3) (zad (zaf 4) zan)))) [some (wB b),some (raW none),some (wS is),some (.int h),some (nW most),some (.lst [.int 0,.non,.non])] c=some (.ok [wB b,wS is,.int h,nW most] c):=zd6 (zae (zac rfl) (zae (zac rfl) (zae (zac rfl) (zae (zac rfl) zak))))
  rcases ze7 fu hfu B hh P m6 c with ⟨n5,w1,w2,e⟩|⟨n5,e⟩
  ·have ec:=zat (f:=d_ea fu) (n:=4) ar rfl e
   refine zhe (sl':=[some (wB b),some (raW none),some (wS is),some (.int h),some (nW most),some (.tup [.int (evl b most none 8 h [] is []).1,wbW w1,wbW w2])]) (c1:=c) ?_ (fin _ (good n5 w1 w2))
   simp only[dIf,cnd,zaU,lft,ec]
   <;> rfl
  ·have ec:=zhc (f:=d_ea fu) (n:=4) ar rfl e
   refine zhf (x:=tmx) (c1:=c) ?_ (by decide +kernel) hd (fin _ (much n5))
   simp only[dIf,cnd,zaU,lft,ec]
   <;> rfl
 | some pq =>
  obtain⟨p,q⟩:=pq
  obtain⟨hp,hq⟩:=hr p q rfl
  have cnd:zeu (dB (dUn zqx (zaf 1))) [some (wB b),some (raW (some (p,q))),some (wS is),some (.int h),some (nW most),some (.lst [.int 0,.non,.non])] c=some (.ok false c):=zd6 (zca (zdX (zac rfl) rfl))
  have i0:ixW c (raW (some (p,q))) (.int 0)=some (nW p):=zdv (xs:=[nW p,nW q]) (j:=0) rfl rfl
  have i1:ixW c (raW (some (p,q))) (.int 1)=some (nW q):=zdv (xs:=[nW p,nW q]) (j:=1) rfl rfl
  have ar:zeu (zad (zaf 0) (zad (zaf 2) (zad (zaf 3) (zad (zaD ixW (zaf 1) (dC (.int 0))) (zad (zaD ixW (zaf 1) (dC (.int 1))) (zad (zaf 4) zan)))))) [some (wB b),some (raW (some (p,q))),some (wS is),some (.int h),some (nW most),some (.lst [.int 0,.non,.non])] c=some (.ok [wB b,wS is,.int h,nW p,nW q,nW most] c):=zd6 (zae (zac rfl) (zae (zac rfl) (zae (zac rfl) (zae (zaq (zac rfl) zaI i0) (zae (zaq (zac rfl) zaI i1) (zae (zac rfl) zak))))))
  rcases zm0 fu hfu B hp hq hh P m6 c with ⟨n5,w1,w2,e⟩|⟨n5,e⟩
  ·have ec:=zat (f:=d_ia fu) (n:=6) ar rfl e
   refine zhe (sl':=[some (wB b),some (raW (some (p,q))),some (wS is),some (.int h),some (nW most),some (.tup [.int (evl b most (some (p,q)) 8 h [] is []).1,wbW w1,wbW w2])]) (c1:=c) ?_ (fin _ (good n5 w1 w2))
   simp only[dIf,cnd,zaU,lft,ec]
   <;> rfl
  ·have ec:=zhc (f:=d_ia fu) (n:=6) ar rfl e
   refine zhf (x:=tmx) (c1:=c) ?_ (by decide +kernel) hd (fin _ (much n5))
   simp only[dIf,cnd,zaU,lft,ec]
   <;> rfl
theorem znW(fu:Nat)(z:Int×Nat)(t:Bool)(c:Ce):d_d fu [zdn z,.bl t] c=some (.ok (zdn (if t=true then -z.1 else z.1,z.2)) c):=by
 unfold d_d
 refine zbK [some (zdn z),some (.bl t)] rfl ?_
 have e1:eqW false c (zdn z) (.str "much")=some (.bl (decide (500<z.2))):=by
  unfold zdn
  by_cases h:z.2<=500
  ·rw[if_pos h,decide_eq_false (by omega)];rfl
  ·rw[if_neg h,decide_eq_true (by omega)];rfl
 refine zbe (p:=decide (500<z.2)||!t) (ce':=c) (zeO (zca (zaq (zac rfl) zaI e1)) (fun _=>zf5 (zca (zac rfl)))) (fun q=>?_) (fun q=>zaV ?_)
 ·refine zb2 (zau (w:=zdn z) (ce':=c) (zac rfl) ?_)
  have:zdn (if t=true then -z.1 else z.1,z.2)=zdn z:=by
   unfold zdn
   by_cases h:z.2<=500
   ·rw[if_pos h,if_pos h]
    have:t=false:=by
     rw[decide_eq_false (by omega)] at q
     cases t<;>simp_all
    rw[this];rfl
   ·rw[if_neg h,if_neg h]
  rw[this]
  exact zbN (zaB (ziX _ _))
 ·have ht:t=true:=by cases t<;>simp_all
  have hn:z.2<=500:=by
   simp only[or_eq_false_iff,decide_eq_false_iff_not] at q
   omega
  subst ht
  have e2:zdn z=.int z.1:=by unfold zdn;rw[if_pos hn]
  have e3:zdn (if true=true then -z.1 else z.1,z.2)=.int (-z.1):=by unfold zdn;rw[if_pos hn];rfl
  rw[e2,e3]
  refine zau (w:=.int (-z.1)) (ce':=c) (zdX (zac rfl) rfl) ?_
  exact zbN (zaB (by simp only[Bel]))
end
section
variable {n:Nat} {f g:Nat->Nat} {b b':List (List Nat)} {t:Bool} {is is':List Int} {o h:Int} {p q s x y:Nat}
def sg(t:Bool)(v:Int):Int:=if t=true then -v else v
theorem zhu{P:Nat->Bool}:((List.range n).filter P).Nodup:=List.Pairwise.filter _ nodup_range
theorem Iso.permF(I:Iso n f g b b'){P P':Nat->Bool}(hP:∀q,q<n->P' (f q)=P q):((List.range n).filter P').Perm (((List.range n).filter P).map f):=by
 refine zcz zhu ?_ fun y=>?_
 ·exact pairwise_map.mpr (List.Pairwise.imp_of_mem (fun ha hc hne e=>hne ((I.eqf (mem_range.mp (mem_filter.mp ha).1) (mem_range.mp (mem_filter.mp hc).1)).mp e)) zhu)
 ·rw[mem_map,mem_filter,mem_range]
  constructor
  ·rintro⟨hy,h1⟩
   refine⟨g y,mem_filter.mpr ⟨mem_range.mpr (I.g1 y hy),?_⟩,I.fg y hy⟩
   rw[<- hP _ (I.g1 y hy),I.fg y hy]
   exact h1
  ·rintro⟨x,hx,rfl⟩
   obtain⟨h1,h2⟩:=mem_filter.mp hx
   have h1:=mem_range.mp h1
   exact⟨I.f1 x h1,by rw[hP x h1];exact h2⟩
theorem ziY(hb:Bd b){r:List Nat}:y∈zaO b r↔∃x∈r,y∈b.getD x []:=by
 unfold zaO
 rw[mem_filter,any_eq_true,mem_range]
 constructor
 ·rintro⟨_,x,hx,hy⟩;exact⟨x,hx,of_decide_eq_true hy⟩
 ·rintro⟨x,hx,hy⟩;exact⟨hb.get hy,x,hx,decide_eq_true hy⟩
theorem Iso.besM(I:Iso n f g b b')(hb:Bd b)(hb':Bd b')(R:Rn t n f is is')(hs:s<n)(hy:y<n):f y∈zaO b' (cpt b' (vS is') (f s))↔y∈zaO b (cpt b (vS is) s):=by
 rw[ziY hb',ziY hb]
 constructor
 ·rintro⟨x,hx,h1⟩
  have hxn:x<n:=by have:=cpt_lt hx;rwa [I.lb'] at this
  rw[<- I.fg x hxn] at hx h1
  exact⟨g x,(I.cptM hb hb' R hs (I.g1 x hxn)).mp hx,(I.adj _ _ (I.g1 x hxn) hy).mp h1⟩
 ·rintro⟨x,hx,h1⟩
  have hxn:x<n:=by have:=cpt_lt hx;rwa [I.lb] at this
  exact⟨f x,(I.cptM hb hb' R hs hxn).mpr hx,(I.adj _ _ hxn hy).mpr h1⟩
theorem Iso.anyM(I:Iso n f g b b')(hb:Bd b)(hb':Bd b')(R:Rn t n f is is')(hs:s<n)(ho:o=1\/o=2):((zaO b' (cpt b' (vS is') (f s))).any fun y=>decide (is'.getD y 0=turn t o))=(zaO b (cpt b (vS is) s)).any fun y=>decide (is.getD y 0=o):=by
 rw[Bool.eq_iff_iff,any_eq_true,any_eq_true]
 constructor
 ·rintro⟨y,hy,e⟩
  have hyn:y<n:=by have:=zcu hy;rwa [I.lb'] at this
  rw[<- I.fg y hyn] at hy e
  exact⟨g y,(I.besM hb hb' R hs (I.g1 y hyn)).mp hy,decide_eq_true ((R.eqo (I.g1 y hyn) ho).mp (of_decide_eq_true e))⟩
 ·rintro⟨y,hy,e⟩
  have hyn:y<n:=by have:=zcu hy;rwa [I.lb] at this
  exact⟨f y,(I.besM hb hb' R hs hyn).mpr hy,decide_eq_true ((R.eqo hyn ho).mpr (of_decide_eq_true e))⟩
theorem Iso.totM(I:Iso n f g b b')(hb:Bd b)(hb':Bd b')(R:Rn t n f is is')(ho:o=1\/o=2):tot b' is' (turn t o)=tot b is o:=by
 unfold tot
 rw[I.lb,I.lb',(I.permF (P:=hit b is o) (P':=hit b' is' (turn t o)) fun q hq=>?_).length_eq,length_map]
 unfold hit zsd znT onl
 have h3:3-o=1\/3-o=2:=by omega
 rw[I.anyM hb hb' R hq ho,<- zhs ho,I.anyM hb hb' R hq h3]
 have e1:decide (is'.getD (f q) 0=turn t o)=decide (is.getD q 0=o):=by rw[Bool.eq_iff_iff,decide_eq_true_eq,decide_eq_true_eq];exact R.eqo hq ho
 have e2:decide (is'.getD (f q) 0=0)=decide (is.getD q 0=0):=by rw[Bool.eq_iff_iff,decide_eq_true_eq,decide_eq_true_eq];exact R.eq0 hq
 rw[e1,e2]
def rcT(t:Bool)(f:Nat->Nat):Option (Nat×Nat)->Option (Nat×Nat)
 | none=>none
 | some (p,q)=>if t=true then some (f q,f p) else some (f p,f q)
def zpB(n:Nat)(rc:Option (Nat×Nat))(is:List Int):Prop:=∀p q,rc=some (p,q)->p<n/\q<n/\(is.getD p 0=0\/is.getD p 0=1)/\(is.getD q 0=0\/is.getD q 0=2)/\¬(is.getD p 0=0/\is.getD q 0=0)
theorem Iso.worM(I:Iso n f g b b')(hb:Bd b)(hb':Bd b')(R:Rn t n f is is'){rc:Option (Nat×Nat)}(K:zpB n rc is):wor b' (rcT t f rc) is'=sg t (wor b rc is):=by
 cases rc with
 | none =>
  have e1:=I.totM hb hb' R (o:=1) (.inl rfl)
  have e2:=I.totM hb hb' R (o:=2) (.inr rfl)
  unfold wor rcT sg
  cases t with
  | false =>
   rw[show turn false 1=1 from rfl] at e1
   rw[show turn false 2=2 from rfl] at e2
   simp only[e1,e2,false_eq_true,if_false]
  | true =>
   rw[show turn true 1=2 from rfl] at e1
   rw[show turn true 2=1 from rfl] at e2
   simp only[e1,e2,if_true]
   omega
 | some pq =>
  obtain⟨p,q⟩:=pq
  obtain⟨hp,hq,vp,vq,nb⟩:=K p q rfl
  have e1:=R.eq0 hp
  have e2:=R.eq0 hq
  unfold wor rcT sg
  cases t with
  | false=>simp only[false_eq_true,if_false,e1,e2]
  | true =>
   simp only[if_true,e1,e2]
   by_cases z1:is.getD p 0=0
   ·have z2:¬is.getD q 0=0:=fun z=>nb ⟨z1,z⟩
    rw[if_neg z2,if_pos z1,if_pos z1];rfl
   ·by_cases z2:is.getD q 0=0
    ·rw[if_pos z2,if_neg z1,if_pos z2]
    ·rw[if_neg z2,if_neg z1,if_neg z1,if_neg z2];rfl
theorem Rn.rcS(R:Rn t n f is is'){rc:Option (Nat×Nat)}(K:zpB n rc is):K47.rcS (rcT t f rc) is'=K47.rcS rc is:=by
 cases rc with
 | none=>rfl
 | some pq =>
  obtain⟨p,q⟩:=pq
  obtain⟨hp,hq,_⟩:=K p q rfl
  have e1:decide (is'.getD (f p) 0=0)=decide (is.getD p 0=0):=by rw[Bool.eq_iff_iff,decide_eq_true_eq,decide_eq_true_eq];exact R.eq0 hp
  have e2:decide (is'.getD (f q) 0=0)=decide (is.getD q 0=0):=by rw[Bool.eq_iff_iff,decide_eq_true_eq,decide_eq_true_eq];exact R.eq0 hq
  unfold rcT
  cases t with
  | false=>simp only[false_eq_true,if_false,K47.rcS,e1,e2]
  | true=>simp only[if_true,K47.rcS,e1,e2];exact Bool.or_comm _ _
theorem zh8(hh:h=1\/h=2):∀(l:List Int) (u:Int),∃v,l.foldl (bs h) (some u)=some v/\(v=u\/v∈l)/\btr h u v=false/\∀x∈l,btr h x v=false
 | [],u=>⟨u,rfl,.inl rfl,by unfold btr;split<;>simp,by simp⟩
 | a::l,u=>by
  rw[foldl_cons]
  simp only[bs]
  split
  ·rename_i hb
   obtain⟨v,e,m,h1,h2⟩:=zh8 hh l a
   refine⟨v,e,.inr ?_,?_,fun x hx=>?_⟩
   ·rcases m with rfl|m
    ·exact mem_cons_self
    ·exact mem_cons_of_mem _ m
   ·unfold btr at *
    rcases hh with rfl|rfl<;>simp at*<;> omega
   ·rcases mem_cons.mp hx with rfl|hx
    ·exact h1
    ·exact h2 x hx
  ·rename_i hb
   obtain⟨v,e,m,h1,h2⟩:=zh8 hh l u
   refine⟨v,e,m.imp_right (mem_cons_of_mem _),h1,fun x hx=>?_⟩
   rcases mem_cons.mp hx with rfl|hx
   ·unfold btr at *
    rcases hh with rfl|rfl<;>simp at*<;> omega
   ·exact h2 x hx
theorem zgw(hh:h=1\/h=2){l:List Int}(hl:l≠[]):∃v,bst h l=some v/\v∈l/\∀x∈l,btr h x v=false:=by
 obtain⟨a,l',rfl⟩:=exists_cons_of_ne_nil hl
 obtain⟨v,e,m,h1,h2⟩:=zh8 hh l' a
 refine⟨v,e,?_,fun x hx=>?_⟩
 ·rcases m with rfl|m
  ·exact mem_cons_self
  ·exact mem_cons_of_mem _ m
 ·rcases mem_cons.mp hx with rfl|hx
  ·exact h1
  ·exact h2 x hx
theorem zr2(hh:h=1\/h=2){l l':List Int}(hl:l≠[])(hm:∀x,x∈l'↔x∈l.map (sg t)):(bst (turn t h) l').getD 0=sg t ((bst h l).getD 0):=by
 obtain⟨v,e,hv,h1⟩:=zgw hh hl
 have hl':l'≠[]:=fun z=>by
  have:=(hm (sg t v)).mpr (mem_map.mpr ⟨v,hv,rfl⟩)
  rw[z] at this
  cases this
 obtain⟨v',e',hv',h1'⟩:=zgw (zlr (t:=t) hh) hl'
 rw[e,e']
 show v'=sg t v
 obtain⟨u,hu,eu⟩:=mem_map.mp ((hm v').mp hv')
 have a1:=h1 u hu
 have a2:=h1' (sg t v) ((hm _).mpr (mem_map.mpr ⟨v,hv,rfl⟩))
 rw[<- eu] at a2 ⊢
 unfold btr turn sg at *
 cases t<;>rcases hh with rfl|rfl<;>simp at*<;> omega
def stR(t:Bool)(n:Nat)(f g:Nat->Nat)(st:Option Nat×List Int):Option Nat×List Int:=(st.1.map f,ren t n g st.2)
theorem Iso.stMP(I:Iso n f g b b')(hb':Bd b')(sym':Sym b'){cm:List (List Int)}(hc:∀x∈cm,Va n x)(P:PosA b is o)(ho:o=1\/o=2):(stM b' (turn t o) (cm.map (ren t n g)) (ren t n g is)).Perm ((stM b o cm is).map (stR t n f g)):=by
 have V:=Va.of P I.lb ho
 have R:=I.renM (t:=t) V
 unfold stM
 rw[map_append,map_map]
 refine List.Perm.append ?_ (List.Perm.refl _)
 have hp:=I.permF (P:=fun p=>zgz b is o p&&!decide (lS b is o p∈cm)) (P':=fun p=>zgz b' (ren t n g is) (turn t o) p&&!decide (lS b' (ren t n g is) (turn t o) p∈cm.map (ren t n g))) fun q hq=>by
  have h1:=I.canM hb' sym' R P ho hq
  by_cases hcan:zgz b is o q=true
  ·obtain⟨e,V2,P2,hm⟩:=I.newM (t:=t) hb' sym' hc P ho hq hcan
   simp only[h1.mpr hcan,hcan,hm]
  ·rw[not_eq_true] at hcan
   have:zgz b' (ren t n g is) (turn t o) (f q)=false:=by
    rw[<- not_eq_true];exact fun z=>by rw[h1.mp z] at hcan;cases hcan
   simp only[this,hcan,Bool.false_and]
 have hp2:(zlg b' (cm.map (ren t n g)) (ren t n g is) (turn t o) (List.range b'.length)).Perm ((zlg b cm is o (List.range b.length)).map f):=by
  unfold zlg
  rw[I.lb,I.lb']
  exact hp
 refine(hp2.map _).trans ?_
 rw[map_map]
 refine List.Perm.of_eq (map_congr_left fun p hp=>?_)
 obtain⟨h1,h2⟩:=zgt hp
 have hpn:p<n:=by have:=mem_range.mp h1;rwa [I.lb] at this
 obtain⟨e,_⟩:=I.newM (t:=t) hb' sym' hc P ho hpn h2
 simp only[Function.comp,stR,e,map_some]
theorem zpC(P:PosA b is o)(ho:o=1\/o=2){rc:Option (Nat×Nat)}(lb:b.length=n)(K:zpB n rc is)(hs:rcS rc is=false){cm:List (List Int)}{st:Option Nat×List Int}(h:st∈stM b o cm is):zpB n rc st.2:=by
 unfold stM at h
 rcases mem_append.mp h with h|h
 ·obtain⟨x,hx,rfl⟩:=mem_map.mp h
  obtain⟨h1,h2⟩:=zgt hx
  have hxb:=mem_range.mp h1
  have A:=P.ly hxb (canL_iff.mp h2).1
  intro p q e
  subst e
  obtain⟨hp,hq,vp,vq,nb⟩:=K p q rfl
  simp only[rcS,or_eq_false_iff,decide_eq_false_iff_not] at hs
  have x0:=A.p0
  have gp:=A.get (q:=p) (by rw[lb];exact hp)
  have gq:=A.get (q:=q) (by rw[lb];exact hq)
  have np:p≠x:=fun z=>hs.1 (by rw[z];exact x0)
  have nq:q≠x:=fun z=>hs.2 (by rw[z];exact x0)
  rw[if_neg np] at gp
  rw[if_neg nq] at gq
  refine⟨hp,hq,?_,?_,?_⟩
  ·show(lS b is o x).getD p 0=0\/_
   rw[gp];split
   ·exact .inl rfl
   ·exact vp
  ·show(lS b is o x).getD q 0=0\/_
   rw[gq];split
   ·exact .inl rfl
   ·exact vq
  ·show ¬((lS b is o x).getD p 0=0/\(lS b is o x).getD q 0=0)
   rw[gp,gq]
   rintro⟨z1,z2⟩
   split at z1
   ·rename_i t1
    split at z2
    ·rename_i t2
     have a1:=(A.tkh t1).2.1
     have a2:=(A.tkh t2).2.1
     omega
    ·exact hs.2 z2
   ·exact hs.1 z1
 ·rw[mem_singleton] at h
  subst h
  exact K
theorem zm1{l m:List Nat}(h:l.Perm m):l.sum=m.sum:=by
 induction h with
 | nil=>rfl
 | cons x _ ih=>simp only[sum_cons,ih]
 | swap x y l=>simp only[sum_cons];omega
 | trans _ _ i1 i2=>exact i1.trans i2
theorem zlx(I:Iso n f g b b')(hb':Bd b')(sym':Sym b'){most:Nat}{rc:Option (Nat×Nat)}:∀(r:Nat) (o:Int) (pre:List (List Int)) (is:List Int) (ks:List Bool),(∀x∈pre++[is],Va n x)->o=1\/o=2->PosA b is o->zpB n rc is ->
  evl b' most (rcT t f rc) r (turn t o) (pre.map (ren t n g)) (ren t n g is) ks=(sg t (evl b most rc r o pre is ks).1,(evl b most rc r o pre is ks).2)
 | 0,o,pre,is,ks,_,_,_,_=>by
  simp only[evl,sg]
  split<;>rfl
 | r+1,o,pre,is,ks,hc,ho,P,K=>by
  have V:=Va.of P I.lb ho
  have R:=I.renM (t:=t) V
  have h3:3-o=1\/3-o=2:=by omega
  have ecm:pre.map (ren t n g)++[ren t n g is]=(pre++[is]).map (ren t n g):=by simp
  have es:stp most (rcT t f rc) (ren t n g is) ks=stp most rc is ks:=by unfold stp;rw[R.rcS K]
  unfold evl
  rw[es]
  by_cases hs:stp most rc is ks=true
  ·rw[if_pos hs,if_pos hs,I.worM P.bd hb' R K]
  ·rw[if_neg hs,if_neg hs,ecm]
   have hs':rcS rc is=false:=by
    unfold stp at hs
    simp only[or_eq_true,not_or,not_eq_true] at hs
    exact hs.2
   have pm:=I.stMP (t:=t) hb' sym' hc P ho
   have hz:∀st∈stM b o (pre++[is]) is,evl b' most (rcT t f rc) r (3-turn t o) ((pre++[is]).map (ren t n g)) (stR t n f g st).2 (ks++[(stR t n f g st).1.isNone])=(sg t (evl b most rc r (3-o) (pre++[is]) st.2 (ks++[st.1.isNone])).1,(evl b most rc r (3-o) (pre++[is]) st.2 (ks++[st.1.isNone])).2):=fun st hst=>by
    have Pn:PosA b st.2 (3-o):=zlk (o:=3-o) P.flip (by rw[show 3-(3-o)=o by omega];exact hst)
    have Kn:=zpC P ho I.lb K hs' hst
    have:=zlx I hb' sym' (most:=most) (rc:=rc) r (3-o) (pre++[is]) st.2 (ks++[st.1.isNone]) (fun x hx=>by
     rcases mem_append.mp hx with hx|hx
     ·exact hc x hx
     ·rw[mem_singleton] at hx;subst hx;exact Va.of Pn I.lb h3) h3 Pn Kn
    rw[zhs ho] at this
    simp only[stR,isNone_map]
    exact this
   have hne:stM b o (pre++[is]) is≠[]:=by unfold stM;simp
   generalize stM b o (pre++[is]) is=l at pm hz hne ⊢
   generalize stM b' (turn t o) ((pre++[is]).map (ren t n g)) (ren t n g is)=l' at pm ⊢
   have e1:=pm.map (fun st=>(evl b' most (rcT t f rc) r (3-turn t o) ((pre++[is]).map (ren t n g)) st.2 (ks++[st.1.isNone])).1)
   have e2:=pm.map (fun st=>(evl b' most (rcT t f rc) r (3-turn t o) ((pre++[is]).map (ren t n g)) st.2 (ks++[st.1.isNone])).2)
   rw[map_map] at e1 e2
   have q1:(l.map ((fun st=>(evl b' most (rcT t f rc) r (3-turn t o) ((pre++[is]).map (ren t n g)) st.2 (ks++[st.1.isNone])).1)∘stR t n f g))=(l.map fun st=>(evl b most rc r (3-o) (pre++[is]) st.2 (ks++[st.1.isNone])).1).map (sg t):=by
    rw[map_map]
    exact map_congr_left fun st hst=>congrArg Prod.fst (hz st hst)
   have q2:(l.map ((fun st=>(evl b' most (rcT t f rc) r (3-turn t o) ((pre++[is]).map (ren t n g)) st.2 (ks++[st.1.isNone])).2)∘stR t n f g))=l.map fun st=>(evl b most rc r (3-o) (pre++[is]) st.2 (ks++[st.1.isNone])).2 :=
    map_congr_left fun st hst=>(congrArg Prod.snd (hz st hst) :)
   rw[q1] at e1
   rw[q2] at e2
   refine Prod.ext ?_ ?_
   ·exact zr2 ho (by simpa using hne) (fun x=>e1.mem_iff)
   ·show 1+_=1+_
    rw[zm1 e2]
theorem zm2(B:Brd b)(ho:o=1\/o=2):(evl b 0 none 8 o [] is []).2=1/\(evl b 1 none 8 o [] is []).2<=2+b.length/\btr o (evl b 0 none 8 o [] is []).1 (evl b 1 none 8 o [] is []).1=false:=by
 have s0:∀is,stp 0 none is []=true:=fun is=>by simp[stp]
 have s1:stp 1 none is []=false:=by simp[stp,rcS]
 have s2:∀is x,stp 1 none is [x]=true:=fun is x=>by simp[stp]
 have e0:evl b 0 none 8 o [] is []=(wor b none is,1):=by rw[evl,if_pos (s0 _)]
 have e1:evl b 1 none 8 o [] is []=((bst o ((stM b o [is] is).map fun st=>wor b none st.2)).getD 0,1+((stM b o [is] is).map fun _=>1).sum):=by
  rw[evl,if_neg (by rw[s1];exact Bool.false_ne_true)]
  have:∀st:Option Nat×List Int,evl b 1 none 7 (3-o) ([]++[is]) st.2 ([]++[st.1.isNone])=(wor b none st.2,1):=fun st=>by rw[evl];exact if_pos (s2 _ _)
  simp only[this]
  rfl
 have hl:=zpo (b:=b) (cm:=[is]) (is:=is) (h:=o)
 have hm:wor b none is∈(stM b o [is] is).map fun st=>wor b none st.2:=mem_map.mpr ⟨(none,is),by unfold stM;simp,rfl⟩
 rw[e0,e1]
 refine⟨rfl,?_,?_⟩
 ·show 1+_<=_
  have:∀l:List (Option Nat×List Int),(l.map fun _=>1).sum=l.length:=fun l=>by
   induction l with
   | nil=>rfl
   | cons a l ih=>simp only[map_cons,sum_cons,length_cons,ih];omega
  rw[this]
  omega
 ·obtain⟨v,e,_,h1⟩:=zgw ho (l:=(stM b o [is] is).map fun st=>wor b none st.2) (fun z=>by rw[z] at hm;cases hm)
  rw[e]
  exact h1 _ hm
end
section
variable {b b':List (List Nat)} {is:List Int} {ce:Ce} {n:Nat} {od:List Nat}
theorem znX(hb:Bd b)(lb:b.length=n)(lb':b'.length=n)(O:Ord n od)(h:∀i,i<n->b'.getD (od.getD i 0) []=zcb ((b.getD i []).map fun y=>od.getD y 0)):Iso n (fun i=>od.getD i 0) (gO od) b b':=by
 refine⟨lb,lb',fun i hi=>O.f1 hi,fun i hi=>O.g1 hi,fun i hi=>O.gf hi,fun i hi=>O.fg hi,fun i j hi hj=>?_⟩
 show od.getD j 0∈b'.getD (od.getD i 0) []↔j∈b.getD i []
 rw[h i hi,zdx,mem_map]
 constructor
 ·rintro⟨y,hy,e⟩
  have hyn:y<n:=by have:=hb.get hy;rwa [lb] at this
  rw[<- O.inj hyn hj e]
  exact hy
 ·exact fun hj'=>⟨j,hj',rfl⟩
theorem zr3(B:Brd b)(lb:b.length=n)(lb':b'.length=n)(O:Ord n od)(h:∀i,i<n->b'.getD (od.getD i 0) []=zcb ((b.getD i []).map fun y=>od.getD y 0)):Brd b':=by
 have I:=znX B.bd lb lb' O h
 have hg:∀j,j<n->b'.getD j []=zcb ((b.getD (gO od j) []).map fun y=>od.getD y 0):=fun j hj=>by
  have:=h (gO od j) (O.g1 hj)
  rwa [O.fg hj] at this
 have far:∀j,¬j<n->b'.getD j []=[]:=fun j hj=>by rw[getD_eq_getElem?_getD,getElem?_eq_none (by omega)];rfl
 have mem:∀j x,x∈b'.getD j []->j<n/\x<n:=fun j x hx=>by
  by_cases hj:j<n
  ·rw[hg j hj,zdx,mem_map] at hx
   obtain⟨y,hy,rfl⟩:=hx
   have hyn:y<n:=by have:=B.bd.get hy;rwa [lb] at this
   exact⟨hj,O.f1 hyn⟩
  ·rw[far j hj] at hx;cases hx
 refine⟨fun r hr x hx=>?_,fun i j hj=>?_,by rw[lb',<- lb];exact B.h36,by rw[lb',<- lb];exact B.pos,fun i=>?_,fun i=>?_⟩
 ·obtain⟨j,hj,e⟩:=getElem_of_mem hr
  have:x∈b'.getD j []:=by rw[getD_eq_getElem?_getD,getElem?_eq_getElem hj,e];exact hx
  rw[lb']
  exact(mem j x this).2
 ·obtain⟨hi,hjn⟩:=mem i j hj
  rw[<- I.fg i hi,<- I.fg j hjn] at hj ⊢
  exact(I.adj _ _ (I.g1 j hjn) (I.g1 i hi)).mpr (B.sym _ _ ((I.adj _ _ (I.g1 i hi) (I.g1 j hjn)).mp hj))
 ·by_cases hi:i<n
  ·rw[hg i hi,zch,length_map];exact B.row _
  ·rw[far i hi];simp
 ·by_cases hi:i<n
  ·rw[hg i hi,zho]
  ·rw[far i hi];exact length_eq_zero_iff.mp (by rw[zch];rfl)
theorem znY{w:W}(hd:drf ce w=w)(hc:cln 8 w=true)(ng:Bool):eqW ng ce w w=some (.bl (!ng)):=by
 cases ng<;>simp only[eqW,hd,hc,Bool.and_self,if_true,zih 8 hc,Bool.not_true,Bool.not_false,false_eq_true,if_false]
theorem cln_wB(b:List (List Nat))(n:Nat):cln (n+2) (wB b)=true:=by
 show(b.map wT).all (cln (n+1))=true
 rw[all_eq_true]
 intro w hw
 obtain⟨r,_,rfl⟩:=mem_map.mp hw
 show(r.map nW).all (cln n)=true
 rw[zkJ];exact zcf _ _
theorem znZ(ng:Bool)(z:Int×Nat):eqW ng ce (zdn z) (zdn z)=some (.bl (!ng)):=by
 refine znY ?_ ?_ ng<;>(unfold zdn;split<;>rfl)
theorem ztz(t:Bool)(f:Nat->Nat)(p q:Nat):raW (rcT t f (some (p,q)))=if t=true then .lst [nW (f q),nW (f p)] else .lst [nW (f p),nW (f q)]:=by
 cases t<;>rfl
end
set_option maxHeartbeats 1000000 in
theorem main(ns:List Int)(_h:ns.length<=63):∃ce',d_law FU [.lst (ns.map W.int)] []=some (.ok (.bl true) ce'):=by
 have hz:=sl36
 have hfu:200<=FU:=by decide
 have z2:2<=PySem.sizeLine:=by decide
 have z4:4<=PySem.sizeLine:=by decide
 obtain⟨v1,c1⟩:=zgu (ce:=[]) FU (ns:=ns) (k:=1) (by omega)
 obtain⟨n0,ls,eb,n1,n16,L⟩:=zmV (ce:=[]) FU ns
 have B:=zpi L n1 (by omega)
 have bl:(zfL n0 ls).length<=16:=by simp[zfL];omega
 generalize zfL n0 ls=b at eb B bl
 have bp:=B.pos
 obtain⟨is,es,P⟩:=zlq (ce:=[]) FU hfu B (ns:=ns) (at':=2) (by omega)
 suffices hs:∃w c,d_law FU [.lst (ns.map W.int)] []=some (.ok w c)/\w=.bl true by
  obtain⟨w,c,e,rfl⟩:=hs
  exact⟨c,e⟩
 unfold d_law
 refine zfi [some (sW ns),none,none,none,none,none,none,none,none,none,none,none,none,none,none,none,none,none,none] rfl ?_
 have c1':d_g FU [sW ns,.int 1] []=some (.ok (.int v1) []):=c1
 have es':d_m FU [sW ns,.int 2,wB b] []=some (.ok (wS is) []):=es
 refine zap (w:=wB b) (ce':=[]) (zat (ws:=[sW ns]) (zae (zac rfl) zak) rfl eb) ?_
 refine zQn ?_
 refine zap (w:=wS is) (ce':=[]) (zat (ws:=[sW ns,.int 2,wB b]) (zae (zac rfl) (zae zaI (zae (zac rfl) zak))) rfl es') ?_
 refine zQn ?_
 refine zap (w:=.int v1) (ce':=[]) (zat (ws:=[sW ns,.int 1]) (zae (zac rfl) (zae zaI zak)) rfl c1') ?_
 refine zQn ?_
 obtain⟨u1,hu1,eu1⟩:=zh6 (ce:=[]) FU v1 (k:=1) (by omega) (m:=2) (by omega)
 refine zap (w:=.int (1+(u1:Int))) (ce':=[]) (zaF zaI (eu1 _ _ _ (zac rfl) zaI _ zaI) rfl) ?_
 refine zQn ?_
 have ho:(1:Int)+(u1:Int)=1\/(1:Int)+(u1:Int)=2:=by omega
 generalize (1:Int)+(u1:Int)=h at ho
 have Ph:=P.of1 ho
 obtain⟨od,eo,po⟩:=zls (ce:=[]) (n:=b.length) FU v1 (by omega)
 have O:=zrW po
 refine zap (w:=wL od) (ce':=[]) (zat (ws:=[.int v1,nW b.length]) (zae (zac rfl) (zae (zbb (ws:=[wB b]) (zae (zac rfl) zak) zcS) zak)) rfl eo) ?_
 refine zQn ?_
 obtain⟨u,hu,eu⟩:=zh6 (ce:=[]) FU v1 (k:=7) (by omega) (m:=2) (by omega)
 refine zap (w:=.bl (decide ((u:Int)=1))) (ce':=[]) (zaF (eu _ _ _ (zac rfl) zaI _ zaI) zaI (zck rfl rfl)) ?_
 refine zQn ?_
 generalize decide ((u:Int)=1)=t
 obtain⟨m,hm,em⟩:=zh6 (ce:=[]) FU v1 (k:=8) (by omega) (m:=6) (by omega)
 have m6:m<=7:=by omega
 refine zap (w:=nW m) (ce':=[]) (em _ _ _ (zac rfl) zaI _ zaI) ?_
 refine zQn ?_
 obtain⟨b',e9,lb',hb'⟩:=zrX (ce:=[]) FU B rfl O
 have I:=znX B.bd rfl lb' O hb'
 have B':=zr3 B rfl lb' O hb'
 refine zap (w:=wB b') (ce':=[]) (zat (ws:=[wB b,wL od]) (zae (zac rfl) (zae (zac rfl) zak)) rfl e9) ?_
 refine zQn ?_
 obtain⟨is',e10,ls',hs'⟩:=zrY (ce:=[]) FU P.hl (by omega) O t
 have V:Va b.length is:=Va.of P rfl (.inl rfl)
 have R:Rn t b.length (fun i=>od.getD i 0) is is':=⟨V,ls',hs'⟩
 have er:=R.uniq I
 have ho':=zlr (t:=t) ho
 have P':PosA b' is' (turn t h):=I.posM B'.bd B'.sym R Ph ho
 refine zap (w:=wS is') (ce':=[]) (zat (ws:=[wS is,wL od,.bl t]) (zae (zac rfl) (zae (zac rfl) (zae (zac rfl) zak))) rfl e10) ?_
 refine zQn ?_
 have same:∀rc,zpB b.length rc is->evl b' m (rcT t (fun i=>od.getD i 0) rc) 8 (turn t h) [] is' []=(sg t (evl b m rc 8 h [] is []).1,(evl b m rc 8 h [] is []).2):=fun rc K=>by
  rw[er]
  exact zlx (t:=t) I B'.bd B'.sym (most:=m) (rc:=rc) 8 h [] is [] (fun x hx=>by simp at hx;subst hx;exact V) ho Ph K
 refine zap (w:=.tup [wB b,wS is,wB b',wS is']) (ce':=[]) (zbf (ws:=[wB b,wS is,wB b',wS is']) (zae (zac rfl) (zae (zac rfl) (zae (zac rfl) (zae (zac rfl) zak)))) z4) ?_
 refine zQn ?_
 have eih:zsb [.bl t] []=some (.ok (.int (if t then 1 else 0)) []):=rfl
 have ixh:ixW [] (.lst [.int h,.int (3-h)]) (.int (if t then 1 else 0))=some (.int (turn t h)):=by
  cases t with
  | false=>exact zdv (xs:=[.int h,.int (3-h)]) (j:=0) rfl rfl
  | true =>
   have:turn true h=3-h:=by unfold turn;rw[if_pos ⟨rfl,by omega⟩]
   rw[this]
   exact zdv (xs:=[.int h,.int (3-h)]) (j:=1) rfl rfl
 refine zap (w:=.int (turn t h)) (ce':=[]) (zaq (zbj (ws:=[.int h,.int (3-h)]) (zae (zac rfl) (zae (zaF zaI (zac rfl) rfl) zak)) z2) (zbb (ws:=[.bl t]) (zae (zac rfl) zak) eih) ixh) ?_
 refine zQn ?_
 have a1:=zex (rc:=none) (most:=m) FU hfu B (fun p q e=>by cases e) ho Ph m6 []
 have a2:=zex (rc:=none) (most:=m) FU hfu B' (fun p q e=>by cases e) ho' P' m6 []
 have s0:=same none (fun p q e=>by cases e)
 rw[show rcT t (fun i=>od.getD i 0) none=none from rfl] at s0
 rw[s0] at a2
 generalize evl b m none 8 h [] is []=z at a1 a2
 have a3:=znW FU z t []
 refine zap (w:=zdn z) (ce':=[]) (zat (ws:=[wB b,raW none,wS is,.int h,nW m]) (zae (zac rfl) (zae zaI (zae (zac rfl) (zae (zac rfl) (zae (zac rfl) zak))))) rfl a1) ?_
 refine zQn ?_
 refine zbe (p:=!true) (ce':=[]) (zca (zaq (zat (ws:=[wB b',raW none,wS is',.int (turn t h),nW m]) (zae (zac rfl) (zae zaI (zae (zac rfl) (zae (zac rfl) (zae (zac rfl) zak))))) rfl a2) (zat (ws:=[zdn z,.bl t]) (zae (zac rfl) (zae (zac rfl) zak)) rfl a3) (znZ true _))) (fun q=>by cases q) (fun _=>zaV ?_)
 obtain⟨g0,g1,g2⟩:=zm2 (is:=is) B ho
 have kk1:∃w1 w2:Web,d_ea FU [wB b,wS is,.int h,nW 1] []=some (.ok (.tup [.int (evl b 1 none 8 h [] is []).1,wbW w1,wbW w2]) []):=by
  rcases ze7 (most:=1) FU hfu B ho Ph (by omega) [] with ⟨_,k1⟩|⟨k1,_⟩
  ·exact k1
  ·omega
 have kk0:∃w1 w2:Web,d_ea FU [wB b,wS is,.int h,nW 0] []=some (.ok (.tup [.int (evl b 0 none 8 h [] is []).1,wbW w1,wbW w2]) []):=by
  rcases ze7 (most:=0) FU hfu B ho Ph (by omega) [] with ⟨_,k1⟩|⟨k1,_⟩
  ·exact k1
  ·omega
 obtain⟨w1,w2,k1⟩:=kk1
 obtain⟨w3,w4,k0⟩:=kk0
 generalize (evl b 1 none 8 h [] is []).1=y1 at k1 g2
 generalize (evl b 0 none 8 h [] is []).1=y0 at k0 g2
 have k1':d_ea FU [wB b,wS is,.int h,.int 1] []=some (.ok (.tup [.int y1,wbW w1,wbW w2]) []):=k1
 have k0':d_ea FU [wB b,wS is,.int h,.int 0] []=some (.ok (.tup [.int y0,wbW w3,wbW w4]) []):=k0
 refine zap (w:=.int (y1-y0)) (ce':=[]) (zaF (zaq (zat (ws:=[wB b,wS is,.int h,.int 1]) (zae (zac rfl) (zae (zac rfl) (zae (zac rfl) (zae zaI zak)))) rfl k1') zaI (zdv (xs:=[.int y1,wbW w1,wbW w2]) (j:=0) rfl rfl)) (zaq (zat (ws:=[wB b,wS is,.int h,.int 0]) (zae (zac rfl) (zae (zac rfl) (zae (zac rfl) (zae zaI zak)))) rfl k0') zaI (zdv (xs:=[.int y0,wbW w3,wbW w4]) (j:=0) rfl rfl)) rfl) ?_
 refine zQn ?_
 have m1:CMul 2 h:=.inl (by omega)
 have m2:CMul (y1-y0) (3-2*h):=.inr (by omega)
 have gain:¬(y1-y0)*(3-2*h)<0:=by
  unfold btr at g2
  rcases ho with rfl|rfl
  ·simp at g2
   have:(y1-y0)*(3-2*1)=y1-y0:=by omega
   rw[this];omega
  ·simp at g2
   have:(y1-y0)*(3-2*2)=y0-y1:=by omega
   rw[this];omega
 have q2:eqW true [] (.tup [wB b,wS is,wB b',wS is']) (.tup [wB b,wS is,wB b',wS is'])=some (.bl (!true)):=znY rfl (by
  simp only[cln,all_cons,all_nil,Bool.and_true,and_eq_true]
  exact⟨cln_wB b 5,zcf is 6,cln_wB b' 5,zcf is' 6⟩) true
 refine zbe (p:=decide ((y1-y0)*(3-2*h)<0)||!true) (ce':=[]) (zeO (zca (zaF (zaF (zac rfl) (zaF zaI (zaF zaI (zac rfl) (zbm rfl rfl m1)) rfl) (zbm rfl rfl m2)) zaI (zfB rfl rfl))) (fun _=>zca (zaq (zac rfl) (zbf (ws:=[wB b,wS is,wB b',wS is']) (zae (zac rfl) (zae (zac rfl) (zae (zac rfl) (zae (zac rfl) zak)))) z4) q2))) (fun q=>by rw[decide_eq_false gain] at q;cases q) (fun _=>zaV ?_)
 have src:∀(cc:Int) (sl:Sl),sl[1]?=some (some (wB b))->sl[2]?=some (some (wS is))->dLC zb0 [2] (zgy (zad (dBi zcG (zad (zaf 1) zan)) zan)) (dB (dOp zf0 (zaD ixW (zaf 1) (zaf 0)) (dC (.int cc)))) (zaf 0) sl []=some (.ok (wL ((List.range b.length).filter fun p=>decide (is.getD p 0=cc))) []):=fun cc sl s1 s2=>by
  refine zrh (zs:=List.range b.length) (en:=nW) (t:=fun p=>decide (is.getD p 0=cc)) (zeQ (zae (zbb (ws:=[wB b]) (zae (zac s1) zak) zcS) zak) (by omega)).is (by rw[length_range];omega) (fun p hp=>?_)
  have hp':=mem_range.mp hp
  exact zca (zaF (zaq (zac (by show some (sl.getD 2 none)=_;rw[getD_eq_getElem?_getD,s2];rfl)) (zac rfl) (zbP (by rw[P.hl];exact hp'))) zaI (zck rfl rfl))
 refine zap (ce':=[]) (src 1 _ rfl rfl) ?_
 refine zQn ?_
 refine zap (ce':=[]) (src 2 _ rfl rfl) ?_
 refine zQn ?_
 have hA:∀x∈(List.range b.length).filter (fun p=>decide (is.getD p 0=1)),x<b.length/\is.getD x 0=1:=fun x hx=>⟨mem_range.mp (mem_filter.mp hx).1,of_decide_eq_true (mem_filter.mp hx).2⟩
 have hC:∀x∈(List.range b.length).filter (fun p=>decide (is.getD p 0=2)),x<b.length/\is.getD x 0=2:=fun x hx=>⟨mem_range.mp (mem_filter.mp hx).1,of_decide_eq_true (mem_filter.mp hx).2⟩
 generalize (List.range b.length).filter (fun p=>decide (is.getD p 0=1))=A at hA
 generalize (List.range b.length).filter (fun p=>decide (is.getD p 0=2))=D at hC
 have nA:eqW false [] (wL A) (.lst [])=some (.bl (decide (A=[]))):=(LstOf.fr _).eqN (m:=[]) (.fr _) false
 have nD:eqW false [] (wL D) (.lst [])=some (.bl (decide (D=[]))):=(LstOf.fr _).eqN (m:=[]) (.fr _) false
 refine zbe (p:=decide (A=[])||decide (D=[])) (ce':=[]) (zeO (zca (zaq (zac rfl) (zbj (ws:=[]) zak (zero_le _)) nA)) (fun _=>zca (zaq (zac rfl) (zbj (ws:=[]) zak (zero_le _)) nD))) (fun _=>?_) (fun q=>zaV ?_)
 ·exact zb2 (zau (w:=.bl true) (ce':=[]) zaI ⟨_,_,zaB (by simp only[Bel]),rfl⟩)
 simp only[or_eq_false_iff,decide_eq_false_iff_not] at q
 have lA:0<A.length:=length_pos_iff.mpr q.1
 have lD:0<D.length:=length_pos_iff.mpr q.2
 obtain⟨i1,hi1,ei1⟩:=zh6 (ce:=[]) FU v1 (k:=3) (by omega) (m:=A.length) lA
 obtain⟨i2,hi2,ei2⟩:=zh6 (ce:=[]) FU v1 (k:=4) (by omega) (m:=D.length) lD
 have iA:=zdb (ce:=[]) (l:=A) (p:=i1) hi1
 have iD:=zdb (ce:=[]) (l:=D) (p:=i2) hi2
 have mA:A.getD i1 0∈A:=by rw[getD_eq_getElem?_getD,getElem?_eq_getElem hi1];exact getElem_mem hi1
 have mD:D.getD i2 0∈D:=by rw[getD_eq_getElem?_getD,getElem?_eq_getElem hi2];exact getElem_mem hi2
 obtain⟨p1,p2⟩:=hA _ mA
 obtain⟨r1,r2⟩:=hC _ mD
 have lenA:=zf7 (ce:=[]) (l:=A)
 have lenD:=zf7 (ce:=[]) (l:=D)
 refine zap (w:=raW (some (A.getD i1 0,D.getD i2 0))) (ce':=[]) (zbj (ws:=[nW (A.getD i1 0),nW (D.getD i2 0)]) (zae (zaq (zac rfl) (ei1 _ _ _ (zac rfl) zaI _ (zbb (ws:=[wL A]) (zae (zac rfl) zak) lenA)) iA) (zae (zaq (zac rfl) (ei2 _ _ _ (zac rfl) zaI _ (zbb (ws:=[wL D]) (zae (zac rfl) zak) lenD)) iD) zak)) z2) ?_
 refine zQn ?_
 generalize A.getD i1 0=p at p1 p2
 generalize D.getD i2 0=r at r1 r2
 have K:zpB b.length (some (p,r)) is:=fun p' q' e=>by
  cases e
  exact⟨p1,r1,.inr p2,.inr r2,fun z=>by have:=z.1;omega⟩
 have j0:ixW [] (raW (some (p,r))) (.int 0)=some (nW p):=zdv (xs:=[nW p,nW r]) (j:=0) rfl rfl
 have j1:ixW [] (raW (some (p,r))) (.int 1)=some (nW r):=zdv (xs:=[nW p,nW r]) (j:=1) rfl rfl
 have op:=zdb (ce:=[]) (l:=od) (p:=p) (by rw[O.l];exact p1)
 have or':=zdb (ce:=[]) (l:=od) (p:=r) (by rw[O.l];exact r1)
 refine zap (w:=.lst [nW (od.getD p 0),nW (od.getD r 0)]) (ce':=[]) (zbj (ws:=[nW (od.getD p 0),nW (od.getD r 0)]) (zae (zaq (zac rfl) (zaq (zac rfl) zaI j0) op) (zae (zaq (zac rfl) (zaq (zac rfl) zaI j1) or') zak)) z2) ?_
 refine zQn ?_
 have rw':=ztz t (fun i=>od.getD i 0) p r
 have a4:=zex (rc:=some (p,r)) (most:=m) FU hfu B (fun p' q' e=>by cases e;exact⟨p1,r1⟩) ho Ph m6 []
 have a5:=zex (rc:=rcT t (fun i=>od.getD i 0) (some (p,r))) (most:=m) FU hfu B' (fun p' q' e=>by
  have f1:od.getD p 0<b'.length:=by rw[lb'];exact O.f1 p1
  have f2:od.getD r 0<b'.length:=by rw[lb'];exact O.f1 r1
  cases t<;>(simp only[rcT,false_eq_true,if_false,if_true] at e;cases e)
  ·exact⟨f1,f2⟩
  ·exact⟨f2,f1⟩) ho' P' m6 []
 rw[same _ K] at a5
 generalize evl b m (some (p,r)) 8 h [] is []=y at a4 a5
 have a6:=znW FU y t []
 have rest:Run (zax (zaU 18 (zar 5 (d_l FU) (zad (zaf 1) (zad (zaf 16) (zad (zaf 2) (zad (zaf 4) (zad (zaf 7) zan)))))))
   (zbq (zaD (eqW false) (zar 5 (d_l FU) (zad (zaf 8) (zad (zaf 17) (zad (zaf 9) (zad (zaf 11) (zad (zaf 7) zan)))))) (zar 2 (d_d FU) (zad (zaf 18) (zad (zaf 6) zan))))))
   [some (sW ns),some (wB b),some (wS is),some (.int v1),some (.int h),some (wL od),some (.bl t),some (nW m),some (wB b'),some (wS is'),some (.tup [wB b,wS is,wB b',wS is']),some (.int (turn t h)),some (zdn z),some (.int (y1-y0)),some (wL A),some (wL D),some (raW (some (p,r))),some (raW (rcT t (fun i=>od.getD i 0) (some (p,r)))),none] [] (Rt fun v ce'=>∃w c',finC [] ce' v=some (.ok w c')/\w=.bl true):=by
  refine zap (w:=zdn y) (ce':=[]) (zat (ws:=[wB b,raW (some (p,r)),wS is,.int h,nW m]) (zae (zac rfl) (zae (zac rfl) (zae (zac rfl) (zae (zac rfl) (zae (zac rfl) zak))))) rfl a4) ?_
  refine zQn ?_
  refine zau (w:=.bl (!false)) (ce':=[]) (zaq (zat (ws:=[wB b',raW (rcT t (fun i=>od.getD i 0) (some (p,r))),wS is',.int (turn t h),nW m]) (zae (zac rfl) (zae (zac rfl) (zae (zac rfl) (zae (zac rfl) (zae (zac rfl) zak))))) rfl a5) (zat (ws:=[zdn y,.bl t]) (zae (zac rfl) (zae (zac rfl) zak)) rfl a6) (znZ false _)) ?_
  exact⟨_,_,zaB (by simp only[Bel]),rfl⟩
 rw[rw'] at rest
 cases t with
 | false =>
  refine zbe (p:=false) (ce':=[]) (zca (zac rfl)) (fun q=>by cases q) (fun _=>zaV ?_)
  exact rest
 | true =>
  have w0:ixW [] (.lst [nW (od.getD p 0),nW (od.getD r 0)]) (.int 0)=some (nW (od.getD p 0)):=zdv (xs:=[nW (od.getD p 0),nW (od.getD r 0)]) (j:=0) rfl rfl
  have w1:ixW [] (.lst [nW (od.getD p 0),nW (od.getD r 0)]) (.int 1)=some (nW (od.getD r 0)):=zdv (xs:=[nW (od.getD p 0),nW (od.getD r 0)]) (j:=1) rfl rfl
  refine zbe (p:=true) (ce':=[]) (zca (zac rfl)) (fun _=>?_) (fun q=>by cases q)
  refine zap (w:=.lst [nW (od.getD r 0),nW (od.getD p 0)]) (ce':=[]) (zbj (ws:=[nW (od.getD r 0),nW (od.getD p 0)]) (zae (zaq (zac rfl) zaI w1) (zae (zaq (zac rfl) zaI w0) zak)) z2) ?_
  refine zQn ?_
  exact rest
end K47
namespace K47
open PySem PySem.Spec PyProof.Rows L2 VS
theorem fin_mk{w:World}{K:PySem.W.Frag}{mg:Str->Option Value}{l:PySem.W.OpenLaw}{fa:Addr}(z:∃A:Adr,Txt K mg A/\fa=A.f_law/\∀(s:Shared) (v:Value),BindsTo s A.d_law ⟨[v],[]⟩ [("_law_script",v)]) :
  ∃fd:FuncData,(∀(s:Shared) (u:Value),BindsTo s fd ⟨[u],[]⟩ [("_law_script",u)])/\∀base:Heap,K.In base->base.Ns mainGlobals mg->FnOk l.prog w K mg base CX0 19 fa fd ["_law_script"] (spLaw Gx (d_law FU) K):=by
 obtain⟨A,T,e,b⟩:=z
 subst e
 exact⟨A.d_law,b,fun base _ _=>zpa T.nl (zrF FU T)⟩
end K47
open PySem PySem.W PyProof.Rows
theorem PySem.W.Fast.te15588230956744441371 : True := trivial
theorem PySem.W.Fast.tw12018604150492225836 : True := trivial
theorem PySem.W.Fast.tw15698398082099451234 : True := trivial
theorem PySem.W.Fast.tw14799757545132255268 : True := trivial
theorem PySem.W.Fast.tw2538849819986083177 : True := trivial
theorem PySem.W.Fast.tw17074022703685747857 : True := trivial
theorem PySem.W.Fast.tw3186982551766132 : True := trivial
theorem PySem.W.Fast.tw5706731346649496149 : True := trivial
theorem PySem.W.Fast.tw12218444984934686071 : True := trivial
theorem PySem.W.Fast.tw1567031878679602458 : True := trivial
theorem PySem.W.Fast.tw2622685946724104602 : True := trivial
set_option maxRecDepth 100000 in
set_option maxHeartbeats 0 in
theorem PySem.Challenge.cw_stonebreath_k47_whole_ends_exchanged_holds : PySem.Challenge.rw_stonebreath_k47_whole_ends_exchanged.Holds := by
 w_on;o_law;k_head;(case hw=>w_witness2)
 k_fill
 refine L2.walk_ofK (l:=PySem.Challenge.rw_stonebreath_k47_whole_ends_exchanged) (n:=63) (k:=19) (x := "_law_script") (CX:=L2.CX0) (sp:=VS.spLaw K47.Gx (K47.d_law K47.FU)) rfl (by decide) rfl ⟨rfl,by decide,by decide⟩ (fun w h Y=>PySem.W.kIn_of Y) ?F (VS.law_sp K47.main) (fun _ _ _ _ z=>z)
 case F =>
  intro w mg fa h KX G hmg
  refine' K47.fin_mk (K47.all_mk KX G hmg ?ac_End ?pg_End ?hd_End ?po_End ?sa_End ?mi_End ?kc_End ?na_End_gone ?na_End_joined ?na_End_most ?na_End_racing ?a0 ?l0 ?c0 ?k0 ?a1 ?l1 ?c1 ?k1 ?a2 ?l2 ?c2 ?k2 ?a3 ?l3 ?c3 ?k3 ?a4 ?l4 ?c4 ?k4 ?a5 ?l5 ?c5 ?k5 ?a6 ?l6 ?c6 ?k6 ?a7 ?l7 ?c7 ?k7 ?a8 ?l8 ?c8 ?k8 ?a9 ?l9 ?c9 ?k9 ?a10 ?l10 ?c10 ?k10 ?a11 ?l11 ?c11 ?k11 ?a12 ?l12 ?c12 ?k12 ?a13 ?l13 ?c13 ?k13 ?a14 ?l14 ?c14 ?k14 ?a15 ?l15 ?c15 ?k15 ?a16 ?l16 ?c16 ?k16 ?a17 ?l17 ?c17 ?k17 ?a18 ?l18 ?c18 ?k18 ?a19 ?l19 ?c19 ?k19 ?a20 ?l20 ?c20 ?k20 ?a21 ?l21 ?c21 ?k21 ?a22 ?l22 ?c22 ?k22 ?a23 ?l23 ?c23 ?k23 ?a24 ?l24 ?c24 ?k24 ?a25 ?l25 ?c25 ?k25 ?a26 ?l26 ?c26 ?k26 ?a27 ?l27 ?c27 ?k27 ?a28 ?l28 ?c28 ?k28 ?a29 ?l29 ?c29 ?k29 ?a30 ?l30 ?c30 ?k30 ?a31 ?l31 ?c31 ?k31 ?a32 ?l32 ?c32 ?k32 ?a33 ?l33 ?c33 ?k33 ?a34 ?fn34 ?l34 ?c34 ?k34 ?a35 ?fn35 ?l35 ?c35 ?k35 ?a36 ?fn36 ?l36 ?c36 ?k36 ?a37 ?fn37 ?l37 ?c37 ?k37 ?a38 ?fn38 ?l38 ?c38 ?k38 ?q0 ?z_any ?z_int ?z_len ?z_list ?z_range ?z_sorted ?z_sum ?z_tuple ?xt ?nl)
  (case ac_End=>k_is);(case pg_End=>k_is);(case hd_End=>k_is);(case po_End=>k_is);(case sa_End=>k_is);(case mi_End=>k_is);(case kc_End=>k_is);(case na_End_gone=>k_is);(case na_End_joined=>k_is);(case na_End_most=>k_is);(case na_End_racing=>k_is);(case a0=>k_is);(case l0=>k_is);(case c0=>k_is);(case k0=>k_is);(case a1=>k_is);(case l1=>k_is);(case c1=>k_is);(case k1=>k_is);(case a2=>k_is);(case l2=>k_is);(case c2=>k_is);(case k2=>k_is);(case a3=>k_is);(case l3=>k_is);(case c3=>k_is);(case k3=>k_is);(case a4=>k_is);(case l4=>k_is);(case c4=>k_is);(case k4=>k_is);(case a5=>k_is);(case l5=>k_is);(case c5=>k_is);(case k5=>k_is);(case a6=>k_is);(case l6=>k_is);(case c6=>k_is);(case k6=>k_is);(case a7=>k_is);(case l7=>k_is);(case c7=>k_is);(case k7=>k_is);(case a8=>k_is);(case l8=>k_is);(case c8=>k_is);(case k8=>k_is);(case a9=>k_is);(case l9=>k_is);(case c9=>k_is);(case k9=>k_is);(case a10=>k_is);(case l10=>k_is);(case c10=>k_is);(case k10=>k_is);(case a11=>k_is);(case l11=>k_is);(case c11=>k_is);(case k11=>k_is);(case a12=>k_is);(case l12=>k_is);(case c12=>k_is);(case k12=>k_is);(case a13=>k_is);(case l13=>k_is);(case c13=>k_is);(case k13=>k_is);(case a14=>k_is);(case l14=>k_is);(case c14=>k_is);(case k14=>k_is);(case a15=>k_is);(case l15=>k_is);(case c15=>k_is);(case k15=>k_is);(case a16=>k_is);(case l16=>k_is);(case c16=>k_is);(case k16=>k_is);(case a17=>k_is);(case l17=>k_is);(case c17=>k_is);(case k17=>k_is);(case a18=>k_is);(case l18=>k_is);(case c18=>k_is);(case k18=>k_is);(case a19=>k_is);(case l19=>k_is);(case c19=>k_is);(case k19=>k_is);(case a20=>k_is);(case l20=>k_is);(case c20=>k_is);(case k20=>k_is);(case a21=>k_is);(case l21=>k_is);(case c21=>k_is);(case k21=>k_is);(case a22=>k_is);(case l22=>k_is);(case c22=>k_is);(case k22=>k_is);(case a23=>k_is);(case l23=>k_is);(case c23=>k_is);(case k23=>k_is);(case a24=>k_is);(case l24=>k_is);(case c24=>k_is);(case k24=>k_is);(case a25=>k_is);(case l25=>k_is);(case c25=>k_is);(case k25=>k_is);(case a26=>k_is);(case l26=>k_is);(case c26=>k_is);(case k26=>k_is);(case a27=>k_is);(case l27=>k_is);(case c27=>k_is);(case k27=>k_is);(case a28=>k_is);(case l28=>k_is);(case c28=>k_is);(case k28=>k_is);(case a29=>k_is);(case l29=>k_is);(case c29=>k_is);(case k29=>k_is);(case a30=>k_is);(case l30=>k_is);(case c30=>k_is);(case k30=>k_is);(case a31=>k_is);(case l31=>k_is);(case c31=>k_is);(case k31=>k_is);(case a32=>k_is);(case l32=>k_is);(case c32=>k_is);(case k32=>k_is);(case a33=>k_is);(case l33=>k_is);(case c33=>k_is);(case k33=>k_is);(case a34=>k_is);(case fn34=>k_is);(case l34=>k_is);(case c34=>k_is);(case k34=>k_is);(case a35=>k_is);(case fn35=>k_is);(case l35=>k_is);(case c35=>k_is);(case k35=>k_is);(case a36=>k_is);(case fn36=>k_is);(case l36=>k_is);(case c36=>k_is);(case k36=>k_is);(case a37=>k_is);(case fn37=>k_is);(case l37=>k_is);(case c37=>k_is);(case k37=>k_is);(case a38=>k_is);(case fn38=>k_is);(case l38=>k_is);(case c38=>k_is);(case k38=>k_is);(case q0=>k_is);(case z_any=>k_is);(case z_int=>k_is);(case z_len=>k_is);(case z_list=>k_is);(case z_range=>k_is);(case z_sorted=>k_is);(case z_sum=>k_is);(case z_tuple=>k_is);(case xt=>kernel_rfl);(case nl=>kernel_rfl)
