import PyProof.Rows.All
import Wide.All
import OpenK.AllK
import Wide.FinOn
import Lean
import PyProof.EqAt
import PyProof.EqKinds
import PyProof.TupleCall
import PyProof.NeKinds
import KE.KDictSum
import KE.KListLetter
import KE.KIsAll
import KE.KTryMore
import PySem.Challenge.RW_stonebreath_k19_taken_back
set_option Elab.async false
set_option linter.all false
set_option maxRecDepth 100000
open List (length_map map_cons mem_append mem_singleton length_cons length_append getD_eq_getElem?_getD getElem?_eq_getElem mem_filter size_toArray mem_range mem_append_left getElem?_set_ne mem_map all_eq_true length_nil getElem?_map getElem?_append_left length_range mem_cons_of_mem mem_cons_self mem_cons mem_append_right length_set map_nil append_nil append_assoc any_eq_true map_map getElem?_eq_none lookup_cons getElem?_set_self getElem?_append_right map_append length_filter_le nodup_append length_take filter_congr nodup_range find?_cons exists_mem_of_ne_nil cons_append nil_append nodup_cons mem_of_getElem? map_congr_left length_eq_zero_iff length_drop any_cons mem_filterMap all_cons take_of_length_le ne_nil_of_mem getElem_mem filter_nil filter_append map_set map_id map_drop getElem?_of_mem filter_cons_of_neg contains_cons of_mem_zip mem_of_find?_eq_some length_singleton filter_cons_of_pos filterMap_cons ext_getElem? append_inj' take_zero take_sublist take_left take_append_of_le_length set_append_right range_succ_eq_map pairwise_lt_range pairwise_cons mem_of_mem_drop map_take length_pos_of_mem getElem?_take_of_lt getElem?_replicate getElem?_range getElem?_cons_zero getElem?_cons_succ forIn_cons find?_some erase_cons eraseIdx_eq_take_drop_succ eq_nil_or_concat eq_nil_iff_forall_not_mem drop_length drop_eq_getElem_cons dropLast_eq_take contains_iff_mem concat_eq_append all_nil all_map take_range take_length take_add_one set_cons_succ set_append_left replicate_succ range_eq_range' range'_succ perm_iff_count pairwise_mergeSort pairwise_map pairwise_iff_getElem not_mem_nil nil_perm mergeSort_perm mem_of_mem_take mem_of_mem_erase mem_iff_getElem length_replicate length_pos_iff_exists_mem length_pos_iff length_erase_of_mem length_erase_le length_dropLast idxOf_lt_length_iff getElem_of_mem getElem_inj getElem_idxOf getElem?_zip_eq_some getElem?_set forIn_nil find?_eq_some_iff_append find?_eq_none filter_filter filter_eq_self filterMap_append ext_getElem erase_eq_eraseIdx_of_idxOf eraseIdx_cons_succ eraseIdxIfInBounds_toArray any_eq_false)
open Nat (le_refl ne_of_lt lt_of_lt_of_le le_trans zero_le lt_irrefl le_succ lt_of_le_of_lt lt_succ_self le_of_lt not_lt_zero ne_of_gt min_eq_left le_add_right mul_le_mul le_of_eq add_sub_cancel_left zero_add sub_self not_lt mul_pos mul_le_mul_right min_self lt_trichotomy lt_trans lt_succ_of_lt log2_lt le_of_not_lt le_mul_of_pos_right exists_eq_add_of_le add_mul)
open Option (map_some map_eq_some_iff bind_some bind_eq_some_iff getD_some isSome_map isSome_iff_exists getD_none isSome_some)
open Bool (and_eq_true not_eq_true' false_eq_true or_eq_true or_eq_false_iff not_eq_false' eq_false_iff not_not)
open Array (length_toList toArray_toList getElem?_toList toList_inj toList_eraseIdxIfInBounds mem_toList_iff find?_toList any_eq_true')
open Int (natCast_mul toNat_natCast sub_zero mul_one ofNat_inj fmod_eq_emod_of_nonneg fdiv_eq_ediv_of_nonneg emod_nonneg emod_lt_of_pos)
noncomputable section
namespace L2
open PySem PySem.Spec PyProof.Rows
abbrev Key:=Sum Int Str
def zjx:Key->Value->Bool
 | .inl k,v=>Value.isInt k v
 | .inr x,v=>Value.isStrOf x v
def zut(w:World):Key->Int
 | .inl k=>hashInt k
 | .inr x=>hashStr w x
theorem zaU:∀{k:Key} {v:Value},zjx k v=true->(∃i t,k=Sum.inl i/\v=Value.int i t)\/(∃x t,k=Sum.inr x/\v=Value.str x t)
 | .inl i,v,h=>by
  obtain⟨t,e⟩:=Value.isInt_shape (k:=i) (v:=v) h
  exact .inl ⟨i,t,rfl,e⟩
 | .inr x,v,h=>by
  obtain⟨t,e⟩:=Value.isStrOf_shape (x:=x) (v:=v) h
  exact .inr ⟨x,t,rfl,e⟩
theorem zkc(i:Int)(t:Tok):zjx (.inl i) (.int i t)=true:=by simp[zjx,Value.isInt]
theorem zkd(x:Str)(t:Tok):zjx (.inr x) (.str x t)=true:=by simp[zjx,Value.isStrOf]
theorem zqh(a b:Int):decide ((Sum.inl a:Key)=Sum.inl b)=(a==b):=by
 by_cases e:a=b
 ·subst e;simp
 ·have h:¬(Sum.inl a:Key)=Sum.inl b:=fun q=>e (Sum.inl.inj q)
  rw[decide_eq_false h]
  exact(beq_eq_false_iff_ne.mpr e).symm
theorem zqi(a b:Str):decide ((Sum.inr a:Key)=Sum.inr b)=decide (a=b):=by
 by_cases e:a=b
 ·subst e;simp
 ·have h:¬(Sum.inr a:Key)=Sum.inr b:=fun q=>e (Sum.inr.inj q)
  rw[decide_eq_false h,decide_eq_false e]
theorem zqj(a:Int)(b:Str):decide ((Sum.inl a:Key)=Sum.inr b)=false:=decide_eq_false (fun q=>nomatch q)
theorem zqk(a:Str)(b:Int):decide ((Sum.inr a:Key)=Sum.inl b)=false:=decide_eq_false (fun q=>nomatch q)
def zaQ(prog:Program)(w:World):PySem.KeyKind prog w Key where
 is:=zjx
 hash:=zut w
 inj:=fun v a b ha hb=>by
  rcases zaU ha with ⟨i,t,rfl,rfl⟩|⟨x,t,rfl,rfl⟩
  ·rcases zaU hb with ⟨j,u,rfl,e⟩|⟨y,u,rfl,e⟩
   ·injection e with e1 _;rw[e1]
   ·exact nomatch e
  ·rcases zaU hb with ⟨j,u,rfl,e⟩|⟨y,u,rfl,e⟩
   ·exact nomatch e
   ·injection e with e1 _;rw[e1]
 byValue:=fun k v h=>by
  rcases zaU h with ⟨i,t,rfl,rfl⟩|⟨x,t,rfl,rfl⟩<;>rfl
 pyHash:=fun hv h=>by
  rcases zaU hv with ⟨i,t,rfl,rfl⟩|⟨x,t,rfl,rfl⟩
  ·exact wpAny_pyHash_int h
  ·exact wpAny_pyHash_str h
 eqBool:=fun hu hv h=>by
  rcases zaU hu with ⟨i,t,rfl,rfl⟩|⟨x,t,rfl,rfl⟩
  ·rcases zaU hv with ⟨j,u,rfl,rfl⟩|⟨y,u,rfl,rfl⟩
   ·rw[zqh] at h;exact wpAny_eqBool_int h
   ·rw[zqj] at h;exact SeqAt.EqAt.int_str i t y u _ _ _ _ h
  ·rcases zaU hv with ⟨j,u,rfl,rfl⟩|⟨y,u,rfl,rfl⟩
   ·rw[zqk] at h;exact SeqAt.EqAt.str_int x t j u _ _ _ _ h
   ·rw[zqi] at h;exact wpAny_eqBool_str h
 «strs»:=fun k x t v h=>by
  rcases zaU h with ⟨i,u,rfl,e⟩|⟨y,u,rfl,e⟩
  ·exact nomatch e
  ·injection e with e1 _
   subst e1
   cases v<;>rfl
theorem zh4(prog:Program)(w:World)(i:Int)(t:Tok):(zaQ prog w).is (.inl i) (.int i t)=true:=zkc i t
theorem zh5(prog:Program)(w:World)(x:Str)(t:Tok):(zaQ prog w).is (.inr x) (.str x t)=true:=zkd x t
inductive V where
 | non|bl (b:Bool)|int (i:Int)|str (x:Str)|byt (b:Array UInt8)|flt (b:UInt64)|ref (a:Addr)|ty (n:String)
 deriving DecidableEq
def RelV:V->Value->Prop
 | .non,u=>u=Value.none
 | .bl b,u=>u=Value.bool b
 | .int i,u=>∃t,u=Value.int i t
 | .str x,u=>∃t,u=Value.str x t
 | .byt b,u=>∃t,u=Value.bytes b t
 | .flt b,u=>∃t,u=Value.float b t
 | .ref a,u=>u=Value.ref a
 | .ty n,u=>u=Value.type n
abbrev Vals:List V->List Value->Prop:=Paired RelV
theorem Vals.length{xs:List V}{us:List Value}(r:Vals xs us):xs.length=us.length:=Paired.length r
theorem Vals.get:∀{xs:List V} {us:List Value} {i:Nat} {x:V},Vals xs us->xs[i]?=some x->∃u,us[i]?=some u/\RelV x u
 | _,_,_,_,.nil,e=>by simp at e
 | _,_,0,_,.cons r _,e=>by simp at e;subst e;exact⟨_,rfl,r⟩
 | _,_,i+1,x,.cons _ t,e=>by
  obtain⟨u,h1,h2⟩:=Vals.get (i:=i) (x:=x) t (by simpa using e)
  exact⟨u,by simpa using h1,h2⟩
theorem Vals.set{x:V}{u:Value}(r:RelV x u):∀{xs:List V} {us:List Value} (i:Nat),Vals xs us->Vals (xs.set i x) (us.set i u)
 | _,_,_,.nil=>.nil
 | _,_,0,.cons _ t=>.cons r t
 | _,_,i+1,.cons q t=>.cons q (Vals.set r i t)
theorem Vals.append:∀{xs ys:List V} {us ws:List Value},Vals xs us->Vals ys ws->Vals (xs++ys) (us++ws)
 | _,_,_,_,.nil,s=>s
 | _,_,_,_,.cons r t,s=>.cons r (Vals.append t s)
theorem Vals.take:∀{xs:List V} {us:List Value} (n:Nat),Vals xs us->Vals (xs.take n) (us.take n)
 | _,_,0,_=>.nil
 | _,_,_+1,.nil=>.nil
 | _,_,n+1,.cons r t=>.cons r (Vals.take n t)
theorem Vals.drop:∀{xs:List V} {us:List Value} (n:Nat),Vals xs us->Vals (xs.drop n) (us.drop n)
 | _,_,0,r=>r
 | _,_,_+1,.nil=>.nil
 | _,_,n+1,.cons _ t=>Vals.drop n t
def RelO:Option V->Option Value->Prop
 | some v,some u=>RelV v u
 | none,none=>True
 | _,_=>False
def KV{κ:Type}:List (κ×V)->List (κ×Value)->Prop:=Paired fun(p:κ×V) (q:κ×Value)=>p.1=q.1/\RelV p.2 q.2
def kV:Key->V
 | .inl i=>.int i
 | .inr x=>.str x
inductive HO where
  | lst (xs:List V)
  | tup (xs:List V)
  | dK (kvs:List (Key×V))|dT (kvs:List (List Key×V))
  | set (S:Int->Bool) (n:Nat)
  | ins (C dx:Addr) (fs:List (Str×V))
  | own (x:Addr)
  | xd (fs:List (Str×V))
  | met (f x:Addr)
  | rng (lo hi:Int)
  | frz (o:Obj) (u:HO)
  | tbl (ps:Array Value)
  | ext (φ:Heap->Prop)
abbrev Hp:=Addr->Option HO
def upd(H:Hp)(a:Addr)(o:HO):Hp:=fun b=>if b=a then some o else H b
theorem zat{H:Hp}{a:Addr}{o:HO}:upd H a o a=some o:=by unfold upd;rw[if_pos rfl]
theorem zaC{H:Hp}{a b:Addr}{o:HO}(h:b≠a):upd H a o b=H b:=by unfold upd;rw[if_neg h]
theorem zoz{H:Hp}{a:Addr}{o u:HO}:upd (upd H a o) a u=upd H a u:=by
 funext b;unfold upd;split<;>rfl
theorem zsv{H:Hp}{a b:Addr}{o u:HO}(h:H a=some o)(h':H b=some u)(d:o≠u):a≠b:=by
 intro e;subst e;rw[h] at h';exact d (Option.some.inj h')
theorem zay{H:Hp}{a b:Addr}{o:HO}(h:H a=some o)(h':H b=none):a≠b:=by
 intro e;subst e;rw[h] at h';cases h'
def TupN(h:Heap)(a:Addr)(items:Array Value):Prop:=∃o,h.get? a=some o/\o.cls=.type "tuple" /\ (∃n,o.data=.seq items n)/\o.dict=none
theorem TupN.isTup{h:Heap}{a:Addr}{items:Array Value}(t:TupN h a items):PyProof.Rows.IsTup h a items:=by
 obtain⟨o,e,c,⟨n,d⟩,_⟩:=t
 exact⟨o,e,c,n,d⟩
theorem TupN.new(h:Heap)(items:Array Value):TupN (h.push { cls:=.type "tuple",data:=.seq items }) h.objs.size items:=⟨_,Heap.get?_push_size _ rfl,rfl,⟨_,rfl⟩,rfl⟩
section
variable (P:Program) (w:World)
def ObjOk(H:Hp)(h:Heap)(a:Addr):HO->Prop
 | .lst xs=>xs.length<=sizeLine/\∃(its:List Value) (n:Nat),Vals xs its/\h.get? a=some { cls:=.type "list",data:=.seq its.toArray n }
 | .tup xs=>xs.length<=sizeLine/\∃its:List Value,Vals xs its/\TupN h a its.toArray
 | .dK kvs=>kvs.length<=sizeLine/\(a==sysModules)=false/\∃vs,KV kvs vs/\h.DictOf (zaQ P w) a vs
 | .dT kvs=>kvs.length<=sizeLine/\(a==sysModules)=false/\∃xs:List (List Key×Addr×Value),
   Paired (fun(p:List Key×V) (q:List Key×Addr×Value)=>p.1=q.1/\H q.2.1=some (.tup (p.1.map kV))/\RelV p.2 q.2.2) kvs xs /\
   ∃o es ep,h.get? a=some o/\o.ExactDict/\o.data=.dict es ep/\es.toList=xs.map (entryOfKey (tupleKind (zaQ P w)))/\(xs.map (·.1)).Nodup
 | .set S n=>h.SetOf (intKind P w) a S n
 | .ins C dx fs=>H dx=some (.own a)/\fs.length<=1000/\dx≠a/\h.get? a=some (PySem.W.instObj C dx) /\
   ∃mA,h.Ns1 dx mA/\(∀f,RelO (fs.lookup f) (mA f))/\PySem.Within mA (fs.map (·.1))
 | .own _=>∃o,h.get? a=some o
 | .xd fs=>∃mA,h.Ns1 a mA/\∀f,RelO (fs.lookup f) (mA f)
 | .rng lo hi=>∃t u v,h.get? a=some { cls:=.type "range",data:=.fields #[.int lo t,.int hi u,.int 1 v] }
 | .frz o u=>h.get? a=some o/\ObjOk H h a u
 | .tbl ps=>h.get? a=some { cls:=.none,data:=.fields ps }
 | .met f x=>h.get? a=some (PySem.W.methodObj (.ref f) (.ref x))
 | .ext φ=>φ h/\(∃o,h.get? a=some o)/\∀h1 h2:Heap,φ h1->(∀o,h1.get? a=some o->h2.get? a=some o)->φ h2
def HOk(H:Hp)(h:Heap):Prop:=∀a o,H a=some o->ObjOk P w H h a o
end
section
variable {P:Program} {w:World} {H H':Hp} {h h':Heap} {a:Addr} {o:HO}
theorem ObjOk.lt(x:ObjOk P w H h a o):a<h.objs.size:=by
 cases o with
 | lst xs=>obtain⟨_,_,_,_,e⟩:=x;exact Heap.lt_size e
 | tup xs=>obtain⟨_,_,_,p⟩:=x;exact(TupN.isTup p).lt
 | dK kvs=>obtain⟨_,_,_,_,o,_,_,e,_⟩:=x;exact Heap.lt_size e
 | dT kvs=>obtain⟨_,_,_,_,o,_,_,e,_⟩:=x;exact Heap.lt_size e
 | set S n=>obtain⟨o,_,_,_,e,_⟩:=x;exact Heap.lt_size e
 | ins C dx fs=>obtain⟨_,_,_,e,_⟩:=x;exact Heap.lt_size e
 | own y=>obtain⟨_,e⟩:=x;exact Heap.lt_size e
 | xd fs=>obtain⟨_,⟨_,_,_,e,_⟩,_⟩:=x;exact Heap.lt_size e
 | rng lo hi=>obtain⟨_,_,_,e⟩:=x;exact Heap.lt_size e
 | frz ob u=>obtain⟨e,_⟩:=x;exact Heap.lt_size e
 | tbl ps=>exact Heap.lt_size (show h.get? a=some _ from x)
 | met f y=>exact Heap.lt_size (show h.get? a=some _ from x)
 | ext φ=>obtain⟨_,⟨_,e⟩,_⟩:=x;exact Heap.lt_size e
theorem Paired.mapP{α β:Type}{F G:α->β->Prop}:∀{l₁:List α} {l₂:List β},Paired F l₁ l₂->(∀a b,F a b->G a b)->Paired G l₁ l₂
 | _,_,.nil,_=>.nil
 | _,_,.cons r t,f=>.cons (f _ _ r) (Paired.mapP t f)
theorem ObjOk.stay(x:ObjOk P w H h a o)(k:∀b u,(b=a\/H b=some (.own a))->h.get? b=some u->h'.get? b=some u)(ho:∀b,H b=some (.own a)->H' b=some (.own a))(ht:∀b xs,H b=some (.tup xs)->H' b=some (.tup xs)):ObjOk P w H' h' a o:=by
 induction o with
 | lst xs=>obtain⟨z,its,n,r,e⟩:=x;exact⟨z,its,n,r,k _ _ (.inl rfl) e⟩
 | tup xs=>obtain⟨z,its,r,ob,e,c⟩:=x;exact⟨z,its,r,ob,k _ _ (.inl rfl) e,c⟩
 | dK kvs=>obtain⟨z,y,vs,r,ob,es,ep,e,c⟩:=x;exact⟨z,y,vs,r,ob,es,ep,k _ _ (.inl rfl) e,c⟩
 | dT kvs =>
  obtain⟨z,y,xs,r,ob,es,ep,e,c⟩:=x
  exact⟨z,y,xs,Paired.mapP r fun p q z=>⟨z.1,ht _ _ z.2.1,z.2.2⟩,ob,es,ep,k _ _ (.inl rfl) e,c⟩
 | set S n=>obtain⟨ob,es,ep,t,e,c⟩:=x;exact⟨ob,es,ep,t,k _ _ (.inl rfl) e,c⟩
 | ins C dx fs =>
  obtain⟨d,z,ne,e,mA,⟨od,es,ep,e2,c⟩,r⟩:=x
  exact⟨ho _ d,z,ne,k _ _ (.inl rfl) e,mA,⟨od,es,ep,k _ _ (.inr d) e2,c⟩,r⟩
 | own y=>obtain⟨ob,e⟩:=x;exact⟨ob,k _ _ (.inl rfl) e⟩
 | xd fs=>obtain⟨mA,⟨od,es,ep,e,c⟩,r⟩:=x;exact⟨mA,⟨od,es,ep,k _ _ (.inl rfl) e,c⟩,r⟩
 | rng lo hi=>obtain⟨t,u,v,e⟩:=x;exact⟨t,u,v,k _ _ (.inl rfl) e⟩
 | frz ob u ih=>obtain⟨e,q⟩:=x;exact⟨k _ _ (.inl rfl) e,ih q⟩
 | tbl ps =>
  have e:h.get? a=some { cls:=.none,data:=.fields ps }:=x
  show h'.get? a=some { cls:=.none,data:=.fields ps }
  exact k a _ (.inl rfl) e
 | met f y =>
  have e:h.get? a=some (PySem.W.methodObj (.ref f) (.ref y)):=x
  show h'.get? a=some (PySem.W.methodObj (.ref f) (.ref y))
  exact k a _ (.inl rfl) e
 | ext φ=>obtain⟨p,⟨o,e⟩,st⟩:=x;exact⟨st _ _ p fun o q=>k _ _ (.inl rfl) q,⟨o,k _ _ (.inl rfl) e⟩,st⟩
theorem HOk.lt(x:HOk P w H h)(e:H a=some o):a<h.objs.size:=(x a o e).lt
theorem HOk.fresh(x:HOk P w H h)(e:h.objs.size<=a):H a=none:=by
 cases q:H a with
 | none=>rfl
 | some u=>exact absurd (lt_of_lt_of_le (x.lt q) e) (lt_irrefl _)
theorem HOk.kept(x:HOk P w H h)(k:∀b u,h.get? b=some u->h'.get? b=some u):HOk P w H h':=fun a o e =>
 (x a o e).stay (fun b u _ q=>k b u q) (fun _ q=>q) fun _ _ q=>q
theorem HOk.laid(x:HOk P w H h)(k:∀b u,h.get? b=some u->h'.get? b=some u)(hp:h.objs.size<=a)(new:ObjOk P w (upd H a o) h' a o):HOk P w (upd H a o) h':=fun b u e=>by
 have hn:=x.fresh hp
 by_cases hb:b=a
 ·subst hb;rw[zat] at e;cases e;exact new
 ·rw[zaC hb] at e
  exact(x b u e).stay (fun c v _ q=>k c v q) (fun c q=>by rw[zaC (zay q hn)];exact q) fun c xs q=>by rw[zaC (zay q hn)];exact q
end
def Rd(H:Hp)(a:Addr)(u:HO):Prop:=H a=some u\/∃o,H a=some (.frz o u)
theorem Rd.ok{P:Program}{w:World}{H:Hp}{h:Heap}{a:Addr}{u:HO}(r:Rd H a u)(x:HOk P w H h):ObjOk P w H h a u:=by
 rcases r with r|⟨o,r⟩
 ·exact x a u r
 ·obtain⟨_,q⟩:=x a _ r
  exact q
def Mut:Option HO->Prop
 | some (.lst _)=>True
 | some (.dK _)=>True
 | some (.dT _)=>True
 | some (.set _ _)=>True
 | some (.ins _ _ _)=>True
 | some (.ext _)=>True
 | _=>False
section
variable {P:Program} {w:World} {H:Hp} {h h':Heap} {x e:Addr} {o':HO}
theorem HOk.write(ok:HOk P w H h)(mu:Mut (H x))(he:e=x\/H e=some (.own x))(k:∀b u,b≠e->h.get? b=some u->h'.get? b=some u)(heo:∃u,h'.get? e=some u)(new:ObjOk P w (upd H x o') h' x o'):HOk P w (upd H x o') h':=fun b u q=>by
 have nown:∀c y,H c=some (.own y)->c≠x:=fun c y r z=>by subst z;rw[r] at mu;exact mu
 have ntup:∀c xs,H c=some (.tup xs)->c≠x:=fun c xs r z=>by subst z;rw[r] at mu;exact mu
 by_cases hb:b=x
 ·subst hb;rw[zat] at q;cases q;exact new
 ·rw[zaC hb] at q
  by_cases hbe:b=e
  ·have q':H b=some (.own x):=by
    rcases he with z|z
    ·exact absurd (hbe.trans z) hb
    ·rw[hbe];exact z
   rw[q] at q';cases q'
   obtain⟨v,hv⟩:=heo
   exact⟨v,by rw[hbe];exact hv⟩
  ·refine(ok b u q).stay (fun c v hc r=>k c v ?_ r) (fun c r=>by rw[zaC (nown c b r)];exact r) fun c xs r=>by rw[zaC (ntup c xs r)];exact r
   rcases hc with rfl|hc
   ·exact hbe
   ·rintro rfl
    rcases he with z|z
    ·exact nown c b hc z
    ·rw[hc] at z;cases z;exact hb rfl
end
structure Un (fs ex:List Addr) (H H':Hp) (h h':Heap):Prop where
 keep:∀b o,h.get? b=some o->H b=none->b∉fs->b∉ex->h'.get? b=some o
 slot:∀b o,h.get? b=some o->H b=none->b∈fs->b∉ex->∃sl,h'.get? b=some { o with slots:=sl }
 free:∀b o,h.get? b=some o->H b=none->b∉ex->H' b=none
 there:∀b o,h.get? b=some o->b∉ex->∃o',h'.get? b=some o'
 tups:∀b xs,H b=some (.tup xs)->H' b=some (.tup xs)
 frzs:∀b o u,H b=some (.frz o u)->H' b=some (.frz o u)
 tbls:∀b ps,H b=some (.tbl ps)->∃more,H' b=some (.tbl (ps++more))
section
variable {fs fs' ex ex':List Addr} {H H1 H2:Hp} {h h1 h2 h':Heap} {a x e:Addr} {o:HO}
theorem Un.any(u:Un fs ex H H1 h h1){b:Addr}{ob:Obj}(q:h.get? b=some ob)(n:H b=none)(hx:b∉ex):∃sl,h1.get? b=some { ob with slots:=sl }:=by
 by_cases hb:b∈fs
 ·exact u.slot b ob q n hb hx
 ·exact⟨ob.slots,u.keep b ob q n hb hx⟩
theorem Un.kept(k:∀b u,h.get? b=some u->h'.get? b=some u):Un fs ex H H h h' :=
 ⟨fun b ob q _ _ _=>k b ob q,fun b ob q _ _ _=>⟨ob.slots,k b ob q⟩,fun _ _ _ n _=>n,fun b ob q _=>⟨ob,k b ob q⟩,fun _ _ q=>q,fun _ _ _ q=>q,fun _ ps q=>⟨#[],by rw[q];simp⟩⟩
theorem Un.refl:Un fs ex H H h h:=Un.kept fun _ _ q=>q
theorem Un.laid(k:∀b u,h.get? b=some u->h'.get? b=some u)(hp:h.objs.size<=a)(hn:H a=none):Un fs ex H (upd H a o) h h' where
 keep:=fun b u q _ _ _=>k b u q
 slot:=fun b u q _ _ _=>⟨u.slots,k b u q⟩
 free:=fun b u q n _=>by rw[zaC (ne_of_lt (lt_of_lt_of_le (Heap.lt_size q) hp))];exact n
 there:=fun b u q _=>⟨u,k b u q⟩
 tups:=fun b xs q=>by rw[zaC (zay q hn)];exact q
 frzs:=fun b u xs q=>by rw[zaC (zay q hn)];exact q
 tbls:=fun b ps q=>⟨#[],by rw[zaC (zay q hn),q];simp⟩
theorem Un.write(mu:Mut (H x))(he:e=x\/H e=some (.own x))(k:∀b u,b≠e->h.get? b=some u->h'.get? b=some u)(heo:∃u,h'.get? e=some u):Un fs ex H (upd H x o) h h':=by
 have hx:∀b,H b=none->b≠x:=fun b n z=>by subst z;rw[n] at mu;exact mu
 have hb:∀b,H b=none->b≠e:=fun b n z=>by
  subst z
  rcases he with r|r
  ·exact hx b n r
  ·rw[n] at r;cases r
 have hm:∀b u,H b=some u->¬Mut (some u)->b≠x:=fun b u q nm z=>by subst z;rw[q] at mu;exact nm mu
 refine⟨fun b u q n _ _=>k b u (hb b n) q,fun b u q n _ _=>⟨u.slots,k b u (hb b n) q⟩,fun b u q n _=>by rw[zaC (hx b n)];exact n,fun b u q _=>?_,
  fun b xs q=>by rw[zaC (hm b _ q fun z=>z)];exact q,fun b u xs q=>by rw[zaC (hm b _ q fun z=>z)];exact q,fun b ps q=>⟨#[],by rw[zaC (hm b _ q fun z=>z),q];simp⟩⟩
 by_cases hbe:b=e
 ·subst hbe;exact heo
 ·exact⟨u,k b u hbe q⟩
end
def trk(h:Heap)(H:Hp):List Addr:=(List.range h.objs.size).filter fun a=>(H a).isSome
def zmh(h:Heap)(H:Hp):Heap:=PySem.W.hideAll h (trk h H)
theorem zke(h:Heap)(H:Hp):(zmh h H).objs.size=h.objs.size:=PySem.W.hideAll_size _ _
theorem zmi{h:Heap}{H:Hp}{b:Addr}{o:Obj}(e:h.get? b=some o)(n:H b=none):(zmh h H).get? b=some o :=
 PySem.W.hideAll_get _ e fun hm=>by
  have q:(H b).isSome=true:=(mem_filter.mp hm).2
  rw[n] at q;simp at q
theorem zoA{h:Heap}{H:Hp}{b:Addr}{o:Obj}(e:(zmh h H).get? b=some o):h.get? b=some o/\H b=none:=by
 have e':h.get? b=some o:=PySem.W.of_hideAll (trk h H) e
 refine⟨e',?_⟩
 cases q:H b with
 | none=>rfl
 | some x =>
  have hm:b∈trk h H:=mem_filter.mpr ⟨mem_range.mpr (Heap.lt_size e'),by simp[q]⟩
  have z:(zmh h H).get? b=none:=PySem.W.hideAll_none (trk h H) hm
  rw[z] at e;cases e
def zoB(g h:Heap)(L:Addr):List (Addr×Obj):=(List.range h.objs.size).filterMap fun a=>if a=L\/(g.get? a).isSome=true then none else (h.get? a).map fun o=>(a,o)
def rest(g h:Heap)(L d:Addr):List (Addr×Obj):=(zoB g h L).filter fun p=>decide (p.1≠d)
structure Mod (K:PySem.W.Frag) (mg:Str->Option Value) (base:Heap):Prop where
 kin:K.In base
 glob:base.Ns mainGlobals mg
 blt:∃mb,base.Ns builtinsNs mb/\∀x:Str,x ≠ "__name__" -> mb x=bootBuiltins x
 nolimit:base.NoLimit
structure Cx where
 prog:Program
 w:World
 K:PySem.W.Frag
 mg:Str->Option Value
 base:Heap
 A:Around
 N:List Str
 s₀:Shared
 H₀:Hp
 env:Env
 outer:List Env
 stack:List Env
 ex:List Addr
 fn:Str->Bool
 calm:Bool
 pn:List (Addr×Obj)
 xe:Value->Shared->Prop
def frs(l:List Env):List Addr:=l.filterMap (·.frame)
abbrev Cx.fs(X:Cx):List Addr:=frs X.outer
def Vis(sc:Scope)(x:Str):Prop:=sc.names.lookup x=some .local\/sc.names.lookup x=some .cell\/sc.names.lookup x=some .free
def Loc(sc:Scope)(x:Str):Prop:=sc.names.lookup x=some .local\/sc.names.lookup x=some .cell
def zuu(env:Env)(h:Heap)(m:Str->Option Value)(x:Str)(u:Value):Prop :=
 (env.kindOf x=some .local/\m x=some u)\/((env.kindOf x=some .cell\/env.kindOf x=some .free)/\∃c,env.cells.lookup x=some c/\h.IsCell c (some u))
structure Cx.Ok (X:Cx):Prop where
 mod:Mod X.K X.mg X.base
 kind:X.env.scope.kind=.function
 glob:X.env.globals=mainGlobals
 blt:X.env.builtins=builtinsNs
 above:X.s₀.heap.objs.size<=X.env.locals
 inj:∀x y c,X.env.cells.lookup x=some c->X.env.cells.lookup y=some c->x=y
 has:∀x,(X.env.kindOf x=some .cell\/X.env.kindOf x=some .free)->∃c,X.env.cells.lookup x=some c
 cab:∀x c,X.fn x=true->X.env.cells.lookup x=some c->X.s₀.heap.objs.size<=c
 hd:X.calm=true->X.A.handled=none
 frames:X.A.frames=some X.stack
 stk:X.stack=X.outer\/(X.stack=X.env::X.outer/\X.env.frame=some X.env.locals)
 exf:∀b∈X.ex,b≠X.env.locals/\∀x c,X.env.cells.lookup x=some c->c≠b
 bs:∀b o,X.base.get? b=some o->X.s₀.heap.get? b=some o/\X.H₀ b=none
 bsz:X.base.objs.size<=X.s₀.heap.objs.size
 noex:∀b o,X.base.get? b=some o->b∉X.ex
 exfs:∀b∈X.ex,b∉X.fs
 funs:X.s₀.heap.FunFrames X.base X.outer
 frf:∀b∈X.fs,X.H₀ b=none
structure Inv (X:Cx) (pins:List (Addr×Obj)) (σ:List (Option V)) (H:Hp) (s:Shared):Prop where
 ok:X.Ok
 os:s.os=X.s₀.os
 bare:AllBare s.gens
 base:Un X.fs X.ex X.H₀ H X.s₀.heap s.heap
 loc:∃m,s.heap.Ns X.env.locals m/\∀(i:Nat) (x:Str) (v:V),X.N[i]?=some x->σ[i]?=some (some v)->Vis X.env.scope x->∃u,RelV v u/\zuu X.env s.heap m x u
 cell:∀x c,X.env.cells.lookup x=some c->∃v,s.heap.IsCell c v
 free:H X.env.locals=none
 freeC:∀x c,X.env.cells.lookup x=some c->H c=none
 pin:∀p∈X.pn++pins,s.heap.get? p.1=some p.2/\H p.1=none/\p.1≠X.env.locals/\p.1∉X.fs/\∀v,p.2.data≠.cell v
 hok:HOk X.prog X.w H s.heap
 len:σ.length=X.N.length
section
variable {X:Cx} {pins:List (Addr×Obj)} {σ:List (Option V)} {H H':Hp} {s:Shared} {h':Heap}
theorem Cx.Ok.nofr(ok:X.Ok){b:Addr}{o:Obj}(e:X.base.get? b=some o):b∉X.fs:=fun hb=>by
 have:=(ok.funs.mem hb).1
 rw[e] at this;cases this
theorem Inv.bs(I:Inv X pins σ H s):∀b o,X.base.get? b=some o->s.heap.get? b=some o/\H b=none:=fun b o e =>
 ⟨I.base.keep b o (I.ok.bs b o e).1 (I.ok.bs b o e).2 (I.ok.nofr e) (I.ok.noex b o e),I.base.free b o (I.ok.bs b o e).1 (I.ok.bs b o e).2 (I.ok.noex b o e)⟩
theorem Inv.bk(I:Inv X pins σ H s):∀b o,X.base.get? b=some o->s.heap.get? b=some o:=fun b o e=>(I.bs b o e).1
theorem Inv.mod(I:Inv X pins σ H s):Mod X.K X.mg X.base:=I.ok.mod
theorem Inv.kIn(I:Inv X pins σ H s):X.K.In s.heap:=I.ok.mod.kin.keeps I.bk
theorem Inv.lt(I:Inv X pins σ H s):X.env.locals<s.heap.objs.size:=let ⟨_,hn,_⟩:=I.loc;hn.lt
theorem Inv.sz(I:Inv X pins σ H s):X.s₀.heap.objs.size<=s.heap.objs.size:=le_trans I.ok.above (le_of_lt I.lt)
theorem Inv.nofs(I:Inv X pins σ H s){a:Addr}(h:s.heap.objs.size<=a):a∉X.fs:=fun hb=>by
 obtain⟨_,o,ho,_⟩:=I.ok.funs.mem hb
 exact absurd (lt_of_lt_of_le (Heap.lt_size ho) (le_trans I.sz h)) (lt_irrefl _)
theorem Inv.cne(I:Inv X pins σ H s):∀x c,X.env.cells.lookup x=some c->c≠X.env.locals:=fun x c e z=>by
 obtain⟨v,o,ho,hd⟩:=I.cell x c e
 obtain⟨m,⟨o',es,ep,ho',hd',_⟩,_⟩:=I.loc
 rw[z,ho'] at ho;cases ho;rw[hd'] at hd;cases hd
theorem Inv.funs(I:Inv X pins σ H s):s.heap.FunFrames X.base X.outer:=by
 have all:∀(l:List Env),(∀b∈frs l,b∈X.fs)->X.s₀.heap.FunFrames X.base l->s.heap.FunFrames X.base l:=by
  intro l
  induction l with
  | nil=>intro _ _;trivial
  | cons env r ih =>
   intro hs hl
   obtain⟨hk,⟨L,o,hf,hn,ho,hd⟩,hr⟩:=hl
   have hL:L∈X.fs:=hs L (by unfold frs;rw[filterMap_cons,hf];exact mem_cons_self)
   obtain⟨sl,e⟩:=I.base.slot L o ho (I.ok.frf L hL) hL fun z=>I.ok.exfs L z hL
   exact⟨hk,⟨L,_,hf,hn,e,hd⟩,ih (fun b hb=>hs b (by unfold frs;rw[filterMap_cons,hf];exact mem_cons_of_mem _ hb)) hr⟩
 exact all X.outer (fun _ hb=>hb) I.ok.funs
theorem Inv.stack(I:Inv X pins σ H s):s.heap.FunFrames X.base X.stack:=by
 rcases I.ok.stk with e|⟨e,hf⟩
 ·rw[e];exact I.funs
 ·rw[e]
  obtain⟨m,hn,_⟩:=I.loc
  refine .cons (by rw[I.ok.kind];decide) hf hn ?_ I.funs
  exact Heap.get?_none_of_le (le_trans I.ok.bsz I.ok.above)
theorem Inv.stkSub(I:Inv X pins σ H s):∀b∈frs X.stack,b∈X.env.locals::X.fs:=fun b hb=>by
 rcases I.ok.stk with e|⟨e,hf⟩
 ·rw[e] at hb;exact mem_cons_of_mem _ hb
 ·rw[e] at hb
  unfold frs at hb
  rw[filterMap_cons,hf] at hb
  exact hb
theorem Inv.stkFree(I:Inv X pins σ H s):∀b∈frs X.stack,H b=none:=fun b hb=>by
 rcases mem_cons.mp (I.stkSub b hb) with e|hb
 ·rw[e];exact I.free
 ·obtain⟨_,o,ho,_⟩:=I.ok.funs.mem hb
  exact I.base.free b o ho (I.ok.frf b hb) fun z=>I.ok.exfs b z hb
theorem Inv.step{g':Array GenState}{t':Nat}{d':Drawn}{ch:List Addr}(I:Inv X pins σ H s)(hch:∀b∈ch,(b∈X.ex\/X.s₀.heap.objs.size<=b)/\b≠X.env.locals/\(∀x c,X.env.cells.lookup x=some c->c≠b)/\∀p∈X.pn++pins,p.1≠b)(keep:∀b o,b≠X.env.locals->b∉X.fs->b∉ch->s.heap.get? b=some o->H b=none->h'.get? b=some o)(slot:∀b o,b≠X.env.locals->b∈X.fs->b∉ch->s.heap.get? b=some o->H b=none->∃sl,h'.get? b=some { o with slots:=sl })(free:∀b o,b∉ch->s.heap.get? b=some o->H b=none->H' b=none)(there:∀b o,b∉ch->s.heap.get? b=some o->∃o',h'.get? b=some o')(tups:∀b xs,H b=some (.tup xs)->H' b=some (.tup xs))(frzs:∀b o u,H b=some (.frz o u)->H' b=some (.frz o u))(tbls:∀b ps,H b=some (.tbl ps)->∃more,H' b=some (.tbl (ps++more)))(ns:∀m,s.heap.Ns X.env.locals m->h'.Ns X.env.locals m)(hok:HOk X.prog X.w H' h')(hg:AllBare g') :
  Inv X pins σ H' { s with heap:=h',gens:=g',drawn:=d',toks:=t' }:=by
 have neL:∀b o,X.s₀.heap.get? b=some o->b≠X.env.locals:=fun b o e=>ne_of_lt (lt_of_lt_of_le (Heap.lt_size e) I.ok.above)
 have neC:∀b o,X.s₀.heap.get? b=some o->b∉X.ex->b∉ch:=fun b o e hx hb=>by
  rcases(hch b hb).1 with z|z
  ·exact hx z
  ·exact absurd (lt_of_lt_of_le (Heap.lt_size e) z) (lt_irrefl _)
 have cellK:∀x c,X.env.cells.lookup x=some c->∀v,s.heap.IsCell c v->h'.IsCell c v:=fun x c e v ⟨o,ho,hd⟩=>by
  have nch:c∉ch:=fun z=>(hch c z).2.2.1 x c e rfl
  by_cases hc:c∈X.fs
  ·obtain⟨sl,q⟩:=slot c o (I.cne x c e) hc nch ho (I.freeC x c e)
   exact⟨_,q,hd⟩
  ·exact⟨o,keep c o (I.cne x c e) hc nch ho (I.freeC x c e),hd⟩
 refine⟨I.ok,I.os,hg,⟨fun b o e n hb hx=>?_,fun b o e n hb hx=>?_,fun b o e n hx=>?_,fun b o e hx=>?_,fun b xs e=>tups b xs (I.base.tups b xs e),fun b o xs e=>frzs b o xs (I.base.frzs b o xs e),fun b ps e=>?_⟩,?_,fun x c e=>?_,?_,fun x c e=>?_,fun p hp=>?_,hok,I.len⟩
 ·exact keep b o (neL b o e) hb (neC b o e hx) (I.base.keep b o e n hb hx) (I.base.free b o e n hx)
 ·obtain⟨sl,e1⟩:=I.base.slot b o e n hb hx
  obtain⟨sl',e2⟩:=slot b _ (neL b o e) hb (neC b o e hx) e1 (I.base.free b o e n hx)
  exact⟨sl',e2⟩
 ·obtain⟨o',e1⟩:=I.base.there b o e hx
  exact free b o' (neC b o e hx) e1 (I.base.free b o e n hx)
 ·obtain⟨o',e1⟩:=I.base.there b o e hx
  exact there b o' (neC b o e hx) e1
 ·obtain⟨m1,e1⟩:=I.base.tbls b ps e
  obtain⟨m2,e2⟩:=tbls b _ e1
  exact⟨m1++m2,by rw[e2,Array.append_assoc]⟩
 ·obtain⟨m,hn,hl⟩:=I.loc
  refine⟨m,ns m hn,fun i x v e1 e2 e3=>?_⟩
  obtain⟨u,r,l⟩:=hl i x v e1 e2 e3
  refine⟨u,r,?_⟩
  rcases l with l|⟨k,c,e,z⟩
  ·exact .inl l
  ·exact .inr ⟨k,c,e,cellK x c e _ z⟩
 ·obtain⟨v,z⟩:=I.cell x c e
  exact⟨v,cellK x c e v z⟩
 ·obtain⟨m,⟨o,_,_,ho,_⟩,_⟩:=I.loc
  exact free _ o (fun z=>(hch _ z).2.1 rfl) ho I.free
 ·obtain⟨v,o,ho,hd⟩:=I.cell x c e
  exact free c o (fun z=>(hch c z).2.2.1 x c e rfl) ho (I.freeC x c e)
 ·obtain⟨e,n,ne,nf,d⟩:=I.pin p hp
  have nch:p.1∉ch:=fun z=>(hch p.1 z).2.2.2 p hp rfl
  exact⟨keep p.1 p.2 ne nf nch e n,free p.1 p.2 nch e n,ne,nf,d⟩
theorem Inv.un{t':Nat}(I:Inv X pins σ H s)(u:Un X.fs [] H H' s.heap h')(hok:HOk X.prog X.w H' h'):Inv X pins σ H' { s with heap:=h',toks:=t' }:=by
 obtain⟨m,⟨o,es,ep,ho,r⟩,_⟩:=id I.loc
 obtain⟨sl,hL⟩:=u.any ho I.free (by simp)
 exact I.step (g':=s.gens) (d':=s.drawn) (ch:=[]) (fun _ z=>nomatch z) (fun b o _ hb _ e n=>u.keep b o e n hb (by simp)) (fun b o _ hb _ e n=>u.slot b o e n hb (by simp)) (fun b o _ e n=>u.free b o e n (by simp)) (fun b o _ e=>u.there b o e (by simp)) u.tups u.frzs u.tbls (fun m' hm=>by
  obtain⟨o',es',ep',ho',r'⟩:=hm
  rw[ho] at ho';cases ho'
  exact⟨_,es',ep',hL,r'⟩) hok I.bare
theorem Inv.call{g':Array GenState}{t':Nat}{d':Drawn}{ch:List Addr}(I:Inv X pins σ H s)(u:Un (frs X.stack) ch H H' s.heap h')(hok:HOk X.prog X.w H' h')(hg:AllBare g')(hch:∀b∈ch,(b∈X.ex\/X.s₀.heap.objs.size<=b)/\b≠X.env.locals/\(∀x c,X.env.cells.lookup x=some c->c≠b)/\∀p∈X.pn++pins,p.1≠b) :
  Inv X pins σ H' { s with heap:=h',gens:=g',drawn:=d',toks:=t' }:=by
 obtain⟨m,⟨o,es,ep,ho,r⟩,_⟩:=id I.loc
 obtain⟨sl,hL⟩:=u.any ho I.free fun z=>(hch _ z).2.1 rfl
 exact I.step (ch:=ch) hch (fun b o hL hb hc e n=>u.keep b o e n (fun z=>(mem_cons.mp (I.stkSub b z)).elim hL hb) hc) (fun b o _ _ hc e n=>u.any e n hc) (fun b o hc e n=>u.free b o e n hc) (fun b o hc e=>u.there b o e hc) u.tups u.frzs u.tbls (fun m' hm=>by
  obtain⟨o',es',ep',ho',r'⟩:=hm
  rw[ho] at ho';cases ho'
  exact⟨_,es',ep',hL,r'⟩) hok hg
theorem Inv.turned{t':Nat}{it:Addr}(I:Inv X pins σ H s)(k:∀b o,b≠it->s.heap.get? b=some o->h'.get? b=some o)(hn:H it=none)(hL:it≠X.env.locals)(h1:it∈X.ex\/X.s₀.heap.objs.size<=it)(h2:∀x c,X.env.cells.lookup x=some c->c≠it)(h3:∀p∈X.pn++pins,p.1≠it):Inv X pins σ H { s with heap:=h',toks:=t' }:=by
 have nit:∀b u,H b=some u->b≠it:=fun b u e z=>by rw[z,hn] at e;cases e
 refine I.step (g':=s.gens) (d':=s.drawn) (ch:=[it]) (fun b hb=>?_) (fun b o _ _ hc e _=>k b o (fun z=>hc (by simp[z])) e) (fun b o _ _ hc e _=>⟨o.slots,k b o (fun z=>hc (by simp[z])) e⟩) (fun _ _ _ _ n=>n)
  (fun b o hc e=>⟨o,k b o (fun z=>hc (by simp[z])) e⟩) (fun _ _ e=>e) (fun _ _ _ e=>e) (fun b ps e=>⟨#[],by rw[e];simp⟩) (fun m hm=>?_) (fun b u e=>?_) I.bare
 ·have e:b=it:=by simpa using hb
  subst e
  exact⟨h1,hL,h2,h3⟩
 ·obtain⟨o,es,ep,ho,r⟩:=hm
  exact⟨o,es,ep,k _ o (Ne.symm hL) ho,r⟩
 ·refine(I.hok b u e).stay (fun c v hc q=>k c v ?_ q) (fun _ q=>q) fun _ _ q=>q
  rcases hc with z|z
  ·rw[z];exact nit b u e
  ·exact nit c _ z
theorem Inv.tok(I:Inv X pins σ H s)(t:Nat):Inv X pins σ H { s with toks:=t }:=I.un (h':=s.heap) (t':=t) Un.refl I.hok
theorem Inv.kept{t':Nat}(I:Inv X pins σ H s)(k:∀b u,s.heap.get? b=some u->h'.get? b=some u):Inv X pins σ H { s with heap:=h',toks:=t' }:=I.un (Un.kept k) (I.hok.kept k)
theorem Inv.laid{a:Addr}{o:HO}{t':Nat}(I:Inv X pins σ H s)(k:∀b u,s.heap.get? b=some u->h'.get? b=some u)(hp:s.heap.objs.size<=a)(new:ObjOk X.prog X.w (upd H a o) h' a o) :
  Inv X pins σ (upd H a o) { s with heap:=h',toks:=t' }:=I.un (Un.laid k hp (I.hok.fresh hp)) (I.hok.laid k hp new)
theorem Inv.write{x e:Addr}{o:HO}{t':Nat}(I:Inv X pins σ H s)(mu:Mut (H x))(he:e=x\/H e=some (.own x))(k:∀b u,b≠e->s.heap.get? b=some u->h'.get? b=some u)(heo:∃u,h'.get? e=some u)(new:ObjOk X.prog X.w (upd H x o) h' x o):Inv X pins σ (upd H x o) { s with heap:=h',toks:=t' }:=I.un (Un.write mu he k heo) (I.hok.write mu he k heo new)
theorem Inv.weak{σ':List (Option V)}(I:Inv X pins σ H s)(hl:σ'.length=σ.length)(w:∀(i:Nat) v,σ'[i]?=some (some v)->σ[i]?=some (some v)):Inv X pins σ' H s :=
 ⟨I.ok,I.os,I.bare,I.base,let ⟨m,hn,hl'⟩:=I.loc;⟨m,hn,fun i x v e1 e2 e3=>hl' i x v e1 (w i v e2) e3⟩,I.cell,I.free,I.freeC,I.pin,I.hok,hl.trans I.len⟩
theorem Inv.pins_of{pins':List (Addr×Obj)}(I:Inv X pins σ H s)(h:∀p∈pins',s.heap.get? p.1=some p.2/\H p.1=none/\p.1≠X.env.locals/\p.1∉X.fs/\∀v,p.2.data≠.cell v):Inv X pins' σ H s :=
 ⟨I.ok,I.os,I.bare,I.base,I.loc,I.cell,I.free,I.freeC,fun p hp=>(mem_append.mp hp).elim (fun z=>I.pin p (mem_append_left _ z)) (h p),I.hok,I.len⟩
theorem zgh{N:List Str}(hN:N.Nodup){i j:Nat}{x:Str}(a:N[i]?=some x)(b:N[j]?=some x):i=j:=by
 obtain⟨h1,e1⟩:=List.getElem?_eq_some_iff.mp a
 obtain⟨h2,e2⟩:=List.getElem?_eq_some_iff.mp b
 exact(getElem_inj hN).mp (e1.trans e2.symm)
theorem zkf{M:Model}{A:Around}{E:Value->Shared->Prop}{i:Nat}{x:Str}{v:V}{u:Value}{Q:Unit->Shared->Prop}(I:Inv X pins σ H s)(hN:X.N.Nodup)(hi:X.N[i]?=some x)(hx:Loc X.env.scope x)(r:RelV v u)(h:∀s',Inv X pins (σ.set i (some v)) H s'->(∃a,Heap.SameBut a s.heap s'.heap/\(a=X.env.locals\/X.env.cells.lookup x=some a))->Q () s')(hf:X.fn x=true\/X.env.scope.names.lookup x=some .local:=by first|exact .inl rfl|exact .inr rfl|assumption):wpAny M A (storeName X.env x u) Q E s:=by
 obtain⟨m,hn,hl⟩:=id I.loc
 have hcls:(X.env.scope.kind==.class||(X.env.scope.kind==.module&&X.env.locals != X.env.globals))=false:=by rw[I.ok.kind];rfl
 have hiσ:i<σ.length:=by rw[I.len];exact(List.getElem?_eq_some_iff.mp hi).1
 have cne:=I.cne
 have tracked:∀{a:Addr} {h':Heap},(∃o,s.heap.get? a=some o/\H a=none)->Heap.SameBut a s.heap h'->HOk X.prog X.w H h':=fun {a h'} ha hs b ob e=>by
  obtain⟨_,_,hfree⟩:=ha
  refine(I.hok b ob e).stay (fun c w' hc q=>(hs.2 c ?_).trans q) (fun _ q=>q) fun _ _ q=>q
  rintro rfl
  rcases hc with rfl|hc
  ·rw[hfree] at e;cases e
  ·rw[hfree] at hc;cases hc
 rcases hx with hk|hk
 ·refine wpAny_storeName_local hk hn (fun h' hn' hs=>?_) hcls
  obtain⟨oL,_,_,hoL,_⟩:=id hn
  refine h _ ⟨I.ok,I.os,I.bare,⟨fun b o e n hb hx=>?_,fun b o e n hb hx=>?_,I.base.free,fun b o e hx=>?_,I.base.tups,I.base.frzs,I.base.tbls⟩,⟨_,hn',fun j y v' e1 e2 e3=>?_⟩,fun y c e=>?_,I.free,I.freeC,fun p hp=>?_,tracked ⟨oL,hoL,I.free⟩ hs,by simpa using I.len⟩ ⟨_,hs,.inl rfl⟩
  ·exact(hs.2 b (ne_of_lt (lt_of_lt_of_le (Heap.lt_size e) I.ok.above))).trans (I.base.keep b o e n hb hx)
  ·obtain⟨sl,e1⟩:=I.base.slot b o e n hb hx
   exact⟨sl,(hs.2 b (ne_of_lt (lt_of_lt_of_le (Heap.lt_size e) I.ok.above))).trans e1⟩
  ·obtain⟨o',e1⟩:=I.base.there b o e hx
   exact⟨o',(hs.2 b (ne_of_lt (lt_of_lt_of_le (Heap.lt_size e) I.ok.above))).trans e1⟩
  ·by_cases hj:j=i
   ·subst hj
    rw[hi] at e1;cases e1
    rw[getElem?_set_self hiσ] at e2
    cases e2
    exact⟨u,r,.inl ⟨hk,by simp⟩⟩
   ·rw[getElem?_set_ne (Ne.symm hj)] at e2
    obtain⟨u',r',q⟩:=hl j y v' e1 e2 e3
    refine⟨u',r',?_⟩
    rcases q with ⟨k,e⟩|⟨k,c,e,z⟩
    ·refine .inl ⟨k,?_⟩
     have:y≠x:=fun e=>hj (zgh hN e1 (e▸hi))
     simp[this,e]
    ·exact .inr ⟨k,c,e,z.sameBut hs (cne y c e)⟩
  ·obtain⟨w',z⟩:=I.cell y c e
   exact⟨w',z.sameBut hs (cne y c e)⟩
  ·obtain⟨e,n,ne,nf,d⟩:=I.pin p hp
   exact⟨(hs.2 p.1 ne).trans e,n,ne,nf,d⟩
 ·have hfn:X.fn x=true:=by
   rcases hf with z|z
   ·exact z
   ·rw[z] at hk;cases hk
  obtain⟨c,hc⟩:=I.ok.has x (.inl hk)
  obtain⟨w',z⟩:=I.cell x c hc
  refine wpAny_storeName_cell I.ok.kind hk hc z (fun h' hc' hs=>?_)
  obtain⟨oc,hoc,hocd⟩:=id z
  refine h { s with heap:=h' } ⟨I.ok,I.os,I.bare,⟨fun b o e n hb hx=>?_,fun b o e n hb hx=>?_,I.base.free,fun b o e hx=>?_,I.base.tups,I.base.frzs,I.base.tbls⟩,⟨m,hn.sameBut hs (Ne.symm (cne x c hc)),fun j y v' e1 e2 e3=>?_⟩,fun y c' e=>?_,I.free,I.freeC,fun p hp=>?_,tracked ⟨oc,hoc,I.freeC x c hc⟩ hs,by simpa using I.len⟩ ⟨c,hs,.inr hc⟩
  ·exact(hs.2 b (ne_of_lt (lt_of_lt_of_le (Heap.lt_size e) (I.ok.cab x c hfn hc)))).trans (I.base.keep b o e n hb hx)
  ·obtain⟨sl,e1⟩:=I.base.slot b o e n hb hx
   exact⟨sl,(hs.2 b (ne_of_lt (lt_of_lt_of_le (Heap.lt_size e) (I.ok.cab x c hfn hc)))).trans e1⟩
  ·obtain⟨o',e1⟩:=I.base.there b o e hx
   exact⟨o',(hs.2 b (ne_of_lt (lt_of_lt_of_le (Heap.lt_size e) (I.ok.cab x c hfn hc)))).trans e1⟩
  ·by_cases hj:j=i
   ·subst hj
    rw[hi] at e1;cases e1
    rw[getElem?_set_self hiσ] at e2
    cases e2
    exact⟨u,r,.inr ⟨.inl hk,c,hc,hc'⟩⟩
   ·rw[getElem?_set_ne (Ne.symm hj)] at e2
    obtain⟨u',r',q⟩:=hl j y v' e1 e2 e3
    refine⟨u',r',?_⟩
    rcases q with q|⟨k,c',e,z'⟩
    ·exact .inl q
    ·refine .inr ⟨k,c',e,z'.sameBut hs ?_⟩
     rintro rfl
     exact hj (zgh hN e1 (I.ok.inj _ _ _ e hc▸hi))
  ·by_cases hcc:c'=c
   ·subst hcc;exact⟨_,hc'⟩
   ·obtain⟨w2,z2⟩:=I.cell y c' e
    exact⟨w2,z2.sameBut hs hcc⟩
  ·obtain⟨e,n,ne,nf,d⟩:=I.pin p hp
   refine⟨(hs.2 p.1 ?_).trans e,n,ne,nf,d⟩
   intro q
   rw[q,hoc] at e
   have q':oc=p.2:=Option.some.inj e
   exact d w' (by rw[<- q'];exact hocd)
theorem zeO{M:Model}{A:Around}{E:Value->Shared->Prop}{i:Nat}{x:Str}{v:V}{u:Value}{Q:Unit->Shared->Prop}(I:Inv X pins σ H s)(hN:X.N.Nodup)(hi:X.N[i]?=some x)(hx:Loc X.env.scope x)(r:RelV v u)(h:∀s',Inv X pins (σ.set i (some v)) H s'->Q () s')(hf:X.fn x=true\/X.env.scope.names.lookup x=some .local:=by first|exact .inl rfl|exact .inr rfl|assumption):wpAny M A (storeName X.env x u) Q E s :=
 zkf I hN hi hx r (fun s' I' _=>h s' I') hf
theorem Inv.call'{s':Shared}{ch:List Addr}(I:Inv X pins σ H s)(ho:s'.os=s.os)(u:Un (frs X.stack) ch H H' s.heap s'.heap)(hok:HOk X.prog X.w H' s'.heap)(hg:AllBare s'.gens)(hch:∀b∈ch,(b∈X.ex\/X.s₀.heap.objs.size<=b)/\b≠X.env.locals/\(∀x c,X.env.cells.lookup x=some c->c≠b)/\∀p∈X.pn++pins,p.1≠b):Inv X pins σ H' s':=by
 obtain⟨h',g',d',t',o'⟩:=s'
 have e:o'=s.os:=ho
 subst e
 exact I.call (g':=g') (t':=t') (d':=d') u hok hg hch
end
abbrev XK:=Value->Option Addr->Hp->Prop
abbrev St:=List (Option V)
abbrev VK:=V->Hp->Prop
abbrev TE:=St->Hp->VK->Prop
abbrev TT:=St->Hp->(Bool->Hp->Prop)->Prop
abbrev TA:=St->Hp->(List V->Hp->Prop)->Prop
structure Ends where
 nx:St->Hp->Prop
 rt:VK
 bk:St->Hp->Prop:=fun _ _=>False
 ct:St->Hp->Prop:=fun _ _=>False
abbrev TS:=Ends->St->Hp->Prop
def EP(X:Cx)(pins:List (Addr×Obj))(σ:St)(Q:VK)(u:Value)(s':Shared):Prop:=∃v H',Inv X pins σ H' s'/\RelV v u/\Q v H'
def TP(X:Cx)(pins:List (Addr×Obj))(σ:St)(Q:Bool->Hp->Prop)(b:Bool)(s':Shared):Prop:=∃H',Inv X pins σ H' s'/\Q b H'
def AP(X:Cx)(pins:List (Addr×Obj))(σ:St)(Q:List V->Hp->Prop)(us:List Value)(s':Shared):Prop:=∃vs H',Inv X pins σ H' s'/\Vals vs us/\Q vs H'
def SP(X:Cx)(pins:List (Addr×Obj))(D:Ends)(f:Flow)(s':Shared):Prop :=
 match f with
 | .next=>∃σ' H',Inv X pins σ' H' s'/\D.nx σ' H'
 | .brk=>∃σ' H',Inv X pins σ' H' s'/\D.bk σ' H'
 | .cont=>∃σ' H',Inv X pins σ' H' s'/\D.ct σ' H'
 | .ret u=>∃v σ' H',Inv X pins σ' H' s'/\RelV v u/\D.rt v H'
def PE(X:Cx)(e:Expr)(t:TE):Prop :=
 ∀(pins:List (Addr×Obj)) (s:Shared) (σ:St) (H:Hp) (Q:VK),Inv X pins σ H s->t σ H Q->wpAny (model X.prog X.w) X.A (eval e X.env) (EP X pins σ Q) X.xe s
def PT(X:Cx)(e:Expr)(t:TT):Prop :=
 ∀(pins:List (Addr×Obj)) (s:Shared) (σ:St) (H:Hp) (Q:Bool->Hp->Prop),Inv X pins σ H s->t σ H Q->wpAny (model X.prog X.w) X.A (isTrue e X.env (eval e X.env)) (TP X pins σ Q) X.xe s
def PW(X:Cx)(e:Expr)(t:TT):Prop :=
 ∀(whole:Sem Value) (pins:List (Addr×Obj)) (s:Shared) (σ:St) (H:Hp) (Q:Bool->Hp->Prop),Inv X pins σ H s->t σ H Q->wpAny (model X.prog X.w) X.A (isTrue e X.env whole) (TP X pins σ Q) X.xe s
theorem PW.pt{X:Cx}{e:Expr}{t:TT}(h:PW X e t):PT X e t:=h _
def PA(X:Cx)(es:List Expr)(t:TA):Prop :=
 ∀(pos:Pos) (pins:List (Addr×Obj)) (s:Shared) (σ:St) (H:Hp) (Q:List V->Hp->Prop),Inv X pins σ H s->t σ H Q->wpAny (model X.prog X.w) X.A (spliced (backTo pos (starEach es X.env))) (AP X pins σ Q) X.xe s
def PS(X:Cx)(st:Stmt)(t:TS):Prop :=
 ∀(pins:List (Addr×Obj)) (s:Shared) (σ:St) (H:Hp) (D:Ends),Inv X pins σ H s->t D σ H->wpAny (model X.prog X.w) X.A (exec st X.env) (SP X pins D) X.xe s
def PSs(X:Cx)(st:List Stmt)(t:TS):Prop :=
 ∀(pins:List (Addr×Obj)) (s:Shared) (σ:St) (H:Hp) (D:Ends),Inv X pins σ H s->t D σ H->wpAny (model X.prog X.w) X.A (execs st X.env) (SP X pins D) X.xe s
theorem thn{α:Type}{t:Sem α}{Q Q':α->Shared->Prop}{M:Model}{A:Around}{E:Value->Shared->Prop}{s:Shared}(h:wpAny M A t Q E s)(hQ:∀a s,Q a s->Q' a s):wpAny M A t Q' E s:=wpAny_mono h hQ fun _ _ x=>x
section
variable {X:Cx}
def zuv(i:Nat):TE:=fun σ H Q=>∃v,σ[i]?=some (some v)/\Q v H
def tC(v:V):TE:=fun _ H Q=>Q v H
theorem zfR{i:Nat}{x:Str}{pos:Pos}(hN:X.N[i]?=some x)(hv:Vis X.env.scope x)(hd:(x==("__debug__" : Str))=false:=by decide)(hcd:(x==("__classdict__" : Str))=false:=by decide):PE X (.Name x pos) (zuv i):=by
 intro pins s σ H Q I h
 obtain⟨v,e,h⟩:=h
 obtain⟨m,hn,hl⟩:=I.loc
 obtain⟨u,r,l⟩:=hl i x v hN e hv
 have fin:EP X pins σ Q u s:=⟨v,H,I,r,h⟩
 rcases l with ⟨hk,hm⟩|⟨hk,c,hc,hcell⟩
 ·exact wpAny_Name (wpAny_loadName_local I.ok.kind hk hn hm fin) hd
 ·rcases hk with hk|hk
  ·exact wpAny_Name (wpAny_loadName_cell I.ok.kind hk hc hcell fin) hd
  ·exact wpAny_Name (wpAny_loadName_free I.ok.kind hk hc hcell fin hcd) hd
theorem zql{i j pos}:PE X (.Constant (.int i) j pos) (tC (.int i)):=fun _ _ _ H _ I h=>wpAny_Constant_int ⟨.int i,H,I.tok _,⟨_,rfl⟩,h⟩
theorem zsw{b j pos}:PE X (.Constant (.bool b) j pos) (tC (.bl b)):=fun _ _ _ H _ I h=>Constant_bool ⟨.bl b,H,I,rfl,h⟩
theorem zqm{j pos}:PE X (.Constant .none j pos) (tC .non):=fun _ _ _ H _ I h=>Constant_none ⟨.non,H,I,rfl,h⟩
theorem zqn{x j pos}:PE X (.Constant (.str x) j pos) (tC (.str x)):=fun _ _ _ H _ I h=>Calls.Constant_str ⟨.str x,H,I.tok _,⟨_,rfl⟩,h⟩
def Gl(X:Cx)(x:Str):Prop:=X.env.kindOf x=some .globalImplicit
theorem zcn{E:Value->Shared->Prop}{pins:List (Addr×Obj)}{s:Shared}{σ:St}{H:Hp}{x:Str}{u:Value}{pos:Pos}{Q:Value->Shared->Prop}(I:Inv X pins σ H s)(hg:Gl X x)(hm:X.mg x=some u)(h:Q u s)(hd:(x==("__debug__" : Str))=false:=by decide):wpAny (model X.prog X.w) X.A (eval (.Name x pos) X.env) Q E s :=
 Calls.Name_function_global I.ok.kind hg (Calls.loadGlobal_global (by rw[I.ok.glob];exact I.mod.glob.keeps I.bk) hm h) hd
theorem zhd{E:Value->Shared->Prop}{pins:List (Addr×Obj)}{s:Shared}{σ:St}{H:Hp}{x:Str}{u:Value}{pos:Pos}{Q:Value->Shared->Prop}(I:Inv X pins σ H s)(hg:Gl X x)(hm:X.mg x=none)(hv:bootBuiltins x=some u)(h:Q u s)(hn:x ≠ "__name__" := by decide)(hd:(x==("__debug__" : Str))=false:=by decide):wpAny (model X.prog X.w) X.A (eval (.Name x pos) X.env) Q E s:=by
 obtain⟨mb,h1,h2⟩:=I.mod.blt
 exact Calls.Name_function_global I.ok.kind hg (Calls.loadGlobal_builtin (by rw[I.ok.glob];exact I.mod.glob.keeps I.bk) hm (by rw[I.ok.blt];exact h1.keeps I.bk) ((h2 x hn).trans hv) h) hd
theorem zh6{x:Str}{v:V}{u:Value}{pos:Pos}(hg:Gl X x)(hm:X.mg x=some u)(r:RelV v u)(hd:(x==("__debug__" : Str))=false:=by decide):PE X (.Name x pos) (tC v) :=
 fun _ _ _ H _ I h=>zcn I hg hm ⟨v,H,I,r,h⟩ hd
theorem zkg{x:Str}{v:V}{u:Value}{pos:Pos}(hg:Gl X x)(hm:X.mg x=none)(hv:bootBuiltins x=some u)(r:RelV v u)(hn:x ≠ "__name__" := by decide)(hd:(x==("__debug__" : Str))=false:=by decide):PE X (.Name x pos) (tC v) :=
 fun _ _ _ H _ I h=>zhd I hg hm hv ⟨v,H,I,r,h⟩ hn hd
variable {a b:Expr} {ta tb:TE} {pos:Pos}
def PC(X:Cx)(op:CmpOp)(a b:Expr)(t:TE):Prop :=
 ∀(pins:List (Addr×Obj)) (s:Shared) (σ:St) (H:Hp) (Q:VK),Inv X pins σ H s->t σ H Q ->
  wpAny (model X.prog X.w) X.A (eval a X.env) (fun v s₁=>wpAny (model X.prog X.w) X.A (eval b X.env) (fun u s₂=>wpAny (model X.prog X.w) X.A (compareOp op v u) (EP X pins σ Q) X.xe s₂) X.xe s₁) X.xe s
def zuw(ta:TE):TE:=fun σ H Q=>ta σ H fun x H1=>Q (.bl (decide (x=.non))) H1
def zsx(ta:TE):TE:=fun σ H Q=>ta σ H fun x H1=>Q (.bl (!decide (x=.non))) H1
theorem RelV.none_iff{x:V}{v:Value}(r:RelV x v):(v==Value.none)=decide (x=.non):=by
 cases x with
 | non=>cases r;rfl
 | bl _=>cases r;rfl
 | int _=>obtain⟨t,rfl⟩:=r;rfl
 | str _=>obtain⟨t,rfl⟩:=r;rfl
 | byt _=>obtain⟨t,rfl⟩:=r;rfl
 | flt _=>obtain⟨t,rfl⟩:=r;rfl
 | ref _=>cases r;rfl
 | ty _=>cases r;rfl
theorem zqo{j pos'}(ha:PE X a ta):PC X .Is a (.Constant .none j pos') (zuw ta):=by
 intro pins s σ H Q I h
 refine thn (ha pins s σ H _ I h) fun v s1 ⟨x,H1,I1,r1,q1⟩=>?_
 exact Constant_none (is_none_gen ⟨.bl _,H1,I1,by rw[r1.none_iff];rfl,q1⟩)
theorem zoC{j pos'}(ha:PE X a ta):PC X .IsNot a (.Constant .none j pos') (zsx ta):=by
 intro pins s σ H Q I h
 refine thn (ha pins s σ H _ I h) fun v s1 ⟨x,H1,I1,r1,q1⟩=>?_
 exact Constant_none (isnot_none_gen ⟨.bl _,H1,I1,by rw[r1.none_iff];rfl,q1⟩)
def tB(t:TE):TT:=fun σ H Q=>t σ H fun x H1=>∃c,x=.bl c/\Q c H1
theorem zqp{op:CmpOp}{t:TE}(h:PC X op a b t)(h1:behindInMarks op b=false:=by first|exact nobehind _ (by decide) (by decide)|rfl):PT X (.Compare a [op] [b] pos) (tB t):=by
 intro pins s σ H Q I hw
 refine wpAny_isTrue_Compare1 (thn (h pins s σ H _ I hw) fun v s1 h1=>thn h1 fun u s2 h2=>thn h2 fun c s3 ⟨x,H1,I1,r1,q1⟩=>?_) h1
 obtain⟨d,rfl,q⟩:=q1
 cases r1
 exact wpAny_truthy_bool ⟨H1,I1,q⟩
theorem zqq{e:Expr}{t:TE}(h:PE X e t)(he:∀whole,isTrue e X.env whole=(do let v <- whole;standAt e.pos;holding [v] (truthy v)):=by intro _;rfl):PT X e (tB t):=by
 intro pins s σ H Q I hw
 refine isTrue_plain (thn (h pins s σ H _ I hw) fun v s1 ⟨x,H1,I1,r1,q1⟩=>?_) (he _)
 obtain⟨d,rfl,q⟩:=q1
 cases r1
 exact wpAny_truthy_bool ⟨H1,I1,q⟩
variable {tA tB':TT} {rest:List Expr}
def zux(t u:TT):TT:=fun σ H Q=>t σ H fun c H1=>if c=true then u σ H1 Q else Q false H1
def tOr(t u:TT):TT:=fun σ H Q=>t σ H fun c H1=>if c=true then Q true H1 else u σ H1 Q
def zuy(t:TT):TT:=fun σ H Q=>t σ H fun c H1=>Q (!c) H1
theorem zoD(ha:PT X a tA):PW X (.BoolOp .And [a] pos) tA:=by
 intro wh pins s σ H Q I h
 refine isTrue_and (thn (ha pins s σ H Q I h) fun c s1 e=>?_)
 cases c with
 | true=>exact isTrue_and_nil e
 | false=>exact e
theorem zqr(ha:PT X a tA):PW X (.BoolOp .Or [a] pos) tA:=by
 intro wh pins s σ H Q I h
 refine isTrue_or (thn (ha pins s σ H Q I h) fun c s1 e=>?_)
 cases c with
 | false=>exact isTrue_or_nil e
 | true=>exact e
theorem zqs(ha:PT X a tA)(hb:PW X (.BoolOp .And (b::rest) pos) tB'):PW X (.BoolOp .And (a::b::rest) pos) (zux tA tB'):=by
 intro wh pins s σ H Q I h
 refine isTrue_and (thn (ha pins s σ H _ I h) fun c s1 ⟨H1,I1,q1⟩=>?_)
 cases c with
 | true=>exact hb wh pins s1 σ H1 Q I1 q1
 | false=>exact⟨H1,I1,q1⟩
theorem zsy(ha:PT X a tA)(hb:PW X (.BoolOp .Or (b::rest) pos) tB'):PW X (.BoolOp .Or (a::b::rest) pos) (tOr tA tB'):=by
 intro wh pins s σ H Q I h
 refine isTrue_or (thn (ha pins s σ H _ I h) fun c s1 ⟨H1,I1,q1⟩=>?_)
 cases c with
 | true=>exact⟨H1,I1,q1⟩
 | false=>exact hb wh pins s1 σ H1 Q I1 q1
theorem zqt(ha:PT X a tA):PT X (.UnaryOp .Not a pos) (zuy tA):=by
 intro pins s σ H Q I h
 exact isTrue_not (ha pins s σ H (fun c H1=>Q (!c) H1) I h)
def zsz(ta tb:TE):TE:=fun σ H Q=>ta σ H fun x H1=>∃c,x=.bl c/\if c=true then tb σ H1 Q else Q (.bl false) H1
def zuz(ta tb:TE):TE:=fun σ H Q=>ta σ H fun x H1=>∃c,x=.bl c/\if c=true then Q (.bl true) H1 else tb σ H1 Q
def zsA(ta:TE):TE:=fun σ H Q=>ta σ H fun x H1=>∃c,x=.bl c/\Q (.bl (!c)) H1
theorem zqu{op}{t:TE}(h:PE X a t):PE X (.BoolOp op [a] pos) t:=fun pins s σ H Q I hw=>BoolOp_one (h pins s σ H Q I hw)
theorem zqv(ha:PE X a ta)(hb:PE X (.BoolOp .And (b::rest) pos) tb):PE X (.BoolOp .And (a::b::rest) pos) (zsz ta tb):=by
 intro pins s σ H Q I h
 refine BoolOp_and (thn (ha pins s σ H _ I h) fun v s1 ⟨x,H1,I1,r1,q1⟩=>?_)
 obtain⟨c,rfl,q1⟩:=q1
 cases r1
 refine wpAny_truthy_bool ?_
 cases c with
 | true=>exact hb pins s1 σ H1 Q I1 q1
 | false=>exact⟨.bl false,H1,I1,rfl,q1⟩
theorem zsB(ha:PE X a ta)(hb:PE X (.BoolOp .Or (b::rest) pos) tb):PE X (.BoolOp .Or (a::b::rest) pos) (zuz ta tb):=by
 intro pins s σ H Q I h
 refine BoolOp_or (thn (ha pins s σ H _ I h) fun v s1 ⟨x,H1,I1,r1,q1⟩=>?_)
 obtain⟨c,rfl,q1⟩:=q1
 cases r1
 refine wpAny_truthy_bool ?_
 cases c with
 | false=>exact hb pins s1 σ H1 Q I1 q1
 | true=>exact⟨.bl true,H1,I1,rfl,q1⟩
theorem zqw(ha:PE X a ta):PE X (.UnaryOp .Not a pos) (zsA ta):=by
 intro pins s σ H Q I h
 refine UnaryOp_ (thn (ha pins s σ H _ I h) fun v s1 ⟨x,H1,I1,r1,q1⟩=>?_)
 obtain⟨c,rfl,q1⟩:=q1
 cases r1
 exact not_of (wpAny_truthy_bool ⟨.bl (!c),H1,I1,rfl,q1⟩)
def tIf(t:TT)(ta tb:TE):TE:=fun σ H Q=>t σ H fun c H1=>if c=true then ta σ H1 Q else tb σ H1 Q
theorem zmj{c:Expr}(hc:PT X c tA)(ha:PE X a ta)(hb:PE X b tb):PE X (.IfExp c a b pos) (tIf tA ta tb):=by
 intro pins s σ H Q I h
 refine wpAny_IfExp (thn (hc pins s σ H _ I h) fun d s1 ⟨H1,I1,q1⟩=>?_)
 cases d with
 | true=>exact ha pins s1 σ H1 Q I1 q1
 | false=>exact hb pins s1 σ H1 Q I1 q1
end
def SqL(K:PySem.W.Frag)(H:Hp)(a:Addr)(xs:List V):Prop :=
 Rd H a (.lst xs) \/
  ∃(o:Obj) (its:Array Value) (n:Nat),K.lookup a=some o/\o.cls=.type "list" /\ o.dict=none/\o.data=.seq its n/\its.size<=sizeLine/\Vals xs its.toList
def SqT(K:PySem.W.Frag)(H:Hp)(a:Addr)(xs:List V):Prop :=
 Rd H a (.tup xs) \/
  ∃(o:Obj) (its:Array Value) (n:Nat),K.lookup a=some o/\o.cls=.type "tuple" /\ o.data=.seq its n/\its.size<=sizeLine/\Vals xs its.toList
def zuA:Value->Option V
 | .none=>some .non
 | .bool b=>some (.bl b)
 | .int i _=>some (.int i)
 | .str x _=>some (.str x)
 | .bytes b _=>some (.byt b)
 | .float b _=>some (.flt b)
 | .ref a=>some (.ref a)
 | .type n=>some (.ty n)
 | _=>none
theorem RelV.abs{x:V}{u:Value}(r:RelV x u):zuA u=some x:=by
 cases x with
 | non=>cases r;rfl
 | bl _=>cases r;rfl
 | int _=>obtain⟨t,rfl⟩:=r;rfl
 | str _=>obtain⟨t,rfl⟩:=r;rfl
 | byt _=>obtain⟨t,rfl⟩:=r;rfl
 | flt _=>obtain⟨t,rfl⟩:=r;rfl
 | ref _=>cases r;rfl
 | ty _=>cases r;rfl
theorem RelV.inj{x y:V}{u:Value}(r:RelV x u)(q:RelV y u):x=y:=Option.some.inj (r.abs.symm.trans q.abs)
theorem Vals.inj:∀{xs ys:List V} {us:List Value},Vals xs us->Vals ys us->xs=ys
 | _,_,_,.nil,.nil=>rfl
 | _,_,_,.cons r t,.cons r' t'=>by rw[r.inj r',Vals.inj t t']
section
variable {X:Cx} {pins:List (Addr×Obj)} {σ:St} {H:Hp} {s:Shared} {a:Addr} {xs ys:List V}
theorem Inv.list(I:Inv X pins σ H s)(h:SqL X.K H a xs):∃its:List Value,Vals xs its/\PlainL s.heap a its.toArray/\xs.length<=sizeLine:=by
 rcases h with h|⟨o,its,n,hk,hc,hd,hs,hz,r⟩
 ·obtain⟨z,its,n,r,e⟩:=h.ok I.hok
  exact⟨its,r,⟨_,n,e,rfl,rfl,rfl⟩,z⟩
 ·refine⟨its.toList,r,⟨o,n,I.kIn a o hk,hc,hd,by simpa using hs⟩,?_⟩
  have e:=r.length
  simp only[length_toList] at e
  omega
theorem Inv.tuple(I:Inv X pins σ H s)(h:SqT X.K H a xs):∃its:List Value,Vals xs its/\IsTup s.heap a its.toArray/\xs.length<=sizeLine:=by
 rcases h with h|⟨o,its,n,hk,hc,hs,hz,r⟩
 ·obtain⟨z,its,r,p⟩:=h.ok I.hok
  exact⟨its,r,p.isTup,z⟩
 ·refine⟨its.toList,r,⟨o,I.kIn a o hk,hc,n,by simpa using hs⟩,?_⟩
  have e:=r.length
  simp only[length_toList] at e
  omega
theorem Inv.list_inj(I:Inv X pins σ H s)(h:SqL X.K H a xs)(h':SqL X.K H a ys):xs=ys:=by
 obtain⟨its,r,⟨o,n,e,_,_,d⟩,_⟩:=I.list h
 obtain⟨its',r',⟨o',n',e',_,_,d'⟩,_⟩:=I.list h'
 rw[e] at e';cases e'
 rw[d] at d'
 injection d' with d1 _
 have:its=its':=by simpa using congrArg Array.toList d1
 subst this
 exact r.inj r'
theorem Inv.tuple_inj(I:Inv X pins σ H s)(h:SqT X.K H a xs)(h':SqT X.K H a ys):xs=ys:=by
 obtain⟨its,r,⟨o,e,_,n,d⟩,_⟩:=I.tuple h
 obtain⟨its',r',⟨o',e',_,n',d'⟩,_⟩:=I.tuple h'
 rw[e] at e';cases e'
 rw[d] at d'
 injection d' with d1 _
 have:its=its':=by simpa using congrArg Array.toList d1
 subst this
 exact r.inj r'
end
abbrev Cx.wish(X:Cx)(E:Value->Shared->Prop):Cx:={ X with xe:=E }
abbrev Cx.nox(X:Cx):Cx:=X.wish fun _ _=>False
theorem Cx.Ok.wish{X:Cx}(ok:X.Ok)(E:Value->Shared->Prop):(X.wish E).Ok :=
 ⟨ok.mod,ok.kind,ok.glob,ok.blt,ok.above,ok.inj,ok.has,ok.cab,ok.hd,ok.frames,ok.stk,ok.exf,ok.bs,ok.bsz,ok.noex,ok.exfs,ok.funs,ok.frf⟩
theorem Cx.Ok.unwish{X:Cx}{E:Value->Shared->Prop}(ok:(X.wish E).Ok):X.Ok :=
 ⟨ok.mod,ok.kind,ok.glob,ok.blt,ok.above,ok.inj,ok.has,ok.cab,ok.hd,ok.frames,ok.stk,ok.exf,ok.bs,ok.bsz,ok.noex,ok.exfs,ok.funs,ok.frf⟩
section
variable {X:Cx} {pins:List (Addr×Obj)} {σ:St} {H:Hp} {s:Shared} {E:Value->Shared->Prop}
theorem Inv.wish(I:Inv X pins σ H s)(E:Value->Shared->Prop):Inv (X.wish E) pins σ H s:=⟨I.ok.wish E,I.os,I.bare,I.base,I.loc,I.cell,I.free,I.freeC,I.pin,I.hok,I.len⟩
theorem Inv.unwish(I:Inv (X.wish E) pins σ H s):Inv X pins σ H s:=⟨I.ok.unwish,I.os,I.bare,I.base,I.loc,I.cell,I.free,I.freeC,I.pin,I.hok,I.len⟩
end
section
variable {X:Cx} {st:Stmt} {rest:List Stmt} {t u:TS} {e:Expr} {te:TE} {pos:Pos}
def zsC:TS:=fun D σ H=>D.nx σ H
def zuB(t u:TS):TS:=fun D σ H=>t { D with nx:=u D } σ H
theorem zoE:PSs X [] zsC:=fun _ _ σ H _ I h=>wpAny_execs_nil ⟨σ,H,I,h⟩
theorem ziQ(h1:PS X st t)(h2:PSs X rest u):PSs X (st::rest) (zuB t u):=by
 intro pins s σ H D I h
 refine wpAny_execs_cons (thn (h1 pins s σ H { D with nx:=u D } I h) fun f s1 q=>?_)
 cases f with
 | next =>
  obtain⟨σ',H',I',q⟩:=q
  exact h2 pins s1 σ' H' D I' q
 | ret v=>exact q
 | brk=>exact q
 | cont=>exact q
theorem zkh(h1:PS X st t):PSs X [st] t:=by
 intro pins s σ H D I h
 refine wpAny_execs_cons (thn (h1 pins s σ H D I h) fun f s1 q=>?_)
 cases f with
 | next=>exact wpAny_execs_nil q
 | ret v=>exact q
 | brk=>exact q
 | cont=>exact q
def zsD:TS:=fun D σ H=>D.ct σ H
theorem zh7:PS X (.Continue pos) zsD:=fun _ _ σ H _ I h=>wpAny_Continue ⟨σ,H,I,h⟩
theorem Inv.quiet{pins:List (Addr×Obj)}{σ:St}{H:Hp}{s:Shared}(I:Inv X pins σ H s):interactive X.env=false:=by simp[interactive,I.ok.kind]
def zsE(te:TE):TS:=fun D σ H=>te σ H fun _ H1=>D.nx σ H1
theorem zki(he:PE X e te)(hs:swapsWith e none pos.line X.env=pure false:=by rfl):PS X (.Expr e pos) (zsE te):=by
 intro pins s σ H D I h
 exact wpAny_Expr_any (thn (he pins s σ H _ I h) fun v s1 ⟨x,H1,I1,r1,q1⟩=>⟨σ,H1,I1,q1⟩) I.quiet hs
def zuC(te:TE):TS:=fun D σ H=>te σ H D.rt
theorem zqx(he:PE X e te):PS X (.Return (some e) pos) (zuC te):=by
 intro pins s σ H D I h
 exact wpAny_Return_some (thn (he pins s σ H _ I h) fun v s1 ⟨x,H1,I1,r1,q1⟩=>⟨x,σ,H1,I1,r1,q1⟩)
def zuD(c:TT)(t u:TS):TS:=fun D σ H=>c σ H fun b H1=>if b=true then t D σ H1 else u D σ H1
theorem zsF{c:Expr}{a b:List Stmt}{tc:TT}(hc:PT X c tc)(ha:PSs X a t)(hb:PSs X b u):PS X (.If c a b pos) (zuD tc t u):=by
 intro pins s σ H D I h
 refine wpAny_If (thn (hc pins s σ H _ I h) fun d s1 ⟨H1,I1,q1⟩=>?_)
 cases d with
 | true=>exact ha pins s1 σ H1 D I1 q1
 | false=>exact hb pins s1 σ H1 D I1 q1
end
abbrev TG:=V->St->Hp->(St->Hp->Prop)->Prop
abbrev TGs:=List V->St->Hp->(St->Hp->Prop)->Prop
def PG(X:Cx)(target:Expr)(t:TG):Prop :=
 ∀(pins:List (Addr×Obj)) (s:Shared) (σ:St) (H:Hp) (v:V) (u:Value) (Q:St->Hp->Prop),Inv X pins σ H s->RelV v u->t v σ H Q ->
  wpAny (model X.prog X.w) X.A (assign target X.env u) (fun _ s'=>∃σ' H',Inv X pins σ' H' s'/\Q σ' H') X.xe s
def PGs(X:Cx)(ts:List Expr)(t:TGs):Prop :=
 ∀(pins:List (Addr×Obj)) (s:Shared) (σ:St) (H:Hp) (vs:List V) (us:List Value) (Q:St->Hp->Prop),Inv X pins σ H s->Vals vs us->t vs σ H Q ->
  wpAny (model X.prog X.w) X.A (assignInOrder ((assignEach ts X.env).map (·.2)) us) (fun _ s'=>∃σ' H',Inv X pins σ' H' s'/\Q σ' H') X.xe s
abbrev zsG:=V->V->V->Hp->(Hp->Prop)->Prop
def ztQ(X:Cx)(t:zsG):Prop :=
 ∀(pins:List (Addr×Obj)) (s:Shared) (σ:St) (H:Hp) (o i v:V) (ov iv u:Value) (Q:Hp->Prop),Inv X pins σ H s->RelV o ov->RelV i iv->RelV v u->t o i v H Q ->
  wpAny (model X.prog X.w) X.A (setItem ov iv u) (fun _ s'=>∃H',Inv X pins σ H' s'/\Q H') X.xe s
section
variable {X:Cx} {pos:Pos}
def gName(i:Nat):TG:=fun v σ H Q=>Q (σ.set i (some v)) H
theorem zh8{i:Nat}{x:Str}(hN:X.N.Nodup)(hi:X.N[i]?=some x)(hx:Loc X.env.scope x)(hf:X.fn x=true\/X.env.scope.names.lookup x=some .local:=by first|exact .inl rfl|exact .inr rfl|assumption):PG X (.Name x pos) (gName i):=by
 intro pins s σ H v u Q I r h
 exact wpAny_assign_Name (zeO I hN hi hx r (fun s' I'=>⟨_,H,I',h⟩) hf)
def zuE:TGs:=fun vs σ H Q=>vs=[]/\Q σ H
def zsH(t:TG)(u:TGs):TGs:=fun vs σ H Q=>∃v r,vs=v::r/\t v σ H fun σ' H'=>u r σ' H' Q
theorem zoF:PGs X [] zuE:=by
 intro pins s σ H vs us Q I r h
 obtain⟨e,h⟩:=h
 subst e
 cases r
 exact assignInOrder_nil ⟨σ,H,I,h⟩
theorem zmk{e:Expr}{es:List Expr}{t:TG}{u:TGs}(h1:PG X e t)(h2:PGs X es u)(hs:(assignEach (e::es) X.env).map (·.2)=assign e X.env::(assignEach es X.env).map (·.2):=by rfl):PGs X (e::es) (zsH t u):=by
 intro pins s σ H vs us Q I r h
 obtain⟨v,vr,e1,h⟩:=h
 subst e1
 cases r with
 | cons r rr =>
  rw[hs]
  refine assignInOrder_cons (thn (h1 pins s σ H _ _ _ I r h) fun _ s1 ⟨σ1,H1,I1,q1⟩=>?_)
  exact h2 pins s1 σ1 H1 _ _ Q I1 rr q1
def zuF(K:PySem.W.Frag)(n:Nat)(t:TGs):TG:=fun v σ H Q=>∃a xs,v=.ref a/\SqT K H a xs/\xs.length=n/\t xs σ H Q
theorem zqy{es:List Expr}{k:Nat}{t:TGs}{n:Nat}(hc:X.calm=true)(h:PGs X es t)(hn:(assignEach es X.env).length=n:=by rfl)(hst:(assignEach es X.env).findIdx? (·.1)=none:=by rfl):PG X (.Tuple es k pos) (zuF X.K n t):=by
 intro pins s σ H v u Q I r hw
 obtain⟨a,xs,e1,hq,hl,hw⟩:=hw
 subst e1
 cases r
 obtain⟨its,rv,ht,hz⟩:=I.tuple hq
 refine assign_Tuple_tuple (I.ok.hd hc) ht (by simp[hn,<- hl,rv.length]) hst fun h' hx=>?_
 have I1:Inv X pins σ H { s with heap:=h' }:=I.kept (t':=s.toks) fun b o e=>hx b o (ne_of_lt (Heap.lt_size e)) e
 exact h pins _ σ H xs _ Q I1 (by simpa using rv) hw
def zuG(to ti:TE)(t:zsG):TG:=fun v σ H Q=>to σ H fun o H1=>ti σ H1 fun i H2=>t o i v H2 fun H3=>Q σ H3
theorem zqz{o i:Expr}{to ti:TE}{t:zsG}(ho:PE X o to)(hi:PE X i ti)(hs:ztQ X t)(ha:∀v,assign (.Subscript o i pos) X.env v=(do
   let ov <- holding [v] (eval o X.env)
   let iv <- holding [v,ov] (eval i X.env)
   standAt pos
   holding [v,ov,iv] (setItem ov iv v)
   release [v,ov,iv] []):=by intro _;rfl):PG X (.Subscript o i pos) (zuG to ti t):=by
 intro pins s σ H v u Q I r h
 rw[ha]
 refine wpAny_bind (wpAny_holding (thn (ho pins s σ H _ I h) fun ov s1 ⟨x,H1,I1,r1,q1⟩=>?_))
 refine wpAny_bind (wpAny_holding (thn (hi pins s1 σ H1 _ I1 q1) fun iv s2 ⟨y,H2,I2,r2,q2⟩=>?_))
 refine wpAny_bind (wpAny_standAt (wpAny_bind (wpAny_holding (thn (hs pins s2 σ H2 x y v ov iv u _ I2 r1 r2 r q2) fun _ s3 ⟨H3,I3,q3⟩=>?_))))
 exact wpAny_release ⟨σ,H3,I3,q3⟩
def zsI(te:TE)(g:TG):TS:=fun D σ H=>te σ H fun x H1=>g x σ H1 D.nx
theorem zqA{tg e:Expr}{te:TE}{g:TG}(he:PE X e te)(hg:PG X tg g)(hs:swapsWithSole [tg] e pos.line X.env=pure false:=by rfl)(hw:swappedStores [tg] e X.env=pure none:=by rfl)(h1:(assignEach [tg] X.env).map (·.2)=[assign tg X.env]:=by rfl):PS X (.Assign [tg] e pos) (zsI te g):=by
 intro pins s σ H D I h
 refine wpAny_Assign_stores (thn (he pins s σ H _ I h) fun v s1 ⟨x,H1,I1,r1,q1⟩=>?_) hs hw
 rw[h1]
 exact thn (hg pins s1 σ H1 x v _ I1 r1 q1) fun _ s2 q=>q
theorem zqB{i:Nat}{x:Str}{e:Expr}{te:TE}{pos':Pos}(hN:X.N.Nodup)(hi:X.N[i]?=some x)(hx:Loc X.env.scope x)(he:PE X e te)(hs:swapsWith e (some (.Name x pos')) pos.line X.env=pure false:=by rfl)(hf:X.fn x=true\/X.env.scope.names.lookup x=some .local:=by first|exact .inl rfl|exact .inr rfl|assumption) :
  PS X (.Assign [.Name x pos'] e pos) (zsI te (gName i)):=by
 intro pins s σ H D I h
 refine wpAny_Assign_Name (thn (he pins s σ H _ I h) fun v s1 ⟨y,H1,I1,r1,q1⟩=>?_) hs
 exact zeO I1 hN hi hx r1 (fun s2 I2=>⟨_,H1,I2,q1⟩) hf
end
section
variable {X:Cx} {pos:Pos}
def zqC(c:TT)(tb:TS):TS:=fun D σ H=>∃W:Nat->St->Hp->Prop,(∃m,W m σ H)/\∀m σ H,W m σ H ->
 c σ H fun b H1=>if b=true then ∃N:St->Hp->Prop,(∀σ' H',N σ' H'->∃m',m'<m/\W m' σ' H')/\tb { D with nx:=N,ct:=N,bk:=D.nx } σ H1 else D.nx σ H1
theorem zml{c:Expr}{body:List Stmt}{tc:TT}{tb:TS}(hp:PassesOwn (model X.prog X.w) X.A X.env X.xe)(hc:PT X c tc)(hb:PSs X body tb):PS X (.While c body [] pos) (zqC tc tb):=by
 intro pins s σ H D I h
 obtain⟨W,⟨m0,w0⟩,turn⟩:=h
 refine wpAny_While (codeAny_whileLoop (fun n s'=>∃σ' H',Inv X pins σ' H' s'/\W n σ' H') ?_ m0 ⟨σ,H,I,w0⟩)
 rintro n s1 ⟨σ1,H1,I1,w1⟩
 refine wpAny_passesOwn hp (thn (hc pins s1 σ1 H1 _ I1 (turn n σ1 H1 w1)) fun b s2 ⟨H2,I2,q2⟩=>?_)
 cases b with
 | true =>
  obtain⟨N,hN,q2⟩:=q2
  rw[if_pos rfl]
  refine wpAny_passesOwn hp (thn (hb pins s2 σ1 H2 _ I2 q2) fun f s3 q3=>?_)
  cases f with
  | next =>
   obtain⟨σ3,H3,I3,n3⟩:=q3
   obtain⟨m',hm,w3⟩:=hN σ3 H3 n3
   exact⟨m',hm,σ3,H3,I3,w3⟩
  | cont =>
   obtain⟨σ3,H3,I3,n3⟩:=q3
   obtain⟨m',hm,w3⟩:=hN σ3 H3 n3
   exact⟨m',hm,σ3,H3,I3,w3⟩
  | brk=>exact q3
  | ret v=>exact q3
 | false =>
  rw[if_neg Bool.false_ne_true]
  exact wpAny_execs_nil ⟨σ1,H2,I2,q2⟩
end
structure It where
 go:Nat->Hp->Prop
 yld:Nat->Hp->V->Hp->Prop
 stop:Nat->Hp->Prop
def znU(X:Cx)(pins:List (Addr×Obj))(H:Hp)(b:Addr):Prop :=
 H b=none/\b≠X.env.locals/\b∉X.fs/\(b∈X.ex\/X.s₀.heap.objs.size<=b)/\(∀x c,X.env.cells.lookup x=some c->c≠b)/\∀p∈X.pn++pins,p.1≠b
theorem Inv.fpOk{X:Cx}{pins:List (Addr×Obj)}{σ:St}{H H':Hp}{s:Shared}{b:Addr}(I:Inv X pins σ H s)(hb:s.heap.objs.size<=b)(hn:H' b=none):znU X pins H' b:=by
 refine⟨hn,ne_of_gt (lt_of_lt_of_le I.lt hb),I.nofs hb,.inr (le_trans I.sz hb),fun x c e z=>?_,fun p hp z=>?_⟩
 ·obtain⟨v,q⟩:=I.cell x c e
  exact absurd (lt_of_lt_of_le q.lt (by rw[z];exact hb)) (lt_irrefl _)
 ·exact absurd (lt_of_lt_of_le (Heap.lt_size (I.pin p hp).1) (by rw[z];exact hb)) (lt_irrefl _)
structure Turn (P:Program) (w:World) (K:PySem.W.Frag) (tg:Expr) (J:It) (fp:List Addr) (it:Addr) (tn:Nat->Heap->Prop):Prop where
 mem:it∈fp
 obj:∀i h,tn i h->∀b∈fp,∃o,h.get? b=some o/\∀v,o.data≠.cell v
 keep:∀i h h',tn i h->(∀b∈fp,∀o,h.get? b=some o->h'.get? b=some o)->tn i h'
 item:∀(X:Cx),X.prog=P->X.w=w->X.K=K->X.calm=true->∀(i:Nat) (pins:List (Addr×Obj)) (s:Shared) (σ:St) (H:Hp) (E:Value->Shared->Prop),Inv X pins σ H s->(∀b∈fp,znU X pins H b)->tn i s.heap->J.go i H ->
  wpAny (model P w) X.A (pyNext (.ref it)) (fun r s1=>∃u,r=some u /\
   wpAny (model P w) X.A (letOwnedTupleGo tg (.ref it) u) (fun _ s2=>∃x H',Inv X pins σ H' s2/\RelV x u/\J.yld i H x H'/\tn (i+1) s2.heap/\∀b∈fp,H' b=none) E s1) E s
 done:∀(X:Cx),X.prog=P->X.w=w->X.K=K->X.calm=true->∀(i:Nat) (pins:List (Addr×Obj)) (s:Shared) (σ:St) (H:Hp) (E:Value->Shared->Prop),Inv X pins σ H s->(∀b∈fp,znU X pins H b)->tn i s.heap->J.stop i H ->
  wpAny (model P w) X.A (pyNext (.ref it)) (fun r s1=>r=none/\Inv X pins σ H s1) E s
 self:∀(A:Around) (i:Nat) (s:Shared) (Q:Value->Shared->Prop) (E:Value->Shared->Prop),tn i s.heap->Q (.ref it) s->wpAny (model P w) A (pyIter (.ref it)) Q E s
abbrev TI:=St->Hp->(It->Hp->Prop)->Prop
def PIE(X:Cx)(pins:List (Addr×Obj))(σ:St)(tg:Expr)(R:It->Hp->Prop)(itv:Value)(s2:Shared):Prop :=
 ∃(it:Addr) (fp:List Addr) (tn:Nat->Heap->Prop) (J:It) (H':Hp),itv=.ref it/\Inv X pins σ H' s2/\Turn X.prog X.w X.K tg J fp it tn/\tn 0 s2.heap/\(∀b∈fp,znU X pins H' b)/\R J H'
def PI(X:Cx)(tg iter:Expr)(wi:TI):Prop :=
 ∀(pins:List (Addr×Obj)) (s:Shared) (σ:St) (H:Hp) (R:It->Hp->Prop),Inv X pins σ H s->wi σ H R ->
  wpAny (model X.prog X.w) X.A (eval iter X.env) (fun v s1=>wpAny (model X.prog X.w) X.A (pyIter v) (PIE X pins σ tg R) X.xe s1) X.xe s
theorem zmm{M:Model}{A:Around}{E:Value->Shared->Prop}{s:Shared}{tg:Expr}{it:Addr}{u:Value}{o:Obj}{n:String}{vs:Array Value}{Q:Unit->Shared->Prop}(ho:s.heap.get? it=some o)(hc:o.cls=.type n)(hd:o.data=.fields vs)(hn:["enumerate", "zip", "dict_itemiterator", "dict_reverseitemiterator", "odict_iterator", "itertools.zip_longest", "itertools.pairwise"].contains n=false)(hQ:Q () s):wpAny M A (letOwnedTupleGo tg (.ref it) u) Q E s:=by
 unfold letOwnedTupleGo
 cases tg<;>first
  | exact wpAny_pure hQ
  | (cases u<;>first
    | exact wpAny_pure hQ
    | (refine wpAny_bind (wpAny_load ho ?_)
       rw[hc,hd]
       show wpAny M A (if (["enumerate", "zip", "dict_itemiterator", "dict_reverseitemiterator", "odict_iterator", "itertools.zip_longest", "itertools.pairwise"].contains n&&vs[0]?==some (rawInt _))=true then _ else _) Q E s
       rw[if_neg (by intro h;rw[hn,Bool.false_and] at h;cases h)]
       exact wpAny_pure hQ))
def Itl(K:PySem.W.Frag)(a:Addr):It :=
 ⟨fun i H=>∃xs x,SqL K H a xs/\xs[i]?=some x,fun i H x H'=>H'=H/\∀xs,SqL K H a xs->xs[i]?=some x,fun i H=>∃xs,SqL K H a xs/\xs.length<=i⟩
def Itt(K:PySem.W.Frag)(a:Addr):It :=
 ⟨fun i H=>∃xs x,SqT K H a xs/\xs[i]?=some x,fun i H x H'=>H'=H/\∀xs,SqT K H a xs->xs[i]?=some x,fun i H=>∃xs,SqT K H a xs/\xs.length<=i⟩
def Itr(lo:Int)(n:Nat):It:=⟨fun i _=>i<n,fun i H x H'=>H'=H/\x=.int (lo+i),fun i _=>n<=i⟩
theorem zkj{P:Program}{w:World}{K:PySem.W.Frag}{tg:Expr}(a it:Addr):Turn P w K tg (Itl K a) [it] it (fun i h=>h.IsListIter it a i) where
 mem:=by simp
 obj:=fun i h st b hb=>by
  have e:b=it:=by simpa using hb
  subst e
  obtain⟨o,e,c,d⟩:=st
  exact⟨o,e,fun v z=>by rw[d] at z;cases z⟩
 keep:=fun i h h' st k=>st.at fun o e=>k it (by simp) o e
 item:=by
  intro X hP hw hK hc i pins s σ H E I hf st hg
  subst hP hw hK
  obtain⟨xs,x,hq,hx⟩:=hg
  obtain⟨its,rv,p,hz⟩:=I.list hq
  obtain⟨u,hu,ru⟩:=rv.get hx
  obtain⟨f0,f1,f2,f3,f4,f5⟩:=hf it (by simp)
  refine wpAny_pyNext_list_item st p.isList (x:=u) (by simpa using hu) fun h' st' sb=>?_
  have I1:Inv X pins σ H { s with heap:=h' }:=I.turned (t':=s.toks) (fun b o hb e=>(sb.2 b hb).trans e) f0 f1 f3 f4 f5
  obtain⟨o,e,c,d⟩:=id st'
  exact⟨u,rfl,zmm (s:={ s with heap:=h' }) e c d (by decide) ⟨x,H,I1,ru,⟨rfl,fun ys hy=>by rw[I.list_inj hy hq];exact hx⟩,st',fun b hb=>(hf b hb).1⟩⟩
 done:=by
  intro X hP hw hK hc i pins s σ H E I hf st hg
  subst hP hw hK
  obtain⟨xs,hq,hx⟩:=hg
  obtain⟨its,rv,p,hz⟩:=I.list hq
  obtain⟨f0,f1,f2,f3,f4,f5⟩:=hf it (by simp)
  have hl:=rv.length
  exact wpAny_pyNext_list_end (I.ok.hd hc) st p.isList (by simp;omega) fun h' eb=>⟨rfl,I.turned (t':=s.toks) (fun b o hb e=>eb b o hb e) f0 f1 f3 f4 f5⟩
 self:=fun _ _ _ _ _ st h=>wpAny_pyIter_listiter st h
theorem zjy{P:Program}{w:World}{K:PySem.W.Frag}{tg:Expr}(a it:Addr):Turn P w K tg (Itt K a) [it] it (fun i h=>h.IsTupleIter it a i) where
 mem:=by simp
 obj:=fun i h st b hb=>by
  have e:b=it:=by simpa using hb
  subst e
  obtain⟨o,e,c,d⟩:=st
  exact⟨o,e,fun v z=>by rw[d] at z;cases z⟩
 keep:=fun i h h' st k=>st.at fun o e=>k it (by simp) o e
 item:=by
  intro X hP hw hK hc i pins s σ H E I hf st hg
  subst hP hw hK
  obtain⟨xs,x,hq,hx⟩:=hg
  obtain⟨its,rv,p,hz⟩:=I.tuple hq
  obtain⟨u,hu,ru⟩:=rv.get hx
  obtain⟨f0,f1,f2,f3,f4,f5⟩:=hf it (by simp)
  refine wpAny_pyNext_tuple_item st (show s.heap.IsTuple a its.toArray from p) (x:=u) (by simpa using hu) fun h' st' sb=>?_
  have I1:Inv X pins σ H { s with heap:=h' }:=I.turned (t':=s.toks) (fun b o hb e=>(sb.2 b hb).trans e) f0 f1 f3 f4 f5
  obtain⟨o,e,c,d⟩:=id st'
  exact⟨u,rfl,zmm (s:={ s with heap:=h' }) e c d (by decide) ⟨x,H,I1,ru,⟨rfl,fun ys hy=>by rw[I.tuple_inj hy hq];exact hx⟩,st',fun b hb=>(hf b hb).1⟩⟩
 done:=by
  intro X hP hw hK hc i pins s σ H E I hf st hg
  subst hP hw hK
  obtain⟨xs,hq,hx⟩:=hg
  obtain⟨its,rv,p,hz⟩:=I.tuple hq
  obtain⟨f0,f1,f2,f3,f4,f5⟩:=hf it (by simp)
  have hl:=rv.length
  exact wpAny_pyNext_tuple_end (I.ok.hd hc) st (show s.heap.IsTuple a its.toArray from p) (by simp;omega) fun h' eb=>⟨rfl,I.turned (t':=s.toks) (fun b o hb e=>eb b o hb e) f0 f1 f3 f4 f5⟩
 self:=fun _ _ _ _ _ st h=>wpAny_pyIter_tupleiter st h
theorem zjz{P:Program}{w:World}{K:PySem.W.Frag}{tg:Expr}(it:Addr)(lo:Int)(n:Nat):Turn P w K tg (Itr lo n) [it] it (fun i h=>IsRangeIter h it (lo+(i:Nat)*1) ((n:Int)-(i:Nat)) 1) where
 mem:=by simp
 obj:=fun i h st b hb=>by
  have e:b=it:=by simpa using hb
  subst e
  exact⟨_,st,fun v z=>by
   have z':Data.fields _=Data.cell v:=z
   cases z'⟩
 keep:=fun i h h' st k=>k it (by simp) _ st
 item:=by
  intro X hP hw hK hc i pins s σ H E I hf st hg
  subst hP hw hK
  obtain⟨f0,f1,f2,f3,f4,f5⟩:=hf it (by simp)
  have W:=Walks.range (prog:=X.prog) (w:=X.w) (I.ok.hd hc) it lo 1 n
  refine W.item i s _ _ hg st fun v h' tk hv st' kk=>?_
  obtain⟨t,rfl⟩:=hv
  have I1:Inv X pins σ H { s with heap:=h',toks:=tk }:=I.turned (fun b o hb e=>kk b o (by simpa using hb) e) f0 f1 f3 f4 f5
  refine⟨_,rfl,zmm (s:={ s with heap:=h',toks:=tk }) (n := "range_iterator") st' rfl rfl (by decide) ⟨.int (lo+i),H,I1,⟨t,?_⟩,⟨rfl,rfl⟩,st',fun b hb=>(hf b hb).1⟩⟩
  rw[mul_one]
 done:=by
  intro X hP hw hK hc i pins s σ H E I hf st hg
  subst hP hw hK
  obtain⟨f0,f1,f2,f3,f4,f5⟩:=hf it (by simp)
  exact wpAny_pyNext_range_end (I.ok.hd hc) st (by have:n<=i:=hg;omega) fun h' eb=>⟨rfl,I.turned (t':=s.toks) (fun b o hb e=>eb b o hb e) f0 f1 f3 f4 f5⟩
 self:=fun _ _ _ _ _ st h=>wpAny_pyIter_rangeiter st h
section
variable {X:Cx} {tg:Expr}
def zsJ(K:PySem.W.Frag)(tl:TE):TI:=fun σ H R=>tl σ H fun x H1=>∃a,x=.ref a/\(∃xs,SqL K H1 a xs)/\R (Itl K a) H1
def zuH(K:PySem.W.Frag)(tl:TE):TI:=fun σ H R=>tl σ H fun x H1=>∃a,x=.ref a/\(∃xs,SqT K H1 a xs)/\R (Itt K a) H1
theorem zoG{l:Expr}{tl:TE}(hl:PE X l tl):PI X tg l (zsJ X.K tl):=by
 intro pins s σ H R I h
 refine thn (hl pins s σ H _ I h) fun v s1 ⟨x,H1,I1,r1,q1⟩=>?_
 obtain⟨a,e,⟨xs,hq⟩,q⟩:=q1
 subst e
 cases r1
 obtain⟨its,rv,p,hz⟩:=I1.list hq
 refine wpAny_pyIter_list p.isList ?_
 refine⟨s1.heap.objs.size,[s1.heap.objs.size],_,_,H1,rfl,I1.kept (t':=s1.toks) fun b o e=>Heap.get?_push_of_some _ e,zkj a _,⟨_,Heap.get?_push_size _ rfl,rfl,rfl⟩,fun b hb=>?_,q⟩
 have e:b=s1.heap.objs.size:=by simpa using hb
 subst e
 exact I1.fpOk (le_refl _) (I1.hok.fresh (le_refl _))
theorem zqD{l:Expr}{tl:TE}(hl:PE X l tl):PI X tg l (zuH X.K tl):=by
 intro pins s σ H R I h
 refine thn (hl pins s σ H _ I h) fun v s1 ⟨x,H1,I1,r1,q1⟩=>?_
 obtain⟨a,e,⟨xs,hq⟩,q⟩:=q1
 subst e
 cases r1
 obtain⟨its,rv,p,hz⟩:=I1.tuple hq
 refine wpAny_pyIter_tuple (show s1.heap.IsTuple a its.toArray from p) ?_
 refine⟨s1.heap.objs.size,[s1.heap.objs.size],_,_,H1,rfl,I1.kept (t':=s1.toks) fun b o e=>Heap.get?_push_of_some _ e,zjy a _,⟨_,Heap.get?_push_size _ rfl,rfl,rfl⟩,fun b hb=>?_,q⟩
 have e:b=s1.heap.objs.size:=by simpa using hb
 subst e
 exact I1.fpOk (le_refl _) (I1.hok.fresh (le_refl _))
theorem zmn{pins:List (Addr×Obj)}{σ:St}{H:Hp}{s:Shared}{R:It->Hp->Prop}{E:Value->Shared->Prop}{lo hi:Int}{t u v:Tok}{tk:Nat}(I:Inv X pins σ H s)(h1:-(2 ^ 62)<=lo)(h2:lo<2 ^ 62)(h3:-(2 ^ 62)<=hi)(h4:hi<2 ^ 62)(q:R (Itr lo (hi-lo).toNat) H):wpAny (model X.prog X.w) X.A (pyIter (.ref s.heap.objs.size)) (PIE X pins σ tg R) E { s with heap:=s.heap.push { cls:=.type "range",data:=.fields #[.int lo t,.int hi u,.int 1 v] },toks:=tk }:=by
 refine wpAny_pyIter_range (IsRange.new ..) (small_one h1 h2 h3 h4) ?_
 have I1:Inv X pins σ H { s with heap:=s.heap.push { cls:=.type "range",data:=.fields #[.int lo t,.int hi u,.int 1 v] },toks:=tk }:=I.kept fun b o e=>Heap.get?_push_of_some _ e
 refine⟨(s.heap.push { cls:=.type "range",data:=.fields #[.int lo t,.int hi u,.int 1 v] }).objs.size,[(s.heap.push { cls:=.type "range",data:=.fields #[.int lo t,.int hi u,.int 1 v] }).objs.size],_,_,H,rfl,
  I1.kept (t':=tk) fun b o e=>Heap.get?_push_of_some _ e,zjz _ lo (hi-lo).toNat,?_,fun b hb=>?_,q⟩
 ·have e1:lo+((0:Nat):Int)*1=lo:=by simp
  have e2:(((hi-lo).toNat:Nat):Int)-((0:Nat):Int)=Builtin.Range.rangeSize lo hi 1:=by rw[rangeSize_one];split<;>omega
  show IsRangeIter _ _ (lo+((0:Nat):Int)*1) ((((hi-lo).toNat:Nat):Int)-((0:Nat):Int)) 1
  rw[e1,e2]
  exact Heap.get?_push_size _ rfl
 ·have e:b=(s.heap.push { cls:=.type "range",data:=.fields #[.int lo t,.int hi u,.int 1 v] }).objs.size:=by simpa using hb
  subst e
  exact I1.fpOk (le_refl _) (I1.hok.fresh (le_refl _))
def zsK(ta:TA):TI:=fun σ H R=>ta σ H fun vs H1=>∃j:Int,vs=[.int j]/\-(2 ^ 62)<=j/\j<2 ^ 62/\R (Itr 0 j.toNat) H1
theorem zkk{a:Expr}{ta:TA}{p pos:Pos}(hg:Gl X "range")(hm:X.mg "range" = none)(ha:PA X [a] ta)(hs:starEach [a] X.env=[(false,eval a X.env)]:=by rfl):PI X tg (.Call (.Name "range" p) [a] [] pos) (zsK ta):=by
 intro pins s σ H R I h
 refine Call_ (zhd I hg hm boot_range (PyProof.Rows.callWith_type1 (thn (ha pos pins s σ H _ I h) fun us s1 ⟨vs,H1,I1,r1,q1⟩=>?_) hs rfl))
 obtain⟨j,e,q1,q2,q⟩:=q1
 subst e
 cases r1 with
 | cons r rr =>
  cases rr
  obtain⟨t,rfl⟩:=r
  exact call_range_1 (zmn I1 (by omega) (by omega) q1 q2 (by simpa using q))
def zuI(wi:TI)(g:TG)(tb:TS):TS:=fun D σ H=>wi σ H fun J H1=>∃W:Nat->Nat->St->Hp->Prop,(∃m,W 0 m σ H1)/\∀i m σ H,W i m σ H ->
 (J.stop i H/\D.nx σ H)\/(J.go i H/\∃N:St->Hp->Prop,(∀σ' H',N σ' H'->∃m',m'<m/\W (i+1) m' σ' H')/\∀x H',J.yld i H x H'->g x σ H' fun σ2 H2=>tb { D with nx:=N,ct:=N,bk:=D.nx } σ2 H2)
def zfS(fp:List Addr)(h:Heap):List (Addr×Obj):=fp.filterMap fun b=>(h.get? b).map fun o=>(b,o)
theorem zdh{fp:List Addr}{h:Heap}{b:Addr}{o:Obj}(hb:b∈fp)(e:h.get? b=some o):(b,o)∈zfS fp h:=mem_filterMap.mpr ⟨b,hb,by rw[e];rfl⟩
theorem zkl{fp:List Addr}{h:Heap}{p:Addr×Obj}(hp:p∈zfS fp h):p.1∈fp/\h.get? p.1=some p.2:=by
 obtain⟨b,hb,e⟩:=mem_filterMap.mp hp
 cases q:h.get? b with
 | none=>rw[q] at e;cases e
 | some o =>
  rw[q] at e
  have e':(b,o)=p:=Option.some.inj e
  subst e'
  exact⟨hb,q⟩
theorem Inv.pinned{pins:List (Addr×Obj)}{σ:St}{H:Hp}{s:Shared}{fp:List Addr}(I:Inv X pins σ H s)(hf:∀b∈fp,znU X pins H b)(ho:∀b∈fp,∃o,s.heap.get? b=some o/\∀v,o.data≠.cell v):Inv X (pins++zfS fp s.heap) σ H s :=
 I.pins_of fun p hp=>(mem_append.mp hp).elim (fun z=>I.pin p (mem_append_right _ z)) fun z=>by
  obtain⟨hb,e⟩:=zkl z
  obtain⟨f0,f1,f2,_⟩:=hf p.1 hb
  obtain⟨o,e',d⟩:=ho p.1 hb
  rw[e] at e';cases e'
  exact⟨e,f0,f1,f2,d⟩
theorem Inv.unpinned{pins pl:List (Addr×Obj)}{σ:St}{H:Hp}{s:Shared}(I:Inv X (pins++pl) σ H s):Inv X pins σ H s:=I.pins_of fun p hp=>I.pin p (mem_append_right _ (mem_append_left _ hp))
theorem zqE{iter:Expr}{body:List Stmt}{wi:TI}{g:TG}{tb:TS}{pos:Pos}(hp:PassesOwn (model X.prog X.w) X.A X.env X.xe)(hc:X.calm=true)(hi:PI X tg iter wi)(hg:PG X tg g)(hb:PSs X body tb)(hs:∀x,foldedSetIterable iter X.env x=pure x:=by intro _;rfl):PS X (.For tg iter body [] pos) (zuI wi g tb):=by
 intro pins s σ H D I h
 refine wpAny_For (thn (hi pins s σ H _ I h) fun v s1 h1=>thn h1 fun itv s2 h2=>?_) hs
 obtain⟨it,fp,tn,J,H2,e,I2,T,st2,f2,W,⟨m0,w0⟩,turn⟩:=h2
 subst e
 have stat:∀{H':Hp},(∀b∈fp,H' b=none)->∀b∈fp,znU X pins H' b:=fun hn b hb=>⟨hn b hb,(f2 b hb).2⟩
 refine codeAny_forLoop_any (fun n s'=>∃i σ' H',Inv X pins σ' H' s'/\tn i s'.heap/\(∀b∈fp,H' b=none)/\W i n σ' H') ?_ m0 ⟨0,σ,H2,I2,st2,fun b hb=>(f2 b hb).1,w0⟩
 rintro n s3 ⟨i,σ3,H3,I3,st3,fr3,w3⟩
 rcases turn i n σ3 H3 w3 with ⟨stop,qn⟩|⟨go,N,hN,step⟩
 ·refine wpAny_passesOwn hp (thn (T.done X rfl rfl rfl hc i pins s3 σ3 H3 X.xe I3 (stat fr3) st3 stop) fun r s4 ⟨hr,I4⟩=>?_)
  subst hr
  exact wpAny_execs_nil ⟨σ3,H3,I4,qn⟩
 ·refine wpAny_passesOwn hp (thn (T.item X rfl rfl rfl hc i pins s3 σ3 H3 X.xe I3 (stat fr3) st3 go) fun r s4 ⟨u,hr,h4⟩=>?_)
  subst hr
  refine wpAny_passesOwn hp (thn h4 fun _ s5 ⟨x,H5,I5,r5,y5,st5,fr5⟩=>?_)
  have I5':=I5.pinned (stat fr5) (T.obj _ _ st5)
  refine wpAny_passesOwn hp (thn (hg _ s5 σ3 H5 x u _ I5' r5 (step x H5 y5)) fun _ s6 ⟨σ6,H6,I6,q6⟩=>?_)
  refine wpAny_passesOwn hp (thn (hb _ s6 σ6 H6 _ I6 q6) fun f s7 q7=>?_)
  have again:∀{σ7:St} {H7:Hp},Inv X (pins++zfS fp s5.heap) σ7 H7 s7->N σ7 H7->∃m,m<n/\∃i σ' H',Inv X pins σ' H' s7/\tn i s7.heap/\(∀b∈fp,H' b=none)/\W i m σ' H':=fun {σ7 H7} I7 n7=>by
   obtain⟨m',hm,w7⟩:=hN σ7 H7 n7
   refine⟨m',hm,i+1,σ7,H7,I7.unpinned,T.keep _ _ _ st5 fun b hb o e=>(I7.pin (b,o) (mem_append_right _ (mem_append_right _ (zdh hb e)))).1,fun b hb=>?_,w7⟩
   obtain⟨o,e,d⟩:=T.obj _ _ st5 b hb
   exact(I7.pin (b,o) (mem_append_right _ (mem_append_right _ (zdh hb e)))).2.1
  cases f with
  | next=>obtain⟨σ7,H7,I7,n7⟩:=q7;exact again I7 n7
  | cont=>obtain⟨σ7,H7,I7,n7⟩:=q7;exact again I7 n7
  | brk=>obtain⟨σ7,H7,I7,q7⟩:=q7;exact⟨σ7,H7,I7.unpinned,q7⟩
  | ret v=>obtain⟨x7,σ7,H7,I7,r7,q7⟩:=q7;exact⟨x7,σ7,H7,I7.unpinned,r7,q7⟩
end
abbrev R2:=V->V->Hp->VK->Prop
def OpR(X:Cx)(f:Value->Value->Sem Value)(r:R2):Prop :=
 ∀(pins:List (Addr×Obj)) (s:Shared) (σ:St) (H:Hp) (x y:V) (v u:Value) (Q:VK),Inv X pins σ H s->RelV x v->RelV y u->r x y H Q ->
  wpAny (model X.prog X.w) X.A (f v u) (EP X pins σ Q) X.xe s
def UnR(X:Cx)(f:Value->Sem Value)(r:V->Hp->VK->Prop):Prop :=
 ∀(pins:List (Addr×Obj)) (s:Shared) (σ:St) (H:Hp) (x:V) (v:Value) (Q:VK),Inv X pins σ H s->RelV x v->r x H Q ->
  wpAny (model X.prog X.w) X.A (f v) (EP X pins σ Q) X.xe s
def CallR(X:Cx)(f:Value)(r:List V->Hp->VK->Prop):Prop :=
 ∀(pins:List (Addr×Obj)) (s:Shared) (σ:St) (H:Hp) (xs:List V) (us:List Value) (Q:VK),Inv X pins σ H s->Vals xs us->r xs H Q ->
  wpAny (model X.prog X.w) X.A (call f us) (EP X pins σ Q) X.xe s
def zuJ(X:Cx)(r:V->Hp->(Bool->Hp->Prop)->Prop):Prop :=
 ∀(pins:List (Addr×Obj)) (s:Shared) (σ:St) (H:Hp) (x:V) (v:Value) (Q:Bool->Hp->Prop),Inv X pins σ H s->RelV x v->r x H Q ->
  wpAny (model X.prog X.w) X.A (truthy v) (TP X pins σ Q) X.xe s
def tOp(r:R2)(ta tb:TE):TE:=fun σ H Q=>ta σ H fun x H1=>tb σ H1 fun y H2=>r x y H2 Q
def tUn(r:V->Hp->VK->Prop)(ta:TE):TE:=fun σ H Q=>ta σ H fun x H1=>r x H1 Q
def rI(C:Int->Int->Prop)(g:Int->Int->V):R2:=fun x y H Q=>∃i j,x=.int i/\y=.int j/\C i j/\Q (g i j) H
def rI0(g:Int->Int->V):R2:=fun x y H Q=>∃i j,x=.int i/\y=.int j/\Q (g i j) H
def rU(g:Int->V):V->Hp->VK->Prop:=fun x H Q=>∃i,x=.int i/\Q (g i) H
section
variable {X:Cx} {a b c:Expr} {ta tb tc:TE} {pos:Pos}
theorem zsL(ha:PE X a ta)(hb:PE X b tb){pins:List (Addr×Obj)}{s:Shared}{σ:St}{H:Hp}{R:V->V->Hp->Prop}(I:Inv X pins σ H s)(h:ta σ H fun x H1=>tb σ H1 fun y H2=>R x y H2){Q:Value->Shared->Prop}{f:Value->Value->Sem Value}(hf:∀v u s2 x y H2,Inv X pins σ H2 s2->RelV x v->RelV y u->R x y H2->wpAny (model X.prog X.w) X.A (f v u) Q X.xe s2) :
  wpAny (model X.prog X.w) X.A (eval a X.env) (fun v s₁=>wpAny (model X.prog X.w) X.A (eval b X.env) (fun u s₂=>wpAny (model X.prog X.w) X.A (f v u) Q X.xe s₂) X.xe s₁) X.xe s:=by
 refine thn (ha pins s σ H _ I h) fun v s1 ⟨x,H1,I1,r1,q1⟩=>?_
 refine thn (hb pins s1 σ H1 _ I1 q1) fun u s2 ⟨y,H2,I2,r2,q2⟩=>?_
 exact hf v u s2 x y H2 I2 r1 r2 q2
theorem zqF{op:Operator}{r:R2}(ho:OpR X (binaryOp op) r)(ha:PE X a ta)(hb:PE X b tb):PE X (.BinOp a op b pos) (tOp r ta tb):=by
 intro pins s σ H Q I h
 exact wpAny_BinOp (zsL ha hb I h fun v u s2 x y H2 I2 rx ry q=>ho pins s2 σ H2 x y v u Q I2 rx ry q)
theorem zsM{op:UnaryOp}{r:V->Hp->VK->Prop}(ho:UnR X (unaryOp op) r)(ha:PE X a ta):PE X (.UnaryOp op a pos) (tUn r ta):=by
 intro pins s σ H Q I h
 exact UnaryOp_ (thn (ha pins s σ H _ I h) fun v s1 ⟨x,H1,I1,r1,q1⟩=>ho pins s1 σ H1 x v Q I1 r1 q1)
theorem opI{f:Value->Value->Sem Value}{C:Int->Int->Prop}{g:Int->Int->Int}(rule:∀(i j:Int) (t u:Tok) (s:Shared) (Q:Value->Shared->Prop) (E:Value->Shared->Prop),C i j->Q (.int (g i j) s.toks) { s with toks:=s.toks+1 }->wpAny (model X.prog X.w) X.A (f (.int i t) (.int j u)) Q E s) :
  OpR X f (rI C fun i j=>.int (g i j)):=by
 intro pins s σ H x y v u Q I rx ry h
 obtain⟨i,j,rfl,rfl,hc,q⟩:=h
 obtain⟨t,rfl⟩:=rx
 obtain⟨t',rfl⟩:=ry
 exact rule i j t t' s _ _ hc ⟨.int (g i j),H,I.tok _,⟨_,rfl⟩,q⟩
theorem ztR{f:Value->Value->Sem Value}{g:Int->Int->Int}(rule:∀(i j:Int) (t u:Tok) (s:Shared) (Q:Value->Shared->Prop) (E:Value->Shared->Prop),Q (.int (g i j) s.toks) { s with toks:=s.toks+1 }->wpAny (model X.prog X.w) X.A (f (.int i t) (.int j u)) Q E s) :
  OpR X f (rI0 fun i j=>.int (g i j)):=by
 intro pins s σ H x y v u Q I rx ry h
 obtain⟨i,j,rfl,rfl,q⟩:=h
 obtain⟨t,rfl⟩:=rx
 obtain⟨t',rfl⟩:=ry
 exact rule i j t t' s _ _ ⟨.int (g i j),H,I.tok _,⟨_,rfl⟩,q⟩
theorem zsk{f:Value->Value->Sem Value}{g:Int->Int->Bool}(rule:∀(i j:Int) (t u:Tok) (s:Shared) (Q:Value->Shared->Prop) (E:Value->Shared->Prop),Q (.bool (g i j)) s->wpAny (model X.prog X.w) X.A (f (.int i t) (.int j u)) Q E s) :
  OpR X f (rI0 fun i j=>.bl (g i j)):=by
 intro pins s σ H x y v u Q I rx ry h
 obtain⟨i,j,rfl,rfl,q⟩:=h
 obtain⟨t,rfl⟩:=rx
 obtain⟨t',rfl⟩:=ry
 exact rule i j t t' s _ _ ⟨.bl (g i j),H,I,rfl,q⟩
def zsN(i j:Int):Prop:=0<j/\j<1073741824
def CMul(i j:Int):Prop:=(-(2 ^ 64)<i/\i<2 ^ 64)\/(-(2 ^ 64)<j/\j<2 ^ 64)
theorem CMul.ok{i j:Int}(h:CMul i j):IntMulOk i j:=by
 rcases h with ⟨h1,h2⟩|⟨h1,h2⟩
 ·exact .of_left (intBits_le_64 h1 h2)
 ·exact .of_right (intBits_le_64 h1 h2)
theorem zqG:OpR X (binaryOp .Add) (rI0 fun i j=>.int (i+j)):=ztR fun _ _ _ _ _ _ _ q=>add_int q
theorem zqH:OpR X (binaryOp .Sub) (rI0 fun i j=>.int (i-j)):=ztR fun _ _ _ _ _ _ _ q=>sub_int q
theorem zqI:OpR X (binaryOp .Mult) (rI CMul fun i j=>.int (i*j)):=opI fun _ _ _ _ _ _ _ hc q=>mul_int q hc.ok
theorem zoH:OpR X (binaryOp .FloorDiv) (rI zsN fun i j=>.int (i / j)):=opI fun i j _ _ _ _ _ hc q=>by
 have h1:(0:Int)<j:=hc.1
 have h2:j<1073741824:=hc.2
 exact floordiv_int (by omega) (by rw[fdiv_eq_ediv_of_nonneg i (by omega)];exact q) (.inl (PyProof.noPylong_small (by omega)))
theorem zqJ:OpR X (binaryOp .Mod) (rI (fun _ j=>0<j) fun i j=>.int (i % j)):=opI fun i j _ _ _ _ _ hc q=>by
 have h1:(0:Int)<j:=hc
 exact mod_int' (by omega) (by rw[fmod_eq_emod_of_nonneg i (by omega)];exact q)
theorem unI{f:Value->Sem Value}{g:Int->Int}(rule:∀(i:Int) (t:Tok) (s:Shared) (Q:Value->Shared->Prop) (E:Value->Shared->Prop),Q (.int (g i) s.toks) { s with toks:=s.toks+1 }->wpAny (model X.prog X.w) X.A (f (.int i t)) Q E s) :
  UnR X f (rU fun i=>.int (g i)):=by
 intro pins s σ H x v Q I rx h
 obtain⟨i,rfl,q⟩:=h
 obtain⟨t,rfl⟩:=rx
 exact rule i t s _ _ ⟨.int (g i),H,I.tok _,⟨_,rfl⟩,q⟩
theorem zqK:UnR X (unaryOp .USub) (rU fun i=>.int (-i)):=unI fun _ _ _ _ _ q=>neg_int q
end
def ztS:V->V->Bool
 | .non,.non=>true|.non,.int _=>true|.int _,.non=>true|.non,.bl _=>true|.bl _,.non=>true|.non,.str _=>true|.str _,.non=>true
 | .int _,.int _=>true|.bl _,.bl _=>true|.str _,.str _=>true|.byt _,.byt _=>true
 | .int _,.str _=>true|.str _,.int _=>true|.bl _,.str _=>true|.str _,.bl _=>true
 | _,_=>false
def rEq:R2:=fun x y H Q=>ztS x y=true/\Q (.bl (decide (x=y))) H
def rNe:R2:=fun x y H Q=>ztS x y=true/\Q (.bl (!decide (x=y))) H
theorem zkm{i j:Int}:decide (V.int i=V.int j)=(i==j):=by
 rw[Bool.eq_iff_iff]
 simp
theorem znV{i j:Bool}:decide (V.bl i=V.bl j)=(i==j):=by
 rw[Bool.eq_iff_iff]
 simp
theorem zkn{i j:Str}:decide (V.str i=V.str j)=(i==j):=by
 rw[Bool.eq_iff_iff]
 simp
theorem zko{i j:Array UInt8}:decide (V.byt i=V.byt j)=(i.toList==j.toList):=by
 rw[Bool.eq_iff_iff]
 cases i
 cases j
 simp
section
variable {X:Cx} {a b c:Expr} {ta tb tc:TE} {pos:Pos}
theorem zaV{pins:List (Addr×Obj)}{σ:St}{H:Hp}{s:Shared}{Q:VK}{k k':Bool}(I:Inv X pins σ H s)(q:Q (.bl k) H)(e:k=k'):EP X pins σ Q (.bool k') s:=by
 subst e
 exact⟨.bl k,H,I,rfl,q⟩
theorem zsO:OpR X (compareOp .Eq) rEq:=by
 intro pins s σ H x y v u Q I rx ry h
 obtain⟨hs,q⟩:=h
 cases x with
 | non =>
  cases rx
  cases y with
  | non=>cases ry;exact PySem.EqNone.eq_none_none (zaV I q (by simp))
  | bl j=>cases ry;exact PySem.EqNone.eq_none_bool (zaV I q (by simp))
  | int j=>obtain⟨t',rfl⟩:=ry;exact PySem.EqNone.eq_none_int (zaV I q (by simp))
  | str j=>obtain⟨t',rfl⟩:=ry;exact PySem.EqNone.eq_none_str (zaV I q (by simp))
  | _=>exact absurd (show false=true from hs) Bool.false_ne_true
 | bl i =>
  cases rx
  cases y with
  | non=>cases ry;exact PySem.EqNone.eq_bool_none (zaV I q (by simp))
  | bl j=>cases ry;exact eq_bool (zaV I q znV)
  | str j=>obtain⟨t',rfl⟩:=ry;exact PySem.EqMixed.eq_bool_str (zaV I q (by simp))
  | _=>exact absurd (show false=true from hs) Bool.false_ne_true
 | int i =>
  obtain⟨t,rfl⟩:=rx
  cases y with
  | non=>cases ry;exact PySem.EqNone.eq_int_none (zaV I q (by simp))
  | int j=>obtain⟨t',rfl⟩:=ry;exact eq_int (zaV I q zkm)
  | str j=>obtain⟨t',rfl⟩:=ry;exact PySem.EqMixed.eq_int_str (zaV I q (by simp))
  | _=>exact absurd (show false=true from hs) Bool.false_ne_true
 | str i =>
  obtain⟨t,rfl⟩:=rx
  cases y with
  | non=>cases ry;exact PySem.EqNone.eq_str_none (zaV I q (by simp))
  | bl j=>cases ry;exact PySem.EqMixed.eq_str_bool (zaV I q (by simp))
  | int j=>obtain⟨t',rfl⟩:=ry;exact PySem.EqMixed.eq_str_int (zaV I q (by simp))
  | str j=>obtain⟨t',rfl⟩:=ry;exact eq_str (zaV I q zkn)
  | _=>exact absurd (show false=true from hs) Bool.false_ne_true
 | byt i =>
  obtain⟨t,rfl⟩:=rx
  cases y with
  | byt j=>obtain⟨t',rfl⟩:=ry;exact PySem.W.eq_bytes (zaV I q zko)
  | _=>exact absurd (show false=true from hs) Bool.false_ne_true
 | _=>cases y<;>exact absurd (show false=true from hs) Bool.false_ne_true
theorem zsP:OpR X (compareOp .NotEq) rNe:=by
 intro pins s σ H x y v u Q I rx ry h
 obtain⟨hs,q⟩:=h
 cases x with
 | non =>
  cases rx
  cases y with
  | non=>cases ry;exact PySem.EqNone.ne_none_none (zaV I q (by simp))
  | bl j=>cases ry;exact PySem.EqNone.ne_none_bool (zaV I q (by simp))
  | int j=>obtain⟨t',rfl⟩:=ry;exact PySem.EqNone.ne_none_int (zaV I q (by simp))
  | str j=>obtain⟨t',rfl⟩:=ry;exact PySem.EqNone.ne_none_str (zaV I q (by simp))
  | _=>exact absurd (show false=true from hs) Bool.false_ne_true
 | bl i =>
  cases rx
  cases y with
  | non=>cases ry;exact PySem.EqNone.ne_bool_none (zaV I q (by simp))
  | bl j=>cases ry;exact ne_bool (zaV I q (congrArg not znV))
  | str j=>obtain⟨t',rfl⟩:=ry;exact PySem.EqMixed.ne_bool_str (zaV I q (by simp))
  | _=>exact absurd (show false=true from hs) Bool.false_ne_true
 | int i =>
  obtain⟨t,rfl⟩:=rx
  cases y with
  | non=>cases ry;exact PySem.EqNone.ne_int_none (zaV I q (by simp))
  | int j=>obtain⟨t',rfl⟩:=ry;exact ne_int (zaV I q (congrArg not zkm))
  | str j=>obtain⟨t',rfl⟩:=ry;exact PySem.EqMixed.ne_int_str (zaV I q (by simp))
  | _=>exact absurd (show false=true from hs) Bool.false_ne_true
 | str i =>
  obtain⟨t,rfl⟩:=rx
  cases y with
  | non=>cases ry;exact PySem.EqNone.ne_str_none (zaV I q (by simp))
  | bl j=>cases ry;exact PySem.EqMixed.ne_str_bool (zaV I q (by simp))
  | int j=>obtain⟨t',rfl⟩:=ry;exact PySem.EqMixed.ne_str_int (zaV I q (by simp))
  | str j=>obtain⟨t',rfl⟩:=ry;exact ne_str (zaV I q (congrArg not zkn))
  | _=>exact absurd (show false=true from hs) Bool.false_ne_true
 | byt i =>
  obtain⟨t,rfl⟩:=rx
  cases y with
  | byt j=>obtain⟨t',rfl⟩:=ry;exact PySem.W.ne_bytes (zaV I q (congrArg not zko))
  | _=>exact absurd (show false=true from hs) Bool.false_ne_true
 | _=>cases y<;>exact absurd (show false=true from hs) Bool.false_ne_true
theorem zsQ:OpR X (compareOp .Lt) (rI0 fun i j=>.bl (decide (i<j))):=zsk fun _ _ _ _ _ _ _ q=>lt_int q
theorem zqL:OpR X (compareOp .LtE) (rI0 fun i j=>.bl (decide (i<=j))):=zsk fun _ _ _ _ _ _ _ q=>le_int q
theorem zqM:OpR X (compareOp .Gt) (rI0 fun i j=>.bl (decide (j<i))):=zsk fun _ _ _ _ _ _ _ q=>gt_int q
theorem zsR:OpR X (compareOp .GtE) (rI0 fun i j=>.bl (decide (j<=i))):=zsk fun _ _ _ _ _ _ _ q=>ge_int q
theorem zcv(b:Expr){op:CmpOp}(h:op≠.In:=by decide)(h2:op≠.NotIn:=by decide):behindInMarks op b=false:=by
 have e1:(op==CmpOp.In)=false:=by cases op<;>first|rfl|exact absurd rfl h
 have e2:(op==CmpOp.NotIn)=false:=by cases op<;>first|rfl|exact absurd rfl h2
 cases b<;>simp[behindInMarks,e1,e2]
theorem zh9{op:CmpOp}{r:R2}(ho:OpR X (compareOp op) r)(ha:PE X a ta)(hb:PE X b tb)(hm:behindInMarks op b=false):PE X (.Compare a [op] [b] pos) (tOp r ta tb):=by
 intro pins s σ H Q I h
 exact wpAny_Compare1 (zsL ha hb I h fun v u s2 x y H2 I2 rx ry q=>ho pins s2 σ H2 x y v u Q I2 rx ry q) hm
def zsS(t:TE):TT:=fun σ H Q=>t σ H fun x H'=>∃k,x=.bl k/\Q k H'
theorem zoI{op:CmpOp}{r:R2}(ho:OpR X (compareOp op) r)(ha:PE X a ta)(hb:PE X b tb)(hm:behindInMarks op b=false):PT X (.Compare a [op] [b] pos) (zsS (tOp r ta tb)):=by
 intro pins s σ H Q I h
 refine wpAny_isTrue_Compare1 (thn (ha pins s σ H _ I h) fun v s1 ⟨x,H1,I1,r1,q1⟩=>thn (hb pins s1 σ H1 _ I1 q1) fun u s2 ⟨y,H2,I2,r2,q2⟩ =>
  thn (ho pins s2 σ H2 x y v u _ I2 r1 r2 q2) fun c s3 ⟨z,H3,I3,r3,k,e,q3⟩=>?_) hm
 subst e
 cases r3
 exact wpAny_truthy_bool ⟨H3,I3,q3⟩
def znW(r r':R2)(ta tb tc:TE):TE:=fun σ H Q=>ta σ H fun x H1=>tb σ H1 fun y H2=>r x y H2 fun z H3=>∃k,z=.bl k /\
 (if k=true then tc σ H3 fun w' H4=>r' y w' H4 Q else Q (.bl false) H3)
theorem zmo{op op':CmpOp}{r r':R2}(ho:OpR X (compareOp op) r)(ho':OpR X (compareOp op') r')(ha:PE X a ta)(hb:PE X b tb)(hc:PE X c tc)(hm:lastMarks [op,op'] [b,c]=false:=by with_unfolding_all rfl):PE X (.Compare a [op,op'] [b,c] pos) (znW r r' ta tb tc):=by
 intro pins s σ H Q I h
 refine Compare_chain (thn (ha pins s σ H _ I h) fun v s1 ⟨x,H1,I1,r1,q1⟩=>chain_link (thn (hb pins s1 σ H1 _ I1 q1) fun u s2 ⟨y,H2,I2,r2,q2⟩ =>
  thn (ho pins s2 σ H2 x y v u _ I2 r1 r2 q2) fun d s3 ⟨z,H3,I3,r3,k,e,q3⟩=>?_)) hm
 subst e
 cases r3
 refine wpAny_truthy_bool ?_
 cases k with
 | false=>exact ite_ff ⟨.bl false,H3,I3,rfl,q3⟩
 | true=>exact ite_tt (chain_last (thn (hc pins s3 σ H3 _ I3 q3) fun w' s4 ⟨z',H4,I4,r4,q4⟩=>ho' pins s4 σ H4 y z' u w' Q I4 r2 r4 q4))
def zsl(K:PySem.W.Frag)(x:V)(H:Hp)(k:Bool):Prop :=
 match x with
 | .non=>k=false
 | .bl b=>k=b
 | .int i=>k=(i != 0)
 | .str y=>y.length<=sizeLine/\k=((y.length:Int) != 0)
 | .byt y=>y.size<=sizeLine/\k=((y.size:Int) != 0)
 | .ref p=>(∃xs,SqL K H p xs/\k=!xs.isEmpty)\/(∃xs,SqT K H p xs/\k=!xs.isEmpty)\/∃kvs,H p=some (.dK kvs)/\k=!kvs.isEmpty
 | _=>False
theorem zjA{κ:Type}{kvs:List (κ×V)}{vs:List (κ×Value)}(r:KV kvs vs):(!vs.isEmpty)=!kvs.isEmpty:=by
 cases r<;>rfl
theorem zfT{xs:List V}{its:List Value}(r:Vals xs its):(!its.toArray.isEmpty)=!xs.isEmpty:=by
 cases r<;>simp
theorem zhe:(sizeLine:Nat)<2 ^ 63:=by rw[sizeLine_eq];decide
theorem zqN:zuJ X (fun x H Q=>∃k,zsl X.K x H k/\Q k H):=by
 intro pins s σ H x v Q I rx h
 obtain⟨k,e,q⟩:=h
 have hl:=zhe
 have hs:sizeLine=16777216:=sizeLine_eq
 cases x with
 | non =>
  cases rx
  have e':k=false:=e
  subst e'
  exact truthy_none ⟨H,I,q⟩
 | bl b =>
  cases rx
  have e':k=b:=e
  subst e'
  exact wpAny_truthy_bool ⟨H,I,q⟩
 | int i =>
  obtain⟨t,rfl⟩:=rx
  have e':k=(i != 0):=e
  subst e'
  exact PySem.P.truthy_int ⟨H,I,q⟩
 | str y =>
  obtain⟨t,rfl⟩:=rx
  obtain⟨hy,e'⟩:y.length<=sizeLine/\k=((y.length:Int) != 0):=e
  subst e'
  exact PySem.P.truthy_str (by omega) ⟨H,I.tok _,q⟩
 | byt y =>
  obtain⟨t,rfl⟩:=rx
  obtain⟨hy,e'⟩:y.size<=sizeLine/\k=((y.size:Int) != 0):=e
  subst e'
  exact PySem.W.truthy_bytes (by omega) ⟨H,I.tok _,q⟩
 | ref p =>
  cases rx
  have e':(∃xs,SqL X.K H p xs/\k=!xs.isEmpty)\/(∃xs,SqT X.K H p xs/\k=!xs.isEmpty)\/∃kvs,H p=some (.dK kvs)/\k=!kvs.isEmpty:=e
  rcases e' with ⟨xs,hx,e'⟩|⟨xs,hx,e'⟩|⟨kvs,hx,e'⟩
  ·subst e'
   obtain⟨its,r,pl,hz⟩:=I.list hx
   have hlen:=r.length
   exact wpAny_truthy_list pl.isList (by simp only[size_toArray];omega) ⟨H,I.tok _,by rw[zfT r];exact q⟩
  ·subst e'
   obtain⟨its,r,pl,hz⟩:=I.tuple hx
   have hlen:=r.length
   exact truthy_tuple pl (by simp only[size_toArray];omega) ⟨H,I.tok _,by rw[zfT r];exact q⟩
  ·subst e'
   obtain⟨hz,hS,vs,r,m⟩:kvs.length<=sizeLine/\(p==sysModules)=false/\∃vs,KV kvs vs/\s.heap.DictOf (zaQ X.prog X.w) p vs:=I.hok p _ hx
   have hlen:kvs.length=vs.length:=Paired.length r
   exact wpAny_truthy_dict hS m (by omega) ⟨H,I.tok _,by rw[zjA r];exact q⟩
 | _=>exact(show False from e).elim
theorem zmp(ha:PE X a ta)(he:∀whole,isTrue a X.env whole=(do let v <- whole;standAt a.pos;holding [v] (truthy v))) :
  PT X a (fun σ H Q=>ta σ H fun x H'=>∃k,zsl X.K x H' k/\Q k H'):=by
 intro pins s σ H Q I h
 exact isTrue_plain (thn (ha pins s σ H _ I h) fun v s1 ⟨x,H1,I1,r1,q1⟩=>zqN pins s1 σ H1 x v Q I1 r1 q1) (he _)
theorem ze0{x:V}{us:List Value}(r:Vals [x] us):∃u,us=[u]/\RelV x u:=by
 cases r with
 | cons r1 r2=>cases r2;exact⟨_,rfl,r1⟩
theorem zmq{x y:V}{us:List Value}(r:Vals [x,y] us):∃u w',us=[u,w']/\RelV x u/\RelV y w':=by
 cases r with
 | cons r1 r2 =>
  cases r2 with
  | cons r3 r4=>cases r4;exact⟨_,_,rfl,r1,r3⟩
def ztT(K:PySem.W.Frag)(x:V)(H:Hp)(n:Nat):Prop :=
 match x with
 | .str y=>y.length<=sizeLine/\n=y.length
 | .byt y=>y.size<=sizeLine/\n=y.size
 | .ref p=>(∃xs,SqL K H p xs/\n=xs.length)\/∃xs,SqT K H p xs/\n=xs.length
 | _=>False
theorem zmr:CallR X (.builtin "len") (fun xs H Q=>∃x n,xs=[x]/\ztT X.K x H n/\Q (.int n) H):=by
 intro pins s σ H xs us Q I r h
 obtain⟨x,n,rfl,e,q⟩:=h
 obtain⟨u,rfl,rx⟩:=ze0 r
 have hl:=zhe
 have hs:sizeLine=16777216:=sizeLine_eq
 cases x with
 | str y =>
  obtain⟨t,rfl⟩:=rx
  obtain⟨hy,e'⟩:y.length<=sizeLine/\n=y.length:=e
  subst e'
  exact len_str (by omega) ⟨.int _,H,I.tok _,⟨_,rfl⟩,q⟩
 | byt y =>
  obtain⟨t,rfl⟩:=rx
  obtain⟨hy,e'⟩:y.size<=sizeLine/\n=y.size:=e
  subst e'
  exact PySem.W.len_bytes (by omega) ⟨.int _,H,I.tok _,⟨_,rfl⟩,q⟩
 | ref p =>
  cases rx
  have e':(∃xs,SqL X.K H p xs/\n=xs.length)\/∃xs,SqT X.K H p xs/\n=xs.length:=e
  rcases e' with ⟨xs,hx,e'⟩|⟨xs,hx,e'⟩
  ·subst e'
   obtain⟨its,r',pl,hz⟩:=I.list hx
   have hlen:=r'.length
   exact Calls.call_len_list pl.isList (by simp only[size_toArray];omega) ⟨.int xs.length,H,I.tok _,⟨_,by simp only[size_toArray];rw[hlen]⟩,q⟩
  ·subst e'
   obtain⟨its,r',pl,hz⟩:=I.tuple hx
   have hlen:=r'.length
   exact len_tuple pl (by simp only[size_toArray];omega) ⟨.int xs.length,H,I.tok _,⟨_,by simp only[size_toArray];rw[hlen]⟩,q⟩
 | _=>exact(show False from e).elim
end
structure ObjM (h:Heap) (x dx C:Addr) (mA:Str->Option Value):Prop where
 obj:h.get? x=some (PySem.W.instObj C dx)
 ns:h.Ns1 dx mA
 ne:dx≠x
theorem zkp{h:Heap}{dx:Addr}{mA:Str->Option Value}(n:h.Ns1 dx mA):∃od,h.get? dx=some od/\∀name,PySem.W.lookIn name od=some (mA name):=by
 obtain⟨o,es,ep,ho,hd,hk,_,hm⟩:=n
 refine⟨o,ho,fun name=>?_⟩
 have e:=hm name
 unfold nsFind findBy at e
 rw[<- find?_toList] at e
 unfold PySem.W.lookIn
 rw[hd]
 dsimp only
 split
 ·rename_i y q
  rw[q] at e
  exact congrArg some e
 ·rename_i q
  rw[q] at e
  have a:es.toList.any (·.refKey)=false:=by
   rw[any_eq_false]
   intro y hy
   obtain⟨z,t,hkey⟩:=hk y (mem_toList_iff.mp hy)
   simp[DictEntry.refKey,hkey]
  have a':¬es.toList.any (·.refKey)=true:=by rw[a];exact Bool.false_ne_true
  rw[if_neg a']
  exact congrArg some e
theorem ObjM.look{h:Heap}{x dx C:Addr}{mA:Str->Option Value}(I:ObjM h x dx C mA):∃od,PySem.W.InstAt h x (PySem.W.instObj C dx) C (some od)/\∀name,PySem.W.lookIn name od=some (mA name) :=
 let ⟨od,ho,hl⟩:=zkp I.ns
 ⟨od,⟨I.obj,rfl,rfl,ho⟩,hl⟩
section
variable {prog:Program} {w:World} {A:Around} {E:Value->Shared->Prop} {s:Shared} {K:PySem.W.Frag} {x dx C f:Addr} {mA:Str->Option Value} {name:Str} {v:Value}
theorem zoJ{expr:Bool}{Q:Value->Shared->Prop}(X:K.In s.heap)(I:ObjM s.heap x dx C mA)(hg:PySem.W.plainGet K C name=true)(hh:PySem.W.hasDictIn K C=true)(ha:PySem.W.findIn K (.ref C) name=some none)(hv:mA name=some v)(hv':PySem.W.handedIn v=true)(h:Q v { s with toks:=s.toks+1 }) :
  wpAny (model prog w) A (getAttr (.ref x) name expr) Q E s:=by
 obtain⟨od,J,hl⟩:=I.look
 exact PySem.W.get_value X J (PySem.W.plainGet_of hg).1 (PySem.W.findObj_own hh ha rfl (by rw[hl,hv])) hv' h
theorem zms{pl:Sem Bool}{Q:Value×List Value->Shared->Prop}(X:K.In s.heap)(I:ObjM s.heap x dx C mA)(hg:PySem.W.plainGet K C name=true)(hf:PySem.W.findIn K (.ref C) name=some (some (.ref f)))(ht:PySem.W.isFn K (.ref f)=true)(hv:mA name=none)(h:Q (.ref f,[.ref x]) s) :
  wpAny (model prog w) A (getMethod (.ref x) name pl) Q E s:=by
 obtain⟨od,J,hl⟩:=I.look
 exact PySem.W.method_fn X J (PySem.W.plainGet_of hg).1 (PySem.W.plainGet_of hg).2 hf (beq_iff_eq.mp ht) (by show(PySem.W.lookIn name od).map (·.isSome)=some false;rw[hl,hv];rfl) h
theorem zoK{ns:List Str}{Q:Unit->Shared->Prop}(X:K.In s.heap)(I:ObjM s.heap x dx C mA)(hs:PySem.W.findIn K (.ref C) "__setattr__" = some (some (.builtin "object.__setattr__")))(hp:PySem.W.plainOver K C=true)(ht:PySem.W.takerIn K C name=some none)(hh:PySem.W.hasDictIn K C=true)(hw:PySem.Within mA ns)(hsz:ns.length<=sizeLine)(h:∀h',ObjM h' x dx C (fun y=>if y=name then some v else mA y)->Heap.SameBut dx s.heap h'->Q () { s with heap:=h',toks:=s.toks+2 }) :
  wpAny (model prog w) A (setAttr (.ref x) name v) Q E s:=by
 obtain⟨od,J,hl⟩:=I.look
 refine PySem.W.set_plain X J hs (PySem.W.osa_open (s:={ s with toks:=s.toks+1 }) (r:=none) X J hp ht fun b=>?_)
 obtain⟨cd,hc,hd'⟩:=PySem.W.any_some hh
 have hx:s.heap.get? x=some ⟨.ref C,some dx,.plain,#[]⟩:=I.obj
 refine wpAny_bind (wpAny_pure (wpAny_bind (wpAny_bind (wpAny_loadPart hx (wpAny_bind (PySem.W.Looks.here (s:={ s with toks:=s.toks+1 }) (PySem.W.looks_clsIn X hc) ?_))))))
 rw[hd']
 refine wpAny_pure (a:=some dx) (wpAny_bind (wpAny_pure (wpAny_bind ?_)))
 refine wpAny_nsSet1 (s:={ s with toks:=s.toks+1 }) I.ns fun h' hn2 hs2=>?_
 obtain⟨oD,esD,epD,hoD,hdD,hcD⟩:=hn2.count (PySem.Within.cons name v hw)
 refine wpAny_bind (wpAny_lookBehind hoD (by rw[hdD];exact pastItsLine_dict (le_trans hcD (by rw[length_cons];omega))) ?_)
 exact wpAny_pure (h _ ⟨(hs2.2 _ (Ne.symm I.ne)).trans I.obj,hn2,I.ne⟩ hs2)
theorem zmt{R:Result->Shared->Prop}{vs:List Value}{kw:List (Str×Value)}(X:K.In s.heap)(hm:PySem.W.makesIn K C=true)(hi:PySem.W.findIn K (.ref C) "__init__" = some (some (.ref f)))(hf:PySem.W.typeIn K (.ref f)=some (.type "function"))(h:codeAny (model prog w) (A.under (.builtin "type.__call__" ⟨.ref C::vs,kw⟩)) (.call (.ref f) ⟨.ref (s.heap.objs.size+1)::vs,kw⟩) (PySem.W.InitBack (s.heap.objs.size+1) R)
   { s with heap:=(s.heap.push PySem.W.emptyDict).push (PySem.W.instObj C s.heap.objs.size) }) :
  codeAny (model prog w) A (.call (.ref C) ⟨vs,kw⟩) R s:=by
 obtain⟨hh,g,d,t,os⟩:=s
 exact PySem.W.make_core (PySem.W.makes_of X hm) (PySem.W.looks_findIn X hi) (fun self=>PySem.W.bind_fn X self hf) (.inl rfl) h
end
def zgi(f:Str)(v:V):List (Str×V)->List (Str×V)
 | []=>[(f,v)]
 | (g,x)::r=>if g=f then (g,v)::r else (g,x)::zgi f v r
theorem ze1(f g:Str)(v:V):∀fs:List (Str×V),(zgi f v fs).lookup g=if g=f then some v else fs.lookup g
 | []=>by
  show List.lookup g [(f,v)]=_
  by_cases h:g=f
  ·have hb:(g==f)=true:=beq_iff_eq.mpr h
   simp only[List.lookup,hb,if_pos h]
  ·have hb:(g==f)=false:=beq_eq_false_iff_ne.mpr h
   simp only[List.lookup,hb,if_neg h]
 | (k,x)::r=>by
  have ih:=ze1 f g v r
  rw[show zgi f v ((k,x)::r)=(if k=f then (k,v)::r else (k,x)::zgi f v r) from rfl]
  by_cases hk:k=f
  ·rw[if_pos hk]
   by_cases h:g=k
   ·have hb:(g==k)=true:=beq_iff_eq.mpr h
    simp only[List.lookup,hb,if_pos (h.trans hk)]
   ·have hb:(g==k)=false:=beq_eq_false_iff_ne.mpr h
    simp only[List.lookup,hb,if_neg (fun e:g=f=>h (e.trans hk.symm))]
  ·rw[if_neg hk]
   by_cases h:g=k
   ·have hb:(g==k)=true:=beq_iff_eq.mpr h
    simp only[List.lookup,hb,if_neg (fun e:g=f=>hk (h.symm.trans e))]
   ·have hb:(g==k)=false:=beq_eq_false_iff_ne.mpr h
    simp only[List.lookup,hb]
    exact ih
theorem ze2(f:Str)(v:V):∀fs:List (Str×V),f∈(zgi f v fs).map (·.1)/\∀g,g∈fs.map (·.1)->g∈(zgi f v fs).map (·.1)
 | []=>⟨by simp[zgi],fun g h=>by simp at h⟩
 | (k,x)::r=>by
  obtain⟨i1,i2⟩:=ze2 f v r
  rw[show zgi f v ((k,x)::r)=(if k=f then (k,v)::r else (k,x)::zgi f v r) from rfl]
  by_cases hk:k=f
  ·rw[if_pos hk]
   subst hk
   exact⟨by simp,fun g h=>by simpa using h⟩
  ·rw[if_neg hk]
   refine⟨?_,fun g h=>?_⟩
   ·rw[map_cons]
    exact mem_cons_of_mem _ i1
   ·rw[map_cons] at h ⊢
    rcases mem_cons.mp h with e|e
    ·exact mem_cons.mpr (.inl e)
    ·exact mem_cons_of_mem _ (i2 g e)
theorem ze3(f:Str)(v:V):∀fs:List (Str×V),(zgi f v fs).length<=fs.length+1
 | []=>by simp[zgi]
 | (k,x)::r=>by
  have ih:=ze3 f v r
  rw[show zgi f v ((k,x)::r)=(if k=f then (k,v)::r else (k,x)::zgi f v r) from rfl]
  by_cases hk:k=f
  ·rw[if_pos hk,length_cons,length_cons];omega
  ·rw[if_neg hk,length_cons,length_cons];omega
theorem RelO.some_of{v:V}{o:Option Value}(r:RelO (some v) o):∃u,o=some u/\RelV v u:=by
 cases o with
 | none=>exact(show False from r).elim
 | some u=>exact⟨u,rfl,r⟩
theorem RelO.none_of{o:Option Value}(r:RelO none o):o=none:=by
 cases o with
 | none=>rfl
 | some u=>exact(show False from r).elim
theorem zkq{v:V}{u:Value}(r:RelV v u):PySem.W.handedIn u=true:=by
 cases v with
 | non=>cases (show u=Value.none from r);rfl
 | bl b=>cases (show u=Value.bool b from r);rfl
 | int i=>obtain⟨t,e⟩:=(show ∃t,u=Value.int i t from r);cases e;rfl
 | str x=>obtain⟨t,e⟩:=(show ∃t,u=Value.str x t from r);cases e;rfl
 | byt b=>obtain⟨t,e⟩:=(show ∃t,u=Value.bytes b t from r);cases e;rfl
 | flt b=>obtain⟨t,e⟩:=(show ∃t,u=Value.float b t from r);cases e;rfl
 | ref a=>cases (show u=Value.ref a from r);rfl
 | ty n=>cases (show u=Value.type n from r);rfl
section
variable {P:Program} {w:World} {H H':Hp} {h h':Heap} {a C dx:Addr} {fs fs':List (Str×V)}
theorem zgj(hok:HOk P w H h)(e:H a=some (.ins C dx fs)):∃mA,ObjM h a dx C mA/\(∀f,RelO (fs.lookup f) (mA f))/\PySem.Within mA (fs.map (·.1))/\fs.length<=1000/\H dx=some (.own a):=by
 obtain⟨d,z,ne,ob,mA,n,r,q⟩:=(show ObjOk P w H h a (.ins C dx fs) from hok a _ e)
 exact⟨mA,⟨ob,n,ne⟩,r,q,z,d⟩
end
structure Cls (K:PySem.W.Frag) (C:Addr):Prop where
 pg:PySem.W.plainGet K C Str.empty=true
 hd:PySem.W.hasDictIn K C=true
 po:PySem.W.plainOver K C=true
 sa:PySem.W.findIn K (.ref C) "__setattr__" = some (some (.builtin "object.__setattr__"))
theorem Cls.get{K:PySem.W.Frag}{C:Addr}(c:Cls K C)(f:Str):PySem.W.plainGet K C f=true:=c.pg
def NoAttr(K:PySem.W.Frag)(C:Addr)(f:Str):Prop:=PySem.W.findIn K (.ref C) f=some none
theorem NoAttr.taker{K:PySem.W.Frag}{C:Addr}{f:Str}(n:NoAttr K C f):PySem.W.takerIn K C f=some none:=by
 unfold PySem.W.takerIn
 rw[show PySem.W.findIn K (.ref C) f=some none from n]
 rfl
structure Meth (K:PySem.W.Frag) (C:Addr) (m:Str) (f:Addr):Prop where
 at_:PySem.W.findIn K (.ref C) m=some (some (.ref f))
 fn:PySem.W.isFn K (.ref f)=true
 kp:PySem.W.keepIn K (.ref f)=true
section
variable {X:Cx} {pins:List (Addr×Obj)} {σ:St} {H:Hp} {s:Shared} {a C dx:Addr} {fs:List (Str×V)} {f:Str} {v:V} {A:Around} {E:Value->Shared->Prop}
theorem zjB{b:Bool}{Q:Value->Shared->Prop}(I:Inv X pins σ H s)(e:H a=some (.ins C dx fs))(c:Cls X.K C)(n:NoAttr X.K C f)(l:fs.lookup f=some v)(h:∀u s',Inv X pins σ H s'->RelV v u->Q u s'):wpAny (model X.prog X.w) A (getAttr (.ref a) f b) Q E s:=by
 obtain⟨mA,O,r,_,_,_⟩:=zgj I.hok e
 obtain⟨u,hu,ru⟩:=RelO.some_of (v:=v) (o:=mA f) (by rw[<- l];exact r f)
 exact zoJ I.kIn O (c.get f) c.hd n hu (zkq ru) (h u _ (I.tok _) ru)
theorem zed{m:Str}{g:Addr}{pl:Sem Bool}{Q:Value×List Value->Shared->Prop}(I:Inv X pins σ H s)(e:H a=some (.ins C dx fs))(c:Cls X.K C)(k:Meth X.K C m g)(l:fs.lookup m=none)(h:Q (.ref g,[.ref a]) s):wpAny (model X.prog X.w) A (getMethod (.ref a) m pl) Q E s:=by
 obtain⟨mA,O,r,_,_,_⟩:=zgj I.hok e
 have hn:mA m=none:=RelO.none_of (by rw[<- l];exact r m)
 exact zms I.kIn O (c.get m) k.at_ k.fn hn h
theorem zjC{y:V}{u:Value}{Q:Unit->Shared->Prop}(I:Inv X pins σ H s)(e:H a=some (.ins C dx fs))(c:Cls X.K C)(n:NoAttr X.K C f)(hl:fs.length<1000)(ry:RelV y u)(h:∀s',Inv X pins σ (upd H a (.ins C dx (zgi f y fs))) s'->Q () s'):wpAny (model X.prog X.w) A (setAttr (.ref a) f u) Q E s:=by
 obtain⟨mA,O,r,wi,_,ho⟩:=zgj I.hok e
 have hz:(fs.map (·.1)).length<=sizeLine:=by rw[length_map,sizeLine_eq];omega
 refine zoK I.kIn O c.sa c.po n.taker c.hd wi hz fun h' O' sb=>h _ ?_
 have hd:∃o,h'.get? dx=some o:=let ⟨o,_,_,e',_⟩:=O'.ns;⟨o,e'⟩
 refine I.write (x:=a) (e:=dx) (by rw[e];exact True.intro) (.inr ho) (fun b q hb z=>(sb.2 b hb).trans z) hd ?_
 refine⟨by rw[zaC O.ne];exact ho,?_,O.ne,O'.obj,_,O'.ns,fun g=>?_,fun g hg=>?_⟩
 ·have:=ze3 f y fs;omega
 ·show RelO ((zgi f y fs).lookup g) (if g=f then some u else mA g)
  rw[ze1]
  by_cases q:g=f
  ·rw[if_pos q,if_pos q];exact ry
  ·rw[if_neg q,if_neg q];exact r g
 ·by_cases q:g=f
  ·rw[q];exact(ze2 f y fs).1
  ·refine(ze2 f y fs).2 g (wi g fun z=>hg ?_)
   show(if g=f then some u else mA g)=none
   rw[if_neg q];exact z
theorem Inv.made(I:Inv X pins σ H s):Inv X pins σ (upd (upd H s.heap.objs.size (.own (s.heap.objs.size+1))) (s.heap.objs.size+1) (.ins C s.heap.objs.size []))
  { s with heap:=(s.heap.push PySem.W.emptyDict).push (PySem.W.instObj C s.heap.objs.size) }:=by
 have e1:(s.heap.push PySem.W.emptyDict).get? s.heap.objs.size=some PySem.W.emptyDict:=Heap.get?_push_size s.heap rfl
 have e2:((s.heap.push PySem.W.emptyDict).push (PySem.W.instObj C s.heap.objs.size)).get? (s.heap.objs.size+1)=some (PySem.W.instObj C s.heap.objs.size):=by
  have:=Heap.get?_push_size (s.heap.push PySem.W.emptyDict) (o:=PySem.W.instObj C s.heap.objs.size) rfl
  rwa [Heap.size_push] at this
 have e3:(s.heap.push PySem.W.emptyDict).Ns s.heap.objs.size (fun _=>none):=⟨PySem.W.emptyDict,#[],_,e1,rfl,(fun e he=>absurd he (by simp)),fun _=>rfl⟩
 have I1:=I.laid (a:=s.heap.objs.size) (o:=.own (s.heap.objs.size+1)) (h':=s.heap.push PySem.W.emptyDict) (t':=s.toks) (fun b u q=>Heap.get?_push_of_some _ q) (le_refl _) ⟨_,e1⟩
 refine I1.laid (a:=s.heap.objs.size+1) (o:=.ins C s.heap.objs.size []) (t':=s.toks) (fun b u q=>Heap.get?_push_of_some _ q) (le_of_eq (Heap.size_push _ _)) ?_
 have ne:s.heap.objs.size≠s.heap.objs.size+1:=ne_of_lt (lt_succ_self _)
 refine⟨by rw[zaC ne,zat],zero_le _,ne,e2,fun _=>none,(Heap.Ns1.of_empty e3).at fun o q=>Heap.get?_push_of_some _ q,fun _=>True.intro,fun y hy=>absurd rfl hy⟩
theorem zoL{prog:Program}{w:World}{env:Env}{e:Expr}{f:Str}{pos:Pos}{s:Shared}{Q:Value->Shared->Prop}(hb:attributeBase e f env (eval e env)=eval e env)(h:wpAny (model prog w) A (eval e env) (fun o s₁=>wpAny (model prog w) A (getAttr o f true) Q E s₁) E s):wpAny (model prog w) A (eval (.Attribute e f pos) env) Q E s :=
 Attribute_any_ h (by rw[arm_eval_Attribute,hb])
end
def zuK(K:PySem.W.Frag)(ta:TE)(f:Str):TE:=fun σ H Q=>ta σ H fun x H1=>∃a C dx fs v,x=.ref a/\H1 a=some (.ins C dx fs)/\Cls K C/\NoAttr K C f/\fs.lookup f=some v/\Q v H1
def zuL(K:PySem.W.Frag)(ta tv:TE)(f:Str):TS:=fun D σ H=>tv σ H fun y H1=>ta σ H1 fun x H2=>∃a C dx fs,x=.ref a/\H2 a=some (.ins C dx fs)/\Cls K C/\NoAttr K C f/\fs.length<1000 /\
 D.nx σ (upd H2 a (.ins C dx (zgi f y fs)))
section
variable {X:Cx} {o e value:Expr} {f:Str} {pos pos' tpos:Pos} {ta tv:TE}
theorem zqO(he:PE X e ta)(hb:attributeBase e f X.env (eval e X.env)=eval e X.env):PE X (.Attribute e f pos) (zuK X.K ta f):=by
 intro pins s σ H Q I h
 refine zoL hb (thn (he pins s σ H _ I h) fun u s1 ⟨x,H1,I1,rx,a,C,dx,fs,v,ex,ea,c,n,l,q⟩=>?_)
 subst ex
 obtain rfl:u=Value.ref a:=rx
 exact zjB I1 ea c n l fun u' s2 I2 ru=>⟨v,H1,I2,ru,q⟩
theorem zqP(ha:PE X o ta)(hv:PE X value tv)(hs:swapsWith value (some (.Attribute o f pos')) pos.line X.env=pure false):PS X (.Assign [.Attribute o f pos'] value pos) (zuL X.K ta tv f):=by
 intro pins s σ H D I h
 refine plainObj_wpAny_Assign_Attribute (thn (hv pins s σ H _ I h) fun u s1 ⟨y,H1,I1,ry,q⟩=>thn (ha pins s1 σ H1 _ I1 q) fun ov s2 ⟨x,H2,I2,rx,a,C,dx,fs,ex,ea,c,n,l,q2⟩=>?_) hs
 subst ex
 obtain rfl:ov=Value.ref a:=rx
 exact zjC I2 ea c n l ry fun s3 I3=>⟨σ,_,I3,q2⟩
end
section
variable {X:Cx} {pins:List (Addr×Obj)} {σ:St} {H:Hp} {s:Shared} {A:Around} {E:Value->Shared->Prop} {Q:Value->Shared->Prop} {c:Value} {b:Bool}
inductive TyOf (K:PySem.W.Frag) (H:Hp):V->Value->Prop where
 | non:TyOf K H .non (.type "NoneType")
 | bl (x:Bool):TyOf K H (.bl x) (.type "bool")
 | int (i:Int):TyOf K H (.int i) (.type "int")
 | str (x:Str):TyOf K H (.str x) (.type "str")
 | flt (x:UInt64):TyOf K H (.flt x) (.type "float")
 | lst {a:Addr} {xs:List V} (e:H a=some (.lst xs)):TyOf K H (.ref a) (.type "list")
 | frz {a:Addr} {o:Obj} {xs:List V} (e:H a=some (.frz o (.lst xs))):TyOf K H (.ref a) (.type "list")
 | tup {a:Addr} {xs:List V} (e:H a=some (.tup xs)):TyOf K H (.ref a) (.type "tuple")
 | dK {a:Addr} {kvs:List (Key×V)} (e:H a=some (.dK kvs)):TyOf K H (.ref a) (.type "dict")
 | dT {a:Addr} {kvs:List (List Key×V)} (e:H a=some (.dT kvs)):TyOf K H (.ref a) (.type "dict")
 | ins {a C dx:Addr} {fs:List (Str×V)} (e:H a=some (.ins C dx fs)) (cl:Cls K C) (ha:PySem.W.findIn K (.ref C) "__class__" = some (some (.builtin "object.__class__")))
   (hn:PySem.W.specialIn K (.builtin "object.__class__") "__get__" = some (some (.builtin "getset_descriptor.__get__"))) (htk:PySem.W.takesIn K (.builtin "object.__class__")=some true)
   (hm:PySem.W.mroIn K C (.type "object")=some true):TyOf K H (.ref a) (.ref C)
theorem zkr{x:V}{u t:Value}(I:Inv X pins σ H s)(rx:RelV x u)(ty:TyOf X.K H x t)(e:PySem.W.kitOne X.K t c=some b)(h:∀tk,Q (.bool b) { s with toks:=tk }) :
  wpAny (model X.prog X.w) A (call (.builtin "isinstance") [u,c]) Q E s:=by
 cases ty with
 | non=>cases (show u=Value.none from rx);exact PySem.W.kia_one PySem.W.kitx_none I.kIn True.intro e (fun z=>nomatch z) h
 | bl y=>cases (show u=Value.bool y from rx);exact PySem.W.kia_one PySem.W.kitx_bool I.kIn True.intro e (fun z=>nomatch z) h
 | int i=>obtain⟨t,q⟩:=(show ∃t,u=Value.int i t from rx);cases q;exact PySem.W.kia_one PySem.W.kitx_int I.kIn True.intro e (fun z=>nomatch z) h
 | str y=>obtain⟨t,q⟩:=(show ∃t,u=Value.str y t from rx);cases q;exact PySem.W.kia_one PySem.W.kitx_str I.kIn True.intro e (fun z=>nomatch z) h
 | flt y=>obtain⟨t,q⟩:=(show ∃t,u=Value.float y t from rx);cases q;exact PySem.W.kia_one PySem.W.kitx_float I.kIn True.intro e (fun z=>nomatch z) h
 | @lst a xs ea =>
  cases (show u=Value.ref a from rx)
  obtain⟨_,_,n,_,h1⟩:=(show ObjOk X.prog X.w H s.heap a (.lst xs) from I.hok a _ ea)
  exact PySem.W.kia_one PySem.W.kitx_list I.kIn ⟨_,h1,rfl⟩ e (fun z=>nomatch z) h
 | @frz a ob xs ea =>
  cases (show u=Value.ref a from rx)
  obtain⟨_,_,_,n,_,h1⟩:=(show ObjOk X.prog X.w H s.heap a (.frz ob (.lst xs)) from I.hok a _ ea)
  exact PySem.W.kia_one PySem.W.kitx_list I.kIn ⟨_,h1,rfl⟩ e (fun z=>nomatch z) h
 | @tup a xs ea =>
  cases (show u=Value.ref a from rx)
  obtain⟨_,_,_,p⟩:=(show ObjOk X.prog X.w H s.heap a (.tup xs) from I.hok a _ ea)
  obtain⟨o,h1,h2,_⟩:=p
  exact PySem.W.kia_one PySem.W.kitx_tuple I.kIn ⟨o,h1,h2⟩ e (fun z=>nomatch z) h
 | @dK a kvs ea =>
  cases (show u=Value.ref a from rx)
  obtain⟨_,_,vs,_,p⟩:=(show ObjOk X.prog X.w H s.heap a (.dK kvs) from I.hok a _ ea)
  obtain⟨o,es,ep,h1,h2,_⟩:=p
  exact PySem.W.kia_one PySem.W.kitx_dict I.kIn ⟨o,h1,h2.1⟩ e (fun z=>nomatch z) h
 | @dT a kvs ea =>
  cases (show u=Value.ref a from rx)
  obtain⟨_,_,xs,_,o,es,ep,h1,h2,_⟩:=(show ObjOk X.prog X.w H s.heap a (.dT kvs) from I.hok a _ ea)
  exact PySem.W.kia_one PySem.W.kitx_dict I.kIn ⟨o,h1,h2.1⟩ e (fun z=>nomatch z) h
 | @ins a C dx fs ea cl ha hn htk hm =>
  cases (show u=Value.ref a from rx)
  obtain⟨mA,O,_⟩:=zgj I.hok ea
  obtain⟨od,J,_⟩:=O.look
  exact PySem.W.kia_one (PySem.W.kitx_own (cl.get _) cl.hd ha hn htk hm) I.kIn J e (fun z=>nomatch z) h
end
structure Room (k:Nat) (A:Around):Prop where
 hd:A.handled=none
 dp:A.depth+3*k+5<recursionLimit
 un:A.units+16*k+200<cLine
theorem Room.mono{j k:Nat}{A:Around}(r:Room k A)(h:j<=k):Room j A:=⟨r.hd,by have:=r.dp;omega,by have:=r.un;omega⟩
theorem Room.deeper{k:Nat}{A:Around}(r:Room (k+1) A)(env:Env):Room k (A.deeper env) :=
 ⟨r.hd,by have:=r.dp;show A.depth+1+3*k+5<_;omega,by have:=r.un;show A.units+3+16*k+200<_;omega⟩
theorem zjD{A:Around}{C:Addr}{us:List Value}{kw:List (Str×Value)}:(A.under (.builtin "type.__call__" ⟨.ref C::us,kw⟩)).depth=A.depth+1:=by
 first|rfl|simp[Around.under,Code.weight,Code.isCreation,Code.isGuard,Code.isCaller,Code.frames,Code.isFrame,guardIds]
theorem zjE{A:Around}{C:Addr}{us:List Value}{kw:List (Str×Value)}:(A.under (.builtin "type.__call__" ⟨.ref C::us,kw⟩)).units=A.units+1:=by
 first|rfl|simp[Around.under,Code.cUnits,Code.frames,Code.isFrame]
theorem Room.make{k:Nat}{A:Around}(r:Room (k+1) A)(C:Addr)(us:List Value)(kw:List (Str×Value)):Room k (A.under (.builtin "type.__call__" ⟨.ref C::us,kw⟩)) :=
 ⟨r.hd,by have:=r.dp;rw[zjD];omega,by have:=r.un;rw[zjE];omega⟩
theorem Room.depth{k:Nat}{A:Around}(r:Room k A):A.depth<recursionLimit:=by have:=r.dp;omega
theorem Room.units{k:Nat}{A:Around}(r:Room k A):A.units+64<cLine:=by have:=r.un;omega
def ztU:TA:=fun _ H Q=>Q [] H
def zsT(ta:TE)(tr:TA):TA:=fun σ H Q=>ta σ H fun x H1=>tr σ H1 fun xs H2=>Q (x::xs) H2
section
variable {X:Cx} {e:Expr} {es:List Expr} {te:TE} {t:TA} {pos:Pos}
theorem zhf:PA X [] ztU:=fun _ _ _ _ H Q I h=>Calls.spliced_nil ⟨[],H,I,.nil,h⟩
theorem zee(ha:PE X e te)(hr:PA X es t)(hs:starEach (e::es) X.env=(false,eval e X.env)::starEach es X.env:=by rfl):PA X (e::es) (zsT te t):=by
 intro pos pins s σ H Q I h
 rw[hs]
 show wpAny _ _ (spliced ((false,eval e X.env)::backTo pos (starEach es X.env))) _ _ s
 refine Calls.spliced_cons (thn (ha pins s σ H _ I h) fun u s1 ⟨x,H1,I1,r1,q1⟩=>?_)
 exact thn (hr pos pins s1 σ H1 _ I1 q1) fun us s2 ⟨xs,H2,I2,r2,q2⟩=>⟨x::xs,H2,I2,.cons r1 r2,q2⟩
def zuM(t:TA):TE:=fun σ H Q=>t σ H fun xs H1=>xs.length<=sizeLine/\∀p,H1 p=none->Q (.ref p) (upd H1 p (.tup xs))
def zuN(t:TA):TE:=fun σ H Q=>t σ H fun xs H1=>xs.length<=sizeLine/\∀p,H1 p=none->Q (.ref p) (upd H1 p (.lst xs))
theorem znX{x1}(h:PA X es t):PE X (.Tuple es x1 pos) (zuM t):=by
 intro pins s σ H Q I hq
 refine wpAny_Tuple_spliced (thn (h pos pins s σ H _ I hq) fun us s1 ⟨xs,H1,I1,r,z,q⟩=>⟨by rw[<- r.length];exact z,?_⟩)
 have hf:H1 s1.heap.objs.size=none:=I1.hok.fresh (le_refl _)
 refine⟨.ref s1.heap.objs.size,upd H1 s1.heap.objs.size (.tup xs),I1.laid (t':=s1.toks) (fun b u e=>Heap.get?_push_of_some _ e) (le_refl _) ?_,rfl,q _ hf⟩
 exact⟨z,us,r,⟨_,Heap.get?_push_size _ rfl,rfl,⟨_,rfl⟩,rfl⟩⟩
theorem znY(h:PA X es t):PE X (.List es pos) (zuN t):=by
 intro pins s σ H Q I hq
 refine wpAny_List_spliced (thn (h pos pins s σ H _ I hq) fun us s1 ⟨xs,H1,I1,r,z,q⟩=>⟨by rw[<- r.length];exact z,?_⟩)
 have hf:H1 s1.heap.objs.size=none:=I1.hok.fresh (le_refl _)
 refine⟨.ref s1.heap.objs.size,upd H1 s1.heap.objs.size (.lst xs),I1.laid (t':=s1.toks) (fun b u e=>Heap.get?_push_of_some _ e) (le_refl _) ?_,rfl,q _ hf⟩
 exact⟨z,us,0,r,Heap.get?_push_size _ rfl⟩
end
abbrev Sp:=List V->Hp->VK->XK->Prop
abbrev CXT:=List Env->Hp->Shared->XK->Value->Shared->Prop
structure Env0 (P:Program) (w:World) (K:PySem.W.Frag) (mg:Str->Option Value) (base:Heap) (A:Around) (outer:List Env) (s:Shared) (H:Hp):Prop where
 frames:A.frames=some outer
 mod:Mod K mg base
 bs:∀b o,base.get? b=some o->s.heap.get? b=some o/\H b=none
 bsz:base.objs.size<=s.heap.objs.size
 funs:s.heap.FunFrames base outer
 frf:∀b∈frs outer,H b=none
 hok:HOk P w H s.heap
 bare:AllBare s.gens
def CE(outer:List Env)(P:Program)(w:World)(H:Hp)(s:Shared)(Q:VK)(u:Value)(s':Shared):Prop :=
 ∃v H',s'.os=s.os/\AllBare s'.gens/\Un (frs outer) [] H H' s.heap s'.heap/\HOk P w H' s'.heap/\RelV v u/\Q v H'
def CR(CX:CXT)(outer:List Env)(P:Program)(w:World)(H:Hp)(s:Shared)(Q:VK)(E:XK)(r:Result)(s':Shared):Prop :=
 match r with
 | .ok (.ret u)=>CE outer P w H s Q u s'
 | .ok _=>False
 | .error e=>CX outer H s E e s'
structure FnOk (P:Program) (w:World) (K:PySem.W.Frag) (mg:Str->Option Value) (base:Heap) (CX:CXT) (k:Nat) (f:Addr) (fd:FuncData) (ps:List Str) (sp:Sp):Prop where
 len:∀vs H Q E,sp vs H Q E->vs.length=ps.length
 run:∀(A:Around) (outer:List Env) (s:Shared) (H:Hp) (args:Args) (us:List Value) (vs:List V) (Q:VK) (E:XK),Room k A->Env0 P w K mg base A outer s H->BindsTo s fd args (ps.zip us)->Vals vs us->sp vs H Q E ->
  codeAny (model P w) A (.call (.ref f) args) (CR CX outer P w H s Q E) s
theorem FnOk.imp{P:Program}{w:World}{K:PySem.W.Frag}{mg:Str->Option Value}{base:Heap}{CX:CXT}{k:Nat}{f:Addr}{fd:FuncData}{ps:List Str}{sp sp':Sp}(F:FnOk P w K mg base CX k f fd ps sp)(h:∀vs H Q E,sp' vs H Q E->sp vs H Q E):FnOk P w K mg base CX k f fd ps sp' :=
 ⟨fun vs H Q E q=>F.len vs H Q E (h _ _ _ _ q),fun A outer s H args us vs Q E hr he hb hv hs=>F.run A outer s H args us vs Q E hr he hb hv (h _ _ _ _ hs)⟩
theorem Env0.make{P:Program}{w:World}{K:PySem.W.Frag}{mg:Str->Option Value}{base:Heap}{A:Around}{outer:List Env}{s:Shared}{H:Hp}(e:Env0 P w K mg base A outer s H)(C:Addr)(us:List Value)(kw:List (Str×Value)) :
  Env0 P w K mg base (A.under (.builtin "type.__call__" ⟨.ref C::us,kw⟩)) outer s H:=⟨by first|exact e.frames|(simpa[Around.under,Code.envs,Code.isFrame,pushEnvs] using e.frames),e.mod,e.bs,e.bsz,e.funs,e.frf,e.hok,e.bare⟩
section
variable {X:Cx} {pins:List (Addr×Obj)} {σ:St} {H:Hp} {s s':Shared}
theorem Inv.env0(I:Inv X pins σ H s):Env0 X.prog X.w X.K X.mg X.base X.A X.stack s H :=
 ⟨I.ok.frames,I.ok.mod,I.bs,le_trans I.ok.bsz I.sz,I.stack,I.stkFree,I.hok,I.bare⟩
theorem Inv.after{Q:VK}{u:Value}(I:Inv X pins σ H s)(h:CE X.stack X.prog X.w H s Q u s'):EP X pins σ Q u s':=by
 obtain⟨v,H',os,bare,un,hok,r,q⟩:=h
 obtain⟨hh,g,d,t,os'⟩:=s'
 obtain rfl:os'=s.os:=os
 exact⟨v,H',I.call (h':=hh) (g':=g) (d':=d) (t':=t) (ch:=[]) un hok bare (fun b z=>absurd z (by simp)),r,q⟩
end
def zsU(sp:Sp)(dvs:List V)(E:XK)(t:TA):TE:=fun σ H Q=>t σ H fun vs H1=>sp (vs++dvs) H1 Q E
def zqQ(C:Addr)(m:Str)(sp:Sp)(dvs:List V)(E:XK)(ta:TE)(t:TA):TE:=fun σ H Q=>ta σ H fun x H1=>∃a dx fs,x=.ref a/\H1 a=some (.ins C dx fs)/\fs.lookup m=none /\
 t σ H1 fun vs H2=>sp (x::(vs++dvs)) H2 Q E
def zsV(C:Addr)(sp:Sp)(dvs:List V)(E:XK)(t:TA):TE:=fun σ H Q=>t σ H fun vs H1=>∀x dx,H1 x=none->H1 dx=none->dx≠x ->
 sp (.ref x::(vs++dvs)) (upd (upd H1 dx (.own x)) x (.ins C dx [])) (fun v H2=>v=.non/\Q (.ref x) H2) E
def Binds(K:PySem.W.Frag)(fd:FuncData)(ps:List Str)(ds:List Value):Prop :=
 ∀(s:Shared) (us:List Value),K.In s.heap->(us++ds).length=ps.length->BindsTo s fd ⟨us,[]⟩ (ps.zip (us++ds))
theorem Binds.all{K:PySem.W.Frag}{fd:FuncData}{ps:List Str}(h:∀us:List Value,us.length=ps.length->bindArgs fd ⟨us,[]⟩=pure (ps.zip us)):Binds K fd ps []:=fun s us _ hl=>by
 rw[append_nil] at hl ⊢
 exact .of_eq (h us hl)
def zb7(CX:CXT)(X:Cx)(E:XK):Prop:=∀(pins:List (Addr×Obj)) (σ:St) (H:Hp) (s:Shared) (e:Value) (s':Shared),Inv X pins σ H s->CX X.stack H s E e s'->X.xe e s'
section
variable {X:Cx} {CX:CXT} {k:Nat} {f C:Addr} {fd:FuncData} {ps:List Str} {sp:Sp} {dvs:List V} {ds:List Value} {E:XK} {x m:Str} {p pos apos:Pos} {e o:Expr} {es:List Expr} {ta:TE} {t:TA}
theorem zfU{pins:List (Addr×Obj)}{σ:St}{H:Hp}{s:Shared}{Q:VK}{us:List Value}{vs:List V}(F:FnOk X.prog X.w X.K X.mg X.base CX k f fd ps sp)(hr:Room k X.A)(hb:Binds X.K fd ps ds)(hd:Vals dvs ds)(hx:zb7 CX X E)(I:Inv X pins σ H s)(r:Vals vs us)(h:sp (vs++dvs) H Q E):wpAny (model X.prog X.w) X.A (call (.ref f) us) (EP X pins σ Q) X.xe s:=by
 have r2:Vals (vs++dvs) (us++ds):=r.append hd
 have hl:(us++ds).length=ps.length:=by rw[<- r2.length];exact F.len _ _ _ _ h
 refine wpAny_call (codeAny_mono (F.run X.A X.stack s H ⟨us,[]⟩ (us++ds) (vs++dvs) Q E hr I.env0 (hb s us I.kIn hl) r2 h) fun r s' hq=>?_)
 cases r with
 | error e=>exact hx pins σ H s e s' I hq
 | ok fl =>
  cases fl with
  | ret u=>exact I.after hq
  | next=>exact False.elim hq
  | brk=>exact False.elim hq
  | cont=>exact False.elim hq
theorem zoM(F:FnOk X.prog X.w X.K X.mg X.base CX k f fd ps sp)(hr:Room k X.A)(hg:Gl X x)(hm:X.mg x=some (.ref f))(hk:PySem.W.keepIn X.K (.ref f)=true)(hb:Binds X.K fd ps ds)(hd:Vals dvs ds)(hx:zb7 CX X E)(ha:PA X (e::es) t)(hdb:(x==("__debug__" : Str))=false:=by decide)(he:starEach (e::es) X.env=(false,eval e X.env)::starEach es X.env:=by rfl)(hpl:(backTo pos (starEach es X.env)).any (·.1)=false:=by rfl) :
  PE X (.Call (.Name x p) (e::es) [] pos) (zsU sp dvs E t):=by
 intro pins s σ H Q I h
 refine wpAny_Call_Name_kw (zcn I hg hm ?_ hdb)
 refine PySem.W.callWith_K (h₀:=X.base) I.ok.mod.kin hk (thn (ha pos pins s σ H _ I h) fun us s1 ⟨vs,H1,I1,r,q⟩=>⟨I1.kIn,?_⟩) he hpl
 exact zfU F hr hb hd hx I1 r q
theorem zoN{pl:Sem Bool}(he:PE X o ta)(c:Cls X.K C)(hm:Meth X.K C m f)(F:FnOk X.prog X.w X.K X.mg X.base CX k f fd ps sp)(hr:Room k X.A)(hb:Binds X.K fd ps ds)(hd:Vals dvs ds)(hx:zb7 CX X E)(ha:PA X (e::es) t)(hst:starEach (e::es) X.env=(false,eval e X.env)::starEach es X.env:=by rfl)(hpl:(backTo pos (starEach es X.env)).any (·.1)=false:=by rfl)(ht:eval (.Call (.Attribute o m apos) (e::es) [] pos) X.env=(do
   let ov <- eval o X.env
   standAt apos.atName
   let (f,first) <- holding [ov] (getMethod ov m pl)
   callWith pos f first (backTo pos (starEach (e::es) X.env)) (backToKw pos (keywordEach [] X.env))):=by rfl) :
  PE X (.Call (.Attribute o m apos) (e::es) [] pos) (zqQ C m sp dvs E ta t):=by
 intro pins s σ H Q I h
 refine PySem.W.methodCall_KW (pl:=pl) (thn (he pins s σ H _ I h) fun u s1 ⟨x,H1,I1,rx,a,dx,fs,ex,ea,l,q⟩=>?_) ht
 subst ex
 obtain rfl:u=Value.ref a:=rx
 refine zed I1 ea c hm l ?_
 refine PySem.W.callWith_K (first:=[.ref a]) (h₀:=X.base) I.ok.mod.kin hm.kp (thn (ha pos pins s1 σ H1 _ I1 q) fun us s2 ⟨vs,H2,I2,r,q2⟩=>⟨I2.kIn,?_⟩) hst hpl
 exact zfU (us:=.ref a::us) (vs:=.ref a::vs) F hr hb hd hx I2 (.cons rfl r) q2
theorem zmu{pl:Sem Bool}(he:PE X o ta)(c:Cls X.K C)(hm:Meth X.K C m f)(F:FnOk X.prog X.w X.K X.mg X.base CX k f fd ps sp)(hr:Room k X.A)(hb:Binds X.K fd ps ds)(hd:Vals dvs ds)(hx:zb7 CX X E)(ht:eval (.Call (.Attribute o m apos) [] [] pos) X.env=(do
   let ov <- eval o X.env
   standAt apos.atName
   let (f,first) <- holding [ov] (getMethod ov m pl)
   callWith pos f first (backTo pos (starEach [] X.env)) (backToKw pos (keywordEach [] X.env))):=by rfl) :
  PE X (.Call (.Attribute o m apos) [] [] pos) (zqQ C m sp dvs E ta ztU):=by
 intro pins s σ H Q I h
 refine PySem.W.methodCall_KW (pl:=pl) (thn (he pins s σ H _ I h) fun u s1 ⟨x,H1,I1,rx,a,dx,fs,ex,ea,l,q⟩=>?_) ht
 subst ex
 obtain rfl:u=Value.ref a:=rx
 refine zed I1 ea c hm l ?_
 exact PySem.W.callWith_K0 (first:=[.ref a]) I1.kIn hm.kp (zfU (us:=[.ref a]) (vs:=[.ref a]) F hr hb hd hx I1 (.cons rfl .nil) q)
structure Mk (K:PySem.W.Frag) (C f:Addr):Prop where
 makes:PySem.W.makesIn K C=true
 init:PySem.W.findIn K (.ref C) "__init__" = some (some (.ref f))
 fn:PySem.W.isFn K (.ref f)=true
 kp:PySem.W.keepIn K (.ref C)=true
theorem zmv{pins:List (Addr×Obj)}{σ:St}{H:Hp}{s:Shared}{Q:VK}{us:List Value}{vs:List V}(M:Mk X.K C f)(F:FnOk X.prog X.w X.K X.mg X.base CX k f fd ps sp)(hr:Room (k+1) X.A)(hb:Binds X.K fd ps ds)(hd:Vals dvs ds)(hx:zb7 CX X E)(I:Inv X pins σ H s)(r:Vals vs us)(h:∀x dx,H x=none->H dx=none->dx≠x->sp (.ref x::(vs++dvs)) (upd (upd H dx (.own x)) x (.ins C dx [])) (fun v H2=>v=.non/\Q (.ref x) H2) E) :
  wpAny (model X.prog X.w) X.A (call (.ref C) us) (EP X pins σ Q) X.xe s:=by
 have hq:=h (s.heap.objs.size+1) s.heap.objs.size (I.hok.fresh (le_succ _)) (I.hok.fresh (le_refl _)) (ne_of_lt (lt_succ_self _))
 have I2:=Inv.made (C:=C) I
 have r2:Vals (V.ref (s.heap.objs.size+1)::(vs++dvs)) (Value.ref (s.heap.objs.size+1)::(us++ds)):=.cons rfl (r.append hd)
 have hl:(Value.ref (s.heap.objs.size+1)::us++ds).length=ps.length:=by
  have e:=r2.length
  rw[F.len _ _ _ _ hq] at e
  exact e.symm
 refine wpAny_call (zmt (f:=f) I.kIn M.makes M.init (beq_iff_eq.mp M.fn) (codeAny_mono (F.run _ X.stack _ _ ⟨Value.ref (s.heap.objs.size+1)::us,[]⟩ (Value.ref (s.heap.objs.size+1)::(us++ds)) _ _ E (hr.make C us [])
  (I2.env0.make C us []) (hb _ (Value.ref (s.heap.objs.size+1)::us) I2.kIn hl) r2 hq) fun r s' hq'=>?_))
 cases r with
 | error e=>exact hx pins σ _ _ e s' I2 hq'
 | ok fl =>
  cases fl with
  | ret u =>
   obtain⟨v,H',I3,rv,ev,q3⟩:=I2.after hq'
   subst ev
   exact⟨rv,⟨V.ref (s.heap.objs.size+1),H',I3,rfl,q3⟩⟩
  | next=>exact False.elim hq'
  | brk=>exact False.elim hq'
  | cont=>exact False.elim hq'
theorem zoO(M:Mk X.K C f)(F:FnOk X.prog X.w X.K X.mg X.base CX k f fd ps sp)(hr:Room (k+1) X.A)(hg:Gl X x)(hm:X.mg x=some (.ref C))(hb:Binds X.K fd ps ds)(hd:Vals dvs ds)(hx:zb7 CX X E)(ha:PA X (e::es) t)(hdb:(x==("__debug__" : Str))=false:=by decide)(he:starEach (e::es) X.env=(false,eval e X.env)::starEach es X.env:=by rfl)(hpl:(backTo pos (starEach es X.env)).any (·.1)=false:=by rfl) :
  PE X (.Call (.Name x p) (e::es) [] pos) (zsV C sp dvs E t):=by
 intro pins s σ H Q I h
 refine wpAny_Call_Name_kw (zcn I hg hm ?_ hdb)
 refine PySem.W.callWith_K (h₀:=X.base) I.ok.mod.kin M.kp (thn (ha pos pins s σ H _ I h) fun us s1 ⟨vs,H1,I1,r,q⟩=>⟨I1.kIn,?_⟩) he hpl
 exact zmv M F hr hb hd hx I1 r q
end
section
variable {X:Cx} {CX:CXT} {k:Nat} {f C:Addr} {fd:FuncData} {ps ks:List Str} {sp:Sp} {E:XK} {x m:Str} {p pos apos kpos:Pos} {e o:Expr} {es:List Expr} {kws:List Keyword} {te ta:TE} {t tk:TA} {nm:Option Str}
variable {g:List Value->List Value->List Value} {gV:List V->List V->List V}
end
structure FnScope (N P:List Str) (sc:Scope):Prop where
 kind:sc.kind=.function
 co:sc.isCoroutine=false
 gen:sc.isGenerator=false
 nd:N.Nodup
 pre:N.take P.length=P
 par:∀x∈P,sc.names.lookup x=some .local\/sc.names.lookup x=some .cell
 nofree:∀y∈sc.names,y.2≠.free
theorem zhg{kindOf:Str->Option NameKind}{x:Str}:∀{binds:List (Str×Value)} {m:Str->Option Value},(∀v,(x,v)∉binds)->bindL kindOf binds m x=m x
 | [],_,_=>rfl
 | (n,v)::r,m,h=>by
  unfold bindL
  rw[zhg fun w hw=>h w (mem_cons_of_mem _ hw)]
  split
  ·have:x≠n:=by rintro rfl;exact h v mem_cons_self
   simp[this]
  ·rfl
theorem zhh{kindOf:Str->Option NameKind}{x:Str}:∀{binds:List (Str×Value)} {m:Str->Option Value},(∀v,(x,v)∉binds)->bindC kindOf binds m x=m x
 | [],_,_=>rfl
 | (n,v)::r,m,h=>by
  unfold bindC
  rw[zhh fun w hw=>h w (mem_cons_of_mem _ hw)]
  split
  ·rfl
  ·have:x≠n:=by rintro rfl;exact h v mem_cons_self
   simp[this]
theorem zhi{kindOf:Str->Option NameKind}{x:Str}{v:Value}:∀{P:List Str} {vs:List Value} {i:Nat} {m:Str->Option Value},P.Nodup->P[i]?=some x->vs[i]?=some v->kindOf x=some .local ->
  bindL kindOf (P.zip vs) m x=some v
 | [],_,_,_,_,h,_,_=>by simp at h
 | _::_,[],_,_,_,_,h,_=>by simp at h
 | p::P,w::vs,0,m,nd,h1,h2,hk=>by
  simp at h1 h2;subst h1;subst h2
  show bindL kindOf ((p,w)::P.zip vs) m p=_
  unfold bindL
  rw[zhg fun v hv=>(nodup_cons.mp nd).1 (of_mem_zip hv).1,if_pos hk]
  simp
 | p::P,w::vs,i+1,m,nd,h1,h2,hk=>by
  show bindL kindOf ((p,w)::P.zip vs) m x=_
  unfold bindL
  exact zhi (i:=i) (nodup_cons.mp nd).2 (by simpa using h1) (by simpa using h2) hk
theorem zhj{kindOf:Str->Option NameKind}{x:Str}{v:Value}:∀{P:List Str} {vs:List Value} {i:Nat} {m:Str->Option Value},P.Nodup->P[i]?=some x->vs[i]?=some v->kindOf x≠some .local ->
  bindC kindOf (P.zip vs) m x=some v
 | [],_,_,_,_,h,_,_=>by simp at h
 | _::_,[],_,_,_,_,h,_=>by simp at h
 | p::P,w::vs,0,m,nd,h1,h2,hk=>by
  simp at h1 h2;subst h1;subst h2
  show bindC kindOf ((p,w)::P.zip vs) m p=_
  unfold bindC
  rw[zhh fun v hv=>(nodup_cons.mp nd).1 (of_mem_zip hv).1,if_neg hk]
  simp
 | p::P,w::vs,i+1,m,nd,h1,h2,hk=>by
  show bindC kindOf ((p,w)::P.zip vs) m x=_
  unfold bindC
  exact zhj (i:=i) (nodup_cons.mp nd).2 (by simpa using h1) (by simpa using h2) hk
def start(N:List Str)(vs:List V):St:=vs.map some++List.replicate (N.length-vs.length) none
def zj8(CX:CXT)(P:Program)(w:World)(K:PySem.W.Frag)(mg:Str->Option Value)(base:Heap)(N:List Str)(qual:Str)(scope:Scope)(f:Addr)(cd:Value)(A:Around)(outer:List Env)(s:Shared)(H:Hp)(E:XK):Cx where
 prog:=P
 w:=w
 K:=K
 mg:=mg
 base:=base
 A:=A.deeper (envOfC qual scope s.heap.objs.size f cd)
 N:=N
 s₀:=s
 H₀:=H
 env:=envOfC qual scope s.heap.objs.size f cd
 outer:=outer
 stack:=envOfC qual scope s.heap.objs.size f cd::outer
 ex:=[]
 calm:=true
 fn:=fun _=>true
 pn:=[]
 xe:=fun e s'=>wpAny (model P w) (A.deeper (envOfC qual scope s.heap.objs.size f cd)) (leaving (envOfC qual scope s.heap.objs.size f cd) e) (fun _ s''=>CX outer H s E e s'') (fun e' s''=>CX outer H s E e' s'') s'
theorem ziR{sc:Scope}{n:Nat}{x:Str}(h:sc.names.lookup x=some .cell):∃c,(cellsFrom n sc.names []).lookup x=some c:=by
 have q:=PySem.W.cellsFrom_some sc.names n [] (.inl h)
 exact isSome_iff_exists.mp q
theorem zks{CX:CXT}{P:Program}{w:World}{K:PySem.W.Frag}{mg:Str->Option Value}{base:Heap}{N ps:List Str}{qual:Str}{scope:Scope}{f:Addr}{cd:Value}{A:Around}{outer:List Env}{s s1:Shared}{H:Hp}{E:XK}{us:List Value}{vs:List V}(S:FnScope N ps scope)(hd:A.handled=none)(e0:Env0 P w K mg base A outer s H)(hl:vs.length=ps.length)(r:Vals vs us)(x:InCallC s s.heap.objs.size (bindL (envOfC qual scope s.heap.objs.size f cd).kindOf (ps.zip us) fun _=>none) (cellsFrom (s.heap.objs.size+1) scope.names []) (bindC (envOfC qual scope s.heap.objs.size f cd).kindOf (ps.zip us) fun _=>none) s1) :
  Inv (zj8 CX P w K mg base N qual scope f cd A outer s H E) [] (start N vs) H s1:=by
 have hpl:ps.length<=N.length:=by have:=congrArg List.length S.pre;rw[length_take] at this;omega
 obtain⟨h1,tk,rfl,hk⟩:=x.done
 have noA:∀b:Addr,b∉(zj8 CX P w K mg base N qual scope f cd A outer s H E).ex:=fun b z=>absurd (show b∈([]:List Addr) from z) (by simp)
 refine⟨⟨e0.mod,S.kind,rfl,rfl,le_refl _,fun y z c h1 h2=>?_,fun y hy=>?_,fun y c _ h=>?_,fun _=>hd,Around.frames_deeper e0.frames,.inr ⟨rfl,rfl⟩,fun b z=>absurd z (noA b),e0.bs,e0.bsz,fun b _ _=>noA b,fun b z=>absurd z (noA b),e0.funs,e0.frf⟩,
  rfl,e0.bare,Un.kept hk,⟨_,x.toInCall.ns,fun i y v h1 h2 h3=>?_⟩,fun y c h=>⟨_,x.cell y c h⟩,e0.hok.fresh (le_refl _),fun y c h=>?_,fun p hp=>absurd (show p∈([]:List (Addr×Obj)) from hp) (by simp),e0.hok.kept hk,?_⟩
 ·exact name_of_addr x.apart (PySem.mem_of_lookup h1) (PySem.mem_of_lookup h2)
 ·have hy:scope.names.lookup y=some .cell\/scope.names.lookup y=some .free:=hy
  rcases hy with hy|hy
  ·exact ziR hy
  ·exact absurd rfl (S.nofree _ (PySem.mem_of_lookup hy))
 ·exact le_of_lt (x.above y c (PySem.mem_of_lookup h))
 ·have hi:i<vs.length:=by
   unfold start at h2
   by_cases hi:i<vs.length
   ·exact hi
   ·rw[getElem?_append_right (by simpa using hi)] at h2
    rw[getElem?_replicate] at h2
    split at h2<;>cases h2
  have ha:vs[i]?=some v:=by
   unfold start at h2
   rw[getElem?_append_left (by simpa using hi),getElem?_map] at h2
   cases e:vs[i]? with
   | none=>rw[e] at h2;cases h2
   | some a=>rw[e] at h2;cases h2;rfl
  obtain⟨u,hu,rv⟩:=r.get ha
  have hp:ps[i]?=some y:=by
   rw[<- S.pre,getElem?_take_of_lt (by omega)];exact h1
  have ndP:ps.Nodup:=by rw[<- S.pre];exact S.nd.sublist (take_sublist _ _)
  refine⟨u,rv,?_⟩
  rcases S.par y (mem_of_getElem? hp) with k|k
  ·exact .inl ⟨k,zhi ndP hp hu k⟩
  ·obtain⟨c,e⟩:=ziR (n:=s.heap.objs.size+1) k
   refine .inr ⟨.inl k,c,e,?_⟩
   have q:=x.cell y c e
   rw[zhj ndP hp hu (by show scope.names.lookup y≠_;rw[k];decide)] at q
   exact q
 ·exact e0.hok.fresh (le_of_lt (x.above y c (PySem.mem_of_lookup h)))
 ·unfold start
  show _=N.length
  rw[length_append,length_map,length_replicate]
  omega
theorem zsW{CX:CXT}{P:Program}{w:World}{K:PySem.W.Frag}{mg:Str->Option Value}{base:Heap}{k:Nat}{f:Addr}{name qual:Str}{params:Arguments}{body:List Stmt}{scope:Scope}{dV kV doc pm cdv ct oc:Value}{an od:Option Addr}{osl:Array (Option Value)}{N ps:List Str}{sp:Sp}(lk:K.lookup f=some ⟨oc,od,.func (PySem.W.fnOf name qual params body scope dV kV doc pm an cdv ct),osl⟩)(hcd:PySem.W.codeIn K cdv qual=true)(S:FnScope N ps scope)(len:∀vs H Q E,sp vs H Q E->vs.length=ps.length)(hbody:∀(A:Around) (outer:List Env) (s:Shared) (H:Hp) (vs:List V) (Q:VK) (E:XK),Room k (A.deeper (envOfC qual scope s.heap.objs.size f cdv))->sp vs H Q E ->
   ∃t,PSs (zj8 CX P w K mg base N qual scope f cdv A outer s H E) body t/\t { nx:=fun _ H'=>Q .non H',rt:=Q } (start N vs) H) :
  FnOk P w K mg base CX (k+1) f (PySem.W.fnOf name qual params body scope dV kV doc pm an cdv ct) ps sp:=by
 refine⟨len,fun A outer s H args us vs Q E hr e0 hb r hsp=>?_⟩
 have hl:=len _ _ _ _ hsp
 have KX:K.In s.heap:=e0.mod.kin.keeps fun b o e=>(e0.bs b o e).1
 have lim:s.heap.NoLimit:=e0.mod.nolimit.keeps fun b o e=>(e0.bs b o e).1
 have hkind:∀y∈ps.zip us,scope.names.lookup y.1=some .local\/(scope.names.lookup y.1=some .cell/\((cellsFrom (s.heap.objs.size+1) scope.names []).lookup y.1).isSome=true):=fun⟨n,v⟩ hy=>by
  rcases S.par n (of_mem_zip hy).1 with q|q
  ·exact .inl q
  ·exact .inr ⟨q,PySem.W.cellsFrom_some _ _ _ (.inl q)⟩
 refine codeAny_call_function hr.depth (KX _ _ lk) rfl S.co S.gen rfl (PySem.W.codeRec_of KX hcd) (hb _ _ _ _ ?_)
 refine wpAny_newFunctionEnv_cells S.kind hkind fun env he s1 x=>?_
 subst he
 refine⟨lim.keeps x.toInCall.keep,codeAny_func ?_⟩
 obtain⟨t,ht,hq⟩:=hbody A outer s H vs Q E (hr.deeper _) hsp
 have I:Inv (zj8 CX P w K mg base N qual scope f cdv A outer s H E) [] (start N vs) H s1:=zks S hr.hd e0 hl r x
 refine wpAny_mono (ht [] s1 (start N vs) H _ I hq) (fun fl s' hs=>?_) fun e s' hs=>hs
 have fin:∀{σ':St} {H':Hp} {v:V} {u:Value},Inv (zj8 CX P w K mg base N qual scope f cdv A outer s H E) [] σ' H' s'->RelV v u->Q v H'->CE outer P w H s Q u s' :=
  fun {σ' H' v u} J rv q=>⟨v,H',J.os,J.bare,J.base,J.hok,rv,q⟩
 cases fl with
 | ret u =>
  obtain⟨v,σ',H',J,rv,q⟩:=hs
  exact fin J rv q
 | next =>
  obtain⟨σ',H',J,q⟩:=hs
  exact fin (v:=V.non) (u:=Value.none) J rfl q
 | brk =>
  obtain⟨_,_,_,q⟩:=hs
  exact False.elim q
 | cont =>
  obtain⟨_,_,_,q⟩:=hs
  exact False.elim q
section
variable {X:Cx} {x:Str} {p pos:Pos} {e:Expr} {es:List Expr} {t:TA} {id T:String} {r:List V->Hp->VK->Prop}
def tCB(r:List V->Hp->VK->Prop)(t:TA):TE:=fun σ H Q=>t σ H fun vs H1=>r vs H1 Q
theorem ziS(hc:CallR X (.builtin id) r)(hg:Gl X x)(hm:X.mg x=none)(hv:bootBuiltins x=some (.builtin id))(ha:PA X (e::es) t)(hn:x ≠ "__name__" := by decide)(hdb:(x==("__debug__" : Str))=false:=by decide)(he:starEach (e::es) X.env=(false,eval e X.env)::starEach es X.env:=by rfl)(hpl:(backTo pos (starEach es X.env)).any (·.1)=false:=by rfl):PE X (.Call (.Name x p) (e::es) [] pos) (tCB r t):=by
 intro pins s σ H Q I h
 refine wpAny_Call_Name_kw (zhd I hg hm hv ?_ hn hdb)
 exact PyProof.Rows.callWith_builtin1 (thn (ha pos pins s σ H _ I h) fun us s1 ⟨vs,H1,I1,r1,q1⟩=>hc pins s1 σ H1 vs us Q I1 r1 q1) he hpl
theorem zhk(hc:CallR X (.type T) r)(hg:Gl X x)(hm:X.mg x=none)(hv:bootBuiltins x=some (.type T))(ha:PA X (e::es) t)(hn:x ≠ "__name__" := by decide)(hdb:(x==("__debug__" : Str))=false:=by decide)(he:starEach (e::es) X.env=(false,eval e X.env)::starEach es X.env:=by rfl)(hpl:(backTo pos (starEach es X.env)).any (·.1)=false:=by rfl):PE X (.Call (.Name x p) (e::es) [] pos) (tCB r t):=by
 intro pins s σ H Q I h
 refine wpAny_Call_Name_kw (zhd I hg hm hv ?_ hn hdb)
 exact PyProof.Rows.callWith_type1 (thn (ha pos pins s σ H _ I h) fun us s1 ⟨vs,H1,I1,r1,q1⟩=>hc pins s1 σ H1 vs us Q I1 r1 q1) he hpl
end
end L2
namespace HT
open PySem PyProof.Rows
section
open PySem.SeqAt
open PySem.AutoSeq1 (wpAny_loadPart')
open PySem.MeetsSeq PySem.MeetsSeq2 PySem.MeetsSeq3
end
section
variable {prog:Program} {w:World} {A:Around} {E:Value->Shared->Prop} {s:Shared}
def sIx(n d:Nat):Option Int->Nat
 | none=>d
 | some v=>if v<0 then (v+(n:Int)).toNat else min v.toNat n
theorem sIx_nat(n d k:Nat):sIx n d (some (k:Int))=min k n:=by
 show(if (k:Int)<0 then ((k:Int)+(n:Int)).toNat else min (k:Int).toNat n)=min k n
 rw[if_neg (by omega),toNat_natCast]
end
end HT
namespace L2
open PySem PySem.Spec PyProof.Rows
abbrev TO:=St->Hp->(Option Int->Hp->Prop)->Prop
def PO(X:Cx)(e:Option Expr)(t:TO):Prop :=
 ∀(pins:List (Addr×Obj)) (s:Shared) (σ:St) (H:Hp) (Q:Option Int->Hp->Prop),Inv X pins σ H s->t σ H Q ->
  wpAny (model X.prog X.w) X.A (evalPart e X.env) (fun u s'=>∃o H',Inv X pins σ H' s'/\IsPart u o/\Q o H') X.xe s
def zoP:TO:=fun _ H Q=>Q none H
def zsX(t:TE):TO:=fun σ H Q=>t σ H fun x H1=>∃i,x=.int i/\Q (some i) H1
theorem zef{ns:List Int}:∀{us:List Value},Vals (ns.map V.int) us->IntsAre us ns:=by
 induction ns with
 | nil=>intro us r;rw[map_nil] at r;cases r;exact .nil
 | cons n ns ih =>
  intro us r
  rw[map_cons] at r
  cases r with
  | cons r1 r2 =>
   obtain⟨t,e⟩:=r1
   subst e
   exact .cons n t (ih r2)
section
variable {X:Cx} {e:Expr} {te:TE} {lo hi:Option Expr} {tl th:TO} {pos p2:Pos}
theorem zoQ:PO X none zoP:=by
 intro pins s σ H Q I h
 rw[evalPart_none]
 exact wpAny_pure ⟨none,H,I,.none,h⟩
theorem zoR(h:PE X e te):PO X (some e) (zsX te):=by
 intro pins s σ H Q I hw
 rw[evalPart_some]
 refine thn (h pins s σ H _ I hw) fun u s1 ⟨x,H1,I1,r1,q1⟩=>?_
 obtain⟨i,rfl,q⟩:=q1
 obtain⟨t,rfl⟩:=r1
 exact⟨some i,H1,I1,.int i t,q⟩
def SlR(X:Cx)(r:V->Option Int->Option Int->Hp->VK->Prop):Prop :=
 ∀(pins:List (Addr×Obj)) (s:Shared) (σ:St) (H:Hp) (x:V) (v vl vu:Value) (lo hi:Option Int) (sl:Addr) (Q:VK),Inv X pins σ H s->RelV x v->s.heap.IsSliceOf sl vl vu .none->IsPart vl lo->IsPart vu hi->r x lo hi H Q ->
  ∃T id,typeLookup (.type T) "__getitem__" = pure (some (.builtin id))/\s.TypeIs v T/\wpAny (model X.prog X.w) X.A (getItem v (.ref sl)) (EP X pins σ Q) X.xe s
def tSl(r:V->Option Int->Option Int->Hp->VK->Prop)(te:TE)(tl th:TO):TE:=fun σ H Q=>te σ H fun x H1=>tl σ H1 fun l H2=>th σ H2 fun u H3=>r x l u H3 Q
theorem zmw{r:V->Option Int->Option Int->Hp->VK->Prop}(hr:SlR X r)(he:PE X e te)(hl:PO X lo tl)(hu:PO X hi th):PE X (.Subscript e (.Slice lo hi none p2) pos) (tSl r te tl th):=by
 intro pins s σ H Q I h
 refine Subscript_ (thn (he pins s σ H _ I h) fun v s1 ⟨x,H1,I1,r1,q1⟩=>?_)
 refine wpAny_Slice (thn (hl pins s1 σ H1 _ I1 q1) fun vl s2 ⟨l,H2,I2,pl,q2⟩=>thn (hu pins s2 σ H2 _ I2 q2) fun vu s3 ⟨u,H3,I3,pu,q3⟩=>?_)
 rw[evalPart_none]
 refine wpAny_pure ?_
 have I4:Inv X pins σ H3 { s3 with heap:=s3.heap.push { cls:=.type "slice",data:=.fields #[vl,vu,.none] } }:=I3.kept (t':=s3.toks) fun b ob q=>Heap.get?_push_of_some _ q
 obtain⟨T,id,hT,ht,hg⟩:=hr pins { s3 with heap:=s3.heap.push { cls:=.type "slice",data:=.fields #[vl,vu,.none] } } σ H3 x v vl vu l u s3.heap.objs.size Q I4 r1 (Heap.IsSliceOf.new ..) pl pu q3
 show wpAny (model X.prog X.w) X.A (subscriptTail e (.Slice lo hi none p2) v (.ref s3.heap.objs.size)) (EP X pins σ Q) X.xe { s3 with heap:=s3.heap.push { cls:=.type "slice",data:=.fields #[vl,vu,.none] } }
 exact tail_any (ops:=[.ref s3.heap.objs.size,v]) ht hT hg (by with_unfolding_all rfl)
def zp9(xs:List V)(lo hi:Option Int):List V:=(xs.drop (HT.sIx xs.length 0 lo)).take (HT.sIx xs.length xs.length hi-HT.sIx xs.length 0 lo)
theorem zia(xs:List V)(lo hi:Option Int):(zp9 xs lo hi).length<=xs.length:=by
 unfold zp9
 rw[length_take,length_drop]
 omega
end
def ixN(n:Nat)(i:Int):Option Nat:=if 0<=i then (if i<n then some i.toNat else none) else if -(n:Int)<=i then some (i+n).toNat else none
def atI{α:Type}(xs:List α)(i:Int):Option α:=(ixN xs.length i).bind fun j=>xs[j]?
theorem zkt{n:Nat}{i:Int}{j:Nat}(h:ixN n i=some j):seqIndex? i n=some j/\j<n/\-(n:Int)<=i/\i<n:=by
 unfold ixN at h
 by_cases h0:0<=i
 ·rw[if_pos h0] at h
  by_cases h1:i<n
  ·rw[if_pos h1] at h
   have e:i.toNat=j:=Option.some.inj h
   exact⟨by rw[seqIndex_of h0 h1,e],by omega,by omega,h1⟩
  ·rw[if_neg h1] at h;cases h
 ·rw[if_neg h0] at h
  by_cases h1:-(n:Int)<=i
  ·rw[if_pos h1] at h
   have e:(i+n).toNat=j:=Option.some.inj h
   exact⟨by rw[seqIndex_neg (by omega) h1,e],by omega,h1,by omega⟩
  ·rw[if_neg h1] at h;cases h
theorem zku{α:Type}{xs:List α}{i:Int}{v:α}(h:atI xs i=some v):∃j,seqIndex? i xs.length=some j/\xs[j]?=some v/\j<xs.length/\-(xs.length:Int)<=i/\i<xs.length:=by
 unfold atI at h
 cases e:ixN xs.length i with
 | none=>rw[e] at h;cases h
 | some j =>
  rw[e] at h
  obtain⟨h1,h2,h3,h4⟩:=zkt e
  exact⟨j,h1,h,h2,h3,h4⟩
def zkv(b:Expr):Prop:=∀o i,subscripted b false o i=operate [o,i] (getItem o i)
def IxR(X:Cx)(r:R2):Prop :=
 ∀(value slice:Expr) (pins:List (Addr×Obj)) (s:Shared) (σ:St) (H:Hp) (x y:V) (v u:Value) (Q:VK),Inv X pins σ H s->RelV x v->RelV y u->r x y H Q ->
  subscripted slice false v u=operate [v,u] (getItem v u)->wpAny (model X.prog X.w) X.A (subscriptTail value slice v u) (EP X pins σ Q) X.xe s
def MtR(X:Cx)(id:String)(r:V->List V->Hp->VK->Prop):Prop :=
 ∀(pins:List (Addr×Obj)) (s:Shared) (σ:St) (H:Hp) (x:V) (xs:List V) (v:Value) (us:List Value) (Q:VK),Inv X pins σ H s->RelV x v->Vals xs us->r x xs H Q ->
  wpAny (model X.prog X.w) X.A (call (.builtin id) (v::us)) (EP X pins σ Q) X.xe s
section
variable {X:Cx} {a b:Expr} {ta tb:TE} {pos:Pos}
theorem IxR.or{r r':R2}(h:IxR X r)(h':IxR X r'):IxR X (fun x y H Q=>r x y H Q\/r' x y H Q):=by
 intro value slice pins s σ H x y v u Q I rx ry q hs
 rcases q with q|q
 ·exact h value slice pins s σ H x y v u Q I rx ry q hs
 ·exact h' value slice pins s σ H x y v u Q I rx ry q hs
theorem zsY{r:R2}(hr:IxR X r)(ha:PE X a ta)(hb:PE X b tb)(hs:zkv b):PE X (.Subscript a b pos) (tOp r ta tb):=by
 intro pins s σ H Q I h
 exact Subscript_ (zsL ha hb I h fun v u s2 x y H2 I2 rx ry q=>hr a b pins s2 σ H2 x y v u Q I2 rx ry q (hs _ _))
def zsZ(K:PySem.W.Frag):R2:=fun x y H Q=>∃p xs i v,x=.ref p/\y=.int i/\SqL K H p xs/\atI xs i=some v/\Q v H
def zs0(K:PySem.W.Frag):R2:=fun x y H Q=>∃p xs i v,x=.ref p/\y=.int i/\SqT K H p xs/\atI xs i=some v/\Q v H
theorem zoS:IxR X (zsZ X.K):=by
 intro value slice pins s σ H x y v u Q I rx ry h hs
 obtain⟨p,xs,i,z,rfl,rfl,hq,he,q⟩:=h
 cases rx
 obtain⟨t,rfl⟩:=ry
 obtain⟨its,r,pl,hz⟩:=I.list hq
 obtain⟨j,h1,h2,h3,h4,h5⟩:=zku he
 obtain⟨w,ew,rw'⟩:=r.get h2
 have hl:=r.length
 have hn:=zhe
 have fin:EP X pins σ Q w s:=⟨z,H,I,rw',q⟩
 by_cases h0:0<=i
 ·have hj:i.toNat=j:=by
   rw[seqIndex_of h0 h5] at h1
   exact Option.some.inj h1
  exact item_listR pl.isList h0 (by omega) (by rw[hj];simpa using ew) fin hs
 ·have hj:(i+(its.toArray.size:Int)).toNat=j:=by
   rw[seqIndex_neg (by omega) h4] at h1
   rw[size_toArray,<- hl]
   exact Option.some.inj h1
  exact subscriptTail_builtinR (x:=w) pl.isList.typeIs slot_list_getitem.lookup
   (wpAny_getItem_list_neg (Q:=fun r s'=>r=w/\EP X pins σ Q r s') pl.isList (by omega) (by rw[size_toArray]<;>omega) (by omega) (by rw[hj];simpa using ew) ⟨rfl,fin⟩) hs
theorem zqR:IxR X (zs0 X.K):=by
 intro value slice pins s σ H x y v u Q I rx ry h hs
 obtain⟨p,xs,i,z,rfl,rfl,hq,he,q⟩:=h
 cases rx
 obtain⟨t,rfl⟩:=ry
 obtain⟨its,r,pl,hz⟩:=I.tuple hq
 obtain⟨j,h1,h2,h3,h4,h5⟩:=zku he
 obtain⟨w,ew,rw'⟩:=r.get h2
 have hl:=r.length
 have hn:=zhe
 have fin:EP X pins σ Q w s:=⟨z,H,I,rw',q⟩
 exact subscriptTail_builtinR (x:=w) pl.typeIs slot_tuple_getitem.lookup
  (getItem_tuple (j:=j) (Q:=fun r s'=>r=w/\EP X pins σ Q r s') pl (by omega) (by omega) (by rw[size_toArray,<- hl];exact h1) (by simpa using ew) ⟨rfl,fin⟩) hs
theorem zjF(its:List Value)(n j:Nat)(u:Value):Obj.mapSeq (·.setIfInBounds j u) { cls:=.type "list",data:=.seq its.toArray n }={ cls:=.type "list",data:=.seq (its.set j u).toArray n }:=by
 simp[Obj.mapSeq]
theorem Inv.lst{pins:List (Addr×Obj)}{σ:St}{H:Hp}{s:Shared}{p:Addr}{xs:List V}(I:Inv X pins σ H s)(h:H p=some (.lst xs)) :
  ∃(its:List Value) (n:Nat),Vals xs its/\s.heap.get? p=some { cls:=.type "list",data:=.seq its.toArray n }/\xs.length<=sizeLine:=by
 obtain⟨z,its,n,r,e⟩:=I.hok p _ h
 exact⟨its,n,r,e,z⟩
theorem Inv.lstUpd{pins:List (Addr×Obj)}{σ:St}{H:Hp}{s:Shared}{p:Addr}{xs ys:List V}{its its':List Value}{n n':Nat}{f:Obj->Obj}(I:Inv X pins σ H s)(h:H p=some (.lst xs))(ho:s.heap.get? p=some { cls:=.type "list",data:=.seq its.toArray n })(hf:f { cls:=.type "list",data:=.seq its.toArray n }={ cls:=.type "list",data:=.seq its'.toArray n' })(r:Vals ys its')(hz:ys.length<=sizeLine)(t:Nat) :
  Inv X pins σ (upd H p (.lst ys)) { s with heap:=s.heap.update p f,toks:=t }:=by
 have e:(s.heap.update p f).get? p=some { cls:=.type "list",data:=.seq its'.toArray n' }:=by
  rw[Heap.get?_update_self f ho (by rw[hf]<;>rfl),hf]
 refine I.write (x:=p) (e:=p) (by rw[h];trivial) (.inl rfl) (fun b u hb q=>(Heap.get?_update_other _ _ (Ne.symm hb)).trans q) ⟨_,e⟩ ?_
 exact⟨hz,its',n',r,e⟩
def zs1:V->V->V->Hp->(Hp->Prop)->Prop:=fun o i v H Q=>∃p xs k j,o=.ref p/\i=.int k/\H p=some (.lst xs)/\ixN xs.length k=some j/\Q (upd H p (.lst (xs.set j v)))
theorem zmx:ztQ X zs1:=by
 intro pins s σ H o i v ov iv u Q I ro ri rv h
 obtain⟨p,xs,k,j,rfl,rfl,hp,hj,q⟩:=h
 cases ro
 obtain⟨t,rfl⟩:=ri
 obtain⟨its,n,r,ho,hz⟩:=I.lst hp
 obtain⟨h1,h2,h3,h4⟩:=zkt hj
 have hl:=r.length
 have hn:=zhe
 have I':Inv X pins σ (upd H p (.lst (xs.set j v))) { s with heap:=s.heap.update p (Obj.mapSeq (·.setIfInBounds j u)) } :=
  I.lstUpd hp ho (zjF its n j u) (r.set rv j) (by rw[length_set];exact hz) s.toks
 by_cases h0:0<=k
 ·have hk:k.toNat=j:=by
   rw[seqIndex_of h0 h4] at h1
   exact Option.some.inj h1
  exact PySem.W.ki_setAt ho h0 (by omega) (by rw[size_toArray,<- hl];exact h4) (by rw[hk];exact⟨_,I',q⟩)
 ·have hk:(k+(its.toArray.size:Int)).toNat=j:=by
   rw[seqIndex_neg (by omega) h3] at h1
   rw[size_toArray,<- hl]
   exact Option.some.inj h1
  exact PySem.W.ki_setBack ho (by omega) (by rw[size_toArray,<- hl];exact h3) (by omega) (by rw[hk];exact⟨_,I',q⟩)
theorem zhl(lo hi:Option Int)(n:Nat):(sliceBounds lo hi none n).1=((HT.sIx n 0 lo:Nat):Int)/\(sliceBounds lo hi none n).2.1=((HT.sIx n n hi:Nat):Int)/\(sliceBounds lo hi none n).2.2=1:=by
 refine⟨?_,?_,rfl⟩
 ·cases lo with
  | none=>simp[sliceBounds,HT.sIx]
  | some i =>
   simp only[sliceBounds,HT.sIx,getD_none,show(1:Int)>0 by decide,if_true]
   by_cases h:i<0
   ·simp only[h,if_true]<;>omega
   ·simp only[h,if_false]<;>omega
 ·cases hi with
  | none=>simp[sliceBounds,HT.sIx]
  | some i =>
   simp only[sliceBounds,HT.sIx,getD_none,show(1:Int)>0 by decide,if_true]
   by_cases h:i<0
   ·simp only[h,if_true]<;>omega
   ·simp only[h,if_false]<;>omega
theorem zgk(its:List Value)(lo hi:Option Int):slicePick its.toArray lo hi none=((its.drop (HT.sIx its.length 0 lo)).take (HT.sIx its.length its.length hi-HT.sIx its.length 0 lo)).toArray:=by
 obtain⟨h1,h2,h3⟩:=zhl lo hi its.toArray.size
 unfold slicePick
 rw[h1,h2,h3]
 simp only[sliceRange_one,pick_run,size_toArray]<;>rfl
def ztV(K:PySem.W.Frag):V->Option Int->Option Int->Hp->VK->Prop:=fun x lo hi H Q=>∃a xs,x=.ref a/\SqL K H a xs/\∀p,H p=none->Q (.ref p) (upd H p (.lst (zp9 xs lo hi)))
theorem zoT:SlR X (ztV X.K):=by
 intro pins s σ H x v vl vu lo hi sl Q I rx hs pl pu h
 obtain⟨a,xs,rfl,hx,q⟩:=h
 cases rx
 obtain⟨its,r,ht,hz⟩:=I.list hx
 have hlen:=r.length
 refine⟨"list",_,slot_list_getitem.lookup,ht.isList.typeIs,?_⟩
 refine wpAny_getItem_list_slice ht.isList hs pl pu .none (by simp) ?_ (by rw[size_toArray]<;>omega)
 rw[zgk,<- hlen]
 refine⟨.ref s.heap.objs.size,_,I.laid (t':=s.toks) (o:=.lst (zp9 xs lo hi)) (fun b ob q=>Heap.get?_push_of_some _ q) (le_refl _) ?_,rfl,q _ (I.hok.fresh (le_refl _))⟩
 exact⟨le_trans (zia xs lo hi) hz,_,0,(r.drop (HT.sIx xs.length 0 lo)).take (HT.sIx xs.length xs.length hi-HT.sIx xs.length 0 lo),Heap.get?_push_size _ rfl⟩
theorem zhm:CallR X (.type "list") (fun xs H Q=>∃p ys,xs=[.ref p]/\(SqL X.K H p ys\/SqT X.K H p ys)/\∀l,H l=none->Q (.ref l) (upd H l (.lst ys))):=by
 intro pins s σ H xs us Q I r h
 obtain⟨p,ys,rfl,hq,q⟩:=h
 obtain⟨u,rfl,rx⟩:=ze0 r
 cases rx
 have fin:∀(its:List Value),Vals ys its->ys.length<=sizeLine->∀(h':Heap) (c':Nat),(∀b o',s.heap.get? b=some o'->h'.get? b=some o') ->
   h'.get? s.heap.objs.size=some { cls:=.type "list",dict:=none,data:=.seq its.toArray c',slots:=#[] }->EP X pins σ Q (.ref s.heap.objs.size) { s with heap:=h' }:=fun its r' hz h' c' kp e =>
  ⟨.ref s.heap.objs.size,_,I.laid (t':=s.toks) kp (le_refl _) (show ObjOk X.prog X.w _ h' _ (.lst ys) from⟨hz,its,c',r',e⟩),rfl,q _ (I.hok.fresh (le_refl _))⟩
 rcases hq with hq|hq
 ·obtain⟨its,r',pl,hz⟩:=I.list hq
  have hlen:=r'.length
  obtain⟨o,ho,hc,n,hd⟩:=pl.isList
  exact call_list_seq p (.inl rfl) ho hc hd (fun h' c' kp e=>fin its r' hz h' c' kp e) (by simp only[size_toArray]<;>omega)
 ·obtain⟨its,r',pl,hz⟩:=I.tuple hq
  have hlen:=r'.length
  obtain⟨o,ho,hc,n,hd⟩:=pl
  exact call_list_seq p (.inr rfl) ho hc hd (fun h' c' kp e=>fin its r' hz h' c' kp e) (by simp only[size_toArray]<;>omega)
theorem zgl:CallR X (.type "tuple") (fun xs H Q=>∃p ys,xs=[.ref p]/\((SqL X.K H p ys/\∀l,H l=none->Q (.ref l) (upd H l (.tup ys)))\/(SqT X.K H p ys/\Q (.ref p) H))):=by
 intro pins s σ H xs us Q I r h
 obtain⟨p,ys,rfl,h⟩:=h
 obtain⟨u,rfl,rx⟩:=ze0 r
 cases rx
 rcases h with ⟨hq,q⟩|⟨hq,q⟩
 ·obtain⟨its,r',pl,hz⟩:=I.list hq
  have hlen:=r'.length
  refine call_tuple_list pl.isList (fun h' kp=>?_) (by simp only[size_toArray]<;>omega)
  have I1:Inv X pins σ H { s with heap:=h' }:=I.kept (t':=s.toks) kp
  have I2:Inv X pins σ (upd H h'.objs.size (.tup ys)) { s with heap:=h'.push { cls:=.type "tuple",data:=.seq its.toArray } } :=
   I1.laid (t':=s.toks) (fun b o e=>Heap.get?_push_of_some _ e) (le_refl _) (show ObjOk X.prog X.w _ _ _ (.tup ys) from⟨hz,its,r',TupN.new _ _⟩)
  exact⟨.ref h'.objs.size,_,I2,rfl,q _ (I1.hok.fresh (le_refl _))⟩
 ·obtain⟨its,r',pl,hz⟩:=I.tuple hq
  exact call_tuple_same pl ⟨.ref p,H,I,rfl,q⟩
def tyV(K:PySem.W.Frag)(T:String)(x:V)(H:Hp):Prop:=match x with
 | .str _=>T = "str"
 | .int _=>T = "int"
 | .ref p=>(T = "list" /\ ∃xs,SqL K H p xs)\/(T = "tuple" /\ ∃o,K.lookup p=some o/\o.cls=.type "tuple" /\ o.dict=none) \/
   (T = "dict" /\ ((∃kvs,H p=some (.dK kvs))\/∃kvs,H p=some (.dT kvs)))\/(T = "set" /\ ∃S n,H p=some (.set S n))
 | _=>False
theorem znZ{pins:List (Addr×Obj)}{σ:St}{H:Hp}{s:Shared}{T:String}{x:V}{v:Value}(I:Inv X pins σ H s)(r:RelV x v)(ty:tyV X.K T x H) :
  s.TypeIs v T/\∀a,v=.ref a->∃ob,s.heap.get? a=some ob/\ob.dict=none:=by
 cases x with
 | str z =>
  obtain⟨t,rfl⟩:=r
  cases (show T = "str" from ty)
  exact⟨typeIs_str s z t,fun _ e=>nomatch e⟩
 | int i =>
  obtain⟨t,rfl⟩:=r
  cases (show T = "int" from ty)
  exact⟨typeIs_int s i t,fun _ e=>nomatch e⟩
 | ref p =>
  cases r
  rcases ty with ⟨rfl,xs,hq⟩|⟨rfl,o,hk,hc,hd⟩|⟨rfl,hk⟩|⟨rfl,S,n,hk⟩
  ·obtain⟨its,_,pl,_⟩:=I.list hq
   refine⟨pl.isList.typeIs,fun a e=>?_⟩
   cases e
   obtain⟨o,n,e,c,hd,_⟩:=pl
   exact⟨o,e,hd⟩
  ·refine⟨⟨o,I.kIn p o hk,hc⟩,fun a e=>?_⟩
   cases e
   exact⟨o,I.kIn _ o hk,hd⟩
  ·have z:∃o,s.heap.get? p=some o/\o.ExactDict:=by
    rcases hk with ⟨kvs,hk⟩|⟨kvs,hk⟩
    ·obtain⟨_,_,_,_,o,_,_,e,ex,_⟩:=I.hok p _ hk
     exact⟨o,e,ex⟩
    ·obtain⟨_,_,_,_,o,_,_,e,ex,_⟩:=I.hok p _ hk
     exact⟨o,e,ex⟩
   obtain⟨o,e,ex⟩:=z
   refine⟨⟨o,e,ex.1⟩,fun a e2=>?_⟩
   cases e2
   exact⟨o,e,ex.2.1⟩
  ·obtain⟨o,_,_,_,e,ex,_⟩:=I.hok p _ hk
   refine⟨⟨o,e,ex.1⟩,fun a e2=>?_⟩
   cases e2
   exact⟨o,e,ex.2.1⟩
 | _=>exact False.elim ty
def zuO(K:PySem.W.Frag)(T:String)(r:V->List V->Hp->VK->Prop)(to:TE):TE:=fun σ H Q=>to σ H fun x H1=>tyV K T x H1/\r x [] H1 Q
def tBM(K:PySem.W.Frag)(T:String)(r:V->List V->Hp->VK->Prop)(to:TE)(t:TA):TE:=fun σ H Q=>to σ H fun x H1=>tyV K T x H1/\t σ H1 fun xs H2=>r x xs H2 Q
variable {o e:Expr} {es:List Expr} {to:TE} {t:TA} {name:Str} {apos cpos:Pos} {T id:String} {r:V->List V->Hp->VK->Prop}
theorem zqS(pa:PlainAttrs T)(slot:Slot T name id)(hty:typeOf (.builtin id)=pure (.type "method_descriptor"))(hm:MtR X id r)(ho:PE X o to)(hbase:attributeBase o name X.env (eval o X.env)=eval o X.env:=by rfl)(hline:(apos.endLine==cpos.line)=true:=by rfl):PE X (.Call (.Attribute o name apos) [] [] cpos) (zuO X.K T r to):=by
 intro pins s σ H Q I h
 refine wpAny_Call_method0_late hbase hline (thn (ho pins s σ H _ I h) fun v s1 ⟨x,H1,I1,r1,ty,q1⟩=>?_)
 obtain⟨h1,h2⟩:=znZ I1 r1 ty
 exact⟨T,id,pa,slot,hty,h1,h2,Calls.callWith_builtin rfl (PySem.evalArgs_none (hm pins s1 σ H1 x [] v [] Q I1 r1 .nil q1))⟩
theorem zs2(pa:PlainAttrs T)(slot:Slot T name id)(hty:typeOf (.builtin id)=pure (.type "method_descriptor"))(hm:MtR X id r)(ho:PE X o to)(ha:PA X (e::es) t)(hbase:attributeBase o name X.env (eval o X.env)=eval o X.env:=by rfl)(hfew:((backTo cpos (starEach (e::es) X.env)).all (fun x=>!x.1)&&(backToKw cpos (keywordEach [] X.env)).all (fun x=>x.1.isSome)
   && decide ((e::es).length+([]:List Keyword).length+(if ([]:List Keyword).isEmpty then 0 else 1)<30))=true:=by rfl)(hline:(apos.endLine==cpos.line)=true:=by rfl)(hs:starEach (e::es) X.env=(false,eval e X.env)::starEach es X.env:=by rfl)(hplain:(backTo cpos (starEach es X.env)).any (·.1)=false:=by rfl) :
  PE X (.Call (.Attribute o name apos) (e::es) [] cpos) (tBM X.K T r to t):=by
 intro pins s σ H Q I h
 refine wpAny_Call_method_late hbase hfew hline rfl (thn (ho pins s σ H _ I h) fun v s1 ⟨x,H1,I1,r1,ty,q1⟩=>?_)
 obtain⟨h1,h2⟩:=znZ I1 r1 ty
 refine⟨T,id,pa,slot,hty,h1,h2,?_⟩
 have hA:=ha cpos pins s1 σ H1 _ I1 q1
 rw[hs] at hA ⊢
 refine Calls.callWith_builtin (by show(false||(backTo cpos (starEach es X.env)).any (·.1))=false;rw[hplain]<;>rfl) (Calls.evalArgs_plain ?_)
 exact thn hA fun us s2 ⟨vs,H2,I2,r2,q2⟩=>hm pins s2 σ H2 x vs v us Q I2 r1 r2 q2
end
def MtM(X:Cx)(id:String)(r:V->List V->Hp->VK->Prop):Prop :=
 ∀(pins:List (Addr×Obj)) (s:Shared) (σ:St) (H:Hp) (x:V) (xs:List V) (v:Value) (us:List Value) (Q:VK),Inv X pins σ H s->RelV x v->Vals xs us->r x xs H Q ->
  wpAny (model X.prog X.w) X.A (call (.builtin id) (v::us)) (EP X pins σ Q) X.xe s
theorem Vals.one:∀{x:V} {us:List Value},Vals [x] us->∃u,us=[u]/\RelV x u
 | _,_,.cons r .nil=>⟨_,rfl,r⟩
theorem Vals.zero:∀{us:List Value},Vals [] us->us=[]
 | _,.nil=>rfl
theorem Vals.dropLast{xs:List V}{us:List Value}(h:Vals xs us):Vals xs.dropLast us.dropLast:=by
 induction h with
 | nil=>exact .nil
 | cons r t ih =>
  cases t with
  | nil=>exact .nil
  | cons q t'=>exact .cons r ih
theorem zjG{α:Type}(l:List α):l.eraseIdx (l.length-1)=l.dropLast:=by
 induction l with
 | nil=>rfl
 | cons a r ih =>
  cases r with
  | nil=>rfl
  | cons b r =>
   have e:(a::b::r).length-1=((b::r).length-1)+1:=by
    have h1:(a::b::r).length=r.length+2:=rfl
    have h2:(b::r).length=r.length+1:=rfl
    omega
   rw[e,eraseIdx_cons_succ,ih]
   all_goals rfl
section
variable {X:Cx} {pins:List (Addr×Obj)} {σ:St} {H:Hp} {s:Shared} {l b:Addr} {xs ys zs:List V}
theorem Inv.lset{its its':List Value}{n:Nat}{f:Array Value->Array Value}{t':Nat}(I:Inv X pins σ H s)(hH:H l=some (.lst xs))(e:s.heap.get? l=some { cls:=.type "list",data:=.seq its.toArray n })(hf:f its.toArray=its'.toArray)(hv:Vals ys its')(hz:ys.length<=sizeLine) :
  Inv X pins σ (upd H l (.lst ys)) { s with heap:=s.heap.update l (Obj.mapSeq f),toks:=t' }:=by
 have q:=PySem.IsL.update e f
 rw[hf] at q
 refine I.write (x:=l) (e:=l) (by rw[hH];exact trivial) (.inl rfl) (fun b' u hb hu=>(Heap.get?_update_other s.heap (Obj.mapSeq f) (Ne.symm hb)).trans hu) ⟨_,q⟩ ?_
 exact⟨hz,its',_,hv,q⟩
theorem Inv.lnew{its:List Value}{t':Nat}(I:Inv X pins σ H s)(hv:Vals ys its)(hz:ys.length<=sizeLine) :
  Inv X pins σ (upd H s.heap.objs.size (.lst ys)) { s with heap:=s.heap.push { cls:=.type "list",data:=.seq its.toArray },toks:=t' } :=
 I.laid (fun _ _ q=>Heap.get?_push_of_some _ q) (le_refl _) ⟨hz,its,0,hv,Heap.get?_push_size _ rfl⟩
theorem Inv.fresh(I:Inv X pins σ H s):H s.heap.objs.size=none:=I.hok.fresh (le_refl _)
theorem Inv.lstM(I:Inv X pins σ H s)(hH:H l=some (.lst xs)):xs.length<=sizeLine/\∃(its:List Value) (n:Nat),Vals xs its/\xs.length=its.length/\s.heap.get? l=some { cls:=.type "list",data:=.seq its.toArray n }:=by
 obtain⟨z,its,n,r,e⟩:=I.hok l _ hH
 exact⟨z,its,n,r,r.length,e⟩
theorem zmy{n:Nat}(h:n<=sizeLine):Builtin.List.listTooLong n=false:=by
 unfold Builtin.List.listTooLong
 exact decide_eq_false (by omega)
end
section
variable {X:Cx}
def zkw:V->List V->Hp->VK->Prop:=fun x vs H Q=>∃l xs y,x=.ref l/\vs=[y]/\H l=some (.lst xs)/\xs.length<sizeLine/\Q .non (upd H l (.lst (xs++[y])))
theorem zaY:MtM X "list.append" zkw:=by
 intro pins s σ H x vs v us Q I rx rv h
 obtain⟨l,xs,y,rfl,rfl,hH,hz,q⟩:=h
 cases rx
 obtain⟨u,rfl,ru⟩:=rv.one
 obtain⟨z,its,n,r,hl,e⟩:=I.lstM hH
 refine call_meets F.slot_list_append ⟨_,e,rfl⟩ F.entry_list_append (F.args_list_append_2 _ _) (PySem.list_append l its.toArray n u (by rw[size_toArray];omega)) ⟨e,?_⟩
 refine⟨.non,_,I.lset (its':=its++[u]) hH e (by simp) (r.append (.cons ru .nil)) ?_,rfl,q⟩
 rw[length_append,length_singleton]
 omega
def ztW:V->List V->Hp->VK->Prop:=fun x vs H Q=>∃l xs y,x=.ref l/\vs=[]/\H l=some (.lst xs)/\xs[xs.length-1]?=some y/\Q y (upd H l (.lst xs.dropLast))
theorem zhn:MtM X "list.pop" ztW:=by
 intro pins s σ H x vs v us Q I rx rv h
 obtain⟨l,xs,y,rfl,rfl,hH,hy,q⟩:=h
 cases rx
 have hus:=rv.zero
 subst hus
 obtain⟨z,its,n,r,hl,e⟩:=I.lstM hH
 obtain⟨u,hu,ru⟩:=r.get hy
 have hy':its.toArray[its.toArray.size-1]?=some u:=by
  show its.toArray[its.length-1]?=some u
  rw[<- getElem?_toList,<- hl]
  exact hu
 refine call_meets F.slot_list_pop ⟨_,e,rfl⟩ F.entry_list_pop (F.args_list_pop_1 _) (MeetsSeq.list_pop_last l its.toArray n u hy' (by rw[size_toArray];omega)) ⟨e,?_⟩
 refine⟨y,_,I.lset (its':=its.dropLast) hH e ?_ r.dropLast ?_,ru,q⟩
 ·show its.toArray.eraseIdxIfInBounds (its.toArray.size-1)=its.dropLast.toArray
  rw[size_toArray,eraseIdxIfInBounds_toArray,zjG]
 ·rw[length_dropLast]
  omega
end
section
variable {prog:Program} {w:World} {A:Around} {E:Value->Shared->Prop} {s:Shared}
end
section
variable {X:Cx}
end
end L2
namespace Att
open PySem PySem.W PySem.Calls PyProof.Rows
theorem ze4{P:Params}{h:Heap}:∀(ns:List Int) (vs:List Value),WellAll P h vs (ns.map WData.int)->IntsAre vs ns:=by
 intro ns
 induction ns with
 | nil =>
  intro vs w
  rw[map_nil] at w
  cases w
  exact .nil
 | cons n ns ih =>
  intro vs w
  rw[map_cons] at w
  cases w with
  | cons a b =>
   cases a
   exact .cons _ _ (ih _ b)
theorem zkx{l:OpenLaw}{n:Nat}(hn:l.most=some n){P:Params}{h:Heap}{args:List WData}{vals:List Value}(hpre:l.row.toRowW.claim.pre args=true)(hwl:WellAll P h vals args) :
  ∃a vs ns,vals=[Value.ref a]/\args=[WData.list (ns.map WData.int)]/\h.get? a=some { cls:=.type "list",data:=.seq vs.toArray }/\IntsAre vs ns/\ns.length<=n:=by
 have hsh:WShape.hasAll [] args [.list .int]=true:=(pre_splitW hpre).1
 have hc:l.pre.holds [] { args:=args }=true:=(pre_splitW hpre).2
 obtain⟨d,r,rfl,h1,h2⟩:=hasAllW_cons hsh
 obtain rfl:=hasAllW_nil h2
 obtain⟨xs,rfl,h3⟩:=hasW_list h1
 obtain⟨ns,rfl⟩:=items_int h3
 have hlen:ns.length<=n:=by
  unfold OpenLaw.pre at hc
  have h4:(WTm.not (.lt (.lit (.int (n:Int))) (.len (.arg 0)))).holds [] { args:=[.list (ns.map .int)] }=true:=by
   have h4:=(holds_andW hc).1
   rw[hn] at h4
   exact h4
  have h5:=condW_of h4 (w_not (w_lt w_lit (w_len_list (w_arg rfl))))
  rw[length_map] at h5
  refine le_of_not_lt fun q=>?_
  have q':(n:Int)<((ns.length:Nat):Int):=by omega
  first
   | (rw[decide_eq_true q'] at h5;exact absurd h5 (by decide))
   | (simp at h5;omega)
 cases hwl with
 | cons w1 w2 =>
  cases w2
  cases w1 with
  | list ho hall=>exact⟨_,_,ns,rfl,rfl,ho,ze4 ns _ hall,hlen⟩
theorem zky(l:OpenLaw)(args:List WData):l.row.toRowW.claim.post args (.bool true) args=true :=
 postW_of (r:=l.row.toRowW) (X:=(true==true))
  (show WShape.has [] (.bool true) .bool=true by first|rfl|decide|simp[WShape.has,WShape.arms,WShape.armsAll])
  (show(WTm.eq .res (.lit (.bool true))).value [] { args:=args,res:=some (.bool true),after:=args }=some (.bool (true==true)) from w_eq_bool (w_res rfl) w_lit) rfl
theorem attach_call{l:OpenLaw}{n:Nat}{q:Program}{loose:List Str}{XP:(Str->Option Value)->Heap->Prop}{YP:World->Heap->Prop}{d:DefRec}(hn:l.most=some n)(hdf:d.params.defaults=[])(call:∀(w:World) (s₀ s₁:Shared) (mg mb:Str->Option Value) (fa:Addr) (o:Obj) (pm cd doc:Value) (a:Addr) (vs:List Value) (ns:List Int),
   Ground q loose [] XP w s₀ mg mb s₁.heap->YP w s₁.heap ->
   s₁.heap.get? fa=some o->o.data=.func (docDef d.name d.params d.body d.scope pm cd doc)->s₁.heap.CodeRec cd d.name->mg d.name=some (.ref fa) ->
   s₁.heap.get? a=some { cls:=.type "list",data:=.seq vs.toArray }->IntsAre vs ns->ns.length<=n->s₁.gens=#[] ->
   codeAny (model l.prog w) callerA (.call (.ref fa) ⟨[.ref a],[]⟩) (fun r s'=>r=.ok (.ret (.bool true))/\OldK s₁.heap s'.heap/\s'.os=s₁.os/\AllBare s'.gens) s₁) :
  WalkO q loose XP YP l.row.toRowW d [] (fun f vs=>PySem.call f vs):=by
 intro w s₀ s₁ mg mb G Y fa o pm cd doc dV kV ho hd hcd hD hmg hg args vals as hpre hlay hrd hwl hlo
 obtain rfl:dV=.none:=Dflts.none hD hdf
 obtain rfl:kV=.none:=Dflts.noKw hD
 obtain⟨a,vs,ns,rfl,rfl,hobj,hints,hlen⟩:=zkx hn hpre hwl
 refine enter_call (codeAny_mono (call w s₀ s₁ mg mb fa o pm cd doc a vs ns G Y ho (fd_plain hd) hcd hmg hobj hints hlen hg) fun r s' hq=>?_)
 obtain⟨rfl,h2,h3,h4⟩:=hq
 exact⟨.inl ⟨.bool true,.bool true,[],rfl,fun _=>rfl,.bool true,zky l _,fun _=>⟨List.Pairwise.nil,fun _ hm=>(nomatch hm)⟩⟩,h2,h3,h4⟩
section
variable {prog:Program} {w:World} {A:Around} {E:Value->Shared->Prop} {s:Shared} {K:Frag}
def ztX(h:Heap)(L d:Addr):List (Addr×Obj):=(List.range h.objs.size).filterMap fun a=>if a=L\/a=d then none else (h.get? a).map fun o=>(a,o)
end
end Att
namespace L2
open PySem PySem.Spec PyProof.Rows
theorem zc1:∀{vs:List Value} {ns:List Int},IntsAre vs ns->Vals (ns.map V.int) vs
 | _,_,.nil=>.nil
 | _,_,.cons n t h=>.cons ⟨t,rfl⟩ (zc1 h)
def zqT(H:Hp):Prop:=∀b,H b=none\/∃o xs,H b=some (.frz o (.lst xs))
theorem zmz{P:Program}{w:World}{K:PySem.W.Frag}{mg mb:Str->Option Value}{CX:CXT}{k:Nat}{fa a:Addr}{fd:FuncData}{x:Str}{sp:Sp}{s₁:Shared}{vs:List Value}{ns:List Int}(KX:K.In s₁.heap)(hns:s₁.heap.Ns mainGlobals mg)(hb:s₁.heap.Ns builtinsNs mb)(hbb:∀x:Str,x ≠ "__name__" -> mb x=bootBuiltins x)(hlim:s₁.heap.NoLimit)(hg:s₁.gens=#[])(ha:s₁.heap.get? a=some { cls:=.type "list",data:=.seq vs.toArray })(hi:IntsAre vs ns)(hl:ns.length<=sizeLine)(hr:Room k callerA)(F:∀base:Heap,K.In base->base.Ns mainGlobals mg->FnOk P w K mg base CX k fa fd [x] sp)(hbind:∀(s:Shared) (u:Value),BindsTo s fd ⟨[u],[]⟩ [(x,u)])(hsp:∀H:Hp,zqT H->SqL K H a (ns.map V.int)->sp [.ref a] H (fun v _=>v=.bl true) fun _ _ _=>False)(hCX:∀H e s',CX [] H s₁ (fun _ _ _=>False) e s'->False) :
  codeAny (model P w) callerA (.call (.ref fa) ⟨[.ref a],[]⟩) (fun r s'=>r=.ok (.ret (.bool true))/\OldK s₁.heap s'.heap/\s'.os=s₁.os/\AllBare s'.gens) s₁:=by
 have rv:=zc1 hi
 have lenV:=hi.length
 have core:∀H:Hp,zqT H->SqL K H a (ns.map V.int)->HOk P w H s₁.heap->(∀b,H b≠none->b=a)->(H a≠none->K.lookup a=none) ->
   codeAny (model P w) callerA (.call (.ref fa) ⟨[.ref a],[]⟩) (fun r s'=>r=.ok (.ret (.bool true))/\OldK s₁.heap s'.heap/\s'.os=s₁.os/\AllBare s'.gens) s₁:=by
  intro H hO hS hok hA hK
  have base_of:∀{b:Addr} {o:Obj},s₁.heap.get? b=some o->H b=none->(zmh s₁.heap H).get? b=some o:=fun e n=>zmi e n
  have noA:∀{b:Addr} {o:Obj} {es:Array DictEntry} {ep:Nat},s₁.heap.get? b=some o->o.data=.dict es ep->H b=none:=fun {b o es ep} e d=>by
   cases q:H b with
   | none=>rfl
   | some u =>
    have e':b=a:=hA b (by rw[q];simp)
    subst e'
    rw[ha] at e;cases e
    have d':Data.seq vs.toArray _=Data.dict es ep:=d
    cases d'
  have nsK:∀{b:Addr} {m:Str->Option Value},s₁.heap.Ns b m->(zmh s₁.heap H).Ns b m:=fun {b m} ⟨o,es,ep,e,d,r⟩=>⟨o,es,ep,base_of e (noA e d),d,r⟩
  have hKb:K.In (zmh s₁.heap H):=fun b o e=>base_of (KX b o e) (by
   cases q:H b with
   | none=>rfl
   | some u =>
    have e':b=a:=hA b (by rw[q];simp)
    subst e'
    rw[hK (by rw[q];simp)] at e;cases e)
  have hM:Mod K mg (zmh s₁.heap H):=⟨hKb,nsK hns,⟨mb,nsK hb,hbb⟩,let ⟨mc,h1,h2⟩:=hlim;⟨mc,nsK h1,h2⟩⟩
  have e0:Env0 P w K mg (zmh s₁.heap H) callerA [] s₁ H:=⟨rfl,hM,fun b o e=>zoA e,le_of_eq (zke _ _),trivial,fun b hb=>absurd (show b∈([]:List Addr) from hb) (by simp),hok,.of_eq hg⟩
  refine codeAny_mono ((F _ hKb (nsK hns)).run callerA [] s₁ H ⟨[.ref a],[]⟩ [.ref a] [.ref a] _ _ hr e0 (hbind s₁ (.ref a)) (.cons rfl .nil) (hsp H hO hS)) fun r s' h=>?_
  cases r with
  | error e=>exact(hCX H e s' h).elim
  | ok fl =>
   cases fl with
   | next=>exact False.elim h
   | brk=>exact False.elim h
   | cont=>exact False.elim h
   | ret u =>
    obtain⟨v,H',os,bare,un,hok',r',q⟩:=h
    have q':v=.bl true:=q
    subst q'
    obtain rfl:u=Value.bool true:=r'
    refine⟨rfl,OldK.of_keep fun b o e=>?_,os,bare⟩
    cases q:H b with
    | none=>exact un.keep b o e q (by intro z;exact absurd (show b∈([]:List Addr) from z) (by simp)) (by simp)
    | some u =>
     rcases hO b with z|⟨ob,xs,z⟩
     ·rw[q] at z;cases z
     ·have z2:=un.frzs b ob _ z
      obtain⟨e1,_⟩:=hok b _ z
      obtain⟨e2,_⟩:=hok' b _ z2
      rw[e] at e1;cases e1
      exact e2
 cases hk:K.lookup a with
 | some o =>
  have e:=KX a o hk
  rw[ha] at e
  cases e
  refine core (fun _=>none) (fun _=>.inl rfl) (.inr ⟨_,vs.toArray,_,hk,rfl,rfl,rfl,by rw[size_toArray,lenV];exact hl,by simpa using rv⟩) (fun b u z=>by have z':(none:Option HO)=some u:=z;cases z') (fun b z=>absurd rfl z) fun z=>absurd rfl z
 | none =>
  refine core (fun b=>if b=a then some (.frz { cls:=.type "list",data:=.seq vs.toArray } (.lst (ns.map V.int))) else none) (fun b=>?_) (.inl (.inr ⟨{ cls:=.type "list",data:=.seq vs.toArray },if_pos rfl⟩)) (fun b u z=>?_) (fun b z=>?_) fun _=>hk
  ·by_cases hb:b=a
   ·exact .inr ⟨_,_,if_pos hb⟩
   ·exact .inl (if_neg hb)
  ·by_cases hb:b=a
   ·have z':=(if_pos hb).symm.trans z
    cases z'
    subst hb
    exact⟨ha,by rw[length_map];exact hl,vs,_,rv,ha⟩
   ·have z':=(if_neg hb).symm.trans z
    cases z'
  ·by_cases hb:b=a
   ·exact hb
   ·exact absurd (if_neg hb) z
theorem zoU{l:PySem.W.OpenLaw}{n k:Nat}{q:Program}{loose:List Str}{XP:(Str->Option Value)->Heap->Prop}{YP:World->Heap->Prop}{d:DefRec}{K:Params->PySem.W.Frag}{CX:World->CXT}{sp:World->Sp}{x:Str}(hn:l.most=some n)(hn2:n<=sizeLine)(hdf:d.params.defaults=[])(hr:Room k callerA)(hY:∀(w:World) (h:Heap),YP w h->(K w.params).In h)(F:∀(w:World) (mg:Str->Option Value) (fa:Addr) (h:Heap),(K w.params).In h->h.Ns mainGlobals mg->mg d.name=some (.ref fa) ->
   ∃fd:FuncData,(∀(s:Shared) (u:Value),BindsTo s fd ⟨[u],[]⟩ [(x,u)]) /\
    ∀base:Heap,(K w.params).In base->base.Ns mainGlobals mg->FnOk l.prog w (K w.params) mg base (CX w) k fa fd [x] (sp w))(hsp:∀(w:World) (H:Hp) (a:Addr) (ns:List Int),ns.length<=n->zqT H->SqL (K w.params) H a (ns.map V.int)->sp w [.ref a] H (fun v _=>v=.bl true) fun _ _ _=>False)(hCX:∀(w:World) (H:Hp) (s:Shared) (e:Value) (s':Shared),CX w [] H s (fun _ _ _=>False) e s'->False) :
  PySem.W.WalkO q loose XP YP l.row.toRowW d [] (fun f vs=>PySem.call f vs):=by
 refine Att.attach_call hn hdf fun w s₀ s₁ mg mb fa o pm cd doc a vs ns G Y ho hd hcd hmg hobj hints hlen hg=>?_
 have KX:=hY w _ Y
 obtain⟨fd,hb,hF⟩:=F w mg fa _ KX G.T.g hmg
 exact zmz KX G.T.g G.T.b G.T.builtins G.T.nolimit hg hobj hints (le_trans hlen hn2) hr hF hb (fun H hO hS=>hsp w H a ns hlen hO hS) fun H e s'=>hCX w H s₁ e s'
theorem walk_ofK{l:PySem.W.OpenLaw}{n k:Nat}{q:Program}{loose:List Str}{XP:(Str->Option Value)->Heap->Prop}{YP:World->Heap->Prop}{d:DefRec}{K:Params->PySem.W.Frag}{CX:CXT}{sp:PySem.W.Frag->Sp}{x:Str}(hn:l.most=some n)(hn2:n<=sizeLine)(hdf:d.params.defaults=[])(hr:Room k callerA)(hY:∀(w:World) (h:Heap),YP w h->(K w.params).In h)(F:∀(w:World) (mg:Str->Option Value) (fa:Addr) (h:Heap),(K w.params).In h->h.Ns mainGlobals mg->mg d.name=some (.ref fa) ->
   ∃fd:FuncData,(∀(s:Shared) (u:Value),BindsTo s fd ⟨[u],[]⟩ [(x,u)]) /\
    ∀base:Heap,(K w.params).In base->base.Ns mainGlobals mg->FnOk l.prog w (K w.params) mg base CX k fa fd [x] (sp (K w.params)))(hsp:∀(K:PySem.W.Frag) (H:Hp) (a:Addr) (ns:List Int),ns.length<=n->zqT H->SqL K H a (ns.map V.int)->sp K [.ref a] H (fun v _=>v=.bl true) fun _ _ _=>False)(hCX:∀(H:Hp) (s:Shared) (e:Value) (s':Shared),CX [] H s (fun _ _ _=>False) e s'->False) :
  PySem.W.WalkO q loose XP YP l.row.toRowW d [] (fun f vs=>PySem.call f vs) :=
 zoU (K:=K) (CX:=fun _=>CX) (sp:=fun w=>sp (K w.params)) hn hn2 hdf hr hY F (fun w H a ns h1 h2 h3=>hsp (K w.params) H a ns h1 h2 h3) fun _ H s e s'=>hCX H s e s'
def zar(s:Stmt):Arguments:=match s with
 | .FunctionDef _ a _ _ _ _ _ _ _ _=>a
 | _=>{ posonlyargs:=[],args:=[],vararg:=none,kwonlyargs:=[],kw_defaults:=[],kwarg:=none,defaults:=[] }
def zaq(s:Stmt):List Stmt:=match s with
 | .FunctionDef _ _ b _ _ _ _ _ _ _=>b
 | _=>[]
def zaf(s:Stmt):Scope:=match s with
 | .FunctionDef _ _ _ _ _ _ sc _ _ _=>sc
 | _=>{ kind:=.function,names:=[],isGenerator:=false,isCoroutine:=false }
abbrev CX0:CXT:=fun _ _ _ _ _ _=>False
abbrev E0:XK:=fun _ _ _=>False
structure Fun (K:PySem.W.Frag) (x qual:Str) (st:Stmt) (f:Addr) (fd:FuncData):Prop where
 ex:∃(oc:Value) (od:Option Addr) (kV doc pm:Value) (an:Option Addr) (cdv ct:Value) (osl:Array (Option Value)),
  fd=PySem.W.fnOf x qual (zar st) (zaq st) (zaf st) .none kV doc pm an cdv ct/\K.lookup f=some ⟨oc,od,.func fd,osl⟩/\PySem.W.codeIn K cdv qual=true
 kp:PySem.W.keepIn K (.ref f)=true
section
variable {P:Program} {w:World} {K:PySem.W.Frag} {mg:Str->Option Value} {base:Heap}
theorem Fun.binds{x qual:Str}{st:Stmt}{f:Addr}{fd:FuncData}{ps:List Str}(F:Fun K x qual st f fd)(h:∀(kV doc pm:Value) (an:Option Addr) (cdv ct:Value) (us:List Value),us.length=ps.length->bindArgs (PySem.W.fnOf x qual (zar st) (zaq st) (zaf st) .none kV doc pm an cdv ct) ⟨us,[]⟩=pure (ps.zip us)):Binds K fd ps []:=by
 obtain⟨oc,od,kV,doc,pm,an,cdv,ct,osl,rfl,lk,hcd⟩:=F.ex
 exact .all (h kV doc pm an cdv ct)
theorem zaL{x qual:Str}{st:Stmt}{f:Addr}{oc:Value}{od an:Option Addr}{osl:Array (Option Value)}{kV doc pm cdv ct:Value}(l:K.lookup f=some ⟨oc,od,.func (PySem.W.fnOf x qual (zar st) (zaq st) (zaf st) .none kV doc pm an cdv ct),osl⟩)(c:PySem.W.codeIn K cdv qual=true)(k:PySem.W.keepIn K (.ref f)=true):Fun K x qual st f (PySem.W.fnOf x qual (zar st) (zaq st) (zaf st) .none kV doc pm an cdv ct):=⟨⟨oc,od,kV,doc,pm,an,cdv,ct,osl,rfl,l,c⟩,k⟩
end
section
variable {X:Cx}
end
def zu5(H H':Hp):Prop:=∀b o,H b=some o->H' b=some o
def zjH(js:List Nat)(σ:St):St:=js.map fun j=>σ.getD j none
structure BlkS (N:List Str) (psc:Scope) (js:List Nat) (N':List Str) (scope:Scope):Prop where
 cell:∀y∈scope.names,y.2≠.cell
 kind:scope.kind=.function
 names:∀y∈scope.names,y.2=.local->scope.names.lookup y.1=some .local
 frees:∀y∈scope.names,y.2=.free->psc.names.lookup y.1=some .cell\/psc.names.lookup y.1=some .free
 nd:N'.Nodup
 len:N'.length=js.length+1
 cap:∀p∈js.zip (N'.drop 1),N[p.1]?=some p.2/\scope.names.lookup p.2=some .free
def zdr(env:Env)(cs:List (Str×Addr))(y:Str×NameKind):List (Str×Addr):=if y.2==.free then (y.1,(env.cells.lookup y.1).getD 0)::cs else cs
def clOf(scope:Scope)(env:Env):List (Str×Addr):=scope.names.foldl (zdr env) []
theorem ze5{α β:Type}(f:α->β->Sem (ForInStep β))(g:β->α->β):∀(l:List α) (b:β),(∀x∈l,∀c,f x c=pure (.yield (g c x)))->forIn l b f=pure (l.foldl g b)
 | [],_,_=>rfl
 | x::l,b,h=>by
  rw[forIn_cons,h x mem_cons_self,pure_bind]
  exact ze5 f g l (g b x) fun y hy=>h y (mem_cons_of_mem _ hy)
theorem zjI{scope:Scope}{env:Env}(h:∀y∈scope.names,y.2=.free->∃c,env.cells.lookup y.1=some c):closureFor scope env=pure (clOf scope env):=by
 simp only[closureFor,clOf]
 rw[ze5 _ (zdr env) scope.names [] (fun y hy c=>by
  obtain⟨n,k⟩:=y
  by_cases hk:k=.free
  ·subst hk
   obtain⟨a,ha⟩:=h _ hy rfl
   have ha':env.cells.lookup n=some a:=ha
   simp[cellOf,ha',zdr]
  ·have hb:(k==NameKind.free)=false:=by simpa using hk
   simp[hb,zdr])]
 rfl
theorem zfV{env:Env}{P:Str×Addr->Prop}:∀(l:List (Str×NameKind)) (acc:List (Str×Addr)),(∀p∈acc,P p)->(∀y∈l,y.2=.free->P (y.1,(env.cells.lookup y.1).getD 0))->∀p∈l.foldl (zdr env) acc,P p
 | [],_,ha,_=>ha
 | y::l,acc,ha,hl=>by
  refine zfV l _ (fun p hp=>?_) fun z hz=>hl z (mem_cons_of_mem _ hz)
  unfold zdr at hp
  by_cases hk:y.2=.free
  ·rw[if_pos (by simp[hk])] at hp
   rcases mem_cons.mp hp with e|hp
   ·rw[e];exact hl y mem_cons_self hk
   ·exact ha p hp
  ·rw[if_neg (by simp[hk])] at hp
   exact ha p hp
theorem zfW{env:Env}:∀(l:List (Str×NameKind)) (acc:List (Str×Addr)),∀p∈acc,p∈l.foldl (zdr env) acc
 | [],_,_,hp=>hp
 | y::l,acc,p,hp=>by
  refine zfW l _ p ?_
  unfold zdr
  split
  ·exact mem_cons_of_mem _ hp
  ·exact hp
theorem zfX{env:Env}{y:Str}:∀(l:List (Str×NameKind)) (acc:List (Str×Addr)),(y,NameKind.free)∈l->∃c,(y,c)∈l.foldl (zdr env) acc
 | z::l,acc,h=>by
  rcases mem_cons.mp h with e|h
  ·subst e
   exact⟨(env.cells.lookup y).getD 0,zfW l _ _ (by simp[zdr])⟩
  ·exact zfX l _ h
theorem zdC{β:Type}{y:Str}{c:β}:∀{l:List (Str×β)},(y,c)∈l->∃c',l.lookup y=some c'
 | (n,d)::l,h=>by
  rw[lookup_cons]
  cases e:y==n with
  | true=>exact⟨d,rfl⟩
  | false =>
   rcases mem_cons.mp h with q|q
   ·have q1:y=n:=congrArg Prod.fst q
    rw[q1] at e
    simp at e
   ·exact zdC q
theorem zho{scope:Scope}{env:Env}(h:∀y∈scope.names,y.2=.free->∃c,env.cells.lookup y.1=some c){y:Str}{c:Addr}(e:(clOf scope env).lookup y=some c):env.cells.lookup y=some c:=by
 refine zfV (P:=fun p=>env.cells.lookup p.1=some p.2) scope.names [] (fun _ hp=>nomatch hp) (fun z hz hf=>?_) (y,c) (PySem.mem_of_lookup e)
 obtain⟨a,ha⟩:=h z hz hf
 simp[ha]
theorem ziT{scope:Scope}{env:Env}{y:Str}(h:(y,NameKind.free)∈scope.names):∃c,(clOf scope env).lookup y=some c:=by
 obtain⟨c,hc⟩:=zfX (env:=env) scope.names [] h
 exact zdC hc
theorem relabel_of{env:Env}{y:Str}{k':NameKind}:∀{names:List (Str×NameKind)},(names.map fun(n,k)=>if (k==NameKind.free&&env.scope.kind==.function&&env.kindOf n==some .cell) then (n,NameKind.cell) else (n,k)).lookup y=some k' ->
  ∃k,(y,k)∈names/\(k'=k\/(k=.free/\k'=.cell))
 | [],h=>by simp at h
 | (n,k)::r,h=>by
  have ih:=@relabel_of env y k' r
  have h:List.lookup y ((if (k==NameKind.free&&env.scope.kind==.function&&env.kindOf n==some .cell)=true then (n,NameKind.cell) else (n,k))::_)=some k':=h
  cases e:y==n with
  | true =>
   have e':y=n:=by simpa using e
   by_cases hc:(k==NameKind.free&&env.scope.kind==.function&&env.kindOf n==some .cell)=true
   ·rw[if_pos hc] at h
    simp only[lookup_cons,e] at h
    cases h
    have hk:k=.free:=by
     simp only[and_eq_true] at hc
     simpa using hc.1.1
    subst hk
    exact⟨.free,by rw[e'];exact mem_cons_self,.inr ⟨rfl,rfl⟩⟩
   ·rw[if_neg hc] at h
    simp only[lookup_cons,e] at h
    have hk:=Option.some.inj h
    exact⟨k,by rw[e'];exact mem_cons_self,.inl hk.symm⟩
  | false =>
   have h':List.lookup y (r.map fun(n,k)=>if (k==NameKind.free&&env.scope.kind==.function&&env.kindOf n==some .cell) then (n,NameKind.cell) else (n,k))=some k':=by
    by_cases hc:(k==NameKind.free&&env.scope.kind==.function&&env.kindOf n==some .cell)=true
    ·rw[if_pos hc] at h
     simp only[lookup_cons,e] at h
     exact h
    ·rw[if_neg hc] at h
     simp only[lookup_cons,e] at h
     exact h
   obtain⟨k0,h1,h2⟩:=ih h'
   exact⟨k0,mem_cons_of_mem _ h1,h2⟩
theorem relabel_free{env:Env}{y:Str}:∀{names:List (Str×NameKind)},names.lookup y=some .free ->
  (names.map fun(n,k)=>if (k==NameKind.free&&env.scope.kind==.function&&env.kindOf n==some .cell) then (n,NameKind.cell) else (n,k)).lookup y=some .cell \/
  (names.map fun(n,k)=>if (k==NameKind.free&&env.scope.kind==.function&&env.kindOf n==some .cell) then (n,NameKind.cell) else (n,k)).lookup y=some .free
 | [],h=>by simp at h
 | (n,k)::r,h=>by
  have ih:=@relabel_free env y r
  show List.lookup y ((if (k==NameKind.free&&env.scope.kind==.function&&env.kindOf n==some .cell)=true then (n,NameKind.cell) else (n,k))::_)=_\/List.lookup y ((if (k==NameKind.free&&env.scope.kind==.function&&env.kindOf n==some .cell)=true then (n,NameKind.cell) else (n,k))::_)=_
  cases e:y==n with
  | true =>
   simp only[lookup_cons,e] at h
   cases h
   by_cases hc:(NameKind.free==NameKind.free&&env.scope.kind==.function&&env.kindOf n==some .cell)=true
   ·rw[if_pos hc];exact .inl (by simp[lookup_cons,e])
   ·rw[if_neg hc];exact .inr (by simp[lookup_cons,e])
  | false =>
   simp only[lookup_cons,e] at h
   by_cases hc:(k==NameKind.free&&env.scope.kind==.function&&env.kindOf n==some .cell)=true
   ·rw[if_pos hc];simp only[lookup_cons,e];exact ih h
   ·rw[if_neg hc];simp only[lookup_cons,e];exact ih h
def blk(X:Cx)(N':List Str)(scope:Scope)(C:Addr)(fp:List Addr)(s₀:Shared)(H₀:Hp):Cx :=
 { X with N:=N',s₀:=s₀,H₀:=H₀,env:=compEnvC scope (clOf scope X.env) C X.env,outer:=X.stack,stack:=X.stack,ex:=fp,fn:=fun _=>false,pn:=[],xe:=fun _ _=>False }
theorem HOk.track{P:Program}{w:World}{H:Hp}{h:Heap}{a:Addr}{o:HO}(x:HOk P w H h)(hn:H a=none)(new:ObjOk P w (upd H a o) h a o):HOk P w (upd H a o) h:=fun b u e=>by
 by_cases hb:b=a
 ·subst hb;rw[zat] at e;cases e;exact new
 ·rw[zaC hb] at e
  exact(x b u e).stay (fun c v _ q=>q) (fun c q=>by rw[zaC (zay q hn)];exact q) fun c xs q=>by rw[zaC (zay q hn)];exact q
section
variable {X:Cx} {pins:List (Addr×Obj)} {σ:St} {H:Hp} {s:Shared}
theorem Inv.stkNe(I:Inv X pins σ H s){b:Addr}(h1:b≠X.env.locals)(h2:b∉X.fs):b∉frs X.stack:=fun hb=>(mem_cons.mp (I.stkSub b hb)).elim h1 h2
theorem Inv.frees(I:Inv X pins σ H s){js:List Nat}{N':List Str}{scope:Scope}(B:BlkS X.N X.env.scope js N' scope):∀y∈scope.names,y.2=.free->∃c,X.env.cells.lookup y.1=some c :=
 fun y hy hf=>I.ok.has y.1 (B.frees y hy hf)
theorem zkz{js:List Nat}{x:Str}{caps:List Str}{scope:Scope}{C:Addr}{fp:List Addr}{h₁:Heap}{tk:Nat}{m:Str->Option Value}(B:BlkS X.N X.env.scope js (x::caps) scope)(I:Inv X pins σ H s)(f2:∀b∈fp,znU X pins H b)(ho:∀b∈fp,∃o,s.heap.get? b=some o)(hC:s.heap.objs.size<=C)(old:∀b o,s.heap.get? b=some o->h₁.get? b=some o)(ns:h₁.Ns C m) :
  Inv (blk X (x::caps) scope C fp s H) [] (none::zjH js σ) H { s with heap:=h₁,toks:=tk }:=by
 have fr:=I.frees B
 have clo:∀y c,(clOf scope X.env).lookup y=some c->X.env.cells.lookup y=some c:=fun y c e=>zho fr e
 have lt:∀b∈fp,b<s.heap.objs.size:=fun b hb=>let ⟨o,e⟩:=ho b hb;Heap.lt_size e
 refine⟨⟨I.ok.mod,B.kind,I.ok.glob,I.ok.blt,hC,fun a b c h1 h2=>I.ok.inj a b c (clo _ _ h1) (clo _ _ h2),fun y hy=>?_,fun y c h _=>absurd (show false=true from h) Bool.false_ne_true,I.ok.hd,I.ok.frames,.inl rfl,
   fun b hb=>⟨ne_of_lt (lt_of_lt_of_le (lt b hb) hC),fun y c h=>(f2 b hb).2.2.2.2.1 y c (clo y c h)⟩,I.bs,le_trans I.ok.bsz I.sz,fun b o e hb=>?_,fun b hb=>I.stkNe (f2 b hb).2.1 (f2 b hb).2.2.1,I.stack,I.stkFree⟩,
  rfl,I.bare,Un.kept old,⟨m,ns,fun i y v e1 e2 e3=>?_⟩,fun y c h=>?_,I.hok.fresh hC,fun y c h=>I.freeC y c (clo y c h),fun p hp=>absurd (show p∈([]:List (Addr×Obj)) from hp) (by simp),I.hok.kept old,?_⟩
 ·have hy':(relabel scope X.env).names.lookup y=some .cell\/(relabel scope X.env).names.lookup y=some .free:=hy
  have hm:(y,NameKind.free)∈scope.names:=by
   rcases hy' with z|z
   ·obtain⟨k,h1,h2⟩:=relabel_of z
    rcases h2 with h2|⟨h2,_⟩
    ·exact absurd h2.symm (B.cell _ h1)
    ·rw[h2] at h1;exact h1
   ·obtain⟨k,h1,h2⟩:=relabel_of z
    rcases h2 with h2|⟨_,h2⟩
    ·rw[<- h2] at h1;exact h1
    ·cases h2
  exact ziT hm
 ·rcases(f2 b hb).2.2.2.1 with z|z
  ·exact I.ok.noex b o e z
  ·exact absurd (lt_of_lt_of_le (Heap.lt_size e) (le_trans I.ok.bsz z)) (lt_irrefl _)
 ·cases i with
  | zero =>
   have q:some (none:Option V)=some (some v):=e2
   cases q
  | succ k =>
   have e1':caps[k]?=some y:=e1
   have e2':(js.map fun j=>σ.getD j none)[k]?=some (some v):=e2
   rw[getElem?_map] at e2'
   cases hj:js[k]? with
   | none=>rw[hj] at e2';cases e2'
   | some j =>
    rw[hj] at e2'
    have hv:σ.getD j none=some v:=Option.some.inj e2'
    have hσ:σ[j]?=some (some v):=by
     rw[getD_eq_getElem?_getD] at hv
     cases q:σ[j]? with
     | none=>rw[q] at hv;cases hv
     | some z=>rw[q] at hv;exact congrArg some hv
    have hz:(j,y)∈js.zip caps:=mem_of_getElem? (getElem?_zip_eq_some.mpr ⟨hj,e1'⟩)
    obtain⟨hN,hf⟩:=B.cap (j,y) hz
    have hk:=B.frees (y,.free) (PySem.mem_of_lookup hf) rfl
    obtain⟨m',_,hl⟩:=I.loc
    obtain⟨u,r,l⟩:=hl j y v hN hσ (.inr hk)
    rcases l with ⟨k1,_⟩|⟨k1,c,hcl,o,hco,hcd⟩
    ·have k1':X.env.scope.names.lookup y=some .local:=k1
     have hk':X.env.scope.names.lookup y=some .cell\/X.env.scope.names.lookup y=some .free:=hk
     rw[k1'] at hk'
     rcases hk' with z|z<;>cases z
    ·obtain⟨c',hc'⟩:=ziT (env:=X.env) (PySem.mem_of_lookup hf)
     have:=clo _ _ hc'
     rw[hcl] at this
     cases this
     exact⟨u,r,.inr ⟨relabel_free hf,c,hc',o,old c o hco,hcd⟩⟩
 ·obtain⟨v,o,h1,h2⟩:=I.cell y c (clo y c h)
  exact⟨v,o,old c o h1,h2⟩
 ·show(none::zjH js σ).length=(x::caps).length
  rw[B.len]
  simp[zjH]
end
def PIfs(Y:Cx)(ifs:List Expr)(tt:TT):Prop :=
 ∀(pins:List (Addr×Obj)) (s:Shared) (σ:St) (H:Hp) (Q:Bool->Hp->Prop),Inv Y pins σ H s->tt σ H Q ->
  wpAny (model Y.prog Y.w) Y.A (forIn ifs true fun c r=>if r=true then do let ok <- isTrue c Y.env (eval c Y.env);pure (ForInStep.yield ok) else pure (ForInStep.yield r)) (TP Y pins σ Q) Y.xe s
def zs3:TT:=fun _ H Q=>Q true H
theorem zmA{Y:Cx}:PIfs Y [] zs3:=fun _ _ _ H _ I h=>wpAny_tests_nil ⟨H,I,h⟩
theorem zmB{Y:Cx}{c:Expr}{tc:TT}(h:PT Y c tc):PIfs Y [c] tc:=fun pins s σ H Q I hw=>wpAny_tests_one (h pins s σ H Q I hw)
def zuP(J:It)(cs:St)(tt:TT)(te:TE)(Q:VK)(H1:Hp):Prop:=∃W:Nat->Nat->List V->Hp->Prop,(∃m,W 0 m [] H1)/\∀i m ys H2,W i m ys H2 ->
 (J.stop i H2/\∀p,H2 p=none->Q (.ref p) (upd H2 p (.lst ys))) \/
 (J.go i H2/\ys.length<sizeLine/\∃N:List V->Hp->Prop,(∀ys' H',N ys' H'->∃m',m'<m/\W (i+1) m' ys' H') /\
  ∀x H',J.yld i H2 x H'->tt (some x::cs) H' fun b H4=>if b=true then te (some x::cs) H4 fun y H5=>N (ys++[y]) H5 else N ys H4)
def tLC(js:List Nat)(wi:TI)(tt:TT)(te:TE):TE:=fun σ H Q=>wi σ H fun J H1=>zuP J (zjH js σ) tt te Q H1
theorem zmC{α:Type}{M:Model}{A:Around}{Φ:Unit->Shared->Prop}{E E':Value->Shared->Prop}{s:Shared}{t:Sem α}{Ψ:α->Shared->Prop}(h:wpAny M A (pure ()) Φ E s)(k:Φ () s->wpAny M A t Ψ E' s):wpAny M A t Ψ E' s :=
 fun Γ p hΓ=>k (h Γ p hΓ) Γ p hΓ
section
variable {X:Cx} {elt iter:Expr} {x:Str} {px pos p:Pos} {ifs:List Expr} {scope:Scope} {js:List Nat} {caps:List Str} {wi:TI} {tt:TT} {te:TE}
theorem zkA{use:Option (Value->Sem Unit)}{Qf:Value->Shared->Prop}{pins:List (Addr×Obj)}{s:Shared}{σ:St}{H:Hp}{Q:VK}(B:BlkS X.N X.env.scope js (x::caps) scope)(hc:X.calm=true)(hx:scope.names.lookup x=some .local)(hi:PI X (.Name x px) iter wi)(ht:∀C fp s₀ H₀,PIfs (blk X (x::caps) scope C fp s₀ H₀) ifs tt)(he:∀C fp s₀ H₀,PE (blk X (x::caps) scope C fp s₀ H₀) elt te)(hs:∀v,foldedSetIterable iter X.env v=pure v)(I:Inv X pins σ H s)(hw:tLC js wi tt te σ H Q)(fin:∀(C D:Addr) (oC:Obj) (ys:List V) (H':Hp) (s1:Shared),Inv X (pins++[(C,oC)]) σ (upd H' D (.lst ys)) s1->Q (.ref D) (upd H' D (.lst ys)) ->
   (∀σ' H'' s',Inv X (pins++[(C,oC)]) σ' H'' s'->(∃m,s'.heap.Ns C m)/\∀h',Heap.SameBut C s'.heap h'->Inv X pins σ' H'' { s' with heap:=h' }) ->
   compPost (model X.prog X.w) X.A X.xe use Qf (.ref D) C (.ok .next) s1) :
  wpAny (model X.prog X.w) X.A (comprehension (.ListComp elt [⟨.Name x px,iter,ifs,0⟩] scope pos) scope X.env p (newList []) false (eval iter X.env) use) Qf X.xe s:=by
 have fr:=I.frees B
 refine wpAny_comprehension_free (use:=use) rfl hs (zjI fr) B.kind B.names (thn (hi pins s σ H _ I hw) fun v s1 h1=>thn h1 fun itv s2 h2=>?_)
 obtain⟨it,fp,tn,J,H2,e,I2,T,st2,f2,W,⟨m0,w0⟩,turn⟩:=h2
 subst e
 refine wpAny_newObj_type (wpAny_newFunctionEnv B.cell (by intro y hy;simp at hy) (fun h₁ hns₁ hsb₁=>?_) B.kind)
 dsimp only at hns₁ hsb₁ ⊢
 generalize hG:s2.heap.push { cls:=.type "list",dict:=none,data:=.seq ([]:List Value).toArray }=G at hns₁ hsb₁ ⊢
 have hC:G.objs.size=s2.heap.objs.size+1:=by rw[<- hG,Heap.size_push]
 have hDC:s2.heap.objs.size≠G.objs.size:=by rw[hC];exact ne_of_lt (lt_succ_self _)
 have hCle:s2.heap.objs.size<=G.objs.size:=by rw[hC];exact le_succ _
 have old:∀b o,s2.heap.get? b=some o->h₁.get? b=some o:=fun b o e =>
  hsb₁.extBut b o (ne_of_lt (lt_of_lt_of_le (Heap.lt_size e) hCle)) (Heap.get?_push_of_some _ (hG▸Heap.get?_push_of_some _ e))
 have hacc:h₁.get? s2.heap.objs.size=some (LCg.lst []):=hsb₁.extBut _ _ hDC (Heap.get?_push_of_some _ (hG▸Heap.get?_push_size _ rfl))
 have fpo:∀b∈fp,∃o,s2.heap.get? b=some o:=fun b hb=>let ⟨o,e,_⟩:=T.obj 0 _ st2 b hb;⟨o,e⟩
 have fpl:∀b∈fp,b<s2.heap.objs.size:=fun b hb=>let ⟨o,e⟩:=fpo b hb;Heap.lt_size e
 have clo:∀y c,(clOf scope X.env).lookup y=some c->X.env.cells.lookup y=some c:=fun y c e=>zho fr e
 have cls2:∀y c,X.env.cells.lookup y=some c->c<s2.heap.objs.size:=fun y c e=>let ⟨v,o,h1,_⟩:=I2.cell y c e;Heap.lt_size h1
 have st1:tn 0 h₁:=T.keep 0 _ _ st2 fun b _ o e=>old b o e
 have D_fs:s2.heap.objs.size∉frs X.stack:=I2.stkNe (ne_of_gt I2.lt) (I2.nofs (le_refl _))
 have C_fs:G.objs.size∉X.fs:=I2.nofs hCle
 have C_L:G.objs.size≠X.env.locals:=ne_of_gt (lt_of_lt_of_le I2.lt hCle)
 have fpY:∀{pl:List (Addr×Obj)} {H':Hp},(∀b∈fp,H' b=none)->(∀p∈pl,s2.heap.objs.size<=p.1)->∀b∈fp,znU (blk X (x::caps) scope G.objs.size fp s2 H2) pl H' b:=fun {pl H'} hn hp b hb =>
  ⟨hn b hb,ne_of_lt (lt_of_lt_of_le (fpl b hb) hCle),I2.stkNe (f2 b hb).2.1 (f2 b hb).2.2.1,.inl hb,fun y c h=>(f2 b hb).2.2.2.2.1 y c (clo y c h),fun p hp' z =>
   absurd (lt_of_lt_of_le (fpl b hb) (by rw[<- z];exact hp p (by simpa[blk] using hp'))) (lt_irrefl _)⟩
 have rel:∀{oC:Obj} {mC:Str->Option Value},LCg.NsObj oC mC->∀σ' H'' s',Inv X (pins++[(G.objs.size,oC)]) σ' H'' s'->(∃m,s'.heap.Ns G.objs.size m)/\∀h',Heap.SameBut G.objs.size s'.heap h'->Inv X pins σ' H'' { s' with heap:=h' }:=by
  intro oC mC hns σ' H'' s' I'
  obtain⟨e1,e2,e3,e4,e5⟩:=I'.pin (G.objs.size,oC) (mem_append_right _ (mem_append_right _ (by simp)))
  refine⟨⟨mC,hns.ns e1⟩,fun h' hs'=>?_⟩
  exact(I'.unpinned).turned (t':=s'.toks) (it:=G.objs.size) (fun b o hb e=>(hs'.2 b hb).trans e) e2 e3 (.inr (le_trans I2.sz hCle)) (fun y c h z=>absurd (lt_of_lt_of_le (cls2 y c h) (by rw[z];exact hCle)) (lt_irrefl _))
   (fun q hq z=>absurd (lt_of_lt_of_le (Heap.lt_size (I2.pin q hq).1) (by rw[z];exact hCle)) (lt_irrefl _))
 have I1:Inv (blk X (x::caps) scope G.objs.size fp s2 H2) [] (none::zjH js σ) H2 { s2 with heap:=h₁,toks:=s2.toks+([]:List (Str×Value)).length }:=zkz B I2 f2 fpo hCle old hns₁
 have hxl:(blk X (x::caps) scope G.objs.size fp s2 H2).env.scope.names.lookup x=some .local:=lookup_relabel_local hx
 have pinD:∀{us:List Value} {σ3:St} {H3:Hp} {s3:Shared},Inv (blk X (x::caps) scope G.objs.size fp s2 H2) [] σ3 H3 s3->s3.heap.get? s2.heap.objs.size=some (LCg.lst us)->H3 s2.heap.objs.size=none ->
   Inv (blk X (x::caps) scope G.objs.size fp s2 H2) [(s2.heap.objs.size,LCg.lst us)] σ3 H3 s3:=fun {us σ3 H3 s3} I3 hD nD=>I3.pins_of fun p hp=>by
  have e:p=(s2.heap.objs.size,LCg.lst us):=by simpa using hp
  subst e
  exact⟨hD,nD,hDC,D_fs,fun v z=>by
   have z':Data.seq _ _=Data.cell v:=z
   cases z'⟩
 have back:∀{us us':List Value} {ts:Option V} {H8:Hp} {s5 s8:Shared} {h9:Heap} {i:Nat},Inv (blk X (x::caps) scope G.objs.size fp s2 H2) ([(s2.heap.objs.size,LCg.lst us)]++zfS fp s5.heap) (ts::zjH js σ) H8 s8->tn (i+1) s5.heap ->
   (∀b,b≠s2.heap.objs.size->h9.get? b=s8.heap.get? b)->h9.get? s2.heap.objs.size=some (LCg.lst us') ->
   Inv (blk X (x::caps) scope G.objs.size fp s2 H2) [] (none::zjH js σ) H8 { s8 with heap:=h9 }/\tn (i+1) h9/\(∀b∈fp,H8 b=none)/\H8 s2.heap.objs.size=none:=by
  intro us us' ts H8 s5 s8 h9 i I8 st5 hk hD9
  have pn:∀q∈[(s2.heap.objs.size,LCg.lst us)]++zfS fp s5.heap,s8.heap.get? q.1=some q.2/\H8 q.1=none:=fun q hq=>let z:=I8.pin q (mem_append_right _ hq);⟨z.1,z.2.1⟩
  have nD:H8 s2.heap.objs.size=none:=(pn (s2.heap.objs.size,LCg.lst us) (by simp)).2
  have Iw:Inv (blk X (x::caps) scope G.objs.size fp s2 H2) [] (none::zjH js σ) H8 s8:=(I8.pins_of (pins':=[]) fun q hq=>nomatch hq).weak rfl fun j v e=>by
   cases j with
   | zero =>
    have q:some (none:Option V)=some (some v):=e
    cases q
   | succ j=>exact e
  refine⟨Iw.turned (t':=s8.toks) (it:=s2.heap.objs.size) (fun b o hb e=>(hk b hb).trans e) nD hDC (.inr (le_refl _)) (fun y c h z=>absurd (cls2 y c (clo y c h)) (by rw[z];exact lt_irrefl _)) (fun q hq=>absurd (show q∈([]:List (Addr×Obj)) from hq) (by simp)),
   T.keep _ _ _ st5 fun b hb o e=>?_,fun b hb=>?_,nD⟩
  ·rw[hk b (ne_of_lt (fpl b hb))]
   exact(pn (b,o) (mem_append_right _ (zdh hb e))).1
  ·obtain⟨o,e,_⟩:=T.obj _ _ st5 b hb
   exact(pn (b,o) (mem_append_right _ (zdh hb e))).2
 have loop:codeAny (model X.prog X.w) X.A (.compLoop (.ListComp elt [⟨.Name x px,iter,ifs,0⟩] scope pos) 0 (.ref it) (.ref s2.heap.objs.size) (compEnvC scope (clOf scope X.env) G.objs.size X.env))
   (compPost (model X.prog X.w) X.A X.xe use Qf (.ref s2.heap.objs.size) G.objs.size) { s2 with heap:=h₁,toks:=s2.toks+([]:List (Str×Value)).length }:=by
  refine codeAny_compLoop_tests (fun n s'=>∃(i:Nat) (ys:List V) (us:List Value) (H':Hp),Inv (blk X (x::caps) scope G.objs.size fp s2 H2) [] (none::zjH js σ) H' s'/\tn i s'.heap/\(∀b∈fp,H' b=none) /\
   s'.heap.get? s2.heap.objs.size=some (LCg.lst us)/\Vals ys us/\H' s2.heap.objs.size=none/\ys.length<=sizeLine/\W i n ys H') ?_ m0 ⟨0,[],[],H2,I1,st1,fun b hb=>(f2 b hb).1,hacc,.nil,I2.hok.fresh (le_refl _),zero_le _,w0⟩
  rintro n s3 ⟨i,ys,us,H3,I3,st3,fr3,hD,rv,nD,hz,w3⟩
  have I3':=pinD I3 hD nD
  have hpl:∀p∈[(s2.heap.objs.size,LCg.lst us)],s2.heap.objs.size<=p.1:=fun p hp=>by
   have e:p=(s2.heap.objs.size,LCg.lst us):=by simpa using hp
   subst e
   exact le_refl _
  rcases turn i n ys H3 w3 with ⟨stop,q⟩|⟨go,hlt,N,hN,step⟩
  ·refine wpAny_mono (T.done (blk X (x::caps) scope G.objs.size fp s2 H2) rfl rfl rfl hc i _ s3 _ H3 (fun _ _=>False) I3' (fpY fr3 hpl) st3 stop) (fun r s4 hr=>?_) fun _ _ z=>z.elim
   obtain⟨hr,I4⟩:=hr
   subst hr
   have hD4:s4.heap.get? s2.heap.objs.size=some (LCg.lst us):=(I4.pin (s2.heap.objs.size,LCg.lst us) (mem_append_right _ (by simp))).1
   have un:Un (frs X.stack) fp H2 (upd H3 s2.heap.objs.size (.lst ys)) s2.heap s4.heap :=
    ⟨fun b o e n hb hx=>I4.base.keep b o e n hb hx,fun b o e n hb hx=>I4.base.slot b o e n hb hx,fun b o e n hx=>by rw[zaC (ne_of_lt (Heap.lt_size e))];exact I4.base.free b o e n hx,fun b o e hx=>I4.base.there b o e hx,
     fun b zs e=>by have q:=I4.base.tups b zs e;rw[zaC (zay q nD)];exact q,fun b o u e=>by have q:=I4.base.frzs b o u e;rw[zaC (zay q nD)];exact q,
     fun b ps e=>by obtain⟨more,q⟩:=I4.base.tbls b ps e;exact⟨more,by rw[zaC (zay q nD)];exact q⟩⟩
   have hok4:HOk X.prog X.w (upd H3 s2.heap.objs.size (.lst ys)) s4.heap:=HOk.track I4.hok nD ⟨hz,us,us.length,rv,hD4⟩
   have IX:Inv X pins σ (upd H3 s2.heap.objs.size (.lst ys)) s4:=I2.call' (ch:=fp) I4.os un hok4 I4.bare fun b hb=>⟨(f2 b hb).2.2.2.1,(f2 b hb).2.1,(f2 b hb).2.2.2.2.1,(f2 b hb).2.2.2.2.2⟩
   obtain⟨mC,hnC,_⟩:=I4.loc
   obtain⟨oC,eC,nsC⟩:=LCg.ns_obj hnC
   have nC:(upd H3 s2.heap.objs.size (.lst ys)) G.objs.size=none:=by rw[zaC (Ne.symm hDC)];exact I4.free
   have dC:∀v,oC.data≠.cell v:=fun v z=>by
    obtain⟨es,ep,d,_⟩:=nsC
    rw[d] at z;cases z
   have IX':Inv X (pins++[(G.objs.size,oC)]) σ (upd H3 s2.heap.objs.size (.lst ys)) s4:=IX.pins_of fun q hq=>by
    rcases mem_append.mp hq with z|z
    ·exact IX.pin q (mem_append_right _ z)
    ·have e:q=(G.objs.size,oC):=by simpa using z
     subst e
     exact⟨eC,nC,C_L,C_fs,dC⟩
   exact fin G.objs.size s2.heap.objs.size oC ys H3 s4 IX' (q _ nD) (rel nsC)
  ·refine wpAny_mono (T.item (blk X (x::caps) scope G.objs.size fp s2 H2) rfl rfl rfl hc i _ s3 _ H3 (fun _ _=>False) I3' (fpY fr3 hpl) st3 go) (fun r s4 hr=>?_) fun _ _ z=>z.elim
   obtain⟨u,hr,h4⟩:=hr
   subst hr
   show wpAny _ _ (assign _ _ u) _ _ s4
   refine zmC h4 fun h5=>?_
   obtain⟨xv,H5,I5,r5,y5,st5,fr5⟩:=h5
   have I5':=I5.pinned (fpY fr5 hpl) (T.obj _ _ st5)
   refine wpAny_mono (zh8 (X:=blk X (x::caps) scope G.objs.size fp s2 H2) (i:=0) (x:=x) B.nd rfl (Or.inl hxl) (.inr hxl) _ s4 _ H5 xv u (fun σ' H'=>σ'=some xv::zjH js σ/\H'=H5) I5' r5 ⟨rfl,rfl⟩) (fun _ s6 h6=>?_) fun _ _ z=>False.elim z
   obtain⟨σ6,H6,I6,e6,e6'⟩:=h6
   subst e6 e6'
   refine wpAny_mono (ht _ _ _ _ _ s6 _ _ _ I6 (step xv _ y5)) (fun b s7 h7=>?_) fun _ _ z=>False.elim z
   obtain⟨H7,I7,q7⟩:=h7
   cases b with
   | false =>
    rw[if_neg Bool.false_ne_true] at q7
    show if false=true then _ else _
    rw[if_neg Bool.false_ne_true]
    have hD7:s7.heap.get? s2.heap.objs.size=some (LCg.lst us):=(I7.pin (s2.heap.objs.size,LCg.lst us) (mem_append_right _ (mem_append_left _ (by simp)))).1
    obtain⟨J1,J2,J3,J4⟩:=back I7 st5 (fun _ _=>rfl) hD7
    obtain⟨m',hm,w'⟩:=hN _ _ q7
    exact⟨m',hm,i+1,ys,us,H7,J1,J2,J3,hD7,rv,J4,hz,w'⟩
   | true =>
    rw[if_pos rfl] at q7
    show if true=true then _ else _
    rw[if_pos rfl]
    refine wpAny_mono (he _ _ _ _ _ s7 _ _ _ I7 q7) (fun yu s8 h8=>?_) fun _ _ z=>False.elim z
    obtain⟨yv,H8,I8,r8,q8⟩:=h8
    have hD8:s8.heap.get? s2.heap.objs.size=some (LCg.lst us):=(I8.pin (s2.heap.objs.size,LCg.lst us) (mem_append_right _ (mem_append_left _ (by simp)))).1
    have hlu:us.length=ys.length:=rv.length.symm
    refine append_at hD8 (fun h9 hs9 hD9=>?_) (by rw[size_toArray,hlu];exact hz)
    have hD9':h9.get? s2.heap.objs.size=some (LCg.lst (us++[yu])):=hD9.trans (congrArg some (LCg.lst_snoc us yu))
    obtain⟨J1,J2,J3,J4⟩:=back I8 st5 hs9.2 hD9'
    obtain⟨m',hm,w'⟩:=hN _ _ q8
    exact⟨m',hm,i+1,ys++[yv],us++[yu],H8,J1,J2,J3,hD9',rv.append (.cons r8 .nil),J4,by rw[length_append,length_singleton];exact hlt,w'⟩
 exact codeAny_compStart_list loop (T.self X.A 0 _ _ _ st1 loop)
theorem zs4(B:BlkS X.N X.env.scope js (x::caps) scope)(hc:X.calm=true)(hx:scope.names.lookup x=some .local)(hi:PI X (.Name x px) iter wi)(ht:∀C fp s₀ H₀,PIfs (blk X (x::caps) scope C fp s₀ H₀) ifs tt)(he:∀C fp s₀ H₀,PE (blk X (x::caps) scope C fp s₀ H₀) elt te)(hs:∀v,foldedSetIterable iter X.env v=pure v:=by intro _;rfl):PE X (.ListComp elt [⟨.Name x px,iter,ifs,0⟩] scope pos) (tLC js wi tt te):=by
 intro pins s σ H Q I hw
 rw[eval_ListComp]
 refine zkA (use:=none) (Q:=Q) B hc hx hi ht he hs I hw fun C D oC ys H' s1 IX q rel=>?_
 obtain⟨⟨m,hn⟩,rl⟩:=rel _ _ _ IX
 exact⟨m,hn,fun h' hs'=>⟨.ref D,_,rl h' hs',rfl,q⟩⟩
theorem zs5{y:Str}{py spos:Pos}{k:Nat}(B:BlkS X.N X.env.scope js (x::caps) scope)(hc:X.calm=true)(hx:scope.names.lookup x=some .local)(hi:PI X (.Name x px) iter wi)(ht:∀C fp s₀ H₀,PIfs (blk X (x::caps) scope C fp s₀ H₀) ifs tt)(he:∀C fp s₀ H₀,PE (blk X (x::caps) scope C fp s₀ H₀) elt te)(hN:X.N.Nodup)(hk:X.N[k]?=some y)(hy:X.env.scope.names.lookup y=some .local)(hsw:swapsWith (.ListComp elt [⟨.Name x px,iter,ifs,0⟩] scope pos) (some (.Name y py)) spos.line X.env=pure true)(hs:∀v,foldedSetIterable iter X.env v=pure v:=by intro _;rfl):PS X (.Assign [.Name y py] (.ListComp elt [⟨.Name x px,iter,ifs,0⟩] scope pos) spos) (zsI (tLC js wi tt te) (gName k)):=by
 intro pins s σ H D I hw
 rw[exec_Assign_Name_used _ _ _ _ hsw]
 refine wpAny_bind (wpAny_standAt (wpAny_bind ?_))
 show wpAny _ _ (do let _ <- comprehension (.ListComp elt [⟨.Name x px,iter,ifs,0⟩] scope pos) scope X.env _ (newList []) false (eval iter X.env) (some (assign (.Name y py) X.env))) _ _ s
 refine wpAny_bind (thn (zkA (use:=some (assign (.Name y py) X.env)) (Qf:=fun _ s'=>SP X pins D .next s') (Q:=fun v H1=>D.nx (σ.set k (some v)) H1) B hc hx hi ht he hs I hw fun C a oC ys H' s1 IX q rel=>?_) fun _ s' hq=>wpAny_pure (wpAny_pure hq))
 show wpAny _ _ (assign (.Name y py) X.env (.ref a)) _ _ s1
 refine thn (zh8 (i:=k) hN hk (Or.inl hy) (.inr hy) _ s1 σ _ (.ref a) (.ref a) (fun σ' H'=>D.nx σ' H') IX rfl q) fun _ s' h=>?_
 obtain⟨σ',H'',I',q'⟩:=h
 obtain⟨⟨m,hn⟩,rl⟩:=rel _ _ _ I'
 exact⟨m,hn,fun h' hs'=>⟨σ',H'',rl h' hs',q'⟩⟩
end
section
variable {X:Cx} {p pos:Pos}
def zs6(K:PySem.W.Frag):List V->Hp->VK->Prop:=fun xs H Q=>∃x T t b,xs=[x,.ty T]/\TyOf K H x t/\PySem.W.kitOne K t (.type T)=some b/\Q (.bl b) H
theorem zmD:CallR X (.builtin "isinstance") (zs6 X.K):=by
 intro pins s σ H xs us Q I r h
 obtain⟨x,T,t,b,rfl,ty,e,q⟩:=h
 obtain⟨u,w',rfl,rx,ry⟩:=zmq r
 cases ry
 exact zkr I rx ty e fun tk=>⟨.bl b,H,I.tok tk,rfl,q⟩
theorem zmE(hc:X.calm=true):CallR X (.builtin "all") (fun xs H Q=>∃(a:Addr) (bs:List Bool),xs=[.ref a]/\SqL X.K H a (bs.map V.bl)/\Q (.bl (bs.all id)) H):=by
 intro pins s σ H xs us Q I r h
 obtain⟨a,bs,rfl,hq,q⟩:=h
 obtain⟨u,rfl,rx⟩:=ze0 r
 cases rx
 obtain⟨its,rv,pl,hz⟩:=I.list hq
 have hlt:a<s.heap.objs.size:=by obtain⟨o,n,e,_⟩:=pl;exact Heap.lt_size e
 have hlen:bs.length=its.length:=by have:=rv.length;simpa using this
 have hh:X.A.in1.handled=none:=I.ok.hd hc
 refine call_all_walk (wpAny_pyIter_list pl.isList ?_)
 have tr:TruthOf X.prog X.w X.A.in1 (fun i v=>its.toArray[i]?=some v) (fun i=>bs.getD i true):=by
  intro i v s' Q' E' hv hQ
  have hv':its[i]?=some v:=by simpa using hv
  have hi:i<its.length:=(List.getElem?_eq_some_iff.mp hv').1
  have hb:bs[i]?=some bs[i]:=by simp[hlen,hi]
  obtain⟨u,hu,ru⟩:=rv.get (i:=i) (x:=V.bl (bs[i]'(by omega))) (by rw[getElem?_map,hb];rfl)
  rw[hv'] at hu
  cases hu
  cases (show v=Value.bool (bs[i]'(by omega)) from ru)
  have e:bs.getD i true=bs[i]'(by omega):=by rw[getD_eq_getElem?_getD,hb];rfl
  have hQ':Q' (bs.getD i true) s':=hQ
  rw[e] at hQ'
  exact wpAny_truthy_bool hQ'
 refine⟨s.heap.objs.size,_,_,its.toArray.size,_,_,fun i=>bs.getD i true,rfl,Walks.list hh s.heap.objs.size a (ne_of_lt hlt) its.toArray,⟨⟨_,Heap.get?_push_size _ rfl,rfl,rfl⟩,pl.isList.push _⟩,tr,fun h' tk hk=>?_⟩
 have I1:Inv X pins σ H { s with heap:=h',toks:=tk }:=I.kept fun b o e=>hk b o (by simpa using ne_of_lt (Heap.lt_size e)) (Heap.get?_push_of_some _ e)
 refine⟨.bl _,H,I1,rfl,?_⟩
 have e:(List.range its.toArray.size).all (fun i=>bs.getD i true)=bs.all id:=by
  rw[size_toArray,<- hlen]
  rw[Bool.eq_iff_iff,all_eq_true,all_eq_true]
  constructor
  ·intro z b hb
   obtain⟨i,hi,rfl⟩:=mem_iff_getElem.mp hb
   have:=z i (mem_range.mpr hi)
   rw[getD_eq_getElem?_getD] at this
   simpa[hi] using this
  ·intro z i hi
   have hi':=mem_range.mp hi
   have:=z (bs[i]) (getElem_mem hi')
   rw[getD_eq_getElem?_getD]
   simpa[hi'] using this
 rw[e]
 exact q
theorem zib:CallR X (.builtin "sorted") (fun xs H Q=>∃(a:Addr) (ns:List Int),xs=[.ref a]/\SqL X.K H a (ns.map V.int)/\ns.length<64/\∀ms:List Int,ms.Perm ns->ms.Pairwise (·<=·)->∀l,H l=none->Q (.ref l) (upd H l (.lst (ms.map V.int)))):=by
 intro pins s σ H xs us Q I r h
 obtain⟨a,ns,rfl,hq,h64,q⟩:=h
 obtain⟨u,rfl,rx⟩:=ze0 r
 cases rx
 obtain⟨its,rv,pl,hz⟩:=I.list hq
 have hlen:ns.length=its.length:=by have:=rv.length;simpa using this
 refine sorted_ints pl.isList (zef rv) (by omega) fun out ms hI hp hs=>?_
 obtain⟨e,he⟩:=sortedAll_at s.heap its out
 have rv':Vals (ms.map V.int) out.toList:=zc1 hI
 have hl':ms.length=ns.length:=hp.length_eq
 refine⟨.ref (s.heap.objs.size+1),_,I.laid (t':=s.toks) (a:=s.heap.objs.size+1) (o:=.lst (ms.map V.int)) (fun b o e=>sortedAll_old e) (le_succ _) ?_,rfl,q ms hp hs _ (I.hok.fresh (le_succ _))⟩
 refine⟨by rw[length_map,hl',hlen];have:=rv.length;omega,out.toList,e,rv',?_⟩
 rw[toArray_toList]
 exact he
end
abbrev Rep(α:Type):=PySem.W.Frag->Hp->V->α->Prop
def zu6:Rep Int:=fun _ _ v i=>v=.int i
def zu7{α:Type}(R:Rep α):Rep (List α):=fun K H v l=>∃p vs,v=.ref p/\SqL K H p vs/\Paired (R K H) vs l
def rPr{α β:Type}(R:Rep α)(S:Rep β):Rep (α×β):=fun K H v l=>∃p x y,v=.ref p/\SqT K H p [x,y]/\R K H x l.1/\S K H y l.2
theorem Paired.at2{α β:Type}{F:α->β->Prop}:∀{l₁:List α} {l₂:List β},Paired F l₁ l₂->∀(i:Nat) (a:α),l₁[i]?=some a->∃b,l₂[i]?=some b/\F a b
 | _,_,.nil,_,_,h=>by simp at h
 | _,_,.cons r t,0,a,h=>by simp at h;subst h;exact⟨_,rfl,r⟩
 | _,_,.cons r t,i+1,a,h=>by
  obtain⟨b,h1,h2⟩:=Paired.at2 t i a (by simpa using h)
  exact⟨b,by simpa using h1,h2⟩
section
variable {α β:Type} [DecidableEq α] [DecidableEq β] {n:Nat} {R:Rep α} {S:Rep β} {X:Cx} {pins:List (Addr×Obj)} {σ:St} {H:Hp} {s:Shared} {A:Around}
end
section
variable {α β:Type} [DecidableEq α] [DecidableEq β] {n:Nat} {R:Rep α} {S:Rep β}
end
section
variable {α:Type} [DecidableEq α] {n:Nat} {R:Rep α} {X:Cx}
end
section
variable {α β:Type} [DecidableEq α] [DecidableEq β] {n:Nat} {R:Rep α} {S:Rep β}
end
section
variable {X:Cx} {st:Stmt} {rest:List Stmt} {t u:TS} {e:Expr} {te:TE} {tt:TT}
end
def zqU(N:List Str)(psc:Scope)(js:List Nat)(N':List Str)(scope:Scope):Bool :=
 scope.names.all (fun y=>decide (y.2≠.cell))&&decide (scope.kind=.function)&&scope.names.all (fun y=>decide (y.2=.local->scope.names.lookup y.1=some .local)) &&
 scope.names.all (fun y=>decide (y.2=.free->psc.names.lookup y.1=some .cell\/psc.names.lookup y.1=some .free))&&decide N'.Nodup&&decide (N'.length=js.length+1) &&
 (js.zip (N'.drop 1)).all (fun p=>decide (N[p.1]?=some p.2/\scope.names.lookup p.2=some .free))
theorem zcw{N:List Str}{psc:Scope}{js:List Nat}{N':List Str}{scope:Scope}(h:zqU N psc js N' scope=true):BlkS N psc js N' scope:=by
 unfold zqU at h
 simp only[and_eq_true,all_eq_true,decide_eq_true_eq] at h
 obtain⟨⟨⟨⟨⟨⟨h1,h2⟩,h3⟩,h4⟩,h5⟩,h6⟩,h7⟩:=h
 exact⟨h1,h2,h3,h4,h5,h6,h7⟩
theorem Room.cmp{k:Nat}{A:Around}(r:Room k A)(n:Nat)(h:n<=64:=by decide):A.units+n<cLine:=by have:=r.units;omega
theorem Paired.app{α β:Type}{F:α->β->Prop}:∀{l₁ m₁:List α} {l₂ m₂:List β},Paired F l₁ l₂->Paired F m₁ m₂->Paired F (l₁++m₁) (l₂++m₂)
 | _,_,_,_,.nil,s=>s
 | _,_,_,_,.cons r t,s=>.cons r (Paired.app t s)
def pr(H:Hp)(v:V)(l:Int×Int):Prop:=∃q,v=.ref q/\H q=some (.tup [.int l.1,.int l.2])
def Lns(H:Hp)(p:Addr)(L:List (Int×Int)):Prop:=∃vs,H p=some (.lst vs)/\Paired (pr H) vs L
def zs7(H:Hp)(v:V)(r:List Int):Prop:=∃q,v=.ref q/\H q=some (.tup (r.map V.int))
def ztY(H:Hp)(v:V)(rows:List (List Int)):Prop:=∃q vs,v=.ref q/\H q=some (.tup vs)/\Paired (zs7 H) vs rows
section
variable {X:Cx} (K:PySem.W.Frag)
theorem ixL(hK:X.K=K:=by rfl):IxR X (zsZ K):=hK▸zoS
theorem ixT(hK:X.K=K:=by rfl):IxR X (zs0 K):=hK▸zqR
theorem zsm(hK:X.K=K:=by rfl):CallR X (.builtin "isinstance") (zs6 K):=hK▸zmD
def ztZ(K:PySem.W.Frag):List V->Hp->VK->Prop:=fun xs H Q=>∃(a:Addr) (bs:List Bool),xs=[.ref a]/\SqL K H a (bs.map V.bl)/\Q (.bl (bs.all id)) H
theorem zt0(hc:X.calm=true:=by rfl)(hK:X.K=K:=by rfl):CallR X (.builtin "all") (ztZ K):=hK▸zmE hc
def zoV(K:PySem.W.Frag):List V->Hp->VK->Prop:=fun xs H Q=>∃(a:Addr) (ns:List Int),xs=[.ref a]/\SqL K H a (ns.map V.int)/\ns.length<64/\∀ms:List Int,ms.Perm ns->ms.Pairwise (·<=·)->∀l,H l=none->Q (.ref l) (upd H l (.lst (ms.map V.int)))
def zoW(K:PySem.W.Frag):List V->Hp->VK->Prop:=fun xs H Q=>∃p ys,xs=[.ref p]/\(SqL K H p ys\/SqT K H p ys)/\∀l,H l=none->Q (.ref l) (upd H l (.lst ys))
def zn0(K:PySem.W.Frag):List V->Hp->VK->Prop:=fun xs H Q=>∃p ys,xs=[.ref p]/\((SqL K H p ys/\∀l,H l=none->Q (.ref l) (upd H l (.tup ys)))\/(SqT K H p ys/\Q (.ref p) H))
theorem zhp(hK:X.K=K:=by rfl):CallR X (.type "tuple") (zn0 K):=hK▸zgl
theorem slL(hK:X.K=K:=by rfl):SlR X (ztV K):=hK▸zoT
variable {tg l a:Expr} {tl ta:TE}
def zuQ(K:PySem.W.Frag)(ta:TE):TT:=fun σ H Q=>ta σ H fun x H'=>∃k,zsl K x H' k/\Q k H'
theorem zs8(ha:PE X a ta)(he:∀whole,isTrue a X.env whole=(do let v <- whole;standAt a.pos;holding [v] (truthy v)))(hK:X.K=K:=by rfl):PT X a (zuQ K ta):=hK▸zmp ha he
variable {α:Type} [DecidableEq α] {n:Nat} {R:Rep α}
end
section
variable {κ:Type} [DecidableEq κ]
def zjJ(kvs:List (κ×V))(k:κ):Option V:=(kvs.find? fun kv=>decide (kv.1=k)).map (·.2)
def zg9(kvs:List (κ×V))(k:κ)(v:V):List (κ×V) :=
 if (kvs.any fun kv=>decide (kv.1=k))=true then kvs.map (fun kv=>if kv.1=k then (kv.1,v) else kv) else kvs++[(k,v)]
def zuR(kvs:List (κ×V))(k:κ):List (κ×V):=kvs.filter fun kv=>decide (kv.1≠k)
theorem zeP{p:κ×V}{r:List (κ×V)}{k:κ}(e:p.1=k):zjJ (p::r) k=some p.2:=by simp[zjJ,find?_cons,e]
theorem zeQ{p:κ×V}{r:List (κ×V)}{k:κ}(e:¬p.1=k):zjJ (p::r) k=zjJ r k:=by simp[zjJ,find?_cons,e]
theorem ziU(k:κ):∀kvs:List (κ×V),(kvs.any fun kv=>decide (kv.1=k))=(zjJ kvs k).isSome
 | []=>rfl
 | p::r=>by
  rw[any_cons]
  by_cases e:p.1=k
  ·simp only[zeP e,decide_eq_true e,Bool.true_or,isSome_some]
  ·rw[zeQ e,decide_eq_false e,Bool.false_or];exact ziU k r
theorem zdv(kvs:List (κ×V))(k:κ)(v:V):(zg9 kvs k v).length<=kvs.length+1:=by
 unfold zg9
 split
 ·rw[length_map];omega
 ·rw[length_append,length_cons,length_nil];omega
theorem RelO.isSome_eq{o:Option V}{u:Option Value}(r:RelO o u):o.isSome=u.isSome:=by
 cases o with
 | none=>cases u with
  | none=>rfl
  | some _=>exact(show False from r).elim
 | some _=>cases u with
  | none=>exact(show False from r).elim
  | some _=>rfl
theorem KV.val{kvs:List (κ×V)}{vs:List (κ×Value)}(r:KV kvs vs)(k:κ):RelO (zjJ kvs k) (valueAt vs k):=by
 unfold KV at r
 induction r with
 | nil=>exact True.intro
 | @cons p q ps qs h t ih =>
  obtain⟨h1,h2⟩:=h
  by_cases e:p.1=k
  ·have e':q.1=k:=h1.symm.trans e
   have b:valueAt (q::qs) k=some q.2:=by simp[valueAt,find?_cons,e']
   rw[zeP e,b];exact h2
  ·have e':¬q.1=k:=fun z=>e (h1.trans z)
   have b:valueAt (q::qs) k=valueAt qs k:=by simp[valueAt,find?_cons,e']
   rw[zeQ e,b];exact ih
theorem KV.any{kvs:List (κ×V)}{vs:List (κ×Value)}(r:KV kvs vs)(k:κ):(kvs.any fun kv=>decide (kv.1=k))=vs.any fun kv=>decide (kv.1=k):=by
 unfold KV at r
 induction r with
 | nil=>rfl
 | cons h t ih=>rw[any_cons,any_cons,ih,h.1]
theorem KV.repl{kvs:List (κ×V)}{vs:List (κ×Value)}(r:KV kvs vs)(k:κ){y:V}{u:Value}(ry:RelV y u) :
  KV (kvs.map fun kv=>if kv.1=k then (kv.1,y) else kv) (vs.map fun kv=>if kv.1=k then (kv.1,u) else kv):=by
 unfold KV at r ⊢
 induction r with
 | nil=>exact .nil
 | @cons p q ps qs h t ih =>
  rw[map_cons,map_cons]
  refine .cons ?_ ih
  obtain⟨h1,h2⟩:=h
  by_cases e:p.1=k
  ·rw[if_pos e,if_pos (h1.symm.trans e)];exact⟨h1,ry⟩
  ·rw[if_neg e,if_neg (fun z=>e (h1.trans z))];exact⟨h1,h2⟩
theorem KV.put{kvs:List (κ×V)}{vs:List (κ×Value)}(r:KV kvs vs)(k:κ){y:V}{u:Value}(ry:RelV y u):KV (zg9 kvs k y) (stored vs k u):=by
 unfold zg9 stored
 rw[r.any k]
 by_cases e:(vs.any fun kv=>decide (kv.1=k))=true
 ·rw[if_pos e,if_pos e];exact r.repl k ry
 ·rw[if_neg e,if_neg e];exact Paired.snoc r ⟨rfl,ry⟩
theorem KV.keys{kvs:List (κ×V)}{vs:List (κ×Value)}(r:KV kvs vs):kvs.map (·.1)=vs.map (·.1):=by
 unfold KV at r
 induction r with
 | nil=>rfl
 | cons h t ih=>rw[map_cons,map_cons,ih,h.1]
theorem KV.length{kvs:List (κ×V)}{vs:List (κ×Value)}(r:KV kvs vs):kvs.length=vs.length:=Paired.length r
end
theorem kV_is{P:Program}{w:World}{k:Key}{u:Value}(r:RelV (kV k) u):(zaQ P w).is k u=true:=by
 cases k with
 | inl i=>obtain⟨t,e⟩:=(show ∃t,u=Value.int i t from r);subst e;exact zh4 P w i t
 | inr x=>obtain⟨t,e⟩:=(show ∃t,u=Value.str x t from r);subst e;exact zh5 P w x t
theorem zhq{P:Program}{w:World}:∀{ks:List Key} {us:List Value},Vals (ks.map kV) us->ItemsAre (zaQ P w) ks us
 | [],_,r=>by rw[map_nil] at r;cases r;exact .nil
 | k::ks,_,r=>by
  rw[map_cons] at r
  cases r with
  | cons h t=>exact .cons (kV_is h) (zhq t)
abbrev KT(H:Hp):List (List Key×V)->List (List Key×Addr×Value)->Prop:=Paired fun p q=>p.1=q.1/\H q.2.1=some (.tup (p.1.map kV))/\RelV p.2 q.2.2
theorem KT.val{H:Hp}{kvs:List (List Key×V)}{xs:List (List Key×Addr×Value)}(r:KT H kvs xs)(k:List Key):RelO (zjJ kvs k) ((atKey xs k).map (·.2)):=by
 induction r with
 | nil=>exact True.intro
 | @cons p q ps qs h t ih =>
  obtain⟨h1,_,h2⟩:=h
  by_cases e:p.1=k
  ·have e':q.1=k:=h1.symm.trans e
   have b:atKey (q::qs) k=some q.2:=by simp[atKey,find?_cons,e']
   rw[zeP e,b];exact h2
  ·have e':¬q.1=k:=fun z=>e (h1.trans z)
   have b:atKey (q::qs) k=atKey qs k:=by simp[atKey,find?_cons,e']
   rw[zeQ e,b];exact ih
theorem KT.repl{H:Hp}{kvs:List (List Key×V)}{xs:List (List Key×Addr×Value)}(r:KT H kvs xs)(k:List Key){y:V}{u:Value}(ry:RelV y u) :
  KT H (kvs.map fun kv=>if kv.1=k then (kv.1,y) else kv) (xs.map (putAt k u)):=by
 induction r with
 | nil=>exact .nil
 | @cons p q ps qs h t ih =>
  rw[map_cons,map_cons]
  refine .cons ?_ ih
  obtain⟨h1,h2,h3⟩:=h
  unfold putAt
  by_cases e:p.1=k
  ·rw[if_pos e,if_pos (h1.symm.trans e)];exact⟨h1,h2,ry⟩
  ·rw[if_neg e,if_neg (fun z=>e (h1.trans z))];exact⟨h1,h2,h3⟩
theorem KT.put{H:Hp}{kvs:List (List Key×V)}{xs:List (List Key×Addr×Value)}(r:KT H kvs xs)(k:List Key){b:Addr}{y:V}{u:Value}(hb:H b=some (.tup (k.map kV)))(ry:RelV y u) :
  KT H (zg9 kvs k y) (storedH xs k b u):=by
 have e:(kvs.any fun kv=>decide (kv.1=k))=(atKey xs k).isSome:=by
  rw[ziU,(r.val k).isSome_eq,isSome_map]
 unfold zg9 storedH
 rw[e]
 by_cases q:(atKey xs k).isSome=true
 ·rw[if_pos q,if_pos q];exact r.repl k ry
 ·rw[if_neg q,if_neg q];exact Paired.snoc r ⟨rfl,hb,ry⟩
theorem KT.keeps{H H':Hp}{kvs:List (List Key×V)}{xs:List (List Key×Addr×Value)}(r:KT H kvs xs)(ht:∀b ys,H b=some (.tup ys)->H' b=some (.tup ys)):KT H' kvs xs :=
 Paired.mapP r fun _ _ z=>⟨z.1,ht _ _ z.2.1,z.2.2⟩
section
variable {P:Program} {w:World} {H:Hp} {h:Heap} {a:Addr}
theorem zqV{u:HO}(ok:HOk P w H h)(e:Rd H a u):ObjOk P w H h a u:=e.ok ok
theorem zkB{kvs:List (Key×V)}(ok:HOk P w H h)(e:Rd H a (.dK kvs)):kvs.length<=sizeLine/\(a==sysModules)=false/\∃vs,KV kvs vs/\h.DictOf (zaQ P w) a vs :=
 show ObjOk P w H h a (.dK kvs) from zqV ok e
theorem zqW{kvs:List (Key×V)}(ok:HOk P w H h)(e:H a=some (.dK kvs)):kvs.length<=sizeLine/\(a==sysModules)=false/\∃vs,KV kvs vs/\h.DictOf (zaQ P w) a vs:=zkB ok (.inl e)
theorem zkC{ks:List Key}(ok:HOk P w H h)(e:H a=some (.tup (ks.map kV))):(tupleKind (zaQ P w)).is h ks a:=by
 obtain⟨_,its,r,o,h1,h2,⟨n,h3⟩,_⟩:=(show ObjOk P w H h a (.tup (ks.map kV)) from ok a _ e)
 exact⟨o,its.toArray,n,h1,h2,h3,by simpa using zhq r⟩
theorem zqX{kvs:List (List Key×V)}(ok:HOk P w H h)(e:Rd H a (.dT kvs)):kvs.length<=sizeLine/\(a==sysModules)=false /\
  ∃xs,KT H kvs xs/\h.DictOfH (tupleKind (zaQ P w)) a xs:=by
 obtain⟨z,y,xs,r,o,es,ep,h1,h2,h3,h4,h5⟩:=(show ObjOk P w H h a (.dT kvs) from zqV ok e)
 refine⟨z,y,xs,r,o,es,ep,h1,h2,h3,h4,fun x hx=>?_,h5⟩
 have all:∀{l:List (List Key×V)} {m:List (List Key×Addr×Value)},KT H l m->∀x∈m,(tupleKind (zaQ P w)).is h x.1 x.2.1:=by
  intro l m q
  induction q with
  | nil=>intro x hx;exact nomatch hx
  | @cons p q ps qs hq t ih =>
   intro x hx
   rcases mem_cons.mp hx with e|hx
   ·subst e
    exact zkC ok (by rw[<- hq.1];exact hq.2.1)
   ·exact ih x hx
 exact all r x hx
theorem zs9{kvs:List (List Key×V)}(ok:HOk P w H h)(e:H a=some (.dT kvs)):kvs.length<=sizeLine/\(a==sysModules)=false /\
  ∃xs,KT H kvs xs/\h.DictOfH (tupleKind (zaQ P w)) a xs:=zqX ok (.inl e)
end
def DGet(H:Hp)(a:Addr)(y:V)(r:Option V):Prop :=
 (∃kvs k,Rd H a (.dK kvs)/\y=kV k/\r=zjJ kvs k)\/∃kvs k b,Rd H a (.dT kvs)/\y=.ref b/\H b=some (.tup (k.map kV))/\r=zjJ kvs k
def DPut(H:Hp)(a:Addr)(y v:V)(H':Hp):Prop :=
 (∃kvs k,H a=some (.dK kvs)/\y=kV k/\kvs.length<sizeLine/\H'=upd H a (.dK (zg9 kvs k v))) \/
 ∃kvs k b,H a=some (.dT kvs)/\y=.ref b/\H b=some (.tup (k.map kV))/\kvs.length<sizeLine/\H'=upd H a (.dT (zg9 kvs k v))
theorem DGet.k{H:Hp}{a:Addr}{kvs:List (Key×V)}{k:Key}(e:H a=some (.dK kvs)):DGet H a (kV k) (zjJ kvs k):=.inl ⟨kvs,k,.inl e,rfl,rfl⟩
theorem DPut.k{H:Hp}{a:Addr}{kvs:List (Key×V)}{k:Key}{v:V}(e:H a=some (.dK kvs))(hl:kvs.length<sizeLine):DPut H a (kV k) v (upd H a (.dK (zg9 kvs k v))):=.inl ⟨kvs,k,e,rfl,hl,rfl⟩
section
variable {X:Cx} {pins:List (Addr×Obj)} {σ:St} {H:Hp} {s:Shared} {a:Addr} {y v:V} {u r:Value} {o:Option V} {A:Around} {E:Value->Shared->Prop}
theorem Inv.big(I:Inv X pins σ H s):sysModules<s.heap.objs.size:=by
 have h:mainGlobals<s.heap.objs.size:=(I.mod.glob.keeps I.bk).lt
 exact lt_trans (by decide) h
theorem zoX{Q:Value->Shared->Prop}(hu:A.units+1<cLine)(I:Inv X pins σ H s)(g:DGet H a y o)(ry:RelV y u)(h:∀s',Inv X pins σ H s'->Q (.bool (!o.isSome)) s') :
  wpAny (model X.prog X.w) A (compareOp .NotIn u (.ref a)) Q E s:=by
 rcases g with ⟨kvs,k,e,ey,l⟩|⟨kvs,k,b,e,ey,eb,l⟩
 ·subst ey
  obtain⟨z,hd,vs,rel,dd⟩:=zkB I.hok e
  refine wpAny_notIn_of (kV_is ry) hd dd.mapOf ?_
  rw[<- (rel.val k).isSome_eq,<- l]
  exact h _ (I.tok _)
 ·subst ey
  cases (show u=Value.ref b from ry)
  obtain⟨z,hd,xs,rel,dd⟩:=zqX I.hok e
  refine wpAny_notIn_heap (tupleKind_room_in1 hu) (zkC I.hok eb) hd dd ?_
  have q:=(rel.val k).isSome_eq
  rw[isSome_map] at q
  rw[<- q,<- l]
  exact h _ (I.tok _)
theorem zic{h':Heap}{t':Nat}{ob:HO}(I:Inv X pins σ H s)(mu:Mut (H a))(hs:Heap.SameBut a s.heap h')(he:∃q,h'.get? a=some q)(new:ObjOk X.prog X.w (upd H a ob) h' a ob) :
  Inv X pins σ (upd H a ob) { s with heap:=h',toks:=t' } :=
 I.write (x:=a) (e:=a) mu (.inl rfl) (fun b q hb z=>(hs.2 b hb).trans z) he new
theorem zn1{P:Program}{w:World}{H':Hp}{h':Heap}{kvs:List (Key×V)}{vs:List (Key×Value)}(z:kvs.length<=sizeLine)(hd:(a==sysModules)=false)(rel:KV kvs vs)(dd:h'.DictOf (zaQ P w) a vs) :
  ObjOk P w H' h' a (.dK kvs):=⟨z,hd,vs,rel,dd⟩
theorem zkD{H':Hp}{Q:Unit->Shared->Prop}(hu:A.units+1<cLine)(I:Inv X pins σ H s)(g:DPut H a y v H')(ry:RelV y u)(rv:RelV v r)(h:∀s',Inv X pins σ H' s'->Q () s') :
  wpAny (model X.prog X.w) A (setItem (.ref a) u r) Q E s:=by
 rcases g with ⟨kvs,k,e,ey,l,eH⟩|⟨kvs,k,b,e,ey,eb,l,eH⟩
 ·subst ey eH
  obtain⟨z,hd,vs,rel,dd⟩:=zqW I.hok e
  have hz:vs.length<=sizeLine:=by rw[<- rel.length];exact z
  have hl:(zg9 kvs k v).length<=sizeLine:=by have:=zdv kvs k v;omega
  refine wpAny_setItem_pairs (hsz:=hz) (kV_is ry) dd fun h' dd' hs=>h _ ?_
  have he:∃q,h'.get? a=some q:=let ⟨q,_,_,hq,_⟩:=dd';⟨q,hq⟩
  exact zic I (by rw[e];exact True.intro) hs he (zn1 hl hd (rel.put k rv) dd')
 ·subst ey eH
  cases (show u=Value.ref b from ry)
  obtain⟨z,hd,xs,rel,dd⟩:=zs9 I.hok e
  have hz:xs.length<=sizeLine:=by rw[<- Paired.length rel];exact z
  have hl:(zg9 kvs k v).length<=sizeLine:=by have:=zdv kvs k v;omega
  refine wpAny_setItem_heap (hsz:=hz) (tupleKind_room_in1 hu) (zkC I.hok eb) dd fun h' dd' hs=>h _ ?_
  obtain⟨q,es,ep,hq,h2,h3,h4,_,h5⟩:=dd'
  refine zic I (by rw[e];exact True.intro) hs ⟨q,hq⟩ ⟨hl,hd,_,(rel.put k eb rv).keeps fun c ys ec=>?_,q,es,ep,hq,h2,h3,h4,h5⟩
  rw[zaC (zsv ec e (fun z=>nomatch z))]
  exact ec
end
section
variable {X:Cx} {pins:List (Addr×Obj)} {σ:St} {H:Hp} {s:Shared} {a:Addr} {kvs:List (Key×V)} {k:Key} {u:Value} {A:Around} {E:Value->Shared->Prop}
theorem zta{Q:Value->Shared->Prop}(I:Inv X pins σ H s)(e:Rd H a (.dK kvs))(h:∀t s',Inv X pins σ H s'->Q (.int kvs.length t) s'):wpAny (model X.prog X.w) A (call (.builtin "len") [.ref a]) Q E s:=by
 obtain⟨z,hd,vs,rel,dd⟩:=zkB I.hok e
 refine call_len_dict hd dd (by rw[<- rel.length];rw[sizeLine_eq] at z;omega) ?_
 rw[<- rel.length]
 exact h _ _ (I.tok _)
end
def zoY(ty td:TE):TE:=fun σ H Q=>ty σ H fun y H1=>td σ H1 fun x H2=>∃a o,x=.ref a/\DGet H2 a y o/\Q (.bl (!o.isSome)) H2
def ztb(td ty tv:TE):TS:=fun D σ H=>tv σ H fun v H1=>td σ H1 fun x H2=>ty σ H2 fun y H3=>∃a H4,x=.ref a/\DPut H3 a y v H4/\D.nx σ H4
section
variable {X:Cx} {o i e value:Expr} {pos pos' tpos:Pos} {td ty tv:TE}
theorem zkE(hu:X.A.units+1<cLine)(hi:PE X i ty)(ho:PE X o td):PC X .NotIn i o (zoY ty td):=by
 intro pins s σ H Q I h
 refine thn (hi pins s σ H _ I h) fun iv s1 ⟨y,H1,I1,ry,q1⟩=>thn (ho pins s1 σ H1 _ I1 q1) fun u s2 ⟨x,H2,I2,rx,a,ov,ex,g,q2⟩=>?_
 subst ex
 obtain rfl:u=Value.ref a:=rx
 exact zoX hu I2 g ry fun s3 I3=>⟨.bl (!ov.isSome),H2,I3,rfl,q2⟩
theorem zoZ(hu:X.A.units+1<cLine)(ho:PE X o td)(hi:PE X i ty)(hv:PE X value tv)(hs:swapsWith value (some (.Subscript o i pos')) pos.line X.env=pure false) :
  PS X (.Assign [.Subscript o i pos'] value pos) (ztb td ty tv):=by
 intro pins s σ H D I h
 refine wpAny_Assign_Subscript (thn (hv pins s σ H _ I h) fun r s1 ⟨v,H1,I1,rv,q1⟩=>thn (ho pins s1 σ H1 _ I1 q1) fun u s2 ⟨x,H2,I2,rx,q2⟩=>thn (hi pins s2 σ H2 _ I2 q2) fun iv s3 ⟨y,H3,I3,ry,a,H4,ex,g,q3⟩=>?_) hs
 subst ex
 obtain rfl:u=Value.ref a:=rx
 exact zkD hu I3 g ry rv fun s4 I4=>⟨σ,H4,I4,q3⟩
end
theorem ziV{P:Program}{w:World}{H:Hp}(h:Heap)(hb:sysModules<h.objs.size):ObjOk P w H (h.push { cls:=.type "dict",data:=.dict #[] }) h.objs.size (.dK []) :=
 ⟨zero_le _,beq_eq_false_iff_ne.mpr (Ne.symm (ne_of_lt hb)),[],.nil,Heap.DictOf.new h⟩
def zqY:TE:=fun _ H Q=>∀p,H p=none->Q (.ref p) (upd H p (.dK []))
section
variable {X:Cx} {pos:Pos}
theorem zmF:PE X (.Dict [] [] pos) zqY:=fun pins s σ H Q I h =>
 wpAny_Dict_empty ⟨.ref s.heap.objs.size,_,I.laid (a:=s.heap.objs.size) (o:=.dK []) (t':=s.toks) (fun _ _ q=>Heap.get?_push_of_some _ q) (le_refl _) (ziV s.heap I.big),rfl,h _ (I.hok.fresh (le_refl _))⟩
end
def zkF:List (TE×TE)->St->Hp->(List (V×V)->Hp->Prop)->Prop
 | [],_,H,Q=>Q [] H
 | (tk,tv)::r,σ,H,Q=>tk σ H fun x H1=>tv σ H1 fun y H2=>zkF r σ H2 fun ps H3=>Q ((x,y)::ps) H3
abbrev VV:List (V×V)->List (Value×Value)->Prop:=Paired fun p q=>RelV p.1 q.1/\RelV p.2 q.2
def PPs(X:Cx)(pos:Pos)(keys:List (Option Expr))(values:List Expr)(trs:List (TE×TE)):Prop :=
 ∀(pins:List (Addr×Obj)) (s:Shared) (σ:St) (H:Hp) (Q:List (V×V)->Hp->Prop),Inv X pins σ H s->zkF trs σ H Q ->
  wpAny (model X.prog X.w) X.A (evalPairs (pairTrees keys values X.env pos)) (fun vs s'=>∃ps H',Inv X pins σ H' s'/\VV ps vs/\Q ps H') X.xe s
theorem zo0{X:Cx}{pos:Pos}:PPs X pos [] [] []:=fun pins s σ H Q I h=>pairTrees_nil_walk ⟨[],H,I,.nil,h⟩
theorem zmG{X:Cx}{pos:Pos}{k v:Expr}{ks:List (Option Expr)}{vs:List Expr}{tk tv:TE}{trs:List (TE×TE)}(hk:PE X k tk)(hv:PE X v tv)(hr:PPs X pos ks vs trs) :
  PPs X pos (some k::ks) (v::vs) ((tk,tv)::trs):=fun pins s σ H Q I h =>
 pairTrees_cons_walk (thn (hk pins s σ H _ I h) fun u s1 ⟨x,H1,I1,rx,q1⟩=>thn (hv pins s1 σ H1 _ I1 q1) fun w2 s2 ⟨y,H2,I2,ry,q2⟩ =>
  thn (hr pins s2 σ H2 _ I2 q2) fun ws s3 ⟨ps,H3,I3,rel,q3⟩=>⟨(x,y)::ps,H3,I3,.cons ⟨rx,ry⟩ rel,q3⟩)
def ze6(kvs more:List (Key×V)):List (Key×V):=more.foldl (fun acc kv=>zg9 acc kv.1 kv.2) kvs
theorem KV.merge:∀{more:List (Key×V)} {rs:List (Key×Value)} {kvs:List (Key×V)} {vs:List (Key×Value)},KV more rs->KV kvs vs->KV (ze6 kvs more) (merged vs rs):=by
 intro more rs kvs vs r
 unfold KV at r
 induction r generalizing kvs vs with
 | nil=>intro q;exact q
 | @cons p q ps qs h t ih =>
  intro r0
  have e:KV (zg9 kvs p.1 p.2) (stored vs q.1 q.2):=by
   have:=r0.put p.1 h.2
   rw[<- h.1];exact this
  exact ih e
theorem zdD:∀(more kvs:List (Key×V)),(ze6 kvs more).length<=kvs.length+more.length
 | [],kvs=>by show kvs.length<=kvs.length+0;omega
 | p::r,kvs=>by
  have h1:=zdD r (zg9 kvs p.1 p.2)
  have h2:=zdv kvs p.1 p.2
  show(ze6 (zg9 kvs p.1 p.2) r).length<=_
  rw[length_cons];omega
theorem zfY{P:Program}{w:World}:∀{kvs:List (Key×V)} {ws:List (Value×Value)},VV (kvs.map fun kv=>(kV kv.1,kv.2)) ws->∃rs,Carries (zaQ P w) ws rs/\KV kvs rs
 | [],_,r=>by rw[map_nil] at r;cases r;exact⟨[],True.intro,.nil⟩
 | p::kvs,_,r=>by
  rw[map_cons] at r
  cases r with
  | @cons a b as bs h t =>
   obtain⟨rs,c,q⟩:=zfY (P:=P) (w:=w) t
   obtain⟨b1,b2⟩:=b
   exact⟨(p.1,b2)::rs,⟨kV_is h.1,rfl,c⟩,.cons ⟨rfl,h.2⟩ q⟩
def ztc(trs:List (TE×TE)):TE:=fun σ H Q=>∀p,H p=none->zkF trs σ (upd H p (.dK [])) fun ps H2=>H2 p=some (.dK [])/\∃kvs:List (Key×V),ps=kvs.map (fun kv=>(kV kv.1,kv.2))/\kvs.length<=15/\Q (.ref p) (upd H2 p (.dK (ze6 [] kvs)))
theorem zo1{X:Cx}{pos:Pos}{keys:List (Option Expr)}{values:List Expr}{trs:List (TE×TE)}(h:PPs X pos keys values trs)(hall:keys.all (·.isSome)=true)(hl:keys.length=values.length)(h0:keys≠[])(h15:keys.length<=15):PE X (.Dict keys values pos) (ztc trs):=by
 intro pins s σ H Q I q
 have hn:=I.hok.fresh (le_refl s.heap.objs.size)
 have I1:=I.laid (a:=s.heap.objs.size) (o:=.dK []) (h':=s.heap.push { cls:=.type "dict",data:=.dict #[] }) (t':=s.toks) (fun _ _ q=>Heap.get?_push_of_some _ q) (le_refl _) (ziV s.heap I.big)
 refine wpAny_Dict_walk (knd:=zaQ X.prog X.w) hall hl h0 h15 (thn (h pins _ σ _ _ I1 (q _ hn)) fun ws s2 ⟨ps,H2,I2,rel,e,kvs,ep,lk,q2⟩=>?_)
 subst ep
 obtain⟨rs,c,rk⟩:=zfY (P:=X.prog) (w:=X.w) rel
 obtain⟨z,hd,vs0,r0,dd⟩:=zqW I2.hok e
 cases r0
 refine⟨rs,c,dd,fun h' dd' hs=>⟨.ref s.heap.objs.size,_,?_,rfl,q2⟩⟩
 have hz:(ze6 [] kvs).length<=sizeLine:=by
  have h1:=zdD kvs []
  rw[length_nil] at h1
  rw[sizeLine_eq];omega
 have he:∃q,h'.get? s.heap.objs.size=some q:=let ⟨q,_,_,hq,_⟩:=dd';⟨q,hq⟩
 exact zic I2 (by rw[e];exact True.intro) hs he (zn1 hz hd (rk.merge .nil) dd')
section
variable {X:Cx} {pins:List (Addr×Obj)} {σ:St} {H:Hp} {s:Shared} {a:Addr} {y d:V} {u r:Value} {o:Option V} {A:Around} {E:Value->Shared->Prop}
end
section
variable {X:Cx} {o e f:Expr} {apos cpos:Pos} {td ty tx:TE}
end
section
variable {X:Cx} {pins:List (Addr×Obj)} {σ:St} {H:Hp} {s:Shared} {a:Addr} {kvs:List (Key×V)} {A:Around} {E:Value->Shared->Prop}
end
section
variable {X:Cx} {pins:List (Addr×Obj)} {σ:St} {H:Hp} {s:Shared} {a:Addr} {y:V} {u:Value} {A:Around} {E:Value->Shared->Prop}
end
section
variable {X:Cx}
theorem zkG:CallR X (.builtin "len") (fun xs H Q=>∃a kvs,xs=[V.ref a]/\H a=some (.dK kvs)/\Q (.int kvs.length) H):=by
 intro pins s σ H xs us Q I r h
 obtain⟨a,kvs,rfl,ha,q⟩:=h
 obtain⟨u,rfl,ru⟩:=ze0 r
 cases ru
 exact zta I (.inl ha) fun t s' I'=>⟨.int kvs.length,H,I',⟨t,rfl⟩,q⟩
section
variable {κ:Type} [DecidableEq κ]
end
end
section
variable {X:Cx}
theorem zfZ{P:Program}{w:World}{kvs:List (Key×V)}{vs:List (Key×Value)}{ns:List Int}(rel:KV kvs vs)(hk:kvs.map (·.1)=ns.map Sum.inl){acc:Array Value}(h:ItemsOf (fun i v=>∃k x,vs[i]?=some (k,x)/\(zaQ P w).is k v=true) acc vs.length):IntsAre acc.toList ns:=by
 have hl:acc.toList.length=ns.length:=by
  rw[length_toList,h.1,<- length_map (f:=fun x:Key×Value=>x.1),<- KV.keys rel,hk,length_map]
 have at':∀(i:Nat) (v:Value),acc.toList[i]?=some v->∃t,v=Value.int (ns.getD i 0) t:=by
  intro i v hv
  obtain⟨k,x,h1,h2⟩:=h.2 i v (by rw[<- getElem?_toList];exact hv)
  have e:(ns.map Sum.inl:List Key)[i]?=some k:=by
   rw[<- hk,KV.keys rel,getElem?_map,h1];rfl
  rw[getElem?_map] at e
  cases q:ns[i]? with
  | none=>rw[q] at e;cases e
  | some n =>
   rw[q] at e
   simp only[map_some,Option.some.injEq] at e
   subst e
   rcases zaU (k:=Sum.inl n) (v:=v) h2 with ⟨j,t,e1,e2⟩|⟨j,t,e1,e2⟩
   ·cases e1
    exact⟨t,by rw[e2,getD_eq_getElem?_getD,q];rfl⟩
   ·cases e1
 clear h
 revert hl at'
 generalize acc.toList=us
 clear hk
 induction ns generalizing us with
 | nil=>intro hl _;cases us with|nil=>exact .nil|cons a r=>simp at hl
 | cons n ns ih =>
  intro hl h
  cases us with
  | nil=>simp at hl
  | cons a r =>
   obtain⟨t,rfl⟩:=h 0 a rfl
   exact .cons n t (ih r (by simpa using hl) fun i v hv=>h (i+1) v hv)
theorem zhr(hc:X.calm=true):CallR X (.builtin "sorted") (fun xs H Q=>∃(a:Addr) (kvs:List (Key×V)) (ns:List Int),xs=[.ref a]/\Rd H a (.dK kvs)/\kvs.map (·.1)=ns.map Sum.inl/\ns.length<64 /\
  ∀ms:List Int,ms.Perm ns->ms.Pairwise (·<=·)->∀l,H l=none->Q (.ref l) (upd H l (.lst (ms.map V.int)))):=by
 intro pins s σ H xs us Q I r h
 obtain⟨a,kvs,ns,rfl,hd,hk,h64,q⟩:=h
 obtain⟨u,rfl,rx⟩:=ze0 r
 cases rx
 obtain⟨hz,hS,vs,rel,dd⟩:=zkB I.hok hd
 obtain⟨ep,hat⟩:=dd.dictAt
 have hh:X.A.in1.handled=none:=I.ok.hd hc
 have hlen:vs.length=ns.length:=by rw[<- KV.length rel,<- length_map (f:=fun x:Key×V=>x.1),hk,length_map]
 refine Calls.call_function_entry kind_sorted plain_sorted entry_sorted (args_sorted1 _) ?_
 unfold Builtin.«sorted»
 refine wpAny_bind (m:=checkCount "sorted" 1 1 _) (wpAny_pure ?_)
 refine wpAny_bind (PySem.W.kdu_collect (A:=X.A.in1) (PySem.W.kdl_dict (knd:=zaQ X.prog X.w) (kvs:=vs) (ep:=ep) hS) hh hat (by rw[<- KV.length rel];exact hz) fun h' tk acc hkp hacc=>?_)
 have hI:=zfZ rel hk hacc
 have hal:acc.toList.length=ns.length:=by rw[length_toList,hacc.1,hlen]
 refine wpAny_bind (wpAny_newList ?_ (by rw[hal,<- hlen,<- KV.length rel];exact hz))
 have hoL:(h'.push (seqObj "list" acc.toList.toArray 0)).get? h'.objs.size=some (seqObj "list" acc.toList.toArray 0):=Heap.get?_push_size _ rfl
 refine wpAny_bind (wpAny_holding (wpAny_call_entry slot_list_sort ⟨_,hoL,rfl⟩ entry_list_sort (list_sort_tree hoL hI (by omega) fun out ns' a1 a2 a3=>⟨_,rfl,?_⟩) (args_list_sort _)))
 refine wpAny_pure ⟨_,rfl,?_⟩
 obtain⟨e,he⟩:=sortedHeap_at (out:=out) hoL
 have I1:Inv X pins σ H { s with heap:=h',toks:=tk }:=I.kept hkp
 have rv':Vals (ns'.map V.int) out.toList:=zc1 a1
 refine⟨.ref h'.objs.size,_,I1.laid (t':=tk) (a:=h'.objs.size) (o:=.lst (ns'.map V.int)) (fun b o hb=>?_) (le_refl _) ?_,rfl,q ns' a2 a3 _ I1.fresh⟩
 ·have hb:h'.get? b=some o:=hb
  have hlt:=Heap.lt_size hb
  show(sortedHeap (h'.push (seqObj "list" acc.toList.toArray 0)) h'.objs.size acc.toList out).get? b=some o
  rw[sortedHeap_old (ne_of_lt hlt) (by rw[size_push'];exact lt_succ_of_lt hlt)]
  exact Heap.get?_push_of_some _ hb
 ·refine⟨by rw[length_map,a2.length_eq,<- hlen,<- KV.length rel];exact hz,out.toList,e,rv',?_⟩
  rw[toArray_toList]
  exact he
theorem zjK(hc:X.calm=true):CallR X (.type "list") (fun xs H Q=>∃(a:Addr) (kvs:List (Key×V)) (ns:List Int),xs=[.ref a]/\Rd H a (.dK kvs)/\kvs.map (·.1)=ns.map Sum.inl/\∀l,H l=none->Q (.ref l) (upd H l (.lst (ns.map V.int)))):=by
 intro pins s σ H xs us Q I r h
 obtain⟨a,kvs,ns,rfl,hd,hk,q⟩:=h
 obtain⟨u,rfl,rx⟩:=ze0 r
 cases rx
 obtain⟨hz,hS,vs,rel,dd⟩:=zkB I.hok hd
 obtain⟨ep,hat⟩:=dd.dictAt
 have hlen:vs.length=ns.length:=by rw[<- KV.length rel,<- length_map (f:=fun x:Key×V=>x.1),hk,length_map]
 refine PySem.W.kdl_call (PySem.W.kdl_dict (knd:=zaQ X.prog X.w) (kvs:=vs) (ep:=ep) hS) (I.ok.hd hc) hat (by rw[<- KV.length rel];exact hz) fun h' tk acc c hkp hD hacc=>?_
 have hI:=zfZ rel hk hacc
 refine⟨.ref s.heap.objs.size,_,I.laid (t':=tk) (a:=s.heap.objs.size) (o:=.lst (ns.map V.int)) hkp (le_refl _) ?_,rfl,q _ I.fresh⟩
 refine⟨by rw[length_map,<- hlen,<- KV.length rel];exact hz,acc.toList,c,zc1 hI,?_⟩
 rw[toArray_toList]
 exact hD
theorem zkH{a:Expr}{ta:TA}{p pos:Pos}(hg:Gl X "range")(hm:X.mg "range" = none)(ha:PA X [a] ta)(hs:starEach [a] X.env=[(false,eval a X.env)]:=by rfl) :
  PE X (.Call (.Name "range" p) [a] [] pos) (fun σ H Q=>ta σ H fun vs H1=>∃j:Int,vs=[.int j]/\∀p,H1 p=none->Q (.ref p) (upd H1 p (.rng 0 j))):=by
 intro pins s σ H Q I h
 refine Call_ (zhd I hg hm boot_range (PyProof.Rows.callWith_type1 (thn (ha pos pins s σ H _ I h) fun us s1 ⟨vs,H1,I1,r1,q1⟩=>?_) hs rfl))
 obtain⟨j,e,q⟩:=q1
 subst e
 cases r1 with
 | cons r rr =>
  cases rr
  obtain⟨t,rfl⟩:=r
  refine call_range_1 ⟨.ref s1.heap.objs.size,_,I1.laid (t':=s1.toks+1+1) (a:=s1.heap.objs.size) (o:=.rng 0 j) (fun b o e=>Heap.get?_push_of_some _ e) (le_refl _) ?_,rfl,q _ I1.fresh⟩
  exact⟨_,_,_,Heap.get?_push_size _ rfl⟩
theorem zhs(hc:X.calm=true):CallR X (.type "list") (fun xs H Q=>∃(p:Addr) (lo hi:Int),xs=[.ref p]/\H p=some (.rng lo hi)/\-(2 ^ 62)<=lo/\lo<2 ^ 62/\-(2 ^ 62)<=hi/\hi<2 ^ 62/\(hi-lo).toNat<=sizeLine /\
  ∀l,H l=none->Q (.ref l) (upd H l (.lst ((List.range (hi-lo).toNat).map fun(i:Nat)=>V.int (lo+(i:Int)))))):=by
 intro pins s σ H xs us Q I r h
 obtain⟨p,lo,hi,rfl,hp,h1,h2,h3,h4,hz,q⟩:=h
 obtain⟨u,rfl,rx⟩:=ze0 r
 cases rx
 obtain⟨t,u,v,hr⟩:=I.hok p _ hp
 have hn:Builtin.Range.rangeSize lo hi 1=(((hi-lo).toNat:Nat):Int):=by rw[rangeSize_one];split<;>omega
 refine PySem.call_list_range (I.ok.hd hc) hr (small_one h1 h2 h3 h4) hn (by rw[sizeLine_eq] at hz;exact hz) fun h' tk acc c hkp hD hacc=>?_
 refine⟨.ref s.heap.objs.size,_,I.laid (t':=tk) (a:=s.heap.objs.size) (o:=.lst ((List.range (hi-lo).toNat).map fun(i:Nat)=>V.int (lo+(i:Int)))) hkp (le_refl _) ?_,rfl,q _ I.fresh⟩
 refine⟨by rw[length_map,length_range];exact hz,acc.toList,c,?_,by rw[toArray_toList];exact hD⟩
 have hl:acc.toList.length=(hi-lo).toNat:=by rw[length_toList];exact hacc.1
 have hv:∀(i:Nat) (v:Value),acc.toList[i]?=some v->∃t,v=Value.int (lo+(i:Int)) t:=fun i v e=>by
  obtain⟨t,e'⟩:=hacc.2 i v (by rw[<- getElem?_toList];exact e)
  exact⟨t,by rw[e',mul_one]⟩
 clear hn hz hacc hD
 revert hl hv
 generalize acc.toList=us
 generalize (hi-lo).toNat=n
 intro hl hv
 have:∀(us:List Value) (k:Nat),(∀(i:Nat) (v:Value),us[i]?=some v->∃t,v=Value.int (lo+((k+i:Nat):Int)) t)->Vals ((List.range' k us.length).map fun(i:Nat)=>V.int (lo+(i:Int))) us:=by
  intro us
  induction us with
  | nil=>intro k _;exact .nil
  | cons a r ih =>
   intro k h
   obtain⟨t,rfl⟩:=h 0 a rfl
   rw[length_cons,range'_succ,map_cons]
   refine .cons ⟨t,by simp⟩ (ih (k+1) fun i v e=>?_)
   obtain⟨t',e'⟩:=h (i+1) v e
   exact⟨t',by rw[e'];congr 2;omega⟩
 have q':=this us 0 fun i v e=>by simpa using hv i v e
 rw[<- range_eq_range',hl] at q'
 exact q'
end
section
variable {X:Cx} {tg:Expr}
def Itd(a:Addr)(o:Obj)(ps:List (Key×V)):It where
 go:=fun i H=>H a=some (.frz o (.dK ps))/\i<ps.length
 yld:=fun i H x H'=>H'=H/\∃p,ps[i]?=some p/\x=kV p.1
 stop:=fun i H=>H a=some (.frz o (.dK ps))/\ps.length=i
theorem zo2{P:Program}{w:World}{k:Key}{u:Value}(h:(zaQ P w).is k u=true):RelV (kV k) u:=by
 rcases zaU (k:=k) (v:=u) h with ⟨i,t,rfl,rfl⟩|⟨x,t,rfl,rfl⟩
 ·exact⟨t,rfl⟩
 ·exact⟨t,rfl⟩
theorem zn2{P:Program}{w:World}{H:Hp}{h:Heap}{a:Addr}{o:Obj}{ps:List (Key×V)}(ok:HOk P w H h)(e:H a=some (.frz o (.dK ps))){es:Array DictEntry}{ep:Nat}(hd:o.data=.dict es ep) :
  ∃vs,KV ps vs/\h.DictAt (zaQ P w) a vs ep:=by
 obtain⟨h1,_,_,vs,r,o',es',ep',ho,hx,hd',hr⟩:=(show ObjOk P w H h a (.frz o (.dK ps)) from ok a _ e)
 rw[h1] at ho
 cases ho
 rw[hd] at hd'
 cases hd'
 exact⟨vs,r,o,es,h1,hx,hd,hr⟩
theorem zkI{P:Program}{w:World}{K:PySem.W.Frag}(a it:Addr){o:Obj}{ps:List (Key×V)}{es:Array DictEntry}{ep:Nat}(hd:o.data=.dict es ep):Turn P w K tg (Itd a o ps) [it] it (fun i h=>h.IsKeyIter it a i ps.length ep) where
 mem:=by simp
 obj:=fun i h st b hb=>by
  have e:b=it:=by simpa using hb
  subst e
  obtain⟨o,e,c,d⟩:=st
  exact⟨o,e,fun v z=>by rw[d] at z;cases z⟩
 keep:=fun i h h' st k=>st.at fun o e=>k it (by simp) o e
 item:=by
  intro X hP hw hK hc i pins s σ H E I hf st hg
  subst hP hw hK
  obtain⟨he,hi⟩:=hg
  obtain⟨vs,r,hat⟩:=zn2 I.hok he hd
  have hl:=KV.length r
  obtain⟨f0,f1,f2,f3,f4,f5⟩:=hf it (by simp)
  have hx:vs[i]?=some (vs[i]'(by omega)):=getElem?_eq_getElem _
  have hp:ps[i]?=some (ps[i]'(by omega)):=getElem?_eq_getElem _
  have hk:(vs[i]'(by omega)).1=(ps[i]'(by omega)).1:=by
   have e1:=congrArg (fun l:List Key=>l[i]?) (KV.keys r)
   simp only[getElem?_map,hx,hp,map_some,Option.some.injEq] at e1
   exact e1.symm
  refine wpAny_pyNext_dict_item (knd:=zaQ X.prog X.w) (hl▸st) hat (k:=(vs[i]'(by omega)).1) (v:=(vs[i]'(by omega)).2) (by rw[hx]) fun key h' hkey st' sb=>?_
  have I1:Inv X pins σ H { s with heap:=h' }:=I.turned (t':=s.toks) (fun b o hb e=>(sb.2 b hb).trans e) f0 f1 f3 f4 f5
  obtain⟨oi,e,c,d⟩:=id st'
  exact⟨key,rfl,zmm (s:={ s with heap:=h' }) e c d (by decide) ⟨kV (ps[i]'(by omega)).1,H,I1,hk▸zo2 hkey,⟨rfl,_,hp,rfl⟩,hl▸st',fun b hb=>(hf b hb).1⟩⟩
 done:=by
  intro X hP hw hK hc i pins s σ H E I hf st hg
  subst hP hw hK
  obtain⟨he,hi⟩:=hg
  obtain⟨vs,r,hat⟩:=zn2 I.hok he hd
  have hl:=KV.length r
  obtain⟨f0,f1,f2,f3,f4,f5⟩:=hf it (by simp)
  exact wpAny_pyNext_dict_end (knd:=zaQ X.prog X.w) (I.ok.hd hc) (hl▸st) hat (getElem?_eq_none (by omega)) fun h' eb=>⟨rfl,I.turned (t':=s.toks) (fun b o hb e=>eb b o hb e) f0 f1 f3 f4 f5⟩
 self:=fun _ _ _ _ _ st h=>wpAny_pyIter_keyiter st h
def ztd(tl:TE):TI:=fun σ H R=>tl σ H fun v H1=>∃a,v=.ref a/\((∃ps,H1 a=some (.dK ps)/\∀o,R (Itd a o ps) (upd H1 a (.frz o (.dK ps))))\/∃o ps,H1 a=some (.frz o (.dK ps))/\R (Itd a o ps) H1)
theorem zo3{l:Expr}{tl:TE}(hl:PE X l tl):PI X tg l (ztd tl):=by
 intro pins s σ H R I h
 refine thn (hl pins s σ H _ I h) fun v s1 ⟨x,H1,I1,r1,q1⟩=>?_
 obtain⟨a,e,q⟩:=q1
 subst e
 cases r1
 obtain⟨o,ps,H2,I2,he,q⟩:∃o ps H2,Inv X pins σ H2 s1/\H2 a=some (.frz o (.dK ps))/\R (Itd a o ps) H2:=by
  rcases q with ⟨ps,he,q⟩|⟨o,ps,he,q⟩
  ·have ok:=(show ObjOk X.prog X.w H1 s1.heap a (.dK ps) from I1.hok a _ he)
   obtain⟨_,_,vs,r,o,es,ep,ho,hr⟩:=id ok
   refine⟨o,ps,_,I1.write (t':=s1.toks) (h':=s1.heap) (x:=a) (e:=a) (o:=.frz o (.dK ps)) (by rw[he];trivial) (.inl rfl) (fun b u _ z=>z) ⟨o,ho⟩ ?_,zat,q o⟩
   exact⟨ho,ok⟩
  ·exact⟨o,ps,H1,I1,he,q⟩
 obtain⟨h1,_,hS,vs,r,o',es,ep,ho,hx,hd,hr⟩:=(show ObjOk X.prog X.w H2 s1.heap a (.frz o (.dK ps)) from I2.hok a _ he)
 rw[h1] at ho
 cases ho
 have hat:s1.heap.DictAt (zaQ X.prog X.w) a vs ep:=⟨o,es,h1,hx,hd,hr⟩
 refine wpAny_pyIter_dict hS hat ?_
 refine⟨s1.heap.objs.size,[s1.heap.objs.size],_,_,H2,rfl,I2.kept (t':=s1.toks) fun b o e=>Heap.get?_push_of_some _ e,zkI a _ hd,⟨_,Heap.get?_push_size _ rfl,rfl,by rw[KV.length r];rfl⟩,fun b hb=>?_,q⟩
 have e:b=s1.heap.objs.size:=by simpa using hb
 subst e
 exact I2.fpOk (le_refl _) (I2.hok.fresh (le_refl _))
end
section
variable {prog:Program} {w:World} {A:Around} {E:Value->Shared->Prop} {s:Shared}
end
end L2
namespace VS
open PySem PySem.Spec PyProof.Rows L2
abbrev St:=L2.St
theorem zax{α:Type}{l:List α}{k:Nat}{a:α}(h:l[k]?=some a):k<l.length:=(List.getElem?_eq_some_iff.mp h).1
theorem zht{α:Type}{l:List α}(h:l.Nodup){i j:Nat}(hi:i<l.length)(hj:j<l.length)(e:l[i]=l[j]):i=j:=by
 have p:=pairwise_iff_getElem.mp h
 rcases lt_trichotomy i j with q|q|q
 ·exact absurd e (p i j hi hj q)
 ·exact q
 ·exact absurd e.symm (p j i hj hi q)
inductive W where
 | non|bl (b:Bool)|int (i:Int)|str (x:Str)|ty (n:String)|lst (xs:List W)|tup (xs:List W)|cel (k:Nat)
inductive C where
 | lst (xs:List W)|dct (kvs:List (Key×W))|ins (c:Str) (fs:List (Str×W))|exn (c:Str)|dead|fzd (kvs:List (Key×W))|dtp (kvs:List (List Key×W))
def C.nf:C->Bool
 | .fzd _=>false
 | _=>true
def nfz:HO->Bool
 | .frz _ _=>false
 | _=>true
abbrev Ce:=List C
abbrev Sl:=List (Option W)
structure Exn where
 nm:Str
 fld:Option (Str×W)
inductive R (α:Type) where
 | ok (a:α) (ce:Ce)|ex (x:Exn) (ce:Ce)
abbrev M(α:Type):=Ce->Option (R α)
structure Ga where
 K:PySem.W.Frag
 cl:Str->Addr
 xr:Exn->Value->Option Addr->Hp->Prop
mutual
def Rep(F:Hp)(as:List Addr):W->V->Prop
 | .non,v=>v=.non
 | .bl b,v=>v=.bl b
 | .int i,v=>v=.int i
 | .str x,v=>v=.str x
 | .ty n,v=>v=.ty n
 | .lst xs,v=>∃a vs,v=.ref a/\Rd F a (.lst vs)/\Reps F as xs vs
 | .tup xs,v=>∃a vs,v=.ref a/\F a=some (.tup vs)/\Reps F as xs vs
 | .cel k,v=>∃a,v=.ref a/\as[k]?=some a
def Reps(F:Hp)(as:List Addr):List W->List V->Prop
 | [],vs=>vs=[]
 | x::xs,vs=>∃v r,vs=v::r/\Rep F as x v/\Reps F as xs r
end
structure Le (F:Hp) (as:List Addr) (F':Hp) (as':List Addr):Prop where
 f:∀a o,F a=some o->F' a=some o
 c:∀(k:Nat) (a:Addr),as[k]?=some a->as'[k]?=some a
theorem Le.refl{F:Hp}{as:List Addr}:Le F as F as:=⟨fun _ _ h=>h,fun _ _ h=>h⟩
theorem Le.trans{F F1 F2:Hp}{as as1 as2:List Addr}(h:Le F as F1 as1)(h':Le F1 as1 F2 as2):Le F as F2 as2:=⟨fun a o e=>h'.f a o (h.f a o e),fun k a e=>h'.c k a (h.c k a e)⟩
theorem Le.rd{F F':Hp}{as as':List Addr}(h:Le F as F' as'){a:Addr}{o:HO}(r:Rd F a o):Rd F' a o:=by
 rcases r with r|⟨u,r⟩
 ·exact .inl (h.f _ _ r)
 ·exact .inr ⟨u,h.f _ _ r⟩
mutual
theorem Rep.le{F F':Hp}{as as':List Addr}(h:Le F as F' as'):∀{w:W} {v:V},Rep F as w v->Rep F' as' w v
 | .non,_,r=>by simpa only[Rep] using r
 | .bl _,_,r=>by simpa only[Rep] using r
 | .int _,_,r=>by simpa only[Rep] using r
 | .str _,_,r=>by simpa only[Rep] using r
 | .ty _,_,r=>by simpa only[Rep] using r
 | .lst xs,_,r=>by
  simp only[Rep] at r ⊢
  obtain⟨a,vs,e,q,s⟩:=r
  exact⟨a,vs,e,h.rd q,Reps.le h s⟩
 | .tup xs,_,r=>by
  simp only[Rep] at r ⊢
  obtain⟨a,vs,e,q,s⟩:=r
  exact⟨a,vs,e,h.f _ _ q,Reps.le h s⟩
 | .cel k,_,r=>by
  simp only[Rep] at r ⊢
  obtain⟨a,e,q⟩:=r
  exact⟨a,e,h.c _ _ q⟩
theorem Reps.le{F F':Hp}{as as':List Addr}(h:Le F as F' as'):∀{ws:List W} {vs:List V},Reps F as ws vs->Reps F' as' ws vs
 | [],_,r=>by simpa only[Reps] using r
 | _::_,_,r=>by
  simp only[Reps] at r ⊢
  obtain⟨v,r',e,q,s⟩:=r
  exact⟨v,r',e,Rep.le h q,Reps.le h s⟩
end
section
variable {F:Hp} {as:List Addr}
theorem Reps.nil:Reps F as [] []:=by simp only[Reps]
theorem Reps.cons{w:W}{v:V}{ws:List W}{vs:List V}(h:Rep F as w v)(t:Reps F as ws vs):Reps F as (w::ws) (v::vs):=by simp only[Reps];exact⟨v,vs,rfl,h,t⟩
theorem Reps.length:∀{ws:List W} {vs:List V},Reps F as ws vs->vs.length=ws.length
 | [],_,r=>by simp only[Reps] at r;subst r;rfl
 | _::_,_,r=>by
  simp only[Reps] at r
  obtain⟨v,r',rfl,_,s⟩:=r
  simp only[length_cons,Reps.length s]
theorem Reps.get:∀{ws:List W} {vs:List V} {i:Nat} {w:W},Reps F as ws vs->ws[i]?=some w->∃v,vs[i]?=some v/\Rep F as w v
 | [],_,_,_,_,e=>by simp at e
 | _::_,_,0,_,r,e=>by
  simp only[Reps] at r
  obtain⟨v,r',rfl,q,s⟩:=r
  simp at e;subst e
  exact⟨v,rfl,q⟩
 | _::_,_,i+1,w,r,e=>by
  simp only[Reps] at r
  obtain⟨v,r',rfl,q,s⟩:=r
  obtain⟨u,h1,h2⟩:=Reps.get (i:=i) (w:=w) s (by simpa using e)
  exact⟨u,by simpa using h1,h2⟩
theorem Reps.get'{ws:List W}{vs:List V}{i:Nat}{v:V}(r:Reps F as ws vs)(e:vs[i]?=some v):∃w,ws[i]?=some w/\Rep F as w v:=by
 have hl:=r.length
 have hi:i<vs.length:=zax e
 have e1:ws[i]?=some ws[i]:=getElem?_eq_getElem (by omega)
 obtain⟨u,h1,h2⟩:=r.get e1
 rw[e] at h1;cases h1
 exact⟨_,e1,h2⟩
theorem Reps.append:∀{ws zs:List W} {vs us:List V},Reps F as ws vs->Reps F as zs us->Reps F as (ws++zs) (vs++us)
 | [],_,_,_,r,s=>by simp only[Reps] at r;subst r;exact s
 | _::_,_,_,_,r,s=>by
  simp only[Reps] at r
  obtain⟨v,r',rfl,q,t⟩:=r
  exact .cons q (Reps.append t s)
theorem Reps.set:∀{ws:List W} {vs:List V} {w:W} {v:V} (i:Nat),Reps F as ws vs->Rep F as w v->Reps F as (ws.set i w) (vs.set i v)
 | [],_,_,_,_,r,_=>by simp only[Reps] at r;subst r;exact .nil
 | _::_,_,_,_,0,r,h=>by
  simp only[Reps] at r
  obtain⟨v,r',rfl,q,t⟩:=r
  exact .cons h t
 | _::_,_,_,_,i+1,r,h=>by
  simp only[Reps] at r
  obtain⟨v,r',rfl,q,t⟩:=r
  exact .cons q (Reps.set i t h)
theorem Reps.take:∀{ws:List W} {vs:List V} (n:Nat),Reps F as ws vs->Reps F as (ws.take n) (vs.take n)
 | _,_,0,_=>by rw[take_zero,take_zero];exact .nil
 | [],_,_+1,r=>by simp only[Reps] at r;subst r;exact .nil
 | _::_,_,n+1,r=>by
  simp only[Reps] at r
  obtain⟨v,r',rfl,q,t⟩:=r
  exact .cons q (Reps.take n t)
theorem Reps.drop:∀{ws:List W} {vs:List V} (n:Nat),Reps F as ws vs->Reps F as (ws.drop n) (vs.drop n)
 | _,_,0,r=>r
 | [],_,_+1,r=>by simp only[Reps] at r;subst r;exact .nil
 | _::_,_,n+1,r=>by
  simp only[Reps] at r
  obtain⟨v,r',rfl,q,t⟩:=r
  exact Reps.drop n t
theorem Reps.dropLast{ws:List W}{vs:List V}(r:Reps F as ws vs):Reps F as ws.dropLast vs.dropLast:=by
 rw[dropLast_eq_take,dropLast_eq_take,r.length];exact r.take _
theorem Reps.ints:∀(ns:List Int),Reps F as (ns.map W.int) (ns.map V.int)
 | []=>.nil
 | n::r=>.cons (by simp only[Rep]) (Reps.ints r)
theorem Reps.of_ints:∀{ns:List Int} {vs:List V},Reps F as (ns.map W.int) vs->vs=ns.map V.int
 | [],_,r=>by simpa only[map_nil,Reps] using r
 | n::ns,_,r=>by
  simp only[map_cons,Reps,Rep] at r
  obtain⟨v,r',rfl,rfl,t⟩:=r
  rw[Reps.of_ints t,map_cons]
theorem Reps.of_bools:∀{bs:List Bool} {vs:List V},Reps F as (bs.map W.bl) vs->vs=bs.map V.bl
 | [],_,r=>by simpa only[map_nil,Reps] using r
 | n::ns,_,r=>by
  simp only[map_cons,Reps,Rep] at r
  obtain⟨v,r',rfl,rfl,t⟩:=r
  rw[Reps.of_bools t,map_cons]
end
theorem el6{α β γ δ:Type}{p q:α->β->γ->δ->Prop}{g:Prop}(h:∃a b c d,p a b c d/\q a b c d)(k:∀a b c d,p a b c d->q a b c d->g):g:=by
 obtain⟨a,b,c,d,h1,h2⟩:=h
 exact k a b c d h1 h2
theorem el8{α β γ δ:Type}{p q r s:α->β->γ->δ->Prop}{g:Prop}(h:∃a b c d,p a b c d/\q a b c d/\r a b c d/\s a b c d)(k:∀a b c d,p a b c d->q a b c d->r a b c d->s a b c d->g):g:=by
 obtain⟨a,b,c,d,h1,h2,h3,h4⟩:=h
 exact k a b c d h1 h2 h3 h4
def RepKV{κ:Type}(F:Hp)(as:List Addr)(kvs:List (κ×W))(ps:List (κ×V)):Prop:=Paired (fun(p:κ×W) (q:κ×V)=>p.1=q.1/\Rep F as p.2 q.2) kvs ps
theorem RepKV.le{κ:Type}{F F':Hp}{as as':List Addr}(h:Le F as F' as'){kvs:List (κ×W)}{ps:List (κ×V)}(r:RepKV F as kvs ps):RepKV F' as' kvs ps:=Paired.mapP r fun _ _ z=>⟨z.1,z.2.le h⟩
def XPhi(a:Addr)(cls:Value)(h:Heap):Prop:=∃o vs,h.get? a=some o/\o.cls=cls/\o.data=.fields vs/\∃a0,vs[0]?=some a0
def CRep(G:Ga)(F:Hp)(as:List Addr)(H:Hp)(a:Addr):C->Prop
 | .lst xs=>∃vs,H a=some (.lst vs)/\Reps F as xs vs
 | .dct kvs=>∃ps,H a=some (.dK ps)/\RepKV F as kvs ps
 | .ins c fs=>∃dx ps,H a=some (.ins (G.cl c) dx ps)/\RepKV F as fs ps
 | .exn c=>H a=some (.ext (XPhi a (.ref (G.cl c))))
 | .dead=>∃o,H a=some o
 | .fzd kvs=>∃o ps,F a=some (.frz o (.dK ps))/\H a=some (.frz o (.dK ps))/\RepKV F as kvs ps
 | .dtp kvs=>∃ps,H a=some (.dT ps)/\RepKV F as kvs ps
structure Store (G:Ga) (F:Hp) (as:List Addr) (H:Hp) (ce:Ce):Prop where
 sub:∀a o,F a=some o->H a=some o
 nd:as.Nodup
 len:as.length=ce.length
 cell:∀(k:Nat) (a:Addr) (c:C),as[k]?=some a->ce[k]?=some c->(c.nf=true->F a=none)/\CRep G F as H a c
structure SR (G:Ga) (F:Hp) (as:List Addr) (H:Hp) (σ:VS.St) (sl:Sl) (ce:Ce):Prop where
 st:Store G F as H ce
 len:σ.length=sl.length
 slot:∀(i:Nat) (w:W),sl[i]?=some (some w)->∃v,σ[i]?=some (some v)/\Rep F as w v
section
variable {G:Ga} {F F':Hp} {as as':List Addr} {H H':Hp} {σ:VS.St} {sl:Sl} {ce ce':Ce} {a p:Addr} {k:Nat} {o:HO}
theorem CRep.tracked{c:C}(h:CRep G F as H a c):∃o,H a=some o:=by
 cases c with
 | lst xs=>obtain⟨vs,e,_⟩:=h;exact⟨_,e⟩
 | dct xs=>obtain⟨vs,e,_⟩:=h;exact⟨_,e⟩
 | ins c xs=>obtain⟨dx,vs,e,_⟩:=h;exact⟨_,e⟩
 | exn c=>exact⟨_,h⟩
 | dead=>exact h
 | fzd xs=>obtain⟨o,ps,_,e,_⟩:=h;exact⟨_,e⟩
 | dtp xs=>obtain⟨vs,e,_⟩:=h;exact⟨_,e⟩
theorem CRep.le{c:C}(l:Le F as F' as')(hH:H' a=H a)(h:CRep G F as H a c):CRep G F' as' H' a c:=by
 cases c with
 | lst xs=>obtain⟨vs,e,r⟩:=h;exact⟨vs,hH.trans e,r.le l⟩
 | dct xs=>obtain⟨vs,e,r⟩:=h;exact⟨vs,hH.trans e,r.le l⟩
 | ins c xs=>obtain⟨dx,vs,e,r⟩:=h;exact⟨dx,vs,hH.trans e,r.le l⟩
 | exn c=>exact hH.trans h
 | dead=>obtain⟨o,e⟩:=h;exact⟨o,hH.trans e⟩
 | fzd xs=>obtain⟨o,ps,e1,e2,r⟩:=h;exact⟨o,ps,l.f _ _ e1,hH.trans e2,r.le l⟩
 | dtp xs=>obtain⟨vs,e,r⟩:=h;exact⟨vs,hH.trans e,r.le l⟩
theorem Store.at(S:Store G F as H ce){c:C}(h:ce[k]?=some c):∃a,as[k]?=some a/\(c.nf=true->F a=none)/\CRep G F as H a c:=by
 have hk:k<ce.length:=zax h
 have e:as[k]?=some (as[k]'(by rw[S.len];exact hk)):=getElem?_eq_getElem _
 exact⟨_,e,S.cell _ _ _ e h⟩
theorem Store.tracked(S:Store G F as H ce)(h:as[k]?=some a):∃o,H a=some o:=by
 have hk:k<as.length:=zax h
 have e:ce[k]?=some (ce[k]'(by rw[<- S.len];exact hk)):=getElem?_eq_getElem _
 exact(S.cell _ _ _ h e).2.tracked
theorem SR.slots(S:SR G F as H σ sl ce)(S':Store G F' as' H' ce')(l:Le F as F' as'):SR G F' as' H' σ sl ce' :=
 ⟨S',S.len,fun i w e=>let ⟨v,h1,h2⟩:=S.slot i w e;⟨v,h1,h2.le l⟩⟩
theorem SR.var(S:SR G F as H σ sl ce){i:Nat}{w:W}(h:sl[i]?=some (some w)):∃v,σ[i]?=some (some v)/\Rep F as w v:=S.slot i w h
theorem SR.put(S:SR G F as H σ sl ce){w:W}{v:V}(r:Rep F as w v)(i:Nat):SR G F as H (σ.set i (some v)) (sl.set i (some w)) ce:=by
 refine⟨S.st,by rw[length_set,length_set];exact S.len,fun j u e=>?_⟩
 by_cases hj:i=j
 ·subst hj
  have hi:i<sl.length:=by have:=zax e;rwa [length_set] at this
  rw[getElem?_set_self hi] at e
  cases e
  exact⟨v,by rw[getElem?_set_self (by rw[S.len];exact hi)],r⟩
 ·rw[getElem?_set_ne hj] at e
  obtain⟨v',h1,h2⟩:=S.slot j u e
  exact⟨v',by rw[getElem?_set_ne hj];exact h1,h2⟩
theorem upd_sub(hF:F p=none):∀a u,F a=some u->upd F p o a=some u:=fun a u e=>by
 rw[zaC (zay e hF)];exact e
theorem Store.freeze(S:Store G F as H ce)(hp:H p=none):Store G (upd F p o) as (upd H p o) ce/\Le F as (upd F p o) as:=by
 have hF:F p=none:=by
  cases e:F p with
  | none=>rfl
  | some u=>rw[S.sub _ _ e] at hp;cases hp
 have l:Le F as (upd F p o) as:=⟨upd_sub hF,fun _ _ h=>h⟩
 refine⟨⟨fun a u e=>?_,S.nd,S.len,fun k a c h1 h2=>?_⟩,l⟩
 ·by_cases ha:a=p
  ·subst ha;rw[zat] at e ⊢;exact e
  ·rw[zaC ha] at e ⊢;exact S.sub _ _ e
 ·obtain⟨q1,q2⟩:=S.cell k a c h1 h2
  obtain⟨u,hu⟩:=q2.tracked
  have ha:a≠p:=zay hu hp
  exact⟨fun hn=>by rw[zaC ha];exact q1 hn,q2.le l (zaC ha)⟩
theorem Store.alloc(S:Store G F as H ce)(hp:H p=none){c:C}(hc:∀as',Le F as F as'->CRep G F as' (upd H p o) p c):Store G F (as++[p]) (upd H p o) (ce++[c])/\Le F as F (as++[p]):=by
 have hF:F p=none:=by
  cases e:F p with
  | none=>rfl
  | some u=>rw[S.sub _ _ e] at hp;cases hp
 have l:Le F as F (as++[p]):=⟨fun _ _ h=>h,fun k a h=>by
  have hk:k<as.length:=zax h
  rw[getElem?_append_left hk];exact h⟩
 refine⟨⟨fun a u e=>?_,?_,by rw[length_append,length_append,S.len];rfl,fun k a c' h1 h2=>?_⟩,l⟩
 ·rw[zaC (zay (S.sub _ _ e) hp)];exact S.sub _ _ e
 ·rw[nodup_append]
  refine⟨S.nd,by simp,fun a ha b hb=>?_⟩
  obtain⟨k,hk⟩:=getElem?_of_mem ha
  obtain⟨u,hu⟩:=S.tracked hk
  rw[mem_singleton] at hb
  subst hb
  exact zay hu hp
 ·by_cases hk:k<ce.length
  ·rw[getElem?_append_left (by rw[S.len];exact hk)] at h1
   rw[getElem?_append_left hk] at h2
   obtain⟨q1,q2⟩:=S.cell k a c' h1 h2
   obtain⟨u,hu⟩:=q2.tracked
   exact⟨q1,q2.le l (zaC (zay hu hp))⟩
  ·rw[getElem?_append_right (by rw[S.len];omega)] at h1
   rw[getElem?_append_right (by omega)] at h2
   have e:k-as.length=0:=by
    cases q:k-as.length with
    | zero=>rfl
    | succ n=>rw[q] at h1;simp at h1
   rw[e] at h1
   rw[<- S.len,e] at h2
   simp at h1 h2
   subst h1;subst h2
   exact⟨fun _=>hF,hc _ l⟩
theorem Store.write(S:Store G F as H ce)(h1:as[k]?=some a){c:C}(hc:CRep G F as (upd H a o) a c)(hm:∃o',H a=some o'/\nfz o'=true:=by exact⟨_,by assumption,rfl⟩):Store G F as (upd H a o) (ce.set k c):=by
 have hk:k<ce.length:=by rw[<- S.len];exact zax h1
 have e:ce[k]?=some ce[k]:=getElem?_eq_getElem hk
 obtain⟨q1,q2⟩:=S.cell k a _ h1 e
 have q1:F a=none:=by
  cases ek:ce[k] with
  | fzd xs =>
   rw[ek] at q2
   obtain⟨o1,ps,_,e2,_⟩:=q2
   obtain⟨o',e3,hn⟩:=hm
   rw[e2] at e3
   cases e3
   cases hn
  | _=>exact q1 (by rw[ek];rfl)
 refine⟨fun b u e'=>?_,S.nd,by rw[length_set];exact S.len,fun j b c' h1' h2'=>?_⟩
 ·rw[zaC (fun z=>by subst z;rw[q1] at e';cases e')];exact S.sub _ _ e'
 ·by_cases hj:k=j
  ·subst hj
   rw[getElem?_set_self hk] at h2'
   rw[h1] at h1'
   cases h1';cases h2'
   exact⟨fun _=>q1,hc⟩
  ·rw[getElem?_set_ne hj] at h2'
   obtain⟨p1,p2⟩:=S.cell j b c' h1' h2'
   have hb:b≠a:=fun z=>by
    subst z
    have hj':j<as.length:=zax h1'
    have hk':k<as.length:=by rw[S.len];exact hk
    have e1:as[k]=as[j]:=by
     rw[getElem?_eq_getElem hk'] at h1
     rw[getElem?_eq_getElem hj'] at h1'
     exact(Option.some.inj h1).trans (Option.some.inj h1').symm
    exact hj (zht S.nd hk' hj' e1)
   exact⟨p1,p2.le .refl (zaC hb)⟩
end
def bnd{α β:Type}(m:M α)(f:α->M β):M β:=fun ce=>match m ce with
 | some (.ok a ce')=>f a ce'
 | some (.ex x ce')=>some (.ex x ce')
 | none=>none
def ret{α:Type}(a:α):M α:=fun ce=>some (.ok a ce)
def look{α:Type}(f:Ce->Option α):M α:=fun ce=>(f ce).map fun a=>R.ok a ce
def zgm{α:Type}:M α:=fun _=>none
def Post{α β:Type}(G:Ga)(E:XK)(RP:Hp->List Addr->α->β->Prop)(F:Hp)(as:List Addr)(σ:VS.St)(sl:Sl)(Q:β->Hp->Prop):Option (R α)->Prop
 | some (.ok a ce')=>∀b H' F' as',Le F as F' as'->SR G F' as' H' σ sl ce'->RP F' as' a b->Q b H'
 | some (.ex x ce')=>∀H' F' as' cv od,Le F as F' as'->Store G F' as' H' ce'->G.xr x cv od H'->E cv od H'
 | none=>False
def toT{α β:Type}(G:Ga)(E:XK)(RP:Hp->List Addr->α->β->Prop)(d:Sl->M α):VS.St->Hp->(β->Hp->Prop)->Prop :=
 fun σ H Q=>∃F as sl ce,SR G F as H σ sl ce/\Post G E RP F as σ sl Q (d sl ce)
def rB:Hp->List Addr->Bool->Bool->Prop:=fun _ _ a b=>a=b
abbrev zau(G:Ga)(E:XK)(d:Sl->M W):TE:=toT G E Rep d
abbrev zcC(G:Ga)(E:XK)(d:Sl->M Bool):TT:=toT G E rB d
abbrev zha(G:Ga)(E:XK)(d:Sl->M (List W)):TA:=toT G E Reps d
section
variable {α β γ δ:Type} {G:Ga} {E:XK} {RP:Hp->List Addr->α->β->Prop} {RQ:Hp->List Addr->γ->δ->Prop} {F F':Hp} {as as':List Addr} {H:Hp} {σ:VS.St} {sl:Sl} {ce:Ce}
theorem Post.le{Q:β->Hp->Prop}{r:Option (R α)}(l:Le F as F' as')(P:Post G E RP F as σ sl Q r):Post G E RP F' as' σ sl Q r:=by
 cases r with
 | none=>exact P
 | some r=>cases r with
  | ok a ce'=>exact fun b H' F2 as2 l2=>P b H' F2 as2 (l.trans l2)
  | ex x ce'=>exact fun H' F2 as2 cv od l2=>P H' F2 as2 cv od (l.trans l2)
theorem toT.mono{d:Sl->M α}{Q Q':β->Hp->Prop}(h:toT G E RP d σ H Q)(q:∀b H1,Q b H1->Q' b H1):toT G E RP d σ H Q':=by
 obtain⟨F,as,sl,ce,S,P⟩:=h
 refine⟨F,as,sl,ce,S,?_⟩
 revert P
 cases d sl ce with
 | none=>exact fun P=>P
 | some r=>cases r with
  | ok a ce'=>exact fun P b H' F' as' l S' r=>q _ _ (P b H' F' as' l S' r)
  | ex x ce'=>exact fun P=>P
theorem step{d:Sl->M α}{f:α->M γ}{Q:δ->Hp->Prop}(S:SR G F as H σ sl ce)(P:Post G E RQ F as σ sl Q (bnd (d sl) f ce)) :
  toT G E RP d σ H fun b H2=>∃a F' as' ce',Le F as F' as'/\SR G F' as' H2 σ sl ce'/\RP F' as' a b/\Post G E RQ F' as' σ sl Q (f a ce'):=by
 refine⟨F,as,sl,ce,S,?_⟩
 revert P
 unfold bnd
 cases d sl ce with
 | none=>exact fun P=>P
 | some r=>cases r with
  | ok a ce'=>exact fun P b H' F' as' l S' r=>⟨a,F',as',ce',l,S',r,P.le l⟩
  | ex x ce'=>exact fun P=>P
theorem zbD{f:Ce->Option α}{Q:β->Hp->Prop}(P:Post G E RP F as σ sl Q (look f ce)):∃a,f ce=some a/\Post G E RP F as σ sl Q (some (.ok a ce)):=by
 revert P
 unfold look
 cases f ce with
 | none=>exact fun P=>P.elim
 | some a=>exact fun P=>⟨a,rfl,P⟩
theorem Post.done{a:α}{b:β}{Q:β->Hp->Prop}(S:SR G F as H σ sl ce)(P:Post G E RP F as σ sl Q (some (.ok a ce)))(r:RP F as a b):Q b H:=P b H F as .refl S r
end
theorem PE.imp{X:Cx}{e:Expr}{t t':TE}(h:PE X e t)(q:∀σ H Q,t' σ H Q->t σ H Q):PE X e t':=fun pins s σ H Q I z=>h pins s σ H Q I (q _ _ _ z)
theorem PT.imp{X:Cx}{e:Expr}{t t':TT}(h:PT X e t)(q:∀σ H Q,t' σ H Q->t σ H Q):PT X e t':=fun pins s σ H Q I z=>h pins s σ H Q I (q _ _ _ z)
theorem PW.imp{X:Cx}{e:Expr}{t t':TT}(h:PW X e t)(q:∀σ H Q,t' σ H Q->t σ H Q):PW X e t':=fun wh pins s σ H Q I z=>h wh pins s σ H Q I (q _ _ _ z)
theorem PA.imp{X:Cx}{e:List Expr}{t t':TA}(h:PA X e t)(q:∀σ H Q,t' σ H Q->t σ H Q):PA X e t':=fun pos pins s σ H Q I z=>h pos pins s σ H Q I (q _ _ _ z)
theorem PS.imp{X:Cx}{e:Stmt}{t t':TS}(h:PS X e t)(q:∀D σ H,t' D σ H->t D σ H):PS X e t':=fun pins s σ H Q I z=>h pins s σ H Q I (q _ _ _ z)
theorem PSs.imp{X:Cx}{e:List Stmt}{t t':TS}(h:PSs X e t)(q:∀D σ H,t' D σ H->t D σ H):PSs X e t':=fun pins s σ H Q I z=>h pins s σ H Q I (q _ _ _ z)
def zae(i:Nat):Sl->M W:=fun sl ce=>match sl[i]? with
 | some (some w)=>some (.ok w ce)
 | _=>none
def dC(w:W):Sl->M W:=fun _=>ret w
def dOp(f:W->W->Option W)(a b:Sl->M W):Sl->M W:=fun sl=>bnd (a sl) fun x=>bnd (b sl) fun y=>look fun _=>f x y
def dUn(f:W->Option W)(a:Sl->M W):Sl->M W:=fun sl=>bnd (a sl) fun x=>look fun _=>f x
def scV:W->Option V
 | .non=>some .non
 | .bl b=>some (.bl b)
 | .int i=>some (.int i)
 | .str x=>some (.str x)
 | .ty n=>some (.ty n)
 | _=>none
theorem Rep.sc{F:Hp}{as:List Addr}{w:W}{v u:V}(r:Rep F as w v)(e:scV w=some u):v=u:=by
 cases w<;>simp only[scV,Option.some.injEq,reduceCtorEq] at e<;>simp only[Rep] at r<;>(subst e;exact r)
theorem Rep.of_sc{F:Hp}{as:List Addr}{w:W}{u:V}(e:scV w=some u):Rep F as w u:=by
 cases w<;>simp only[scV,Option.some.injEq,reduceCtorEq] at e<;>simp only[Rep]<;>exact e.symm
def Sc2(r:R2)(f:W->W->Option W):Prop:=∀x y w,f x y=some w->∃vx vy vw,scV x=some vx/\scV y=some vy/\scV w=some vw/\∀H Q,Q vw H->r vx vy H Q
def i2(g:Int->Int->W):W->W->Option W
 | .int i,.int j=>some (g i j)
 | _,_=>none
open Classical in
def i2c(c:Int->Int->Prop)(g:Int->Int->W):W->W->Option W
 | .int i,.int j=>if c i j then some (g i j) else none
 | _,_=>none
section
variable {X:Cx} {G:Ga} {E:XK} {a b c:Expr} {da db dc:Sl->M W} {pos:Pos}
theorem zaa(i:Nat){x:Str}{pos:Pos}(hN:X.N[i]?=some x:=by rfl)(hv:Vis X.env.scope x:=by first|exact Or.inl rfl|exact Or.inr (Or.inl rfl)|exact Or.inr (Or.inr rfl))(hd:(x==("__debug__" : Str))=false:=by decide)(hcd:(x==("__classdict__" : Str))=false:=by decide):PE X (.Name x pos) (zau G E (zae i)):=by
 refine PE.imp (zfR hN hv hd hcd) fun σ H Q h=>?_
 obtain⟨F,as,sl,ce,S,P⟩:=h
 revert P
 unfold zae
 split
 ·rename_i w e
  intro P
  obtain⟨v,h1,h2⟩:=S.var e
  exact⟨v,h1,P.done S h2⟩
 ·exact fun P=>P.elim
theorem zqa{e:Expr}{w:W}{v:V}(h:PE X e (tC v))(hs:scV w=some v):PE X e (zau G E (dC w)):=by
 refine PE.imp h fun σ H Q h=>?_
 obtain⟨F,as,sl,ce,S,P⟩:=h
 exact P.done S (Rep.of_sc hs)
theorem zak{i j pos}:PE X (.Constant (.int i) j pos) (zau G E (dC (.int i))):=zqa zql rfl
theorem zcV{i j pos}:PE X (.Constant (.bool i) j pos) (zau G E (dC (.bl i))):=zqa zsw rfl
theorem zf0{j pos}:PE X (.Constant .none j pos) (zau G E (dC .non)):=zqa zqm rfl
theorem ze7{x j pos}:PE X (.Constant (.str x) j pos) (zau G E (dC (.str x))):=zqa zqn rfl
theorem ziW{r:R2}{f:W->W->M W}{σ:VS.St}{H:Hp}{Q:VK}(h:zau G E (fun sl=>bnd (da sl) fun x=>bnd (db sl) fun y=>f x y) σ H Q)(k:∀F as sl ce H2 x y wx wy,SR G F as H2 σ sl ce->Rep F as wx x->Rep F as wy y->Post G E Rep F as σ sl Q (f wx wy ce)->r x y H2 Q):tOp r (zau G E da) (zau G E db) σ H Q:=by
 obtain⟨F,as,sl,ce,S,P⟩:=h
 refine(step S P).mono fun x H1 zz_=>el8 zz_ fun wx F1 as1 ce1 l1 S1 rx P1=>(step S1 P1).mono fun y H2 zz_=>el8 zz_ fun wy F2 as2 ce2 l2 S2 ry P2=>?_
 exact k F2 as2 sl ce2 H2 x y wx wy S2 (rx.le l2) ry P2
theorem zkJ{op:Operator}{r:R2}{f:W->W->Option W}(ho:OpR X (binaryOp op) r)(hf:Sc2 r f)(ha:PE X a (zau G E da))(hb:PE X b (zau G E db)):PE X (.BinOp a op b pos) (zau G E (dOp f da db)):=by
 refine PE.imp (zqF ho ha hb) fun σ H Q h=>ziW h fun F as sl ce H2 x y wx wy S rx ry P=>?_
 revert P
 unfold look
 cases e:f wx wy with
 | none=>exact fun P=>P.elim
 | some w =>
  intro P
  obtain⟨vx,vy,vw,e1,e2,e3,k⟩:=hf _ _ _ e
  rw[rx.sc e1,ry.sc e2]
  exact k _ _ (P.done S (Rep.of_sc e3))
theorem zqZ{op:CmpOp}{r:R2}{f:W->W->Option W}(ho:OpR X (compareOp op) r)(hf:Sc2 r f)(ha:PE X a (zau G E da))(hb:PE X b (zau G E db))(hm:behindInMarks op b=false):PE X (.Compare a [op] [b] pos) (zau G E (dOp f da db)):=by
 refine PE.imp (zh9 ho ha hb hm) fun σ H Q h=>ziW h fun F as sl ce H2 x y wx wy S rx ry P=>?_
 revert P
 unfold look
 cases e:f wx wy with
 | none=>exact fun P=>P.elim
 | some w =>
  intro P
  obtain⟨vx,vy,vw,e1,e2,e3,k⟩:=hf _ _ _ e
  rw[rx.sc e1,ry.sc e2]
  exact k _ _ (P.done S (Rep.of_sc e3))
theorem zhu{g:Int->Int->W}{h:Int->Int->V}(q:∀i j,scV (g i j)=some (h i j)):Sc2 (rI0 h) (i2 g):=by
 intro x y w e
 cases x<;>cases y<;>simp only[i2,Option.some.injEq,reduceCtorEq] at e
 subst e
 exact⟨_,_,_,rfl,rfl,q _ _,fun H Q hq=>⟨_,_,rfl,rfl,hq⟩⟩
theorem zkK{c:Int->Int->Prop}{g:Int->Int->W}{h:Int->Int->V}(q:∀i j,scV (g i j)=some (h i j)):Sc2 (rI c h) (i2c c g):=by
 intro x y w e
 cases x<;>cases y<;>simp only[i2c,reduceCtorEq] at e
 split at e
 ·rename_i hc
  cases e
  exact⟨_,_,_,rfl,rfl,q _ _,fun H Q hq=>⟨_,_,rfl,rfl,hc,hq⟩⟩
 ·cases e
def zc2:W->W->Option W:=i2 fun i j=>.int (i+j)
def zjL:W->W->Option W:=i2 fun i j=>.int (i-j)
def zgn:W->W->Option W:=i2c CMul fun i j=>.int (i*j)
def zco:W->W->Option W:=i2c (fun _ j=>0<j) fun i j=>.int (i % j)
def zn3:W->W->Option W:=i2c zsN fun i j=>.int (i / j)
def fLt:W->W->Option W:=i2 fun i j=>.bl (decide (i<j))
def fLe:W->W->Option W:=i2 fun i j=>.bl (decide (i<=j))
def fGt:W->W->Option W:=i2 fun i j=>.bl (decide (j<i))
def fGe:W->W->Option W:=i2 fun i j=>.bl (decide (j<=i))
theorem zbm(ha:PE X a (zau G E da))(hb:PE X b (zau G E db)):PE X (.BinOp a .Add b pos) (zau G E (dOp zc2 da db)):=zkJ zqG (zhu fun _ _=>rfl) ha hb
theorem zhv(ha:PE X a (zau G E da))(hb:PE X b (zau G E db)):PE X (.BinOp a .Sub b pos) (zau G E (dOp zjL da db)):=zkJ zqH (zhu fun _ _=>rfl) ha hb
theorem ze8(ha:PE X a (zau G E da))(hb:PE X b (zau G E db)):PE X (.BinOp a .Mult b pos) (zau G E (dOp zgn da db)):=zkJ zqI (zkK fun _ _=>rfl) ha hb
theorem za7(ha:PE X a (zau G E da))(hb:PE X b (zau G E db)):PE X (.BinOp a .Mod b pos) (zau G E (dOp zco da db)):=zkJ zqJ (zkK fun _ _=>rfl) ha hb
theorem zkL(ha:PE X a (zau G E da))(hb:PE X b (zau G E db)):PE X (.BinOp a .FloorDiv b pos) (zau G E (dOp zn3 da db)):=zkJ zoH (zkK fun _ _=>rfl) ha hb
theorem zte(ha:PE X a (zau G E da))(hb:PE X b (zau G E db)):PE X (.Compare a [.Gt] [b] pos) (zau G E (dOp fGt da db)):=zqZ zqM (zhu fun _ _=>rfl) ha hb (zcv _)
def zmH:W->Option W
 | .int i=>some (.int (-i))
 | _=>none
theorem ziX(ha:PE X a (zau G E da)):PE X (.UnaryOp .USub a pos) (zau G E (dUn zmH da)):=by
 refine PE.imp (zsM zqK ha) fun σ H Q zz_=>el6 zz_ fun F as sl ce S P=>(step S P).mono fun x H1 zz_=>el8 zz_ fun wx F1 as1 ce1 l1 S1 rx P1=>?_
 revert P1
 unfold look zmH
 cases wx<;>first|exact fun P=>P.elim|skip
 simp only[Rep] at rx
 subst rx
 exact fun P=>⟨_,rfl,P.done S1 (by simp only[Rep])⟩
def isNon:W->Bool
 | .non=>true
 | _=>false
def ztf:W->Option W:=fun w=>some (.bl (isNon w))
def zcD:W->Option W:=fun w=>some (.bl (!isNon w))
theorem Rep.isN{F:Hp}{as:List Addr}{w:W}{v:V}(r:Rep F as w v):decide (v=.non)=isNon w:=by
 cases w<;>simp only[Rep] at r<;>first|(subst r;rfl)|(obtain⟨_,_,rfl,_⟩:=r;rfl)|(obtain⟨_,rfl,_⟩:=r;rfl)
def zid(ce:Ce):W->Option Bool
 | .non=>some false
 | .bl b=>some b
 | .int i=>some (i != 0)
 | .str x=>if x.length<=sizeLine then some ((x.length:Int) != 0) else none
 | .lst xs=>some (!xs.isEmpty)
 | .tup xs=>some (!xs.isEmpty)
 | .cel k=>match ce[k]? with
  | some (.lst xs)=>some (!xs.isEmpty)
  | some (.dct xs)=>some (!xs.isEmpty)
  | _=>none
 | _=>none
theorem Reps.empty{F:Hp}{as:List Addr}{ws:List W}{vs:List V}(r:Reps F as ws vs):vs.isEmpty=ws.isEmpty:=by
 have:=r.length
 cases ws<;>cases vs<;>simp_all
theorem Rd.sub{G:Ga}{F:Hp}{as:List Addr}{H:Hp}{ce:Ce}(S:Store G F as H ce){a:Addr}{o:HO}(r:Rd F a o):Rd H a o:=by
 rcases r with r|⟨u,r⟩
 ·exact .inl (S.sub _ _ r)
 ·exact .inr ⟨u,S.sub _ _ r⟩
theorem zo4{F:Hp}{as:List Addr}{H:Hp}{ce:Ce}{w:W}{v:V}{k:Bool}(S:Store G F as H ce)(r:Rep F as w v)(e:zid ce w=some k)(K:PySem.W.Frag):zsl K v H k:=by
 cases w with
 | non=>simp only[Rep] at r;simp only[zid,Option.some.injEq] at e;subst r;exact e.symm
 | bl b=>simp only[Rep] at r;simp only[zid,Option.some.injEq] at e;subst r;exact e.symm
 | int i=>simp only[Rep] at r;simp only[zid,Option.some.injEq] at e;subst r;exact e.symm
 | str x =>
  simp only[Rep] at r
  subst r
  simp only[zid] at e
  split at e
  ·rename_i h
   exact⟨h,(Option.some.inj e).symm⟩
  ·cases e
 | ty n=>simp only[zid,reduceCtorEq] at e
 | lst xs =>
  simp only[Rep] at r
  obtain⟨a,vs,rfl,h,rs⟩:=r
  simp only[zid,Option.some.injEq] at e
  exact .inl ⟨vs,.inl (Rd.sub S h),by rw[<- e,rs.empty]⟩
 | tup xs =>
  simp only[Rep] at r
  obtain⟨a,vs,rfl,h,rs⟩:=r
  simp only[zid,Option.some.injEq] at e
  exact .inr (.inl ⟨vs,.inl (.inl (S.sub _ _ h)),by rw[<- e,rs.empty]⟩)
 | cel n =>
  simp only[Rep] at r
  obtain⟨a,rfl,h⟩:=r
  simp only[zid] at e
  split at e
  ·rename_i xs hc
   obtain⟨_,vs,h2,rs⟩:=S.cell _ _ _ h hc
   exact .inl ⟨vs,.inl (.inl h2),by rw[<- Option.some.inj e,rs.empty]⟩
  ·rename_i xs hc
   obtain⟨_,vs,h2,rs⟩:=S.cell _ _ _ h hc
   refine .inr (.inr ⟨vs,h2,?_⟩)
   rw[<- Option.some.inj e]
   cases rs<;>rfl
  ·cases e
def zkM(d:Sl->M W):Sl->M Bool:=fun sl=>bnd (d sl) fun w=>look fun ce=>zid ce w
theorem ziY{da:Sl->M W}(ha:PE X a (zau G E da))(he:∀whole,isTrue a X.env whole=(do let v <- whole;standAt a.pos;holding [v] (truthy v)):=by intro _;rfl):PT X a (zcC G E (zkM da)):=by
 refine PT.imp (zs8 (K:=X.K) ha he) fun σ H Q zz_=>el6 zz_ fun F as sl ce S P=>(step S P).mono fun x H1 zz_=>el8 zz_ fun wx F1 as1 ce1 l1 S1 rx P1=>?_
 obtain⟨k,e,P⟩:=zbD P1
 exact⟨k,zo4 S1.st rx e _,Post.done (RP:=rB) S1 P rfl⟩
def dB(d:Sl->M W):Sl->M Bool:=fun sl=>bnd (d sl) fun w=>look fun _=>match w with|.bl b=>some b|_=>none
theorem zo5{t:TE}{σ:VS.St}{H:Hp}{Q:Bool->Hp->Prop}{d:Sl->M W}(h:zcC G E (dB d) σ H Q):tB (zau G E d) σ H Q:=by
 obtain⟨F,as,sl,ce,S,P⟩:=h
 refine(step S P).mono fun x H1 zz_=>el8 zz_ fun wx F1 as1 ce1 l1 S1 rx P1=>?_
 revert P1
 unfold look
 cases wx<;>first|exact fun P=>P.elim|skip
 simp only[Rep] at rx
 subst rx
 exact fun P=>⟨_,rfl,P.done S1 rfl⟩
theorem zc3{e:Expr}{d:Sl->M W}(h:PE X e (zau G E d))(he:∀whole,isTrue e X.env whole=(do let v <- whole;standAt e.pos;holding [v] (truthy v)):=by intro _;rfl):PT X e (zcC G E (dB d)) :=
 PT.imp (zqq h he) fun σ H Q q=>zo5 (t:=zau G E d) q
theorem zgo{op:CmpOp}{d:Sl->M W}{r:R2}(ho:OpR X (compareOp op) r)(ha:PE X a (zau G E da))(hb:PE X b (zau G E db))(hm:behindInMarks op b=false)(q:∀σ H Q,zau G E d σ H Q->tOp r (zau G E da) (zau G E db) σ H Q):PT X (.Compare a [op] [b] pos) (zcC G E (dB d)):=by
 refine PT.imp (zoI ho ha hb hm) fun σ H Q h=>?_
 exact q σ H _ (zo5 (t:=zau G E d) h)
theorem zo6{op:CmpOp}{d:Sl->M W}(h:∃t,PC X op a b t/\∀σ H Q,zau G E d σ H Q->t σ H Q)(h1:behindInMarks op b=false):PT X (.Compare a [op] [b] pos) (zcC G E (dB d)):=by
 obtain⟨t,h,q⟩:=h
 exact PT.imp (zqp h h1) fun σ H Q z=>q _ _ _ (zo5 (t:=zau G E d) z)
end
mutual
def peq:W->W->Bool
 | .non,y=>match y with|.non=>true|_=>false
 | .bl a,y=>match y with|.bl b=>a==b|.int b=>(if a then 1 else 0)==b|_=>false
 | .int a,y=>match y with|.int b=>a==b|.bl b=>a==(if b then 1 else 0)|_=>false
 | .str a,y=>match y with|.str b=>a==b|_=>false
 | .lst xs,y=>match y with|.lst ys=>peqs xs ys|_=>false
 | .tup xs,y=>match y with|.tup ys=>peqs xs ys|_=>false
 | .ty _,_=>false
 | .cel _,_=>false
def peqs:List W->List W->Bool
 | [],ys=>match ys with|[]=>true|_=>false
 | x::xs,ys=>match ys with|y::ys=>peq x y&&peqs xs ys|[]=>false
end
def cln:Nat->W->Bool
 | _,.non=>true
 | _,.bl _=>true
 | _,.int _=>true
 | _,.str _=>true
 | _,.ty _=>false
 | _,.cel _=>false
 | 0,.lst _=>false
 | 0,.tup _=>false
 | n+1,.lst xs=>xs.all (cln n)
 | n+1,.tup xs=>xs.all (cln n)
theorem zjM{F:Hp}{a:Addr}{vs us:List V}(h:Rd F a (.lst vs))(h':Rd F a (.lst us)):vs=us:=by
 rcases h with h|⟨o,h⟩<;>rcases h' with h'|⟨o',h'⟩<;>(first|(rw[h] at h';cases h';rfl)|(rw[h] at h';cases h'))
theorem zjN{F:Hp}{a:Addr}{vs us:List V}(h:Rd F a (.tup vs))(h':Rd F a (.tup us)):vs=us:=by
 rcases h with h|⟨o,h⟩<;>rcases h' with h'|⟨o',h'⟩<;>(first|(rw[h] at h';cases h';rfl)|(rw[h] at h';cases h'))
theorem ziZ{F:Hp}{a:Addr}{vs us:List V}(h:Rd F a (.lst vs))(h':Rd F a (.tup us)):False:=by
 rcases h with h|⟨o,h⟩<;>rcases h' with h'|⟨o',h'⟩<;>(rw[h] at h';cases h')
theorem zkN{F:Hp}{as:List Addr}:∀(n:Nat) {w w':W} {v:V},cln n w=true->cln n w'=true->Rep F as w v->Rep F as w' v->w=w':=by
 intro n
 induction n with
 | zero =>
  intro w w' v c c' r r'
  cases w<;>cases w'<;>simp only[cln,reduceCtorEq] at c c'<;>simp only[Rep] at r r'<;>(subst r;cases r')<;>rfl
 | succ n ih =>
  have its:∀{ws ws':List W} {vs:List V},ws.all (cln n)=true->ws'.all (cln n)=true->Reps F as ws vs->Reps F as ws' vs->ws=ws':=by
   intro ws
   induction ws with
   | nil =>
    intro ws' vs _ _ r r'
    simp only[Reps] at r
    subst r
    cases ws' with
    | nil=>rfl
    | cons y ys=>simp only[Reps] at r';obtain⟨v,r,e,_⟩:=r';cases e
   | cons x xs ihx =>
    intro ws' vs c c' r r'
    simp only[Reps] at r
    obtain⟨v,vs',rfl,h1,h2⟩:=r
    cases ws' with
    | nil=>simp only[Reps] at r';cases r'
    | cons y ys =>
     simp only[Reps] at r'
     obtain⟨v',r',e,h3,h4⟩:=r'
     cases e
     simp only[all_cons,and_eq_true] at c c'
     rw[ih c.1 c'.1 h1 h3,ihx c.2 c'.2 h2 h4]
  intro w w' v c c' r r'
  cases w<;>cases w'<;>simp only[cln,reduceCtorEq] at c c'<;>simp only[Rep] at r r'<;>first
   | (subst r;cases r';rfl)
   | (subst r;cases r';done)
   | (subst r;obtain⟨_,_,e,_⟩:=r';cases e)
   | (subst r';obtain⟨_,_,e,_⟩:=r;cases e)
   | (obtain⟨a,vs,rfl,q,s⟩:=r
      obtain⟨b,us,e,q',s'⟩:=r'
      cases e
      first
       | exact(ziZ q (.inl q')).elim
       | exact(ziZ q' (.inl q)).elim
       | (cases zjM q q';rw[its c c' s s'])
       | (cases zjN (.inl q) (.inl q');rw[its c c' s s']))
theorem zi0:∀(n:Nat) {w:W},cln n w=true->peq w w=true:=by
 intro n
 induction n with
 | zero=>intro w c;cases w<;>simp_all[cln,peq]
 | succ n ih =>
  have its:∀{ws:List W},ws.all (cln n)=true->peqs ws ws=true:=by
   intro ws
   induction ws with
   | nil=>intro _;simp[peqs]
   | cons x xs ihx =>
    intro c
    simp only[all_cons,and_eq_true] at c
    simp only[peqs,ih c.1,ihx c.2,Bool.and_self]
  intro w c
  cases w<;>simp only[cln,reduceCtorEq] at c<;>first|(simp only[peq];exact its c)|simp[peq]
theorem zgp:∀(xs ys:List W),xs.length=ys.length->peqs xs ys=(List.range xs.length).all fun j=>match xs[j]?,ys[j]? with|some a,some b=>peq a b|_,_=>false
 | [],[],_=>by simp[peqs]
 | x::xs,y::ys,h=>by
  have e:xs.length=ys.length:=by simpa using h
  simp only[peqs]
  rw[zgp xs ys e,length_cons,range_succ_eq_map,all_cons,all_map]
  rfl
 | [],_::_,h=>by simp at h
 | _::_,[],h=>by simp at h
theorem zi1:∀{xs ys:List W},peqs xs ys=true->xs.length=ys.length
 | [],[],_=>rfl
 | x::xs,y::ys,h=>by
  simp only[peqs,and_eq_true] at h
  simp only[length_cons,zi1 h.2]
 | [],_::_,h=>by simp[peqs] at h
 | _::_,[],h=>by simp[peqs] at h
theorem zkO{xs ys:List W}(h:xs.length≠ys.length):peqs xs ys=false:=by
 cases e:peqs xs ys with
 | false=>rfl
 | true=>exact absurd (zi1 e) h
section
variable {X:Cx} {pins:List (Addr×Obj)} {σ:VS.St} {H F:Hp} {as:List Addr} {s:Shared}
theorem zkP{A:Around}{ws zs:List W}{vs us:List V}{ps qs:List Value}(it:∀{w z:W} {v u:V} {p q:Value},w∈ws->z∈zs->Rep F as w v->Rep F as z u->L2.RelV v p->L2.RelV u q->SeqAt.EqAt A s p q (peq w z))(h1:Reps F as ws vs)(h2:Reps F as zs us)(r1:Vals vs ps)(r2:Vals us qs) :
  ∀j (k1:j<ps.toArray.size) (k2:j<qs.toArray.size),SeqAt.EqAt A s ps.toArray[j] qs.toArray[j] (match ws[j]?,zs[j]? with|some a,some b=>peq a b|_,_=>false):=by
 intro j k1 k2
 have k1':j<ps.length:=by simpa using k1
 have k2':j<qs.length:=by simpa using k2
 have l1:=r1.length
 have l2:=r2.length
 have e1:vs[j]?=some (vs[j]'(by omega)):=by simp
 have e2:us[j]?=some (us[j]'(by omega)):=by simp
 obtain⟨u,hu1,ru⟩:=r1.get e1
 obtain⟨z,hz1,rz⟩:=r2.get e2
 obtain⟨a,ha,ra⟩:=h1.get' e1
 obtain⟨b,hb,rb⟩:=h2.get' e2
 have eu:ps.toArray[j]=u:=by
  have:ps[j]?=some ps[j]:=by simp
  rw[hu1] at this
  simpa using (Option.some.inj this).symm
 have ez:qs.toArray[j]=z:=by
  have:qs[j]?=some qs[j]:=by simp
  rw[hz1] at this
  simpa using (Option.some.inj this).symm
 rw[eu,ez,ha,hb]
 exact it (mem_of_getElem? ha) (mem_of_getElem? hb) ra rb ru rz
theorem zmI{A:Around}{ws zs:List W}{vs us:List V}{a b:Addr}(I:Inv X pins σ H s)(hu:A.units<cLine)(ha:SqL X.K H a vs)(hb:SqL X.K H b us)(h1:Reps F as ws vs)(h2:Reps F as zs us)(it:∀{w z:W} {v u:V} {p q:Value},w∈ws->z∈zs->Rep F as w v->Rep F as z u->L2.RelV v p->L2.RelV u q->SeqAt.EqAt A.in1 s p q (peq w z)) :
  SeqAt.RcAt A s (.ref a) (.ref b) (peqs ws zs)/\SeqAt.RcNeAt A s (.ref a) (.ref b) (!peqs ws zs):=by
 obtain⟨ps,r1,p1,z1⟩:=I.list ha
 obtain⟨qs,r2,p2,z2⟩:=I.list hb
 have l1:=r1.length
 have l2:=r2.length
 have l3:=h1.length
 have l4:=h2.length
 by_cases hl:ws.length=zs.length
 ·have hsz:ps.toArray.size=qs.toArray.size:=by rw[size_toArray,size_toArray];omega
  have ia:=zkP (A:=A.in1) it h1 h2 r1 r2
  have a1:=SeqAt.RcAt.lists p1.isList p2.isList hsz hu ia
  have a2:=SeqAt.RcNeAt.lists p1.isList p2.isList hsz hu ia
  rw[size_toArray,show ps.length=ws.length by omega,<- zgp ws zs hl] at a1 a2
  exact⟨a1,a2⟩
 ·have hne:(ps.toArray.size != qs.toArray.size)=true:=by
   rw[size_toArray,size_toArray]
   simp
   omega
  rw[zkO hl]
  exact⟨SeqAt.RcAt.lists_lengths p1.isList p2.isList hne hu,SeqAt.RcNeAt.lists_lengths p1.isList p2.isList hne hu⟩
theorem zo7{A:Around}{ws zs:List W}{vs us:List V}{a b:Addr}(I:Inv X pins σ H s)(hu:A.units<cLine)(ha:SqT X.K H a vs)(hb:SqT X.K H b us)(h1:Reps F as ws vs)(h2:Reps F as zs us)(it:∀{w z:W} {v u:V} {p q:Value},w∈ws->z∈zs->Rep F as w v->Rep F as z u->L2.RelV v p->L2.RelV u q->SeqAt.EqAt A.in1 s p q (peq w z)) :
  SeqAt.RcAt A s (.ref a) (.ref b) (peqs ws zs)/\SeqAt.RcNeAt A s (.ref a) (.ref b) (!peqs ws zs):=by
 obtain⟨ps,r1,p1,z1⟩:=I.tuple ha
 obtain⟨qs,r2,p2,z2⟩:=I.tuple hb
 have l1:=r1.length
 have l2:=r2.length
 have l3:=h1.length
 have l4:=h2.length
 have ia:=zkP (A:=A.in1) it h1 h2 r1 r2
 have e:((List.range (min ps.toArray.size qs.toArray.size)).all (fun j=>match ws[j]?,zs[j]? with|some a,some b=>peq a b|_,_=>false)&&ps.toArray.size==qs.toArray.size)=peqs ws zs:=by
  rw[size_toArray,size_toArray]
  by_cases hl:ws.length=zs.length
  ·have h1:ps.length=ws.length:=by omega
   have h2:qs.length=ws.length:=by omega
   rw[h1,h2,min_self,zgp ws zs hl]
   simp
  ·have e1:(ps.length==qs.length)=false:=by simp;omega
   rw[e1,Bool.and_false,zkO hl]
 have a1:=SeqAt.RcAt.tuples p1 p2 hu ia
 have a2:=SeqAt.RcNeAt.tuples p1 p2 hu ia
 rw[e] at a1 a2
 exact⟨a1,a2⟩
inductive Sh (F:Hp) (as:List Addr):W->V->Value->Prop where
 | non:Sh F as .non .non .none
 | bl (b:Bool):Sh F as (.bl b) (.bl b) (.bool b)
 | int (i:Int) (t:Tok):Sh F as (.int i) (.int i) (.int i t)
 | str (x:Str) (t:Tok):Sh F as (.str x) (.str x) (.str x t)
 | lst {xs:List W} {a:Addr} {vs:List V} (h:Rd F a (.lst vs)) (r:Reps F as xs vs):Sh F as (.lst xs) (.ref a) (.ref a)
 | tup {xs:List W} {a:Addr} {vs:List V} (h:Rd F a (.tup vs)) (r:Reps F as xs vs):Sh F as (.tup xs) (.ref a) (.ref a)
theorem zmJ{n:Nat}{w:W}{v:V}{p:Value}(c:cln n w=true)(r:Rep F as w v)(rv:L2.RelV v p):Sh F as w v p:=by
 cases w with
 | non=>simp only[Rep] at r;subst r;cases rv;exact .non
 | bl b=>simp only[Rep] at r;subst r;cases rv;exact .bl b
 | int i=>simp only[Rep] at r;subst r;obtain⟨t,rfl⟩:=rv;exact .int i t
 | str i=>simp only[Rep] at r;subst r;obtain⟨t,rfl⟩:=rv;exact .str i t
 | ty i=>cases n<;>simp only[cln,reduceCtorEq] at c
 | cel i=>cases n<;>simp only[cln,reduceCtorEq] at c
 | lst xs=>simp only[Rep] at r;obtain⟨a,vs,rfl,h,q⟩:=r;cases rv;exact .lst h q
 | tup xs=>simp only[Rep] at r;obtain⟨a,vs,rfl,h,q⟩:=r;cases rv;exact .tup (.inl h) q
set_option maxHeartbeats 0 in
theorem ztg(hs:∀a o,F a=some o->H a=some o)(I:Inv X pins σ H s):∀(n:Nat) {A:Around} {w z:W} {v u:V} {p q:Value},A.units+n<cLine->cln n w=true->cln n z=true->Rep F as w v->Rep F as z u->L2.RelV v p->L2.RelV u q ->
  SeqAt.RcAt A s p q (peq w z)/\SeqAt.RcNeAt A s p q (!peq w z)/\SeqAt.EqAt A s p q (peq w z):=by
 have sub:∀{a:Addr} {o:HO},Rd F a o->Rd H a o:=fun {a o} r=>by
  rcases r with r|⟨u,r⟩
  ·exact .inl (hs _ _ r)
  ·exact .inr ⟨u,hs _ _ r⟩
 have isL:∀{a:Addr} {vs:List V},Rd F a (.lst vs)->∃its,s.heap.IsList a its:=fun {a vs} h=>by
  obtain⟨its,_,p,_⟩:=I.list (.inl (sub h))
  exact⟨_,p.isList⟩
 have isT:∀{a:Addr} {vs:List V},Rd F a (.tup vs)->∃its,s.heap.IsTuple a its:=fun {a vs} h=>by
  obtain⟨its,_,p,_⟩:=I.tuple (.inl (sub h))
  exact⟨_,p⟩
 intro n
 induction n with
 | zero =>
  intro A w z v u p q hu c c' r r' rv ru
  have sh:=zmJ c r rv
  have sh':=zmJ c' r' ru
  cases sh with
  | non =>
   cases sh' with
   | non =>
    simp only[peq]
    exact⟨SeqAt.RcAt.none_none ,SeqAt.RcNeAt.none_none ,SeqAt.EqAt.same _⟩
   | bl b2 =>
    simp only[peq]
    exact⟨SeqAt.RcAt.none_bool _,SeqAt.RcNeAt.none_bool _,SeqAt.EqAt.none_bool _⟩
   | int i2 t2 =>
    simp only[peq]
    exact⟨SeqAt.RcAt.none_int _ _,SeqAt.RcNeAt.none_int _ _,SeqAt.EqAt.none_int _ _⟩
   | str x2 t2 =>
    simp only[peq]
    exact⟨SeqAt.RcAt.none_str _ _,SeqAt.RcNeAt.none_str _ _,SeqAt.EqAt.none_str _ _⟩
   | lst q2 s2 =>
    simp only[cln,reduceCtorEq] at c'
   | tup q2 s2 =>
    simp only[cln,reduceCtorEq] at c'
  | bl b =>
   cases sh' with
   | non =>
    simp only[peq]
    exact⟨SeqAt.RcAt.bool_none _,SeqAt.RcNeAt.bool_none _,SeqAt.EqAt.bool_none _⟩
   | bl b2 =>
    simp only[peq]
    exact⟨SeqAt.RcAt.bool_bool _ _,SeqAt.RcNeAt.bool_bool _ _,SeqAt.EqAt.bool_bool _ _⟩
   | int i2 t2 =>
    simp only[peq]
    exact⟨SeqAt.RcAt.bool_int _ _ _,SeqAt.RcNeAt.bool_int _ _ _,SeqAt.EqAt.bool_int _ _ _⟩
   | str x2 t2 =>
    simp only[peq]
    exact⟨SeqAt.RcAt.bool_str _ _ _,SeqAt.RcNeAt.bool_str _ _ _,SeqAt.EqAt.bool_str _ _ _⟩
   | lst q2 s2 =>
    simp only[cln,reduceCtorEq] at c'
   | tup q2 s2 =>
    simp only[cln,reduceCtorEq] at c'
  | int i t =>
   cases sh' with
   | non =>
    simp only[peq]
    exact⟨SeqAt.RcAt.int_none _ _,SeqAt.RcNeAt.int_none _ _,SeqAt.EqAt.int_none _ _⟩
   | bl b2 =>
    simp only[peq]
    exact⟨SeqAt.RcAt.int_bool _ _ _,SeqAt.RcNeAt.int_bool _ _ _,SeqAt.EqAt.int_bool _ _ _⟩
   | int i2 t2 =>
    simp only[peq]
    exact⟨SeqAt.RcAt.int_int _ _ _ _,SeqAt.RcNeAt.int_int _ _ _ _,SeqAt.EqAt.int_int _ _ _ _⟩
   | str x2 t2 =>
    simp only[peq]
    exact⟨SeqAt.RcAt.int_str _ _ _ _,SeqAt.RcNeAt.int_str _ _ _ _,SeqAt.EqAt.int_str _ _ _ _⟩
   | lst q2 s2 =>
    simp only[cln,reduceCtorEq] at c'
   | tup q2 s2 =>
    simp only[cln,reduceCtorEq] at c'
  | str x t =>
   cases sh' with
   | non =>
    simp only[peq]
    exact⟨SeqAt.RcAt.str_none _ _,SeqAt.RcNeAt.str_none _ _,SeqAt.EqAt.str_none _ _⟩
   | bl b2 =>
    simp only[peq]
    exact⟨SeqAt.RcAt.str_bool _ _ _,SeqAt.RcNeAt.str_bool _ _ _,SeqAt.EqAt.str_bool _ _ _⟩
   | int i2 t2 =>
    simp only[peq]
    exact⟨SeqAt.RcAt.str_int _ _ _ _,SeqAt.RcNeAt.str_int _ _ _ _,SeqAt.EqAt.str_int _ _ _ _⟩
   | str x2 t2 =>
    simp only[peq]
    exact⟨SeqAt.RcAt.str_str _ _ _ _,SeqAt.RcNeAt.str_str _ _ _ _,SeqAt.EqAt.str_str _ _ _ _⟩
   | lst q2 s2 =>
    simp only[cln,reduceCtorEq] at c'
   | tup q2 s2 =>
    simp only[cln,reduceCtorEq] at c'
  | lst q1 s1 =>
   simp only[cln,reduceCtorEq] at c
  | tup q1 s1 =>
   simp only[cln,reduceCtorEq] at c
 | succ n ih =>
  intro A w z v u p q hu c c' r r' rv ru
  have hu0:A.units<cLine:=by omega
  have hu1:A.in1.units+n<cLine:=by show A.units+1+n<cLine;omega
  have ref:∀{a b:Addr},v=.ref a->u=.ref b->(SeqAt.RcAt A s (.ref a) (.ref b) (peq w z)/\SeqAt.RcNeAt A s (.ref a) (.ref b) (!peq w z))->SeqAt.RcAt A s (.ref a) (.ref b) (peq w z)/\SeqAt.RcNeAt A s (.ref a) (.ref b) (!peq w z)/\SeqAt.EqAt A s (.ref a) (.ref b) (peq w z):=by
   intro a b e1 e2 ⟨h1,h2⟩
   subst e1 e2
   refine⟨h1,h2,?_⟩
   by_cases e:a=b
   ·subst e
    rw[zkN (n+1) c c' r r',zi0 (n+1) c']
    exact SeqAt.EqAt.same _
   ·exact SeqAt.EqAt.of_refs e h1
  have sh:=zmJ c r rv
  have sh':=zmJ c' r' ru
  cases sh with
  | non =>
   cases sh' with
   | non =>
    simp only[peq]
    exact⟨SeqAt.RcAt.none_none ,SeqAt.RcNeAt.none_none ,SeqAt.EqAt.same _⟩
   | bl b2 =>
    simp only[peq]
    exact⟨SeqAt.RcAt.none_bool _,SeqAt.RcNeAt.none_bool _,SeqAt.EqAt.none_bool _⟩
   | int i2 t2 =>
    simp only[peq]
    exact⟨SeqAt.RcAt.none_int _ _,SeqAt.RcNeAt.none_int _ _,SeqAt.EqAt.none_int _ _⟩
   | str x2 t2 =>
    simp only[peq]
    exact⟨SeqAt.RcAt.none_str _ _,SeqAt.RcNeAt.none_str _ _,SeqAt.EqAt.none_str _ _⟩
   | lst q2 s2 =>
    obtain⟨_,p1⟩:=isL q2
    simp only[peq]
    exact⟨SeqAt.RcAt.none_list p1 hu0,SeqAt.RcNeAt.none_list p1 hu0,SeqAt.EqAt.none_list p1 hu0⟩
   | tup q2 s2 =>
    obtain⟨_,p1⟩:=isT q2
    simp only[peq]
    exact⟨SeqAt.RcAt.none_tuple p1 hu0,SeqAt.RcNeAt.none_tuple p1 hu0,SeqAt.EqAt.none_tuple p1 hu0⟩
  | bl b =>
   cases sh' with
   | non =>
    simp only[peq]
    exact⟨SeqAt.RcAt.bool_none _,SeqAt.RcNeAt.bool_none _,SeqAt.EqAt.bool_none _⟩
   | bl b2 =>
    simp only[peq]
    exact⟨SeqAt.RcAt.bool_bool _ _,SeqAt.RcNeAt.bool_bool _ _,SeqAt.EqAt.bool_bool _ _⟩
   | int i2 t2 =>
    simp only[peq]
    exact⟨SeqAt.RcAt.bool_int _ _ _,SeqAt.RcNeAt.bool_int _ _ _,SeqAt.EqAt.bool_int _ _ _⟩
   | str x2 t2 =>
    simp only[peq]
    exact⟨SeqAt.RcAt.bool_str _ _ _,SeqAt.RcNeAt.bool_str _ _ _,SeqAt.EqAt.bool_str _ _ _⟩
   | lst q2 s2 =>
    obtain⟨_,p1⟩:=isL q2
    simp only[peq]
    exact⟨SeqAt.RcAt.bool_list _ p1 hu0,SeqAt.RcNeAt.bool_list _ p1 hu0,SeqAt.EqAt.bool_list _ p1 hu0⟩
   | tup q2 s2 =>
    obtain⟨_,p1⟩:=isT q2
    simp only[peq]
    exact⟨SeqAt.RcAt.bool_tuple _ p1 hu0,SeqAt.RcNeAt.bool_tuple _ p1 hu0,SeqAt.EqAt.bool_tuple _ p1 hu0⟩
  | int i t =>
   cases sh' with
   | non =>
    simp only[peq]
    exact⟨SeqAt.RcAt.int_none _ _,SeqAt.RcNeAt.int_none _ _,SeqAt.EqAt.int_none _ _⟩
   | bl b2 =>
    simp only[peq]
    exact⟨SeqAt.RcAt.int_bool _ _ _,SeqAt.RcNeAt.int_bool _ _ _,SeqAt.EqAt.int_bool _ _ _⟩
   | int i2 t2 =>
    simp only[peq]
    exact⟨SeqAt.RcAt.int_int _ _ _ _,SeqAt.RcNeAt.int_int _ _ _ _,SeqAt.EqAt.int_int _ _ _ _⟩
   | str x2 t2 =>
    simp only[peq]
    exact⟨SeqAt.RcAt.int_str _ _ _ _,SeqAt.RcNeAt.int_str _ _ _ _,SeqAt.EqAt.int_str _ _ _ _⟩
   | lst q2 s2 =>
    obtain⟨_,p1⟩:=isL q2
    simp only[peq]
    exact⟨SeqAt.RcAt.int_list _ _ p1 hu0,SeqAt.RcNeAt.int_list _ _ p1 hu0,SeqAt.EqAt.int_list _ _ p1 hu0⟩
   | tup q2 s2 =>
    obtain⟨_,p1⟩:=isT q2
    simp only[peq]
    exact⟨SeqAt.RcAt.int_tuple _ _ p1 hu0,SeqAt.RcNeAt.int_tuple _ _ p1 hu0,SeqAt.EqAt.int_tuple _ _ p1 hu0⟩
  | str x t =>
   cases sh' with
   | non =>
    simp only[peq]
    exact⟨SeqAt.RcAt.str_none _ _,SeqAt.RcNeAt.str_none _ _,SeqAt.EqAt.str_none _ _⟩
   | bl b2 =>
    simp only[peq]
    exact⟨SeqAt.RcAt.str_bool _ _ _,SeqAt.RcNeAt.str_bool _ _ _,SeqAt.EqAt.str_bool _ _ _⟩
   | int i2 t2 =>
    simp only[peq]
    exact⟨SeqAt.RcAt.str_int _ _ _ _,SeqAt.RcNeAt.str_int _ _ _ _,SeqAt.EqAt.str_int _ _ _ _⟩
   | str x2 t2 =>
    simp only[peq]
    exact⟨SeqAt.RcAt.str_str _ _ _ _,SeqAt.RcNeAt.str_str _ _ _ _,SeqAt.EqAt.str_str _ _ _ _⟩
   | lst q2 s2 =>
    obtain⟨_,p1⟩:=isL q2
    simp only[peq]
    exact⟨SeqAt.RcAt.str_list _ _ p1 hu0,SeqAt.RcNeAt.str_list _ _ p1 hu0,SeqAt.EqAt.str_list _ _ p1 hu0⟩
   | tup q2 s2 =>
    obtain⟨_,p1⟩:=isT q2
    simp only[peq]
    exact⟨SeqAt.RcAt.str_tuple _ _ p1 hu0,SeqAt.RcNeAt.str_tuple _ _ p1 hu0,SeqAt.EqAt.str_tuple _ _ p1 hu0⟩
  | lst q1 s1 =>
   cases sh' with
   | non =>
    obtain⟨_,p1⟩:=isL q1
    simp only[peq]
    exact⟨SeqAt.RcAt.list_none p1 hu0,SeqAt.RcNeAt.list_none p1 hu0,SeqAt.EqAt.list_none p1 hu0⟩
   | bl b2 =>
    obtain⟨_,p1⟩:=isL q1
    simp only[peq]
    exact⟨SeqAt.RcAt.list_bool _ p1 hu0,SeqAt.RcNeAt.list_bool _ p1 hu0,SeqAt.EqAt.list_bool _ p1 hu0⟩
   | int i2 t2 =>
    obtain⟨_,p1⟩:=isL q1
    simp only[peq]
    exact⟨SeqAt.RcAt.list_int _ _ p1 hu0,SeqAt.RcNeAt.list_int _ _ p1 hu0,SeqAt.EqAt.list_int _ _ p1 hu0⟩
   | str x2 t2 =>
    obtain⟨_,p1⟩:=isL q1
    simp only[peq]
    exact⟨SeqAt.RcAt.list_str _ _ p1 hu0,SeqAt.RcNeAt.list_str _ _ p1 hu0,SeqAt.EqAt.list_str _ _ p1 hu0⟩
   | lst q2 s2 =>
    refine ref rfl rfl ?_
    simp only[peq]
    simp only[cln] at c c'
    exact zmI I hu0 (.inl (sub q1)) (.inl (sub q2)) s1 s2 fun {w z v u p q} m m' r r' rv ru=>(ih hu1 (all_eq_true.mp c _ m) (all_eq_true.mp c' _ m') r r' rv ru).2.2
   | tup q2 s2 =>
    refine ref rfl rfl ?_
    simp only[peq]
    obtain⟨_,p1⟩:=isL q1
    obtain⟨_,p2⟩:=isT q2
    exact⟨SeqAt.RcAt.list_tuple p1 p2 hu0,SeqAt.RcNeAt.list_tuple p1 p2 hu0⟩
  | tup q1 s1 =>
   cases sh' with
   | non =>
    obtain⟨_,p1⟩:=isT q1
    simp only[peq]
    exact⟨SeqAt.RcAt.tuple_none p1 hu0,SeqAt.RcNeAt.tuple_none p1 hu0,SeqAt.EqAt.tuple_none p1 hu0⟩
   | bl b2 =>
    obtain⟨_,p1⟩:=isT q1
    simp only[peq]
    exact⟨SeqAt.RcAt.tuple_bool _ p1 hu0,SeqAt.RcNeAt.tuple_bool _ p1 hu0,SeqAt.EqAt.tuple_bool _ p1 hu0⟩
   | int i2 t2 =>
    obtain⟨_,p1⟩:=isT q1
    simp only[peq]
    exact⟨SeqAt.RcAt.tuple_int _ _ p1 hu0,SeqAt.RcNeAt.tuple_int _ _ p1 hu0,SeqAt.EqAt.tuple_int _ _ p1 hu0⟩
   | str x2 t2 =>
    obtain⟨_,p1⟩:=isT q1
    simp only[peq]
    exact⟨SeqAt.RcAt.tuple_str _ _ p1 hu0,SeqAt.RcNeAt.tuple_str _ _ p1 hu0,SeqAt.EqAt.tuple_str _ _ p1 hu0⟩
   | lst q2 s2 =>
    refine ref rfl rfl ?_
    simp only[peq]
    obtain⟨_,p1⟩:=isT q1
    obtain⟨_,p2⟩:=isL q2
    exact⟨SeqAt.RcAt.tuple_list p1 p2 hu0,SeqAt.RcNeAt.tuple_list p1 p2 hu0⟩
   | tup q2 s2 =>
    refine ref rfl rfl ?_
    simp only[peq]
    simp only[cln] at c c'
    exact zo7 I hu0 (.inl (sub q1)) (.inl (sub q2)) s1 s2 fun {w z v u p q} m m' r r' rv ru=>(ih hu1 (all_eq_true.mp c _ m) (all_eq_true.mp c' _ m') r r' rv ru).2.2
end
def drf(ce:Ce):W->W
 | .cel k=>match ce[k]? with
  | some (.lst xs)=>.lst xs
  | _=>.cel k
 | w=>w
def zcg(ce:Ce):W->Option (List W)
 | .lst xs=>some xs
 | .cel k=>match ce[k]? with
  | some (.lst xs)=>some xs
  | _=>none
 | _=>none
def zeR(ce:Ce):W->Option (List W)
 | .tup xs=>some xs
 | w=>zcg ce w
def zqb(ce:Ce):W->Option (List (Key×W))
 | .cel k=>match ce[k]? with
  | some (.dct xs)=>some xs
  | _=>none
 | _=>none
def zma(ce:Ce):W->Option (List (Key×W))
 | .cel k=>match ce[k]? with
  | some (.dct xs)=>some xs
  | some (.fzd xs)=>some xs
  | _=>none
 | _=>none
def zj9:W->Option Key
 | .int i=>some (.inl i)
 | .str x=>some (.inr x)
 | _=>none
section
variable {G:Ga} {F:Hp} {as:List Addr} {H:Hp} {ce:Ce} {w:W} {v:V}
theorem Store.toH(S:Store G F as H ce):Le F as H as:=⟨S.sub,fun _ _ h=>h⟩
theorem zie(S:Store G F as H ce)(r:Rep F as w v):Rep H as (drf ce w) v:=by
 cases w with
 | cel k =>
  simp only[drf]
  split
  ·rename_i xs hc
   simp only[Rep] at r ⊢
   obtain⟨a,rfl,h⟩:=r
   obtain⟨_,vs,h2,rs⟩:=S.cell _ _ _ h hc
   exact⟨a,vs,rfl,.inl h2,rs.le S.toH⟩
  ·exact r.le S.toH
 | _=>exact r.le S.toH
theorem zb8{xs:List W}(S:Store G F as H ce)(r:Rep F as w v)(e:zcg ce w=some xs):∃a vs,v=.ref a/\Rd H a (.lst vs)/\Reps F as xs vs:=by
 cases w<;>simp only[zcg,reduceCtorEq,Option.some.injEq] at e
 ·subst e
  simp only[Rep] at r
  obtain⟨a,vs,rfl,h,q⟩:=r
  exact⟨a,vs,rfl,Rd.sub S h,q⟩
 ·split at e
  ·rename_i xs' hc
   cases e
   simp only[Rep] at r
   obtain⟨a,rfl,h⟩:=r
   obtain⟨_,vs,h2,rs⟩:=S.cell _ _ _ h hc
   exact⟨a,vs,rfl,.inl h2,rs⟩
  ·cases e
theorem zgq{xs:List W}(S:Store G F as H ce)(r:Rep F as w v)(e:zeR ce w=some xs):∃a vs,v=.ref a/\(Rd H a (.lst vs)\/Rd H a (.tup vs))/\Reps F as xs vs:=by
 cases w with
 | tup ys =>
  simp only[zeR,Option.some.injEq] at e
  subst e
  simp only[Rep] at r
  obtain⟨a,vs,rfl,h,q⟩:=r
  exact⟨a,vs,rfl,.inr (.inl (S.sub _ _ h)),q⟩
 | _ =>
  obtain⟨a,vs,h1,h2,h3⟩:=zb8 S r e
  exact⟨a,vs,h1,.inl h2,h3⟩
theorem zkQ{xs:List (Key×W)}(S:Store G F as H ce)(r:Rep F as w v)(e:zqb ce w=some xs):∃k a ps,w=.cel k/\v=.ref a/\as[k]?=some a/\H a=some (.dK ps)/\RepKV F as xs ps:=by
 cases w<;>simp only[zqb,reduceCtorEq] at e
 split at e
 ·rename_i k xs' hc
  cases e
  simp only[Rep] at r
  obtain⟨a,rfl,h⟩:=r
  obtain⟨_,ps,h2,rs⟩:=S.cell _ _ _ h hc
  exact⟨_,a,ps,rfl,rfl,h,h2,rs⟩
 ·cases e
theorem zi2{xs:List (Key×W)}(S:Store G F as H ce)(r:Rep F as w v)(e:zma ce w=some xs):∃k a ps,w=.cel k/\v=.ref a/\as[k]?=some a/\Rd H a (.dK ps)/\RepKV F as xs ps:=by
 cases w<;>simp only[zma,reduceCtorEq] at e
 split at e
 ·rename_i k xs' hc
  cases e
  simp only[Rep] at r
  obtain⟨a,rfl,h⟩:=r
  obtain⟨_,ps,h2,rs⟩:=S.cell _ _ _ h hc
  exact⟨_,a,ps,rfl,rfl,h,.inl h2,rs⟩
 ·rename_i k xs' hc
  cases e
  simp only[Rep] at r
  obtain⟨a,rfl,h⟩:=r
  obtain⟨_,o,ps,_,h2,rs⟩:=S.cell _ _ _ h hc
  exact⟨_,a,ps,rfl,rfl,h,.inr ⟨o,h2⟩,rs⟩
 ·cases e
theorem zif{k:Key}(r:Rep F as w v)(e:zj9 w=some k):v=kV k:=by
 cases w<;>simp only[zj9,reduceCtorEq,Option.some.injEq] at e<;>subst e<;>simp only[Rep] at r<;>exact r
end
def zsn(ng:Bool):R2:=fun x y H Q=>∃as w z,Rep H as w x/\Rep H as z y/\cln 8 w=true/\cln 8 z=true/\Q (.bl (if ng then !peq w z else peq w z)) H
def zt1(K:PySem.W.Frag)(ng:Bool):R2:=fun x y H Q=>∃as w ys a vs,Rep H as w x/\y=.ref a/\(SqL K H a vs\/SqT K H a vs)/\Reps H as ys vs/\cln 8 w=true/\ys.all (cln 8)=true/\Q (.bl (if ng then !ys.any (peq · w) else ys.any (peq · w))) H
section
variable {X:Cx}
theorem zkR(hu:X.A.units+8<cLine):OpR X (compareOp .Eq) (zsn false):=by
 intro pins s σ H x y v u Q I rx ry ⟨as,w,z,r1,r2,c1,c2,q⟩
 exact(ztg (fun _ _ h=>h) I 8 hu c1 c2 r1 r2 rx ry).1 X.prog X.w X.xe _ ⟨.bl _,H,I,rfl,q⟩
theorem zn4(hu:X.A.units+8<cLine):OpR X (compareOp .NotEq) (zsn true):=by
 intro pins s σ H x y v u Q I rx ry ⟨as,w,z,r1,r2,c1,c2,q⟩
 exact(ztg (fun _ _ h=>h) I 8 hu c1 c2 r1 r2 rx ry).2.1 X.prog X.w X.xe _ ⟨.bl _,H,I,rfl,q⟩
open Classical in
theorem ze9{pins:List (Addr×Obj)}{σ:VS.St}{H:Hp}{s:Shared}{as:List Addr}{A:Around}{w:W}{x:V}{u:Value}{ys:List W}{vs:List V}{ps:List Value}(I:Inv X pins σ H s)(hu:A.units+8<cLine)(rw':Rep H as w x)(c:cln 8 w=true)(cs:ys.all (cln 8)=true)(ru:L2.RelV x u)(rs:Reps H as ys vs)(rp:Vals vs ps):∃e:Value->Bool,(∀y,y∈ps.toArray->SeqAt.EqAt A s y u (e y))/\ps.toArray.any e=ys.any (peq · w):=by
 have hl:=rs.length
 have hl2:=rp.length
 have key:∀{j:Nat} {p:Value},ps[j]?=some p->∃y v,ys[j]?=some y/\Rep H as y v/\L2.RelV v p/\cln 8 y=true:=fun {j p} hp=>by
  have hj:=zax hp
  have e1:vs[j]?=some (vs[j]'(by omega)):=by simp
  obtain⟨q,hq,rq⟩:=rp.get e1
  rw[hp] at hq
  cases hq
  obtain⟨y,hy,ry⟩:=rs.get' e1
  exact⟨y,_,hy,ry,rq,all_eq_true.mp cs _ (mem_of_getElem? hy)⟩
 have uniq:∀{j j':Nat} {p:Value} {y y':W},ps[j]?=some p->ps[j']?=some p->ys[j]?=some y->ys[j']?=some y'->y=y':=fun {j j' p y y'} h1 h2 h3 h4=>by
  obtain⟨z,v,hz,rz,rv,cz⟩:=key h1
  obtain⟨z',v',hz',rz',rv',cz'⟩:=key h2
  rw[h3] at hz;cases hz
  rw[h4] at hz';cases hz'
  cases rv.inj rv'
  exact zkN 8 cz cz' rz rz'
 refine⟨fun p=>decide (∃(j:Nat) (y:W),ps[j]?=some p/\ys[j]?=some y/\peq y w=true),fun p hp=>?_,?_⟩
 ·have hp':p∈ps:=by simpa using hp
  obtain⟨j,hj⟩:=getElem?_of_mem hp'
  obtain⟨y,v,hy,ry,rv,cy⟩:=key hj
  have q:=(ztg (fun _ _ h=>h) I 8 hu cy c ry rw' rv ru).2.2
  have e:decide (∃(j:Nat) (y:W),ps[j]?=some p/\ys[j]?=some y/\peq y w=true)=peq y w:=by
   rw[Bool.eq_iff_iff,decide_eq_true_iff]
   constructor
   ·rintro⟨j',y',h1,h2,h3⟩
    rw[uniq hj h1 hy h2];exact h3
   ·intro h
    exact⟨j,y,hj,hy,h⟩
  show SeqAt.EqAt A s p u (decide (∃(j:Nat) (y:W),ps[j]?=some p/\ys[j]?=some y/\peq y w=true))
  rw[e];exact q
 ·rw[Bool.eq_iff_iff,any_eq_true',any_eq_true]
  constructor
  ·rintro⟨p,_,hp⟩
   obtain⟨j,y,h1,h2,h3⟩:=of_decide_eq_true hp
   exact⟨y,mem_of_getElem? h2,h3⟩
  ·rintro⟨y,hy,h⟩
   obtain⟨j,hj⟩:=getElem?_of_mem hy
   have hlt:=zax hj
   have e1:ps[j]?=some (ps[j]'(by omega)):=by simp
   refine⟨ps[j]'(by omega),by simp,decide_eq_true ⟨j,y,e1,hj,h⟩⟩
theorem zkS{K:PySem.W.Frag}(hu:X.A.units+9<cLine)(hK:X.K=K:=by rfl):OpR X (compareOp .NotIn) (zt1 K true):=by
 subst hK
 intro pins s σ H x y v u Q I rx ry ⟨as,w,ys,a,vs,r1,ey,sq,rs,c1,c2,q⟩
 subst ey
 cases ry
 rcases sq with sq|sq
 ·obtain⟨ps,rp,pl,_⟩:=I.list sq
  obtain⟨e,he,ea⟩:=ze9 (A:=X.A.in1) I (by show X.A.units+1+8<cLine;omega) r1 c1 c2 rx rs rp
  exact SeqAt.notIn_listAt e pl.isList he ⟨.bl _,H,I,rfl,by rw[ea];exact q⟩
 ·obtain⟨ps,rp,pl,_⟩:=I.tuple sq
  obtain⟨e,he,ea⟩:=ze9 (A:=X.A.in1) I (by show X.A.units+1+8<cLine;omega) r1 c1 c2 rx rs rp
  exact SeqAt.notIn_tupleAt e pl he ⟨.bl _,H,I,rfl,by rw[ea];exact q⟩
end
def eqW(ng:Bool)(ce:Ce)(x y:W):Option W:=if (cln 8 (drf ce x)&&cln 8 (drf ce y))=true then some (.bl (if ng then !peq (drf ce x) (drf ce y) else peq (drf ce x) (drf ce y))) else none
def inW(ng:Bool)(ce:Ce)(x y:W):Option W:=match zeR ce y with
 | some ys=>if (cln 8 (drf ce x)&&ys.all (cln 8))=true then some (.bl (if ng then !ys.any (peq · (drf ce x)) else ys.any (peq · (drf ce x)))) else none
 | none=>none
def zaO(f:Ce->W->W->Option W)(a b:Sl->M W):Sl->M W:=fun sl=>bnd (a sl) fun x=>bnd (b sl) fun y=>look fun ce=>f ce x y
section
variable {X:Cx} {G:Ga} {E:XK} {a b c:Expr} {da db dc:Sl->M W} {pos:Pos}
def OpC(r:R2)(f:Ce->W->W->Option W):Prop:=∀(G:Ga) F as H ce x y wx wy w,Store G F as H ce->Rep F as wx x->Rep F as wy y->f ce wx wy=some w->∀Q:VK,(∀v,Rep F as w v->Q v H)->r x y H Q
theorem zbV{r:R2}{f:Ce->W->W->Option W}(hf:OpC r f)(σ:L2.St)(H:Hp)(Q:VK)(h:zau G E (zaO f da db) σ H Q):tOp r (zau G E da) (zau G E db) σ H Q:=by
 refine ziW h fun F as sl ce H2 x y wx wy S rx ry P=>?_
 obtain⟨w,e,P⟩:=zbD P
 exact hf G F as H2 ce x y wx wy w S.st rx ry e Q fun v r=>P.done S r
theorem zkT(ng:Bool):OpC (zsn ng) (eqW ng):=by
 intro G F as H ce x y wx wy w S rx ry e Q q
 unfold eqW at e
 split at e
 ·rename_i hc
  rw[and_eq_true] at hc
  cases e
  exact⟨as,_,_,zie S rx,zie S ry,hc.1,hc.2,q _ (by simp only[Rep])⟩
 ·cases e
theorem zq0(K:PySem.W.Frag)(ng:Bool):OpC (zt1 K ng) (inW ng):=by
 intro G F as H ce x y wx wy w S rx ry e Q q
 unfold inW at e
 split at e
 ·rename_i ys hy
  split at e
  ·rename_i hc
   rw[and_eq_true] at hc
   cases e
   obtain⟨a,vs,rfl,h,rs⟩:=zgq S ry hy
   exact⟨as,_,ys,a,vs,zie S rx,rfl,h.imp .inl .inl,rs.le S.toH,hc.1,hc.2,q _ (by simp only[Rep])⟩
  ·cases e
 ·cases e
theorem zq1(hu:X.A.units+8<cLine)(ha:PE X a (zau G E da))(hb:PE X b (zau G E db)):PE X (.Compare a [.Eq] [b] pos) (zau G E (zaO (eqW false) da db)):=PE.imp (zh9 (zkR hu) ha hb (zcv _)) (zbV (zkT false))
theorem zhw(hu:X.A.units+8<cLine)(ha:PE X a (zau G E da))(hb:PE X b (zau G E db)):PT X (.Compare a [.Eq] [b] pos) (zcC G E (dB (zaO (eqW false) da db))):=zgo (zkR hu) ha hb (zcv _) (zbV (zkT false))
theorem zmK(hu:X.A.units+8<cLine)(ha:PE X a (zau G E da))(hb:PE X b (zau G E db)):PT X (.Compare a [.NotEq] [b] pos) (zcC G E (dB (zaO (eqW true) da db))):=zgo (zn4 hu) ha hb (zcv _) (zbV (zkT true))
theorem zmL(hu:X.A.units+9<cLine)(ha:PE X a (zau G E da))(hb:PE X b (zau G E db))(hm:behindInMarks .NotIn b=false):PT X (.Compare a [.NotIn] [b] pos) (zcC G E (dB (zaO (inW true) da db))):=zgo (zkS hu rfl) ha hb hm (zbV (zq0 _ true))
theorem zfa{r:R2}{f:W->W->Option W}(hf:Sc2 r f):OpC r (fun _=>f):=by
 intro G F as H ce x y wx wy w S rx ry e Q q
 obtain⟨vx,vy,vw,e1,e2,e3,k⟩:=hf _ _ _ e
 rw[rx.sc e1,ry.sc e2]
 exact k _ _ (q _ (Rep.of_sc e3))
theorem zq2(ha:PE X a (zau G E da))(hb:PE X b (zau G E db)):PT X (.Compare a [.Lt] [b] pos) (zcC G E (dB (dOp fLt da db))):=zgo zsQ ha hb (zcv _) (zbV (zfa (zhu fun _ _=>rfl)))
theorem zo8(ha:PE X a (zau G E da))(hb:PE X b (zau G E db)):PT X (.Compare a [.Gt] [b] pos) (zcC G E (dB (dOp fGt da db))):=zgo zqM ha hb (zcv _) (zbV (zfa (zhu fun _ _=>rfl)))
theorem zth(ha:PE X a (zau G E da))(hb:PE X b (zau G E db)):PT X (.Compare a [.GtE] [b] pos) (zcC G E (dB (dOp fGe da db))):=zgo zsR ha hb (zcv _) (zbV (zfa (zhu fun _ _=>rfl)))
theorem zq3{j pos'}(ha:PE X a (zau G E da)):PT X (.Compare a [.Is] [.Constant .none j pos'] pos) (zcC G E (dB (dUn ztf da))) :=
 zo6 ⟨_,zqo ha,fun σ H Q zz_=>el6 zz_ fun F as sl ce S P=>(step S P).mono fun x H1 zz_=>el8 zz_ fun wx F1 as1 ce1 l1 S1 rx P1=>Post.done S1 (a:=W.bl _) P1 (by simp only[Rep];rw[rx.isN])⟩ (zcv _)
theorem zeg{j pos'}(ha:PE X a (zau G E da)):PT X (.Compare a [.IsNot] [.Constant .none j pos'] pos) (zcC G E (dB (dUn zcD da))) :=
 zo6 ⟨_,zoC ha,fun σ H Q zz_=>el6 zz_ fun F as sl ce S P=>(step S P).mono fun x H1 zz_=>el8 zz_ fun wx F1 as1 ce1 l1 S1 rx P1=>Post.done S1 (a:=W.bl _) P1 (by simp only[Rep];rw[rx.isN])⟩ (zcv _)
def zqc(a b:Sl->M W):Sl->M W:=fun sl=>bnd (a sl) fun x=>match x with
 | .bl true=>b sl
 | .bl false=>ret (.bl false)
 | _=>zgm
def dOr(a b:Sl->M W):Sl->M W:=fun sl=>bnd (a sl) fun x=>match x with
 | .bl true=>ret (.bl true)
 | .bl false=>b sl
 | _=>zgm
def zq4(a:Sl->M W):Sl->M W:=fun sl=>bnd (a sl) fun x=>match x with
 | .bl b=>ret (.bl (!b))
 | _=>zgm
def zeG(a b:Sl->M Bool):Sl->M Bool:=fun sl=>bnd (a sl) fun x=>match x with
 | true=>b sl
 | false=>ret false
def zmM(a b:Sl->M Bool):Sl->M Bool:=fun sl=>bnd (a sl) fun x=>match x with
 | true=>ret true
 | false=>b sl
def zcE(a:Sl->M Bool):Sl->M Bool:=fun sl=>bnd (a sl) fun x=>ret (!x)
def zq5(c:Sl->M Bool)(a b:Sl->M W):Sl->M W:=fun sl=>bnd (c sl) fun x=>match x with
 | true=>a sl
 | false=>b sl
variable {rest:List Expr} {ta tb:Sl->M Bool}
theorem zkU{op}(h:PE X a (zau G E da)):PE X (.BoolOp op [a] pos) (zau G E da):=zqu h
theorem zn5(ha:PE X a (zau G E da))(hb:PE X (.BoolOp .And (b::rest) pos) (zau G E db)):PE X (.BoolOp .And (a::b::rest) pos) (zau G E (zqc da db)):=by
 refine PE.imp (zqv ha hb) fun σ H Q zz_=>el6 zz_ fun F as sl ce S P=>(step S P).mono fun x H1 zz_=>el8 zz_ fun wx F1 as1 ce1 l1 S1 rx P1=>?_
 cases wx<;>first|exact(show False from P1).elim|skip
 rename_i k
 simp only[Rep] at rx
 subst rx
 cases k
 ·exact⟨false,rfl,by rw[if_neg Bool.false_ne_true];exact Post.done S1 (a:=W.bl false) P1 (by simp only[Rep])⟩
 ·exact⟨true,rfl,by rw[if_pos rfl];exact⟨F1,as1,sl,ce1,S1,P1⟩⟩
theorem zti(ha:PE X a (zau G E da))(hb:PE X (.BoolOp .Or (b::rest) pos) (zau G E db)):PE X (.BoolOp .Or (a::b::rest) pos) (zau G E (dOr da db)):=by
 refine PE.imp (zsB ha hb) fun σ H Q zz_=>el6 zz_ fun F as sl ce S P=>(step S P).mono fun x H1 zz_=>el8 zz_ fun wx F1 as1 ce1 l1 S1 rx P1=>?_
 cases wx<;>first|exact(show False from P1).elim|skip
 rename_i k
 simp only[Rep] at rx
 subst rx
 cases k
 ·exact⟨false,rfl,by rw[if_neg Bool.false_ne_true];exact⟨F1,as1,sl,ce1,S1,P1⟩⟩
 ·exact⟨true,rfl,by rw[if_pos rfl];exact Post.done S1 (a:=W.bl true) P1 (by simp only[Rep])⟩
theorem zn6(ha:PE X a (zau G E da)):PE X (.UnaryOp .Not a pos) (zau G E (zq4 da)):=by
 refine PE.imp (zqw ha) fun σ H Q zz_=>el6 zz_ fun F as sl ce S P=>(step S P).mono fun x H1 zz_=>el8 zz_ fun wx F1 as1 ce1 l1 S1 rx P1=>?_
 cases wx<;>first|exact(show False from P1).elim|skip
 rename_i k
 simp only[Rep] at rx
 subst rx
 exact⟨k,rfl,Post.done S1 (a:=W.bl (!k)) P1 (by simp only[Rep])⟩
theorem zeh(ha:PT X a (zcC G E ta)):PW X (.BoolOp .And [a] pos) (zcC G E ta):=zoD ha
theorem zi3(ha:PT X a (zcC G E ta)):PW X (.BoolOp .Or [a] pos) (zcC G E ta):=zqr ha
theorem zfb(ha:PT X a (zcC G E ta))(hb:PW X (.BoolOp .And (b::rest) pos) (zcC G E tb)):PW X (.BoolOp .And (a::b::rest) pos) (zcC G E (zeG ta tb)):=by
 refine PW.imp (zqs ha hb) fun σ H Q zz_=>el6 zz_ fun F as sl ce S P=>(step (RP:=rB) S P).mono fun x H1 zz_=>el8 zz_ fun wx F1 as1 ce1 l1 S1 rx P1=>?_
 have rx:wx=x:=rx
 subst rx
 cases wx
 ·rw[if_neg Bool.false_ne_true];exact Post.done (RP:=rB) S1 (a:=false) P1 rfl
 ·rw[if_pos rfl];exact⟨F1,as1,sl,ce1,S1,P1⟩
theorem zmN(ha:PT X a (zcC G E ta))(hb:PW X (.BoolOp .Or (b::rest) pos) (zcC G E tb)):PW X (.BoolOp .Or (a::b::rest) pos) (zcC G E (zmM ta tb)):=by
 refine PW.imp (zsy ha hb) fun σ H Q zz_=>el6 zz_ fun F as sl ce S P=>(step (RP:=rB) S P).mono fun x H1 zz_=>el8 zz_ fun wx F1 as1 ce1 l1 S1 rx P1=>?_
 have rx:wx=x:=rx
 subst rx
 cases wx
 ·rw[if_neg Bool.false_ne_true];exact⟨F1,as1,sl,ce1,S1,P1⟩
 ·rw[if_pos rfl];exact Post.done (RP:=rB) S1 (a:=true) P1 rfl
theorem zcN(ha:PT X a (zcC G E ta)):PT X (.UnaryOp .Not a pos) (zcC G E (zcE ta)):=by
 refine PT.imp (zqt ha) fun σ H Q zz_=>el6 zz_ fun F as sl ce S P=>(step (RP:=rB) S P).mono fun x H1 zz_=>el8 zz_ fun wx F1 as1 ce1 l1 S1 rx P1=>?_
 have rx:wx=x:=rx
 subst rx
 exact Post.done (RP:=rB) S1 (a:=!wx) P1 rfl
theorem zq6{c:Expr}(hc:PT X c (zcC G E ta))(ha:PE X a (zau G E da))(hb:PE X b (zau G E db)):PE X (.IfExp c a b pos) (zau G E (zq5 ta da db)):=by
 refine PE.imp (zmj hc ha hb) fun σ H Q zz_=>el6 zz_ fun F as sl ce S P=>(step (RP:=rB) S P).mono fun x H1 zz_=>el8 zz_ fun wx F1 as1 ce1 l1 S1 rx P1=>?_
 have rx:wx=x:=rx
 subst rx
 cases wx
 ·rw[if_neg Bool.false_ne_true];exact⟨F1,as1,sl,ce1,S1,P1⟩
 ·rw[if_pos rfl];exact⟨F1,as1,sl,ce1,S1,P1⟩
def zhx(f g:Ce->W->W->Option W)(a b c:Sl->M W):Sl->M W:=fun sl=>bnd (a sl) fun x=>bnd (b sl) fun y=>bnd (look fun ce=>f ce x y) fun t=>match t with
 | .bl true=>bnd (c sl) fun z=>look fun ce=>g ce y z
 | .bl false=>ret (.bl false)
 | _=>zgm
theorem zkV{r r':R2}{f g:Ce->W->W->Option W}(hf:OpC r f)(hg:OpC r' g)(σ:L2.St)(H:Hp)(Q:VK)(h:zau G E (zhx f g da db dc) σ H Q):znW r r' (zau G E da) (zau G E db) (zau G E dc) σ H Q:=by
 obtain⟨F,as,sl,ce,S,P⟩:=h
 refine(step S P).mono fun x H1 zz_=>el8 zz_ fun wx F1 as1 ce1 l1 S1 rx P1=>(step S1 P1).mono fun y H2 zz_=>el8 zz_ fun wy F2 as2 ce2 l2 S2 ry P2=>?_
 have e:∃w,f ce2 wx wy=some w/\Post G E Rep F2 as2 σ sl Q ((match w with|.bl true=>bnd (dc sl) fun z=>look fun ce=>g ce wy z|.bl false=>ret (.bl false)|_=>zgm:M W) ce2):=by
  revert P2
  simp only[bnd,look]
  cases f ce2 wx wy with
  | none=>exact fun P=>P.elim
  | some w=>exact fun P=>⟨w,rfl,P⟩
 obtain⟨w,e,P3⟩:=e
 refine hf G F2 as2 H2 ce2 x y wx wy w S2.st (rx.le l2) ry e _ fun v rv=>?_
 cases w<;>first|exact(show False from P3).elim|skip
 rename_i k
 simp only[Rep] at rv
 subst rv
 refine⟨k,rfl,?_⟩
 cases k
 ·rw[if_neg Bool.false_ne_true];exact Post.done S2 (a:=W.bl false) P3 (by simp only[Rep])
 ·rw[if_pos rfl]
  refine(step S2 P3).mono fun z H3 zz_=>el8 zz_ fun wz F3 as3 ce3 l3 S3 rz P4=>?_
  obtain⟨w',e',P4⟩:=zbD P4
  exact hg G F3 as3 H3 ce3 y z wy wz w' S3.st (ry.le l3) rz e' Q fun v r=>P4.done S3 r
theorem zmO{op op':CmpOp}{r r':R2}{f g:Ce->W->W->Option W}(ho:OpR X (compareOp op) r)(ho':OpR X (compareOp op') r')(hf:OpC r f)(hg:OpC r' g)(ha:PE X a (zau G E da))(hb:PE X b (zau G E db))(hc:PE X c (zau G E dc))(hm:lastMarks [op,op'] [b,c]=false:=by with_unfolding_all rfl):PE X (.Compare a [op,op'] [b,c] pos) (zau G E (zhx f g da db dc)):=PE.imp (zmo ho ho' ha hb hc hm) (zkV hf hg)
end
section
def zan:Sl->M (List W):=fun _=>ret []
def zac(a:Sl->M W)(r:Sl->M (List W)):Sl->M (List W):=fun sl=>bnd (a sl) fun x=>bnd (r sl) fun xs=>ret (x::xs)
open Classical in
def mkF(w:W)(n:Nat):M W:=fun ce=>if n<=sizeLine then some (.ok w ce) else none
open Classical in
def mkC(c:C)(n:Nat):M W:=fun ce=>if n<=sizeLine then some (.ok (.cel ce.length) (ce++[c])) else none
def zf1(r:Sl->M (List W)):Sl->M W:=fun sl=>bnd (r sl) fun xs=>mkF (.tup xs) xs.length
def zh2(r:Sl->M (List W)):Sl->M W:=fun sl=>bnd (r sl) fun xs=>mkF (.lst xs) xs.length
def zb9(r:Sl->M (List W)):Sl->M W:=fun sl=>bnd (r sl) fun xs=>mkC (.lst xs) xs.length
section
variable {X:Cx} {G:Ga} {E:XK} {e:Expr} {es:List Expr} {da:Sl->M W} {dr:Sl->M (List W)} {pos:Pos} {F:Hp} {as:List Addr} {H:Hp} {σ:VS.St} {sl:Sl} {ce:Ce} {Q:VK}
theorem zag:PA X [] (zha G E zan):=PA.imp zhf fun σ H Q zz_=>el6 zz_ fun F as sl ce S P=>Post.done (RP:=Reps) S (a:=[]) P Reps.nil
theorem zab(ha:PE X e (zau G E da))(hr:PA X es (zha G E dr))(hs:starEach (e::es) X.env=(false,eval e X.env)::starEach es X.env:=by rfl):PA X (e::es) (zha G E (zac da dr)):=by
 refine PA.imp (zee ha hr hs) fun σ H Q zz_=>el6 zz_ fun F as sl ce S P=>(step S P).mono fun x H1 zz_=>el8 zz_ fun wx F1 as1 ce1 l1 S1 rx P1=>(step (RP:=Reps) S1 P1).mono fun y H2 zz_=>el8 zz_ fun wy F2 as2 ce2 l2 S2 ry P2=>?_
 exact Post.done (RP:=Reps) S2 (a:=wx::wy) P2 (.cons (rx.le l2) ry)
theorem zkW{xs:List W}{vs:List V}{n:Nat}(S:SR G F as H σ sl ce)(rs:Reps F as xs vs)(P:Post G E Rep F as σ sl Q (mkF (.lst xs) n ce)):n<=sizeLine/\∀p,H p=none->Q (.ref p) (upd H p (.lst vs)):=by
 revert P
 unfold mkF
 split
 ·rename_i h
  intro P
  refine⟨h,fun p hp=>?_⟩
  obtain⟨S',l⟩:=S.st.freeze (o:=.lst vs) hp
  exact P _ _ _ _ l (S.slots S' l) (by simp only[Rep];exact⟨p,vs,rfl,.inl zat,rs.le l⟩)
 ·exact fun P=>P.elim
theorem zkX{xs:List W}{vs:List V}{n:Nat}(S:SR G F as H σ sl ce)(rs:Reps F as xs vs)(P:Post G E Rep F as σ sl Q (mkF (.tup xs) n ce)):n<=sizeLine/\∀p,H p=none->Q (.ref p) (upd H p (.tup vs)):=by
 revert P
 unfold mkF
 split
 ·rename_i h
  intro P
  refine⟨h,fun p hp=>?_⟩
  obtain⟨S',l⟩:=S.st.freeze (o:=.tup vs) hp
  exact P _ _ _ _ l (S.slots S' l) (by simp only[Rep];exact⟨p,vs,rfl,zat,rs.le l⟩)
 ·exact fun P=>P.elim
theorem zkY{c:C}{o:HO}{n:Nat}(S:SR G F as H σ sl ce)(hc:∀p as',Le F as F as'->CRep G F as' (upd H p o) p c)(P:Post G E Rep F as σ sl Q (mkC c n ce)):n<=sizeLine/\∀p,H p=none->Q (.ref p) (upd H p o):=by
 revert P
 unfold mkC
 split
 ·rename_i h
  intro P
  refine⟨h,fun p hp=>?_⟩
  obtain⟨S',l⟩:=S.st.alloc (c:=c) hp (hc p)
  exact P _ _ _ _ l (S.slots S' l) (by simp only[Rep];exact⟨p,rfl,by rw[<- S.st.len];simp⟩)
 ·exact fun P=>P.elim
theorem zkZ{xs:List W}{vs:List V}{n:Nat}(S:SR G F as H σ sl ce)(rs:Reps F as xs vs)(P:Post G E Rep F as σ sl Q (mkC (.lst xs) n ce)):n<=sizeLine/\∀p,H p=none->Q (.ref p) (upd H p (.lst vs)) :=
 zkY (c:=.lst xs) S (fun p as' l=>⟨vs,zat,rs.le l⟩) P
theorem zds{x1}(h:PA X es (zha G E dr)):PE X (.Tuple es x1 pos) (zau G E (zf1 dr)):=by
 refine PE.imp (znX h) fun σ H Q zz_=>el6 zz_ fun F as sl ce S P=>(step (RP:=Reps) S P).mono fun x H1 zz_=>el8 zz_ fun wx F1 as1 ce1 l1 S1 rx P1=>?_
 have:=zkX S1 rx P1
 rwa [<- Reps.length rx] at this
theorem zdE(h:PA X es (zha G E dr)):PE X (.List es pos) (zau G E (zh2 dr)):=by
 refine PE.imp (znY h) fun σ H Q zz_=>el6 zz_ fun F as sl ce S P=>(step (RP:=Reps) S P).mono fun x H1 zz_=>el8 zz_ fun wx F1 as1 ce1 l1 S1 rx P1=>?_
 have:=zkW S1 rx P1
 rwa [<- Reps.length rx] at this
theorem zbI(h:PA X es (zha G E dr)):PE X (.List es pos) (zau G E (zb9 dr)):=by
 refine PE.imp (znY h) fun σ H Q zz_=>el6 zz_ fun F as sl ce S P=>(step (RP:=Reps) S P).mono fun x H1 zz_=>el8 zz_ fun wx F1 as1 ce1 l1 S1 rx P1=>?_
 have:=zkZ S1 rx P1
 rwa [<- Reps.length rx] at this
def zgr:Sl->M W:=fun _=>mkC (.dct []) 0
theorem zfc:PE X (.Dict [] [] pos) (zau G E zgr):=by
 refine PE.imp zmF fun σ H Q zz_=>el6 zz_ fun F as sl ce S P=>?_
 exact(zkY (c:=.dct []) (o:=.dK []) S (fun p as' l=>⟨[],zat,.nil⟩) P).2
end
def zjO(kvs:List (Key×W))(k:Key):Option W:=(kvs.find? fun kv=>decide (kv.1=k)).map (·.2)
def zjP(kvs:List (Key×W))(k:Key)(v:W):List (Key×W) :=
 if (kvs.any fun kv=>decide (kv.1=k))=true then kvs.map (fun kv=>if kv.1=k then (kv.1,v) else kv) else kvs++[(k,v)]
section
variable {F:Hp} {as:List Addr} {kvs:List (Key×W)} {ps:List (Key×V)}
theorem RepKV.val(r:RepKV F as kvs ps)(k:Key):(zjO kvs k=none/\zjJ ps k=none)\/∃w v,zjO kvs k=some w/\zjJ ps k=some v/\Rep F as w v:=by
 induction r with
 | nil=>exact .inl ⟨rfl,rfl⟩
 | @cons p q l1 l2 h t ih =>
  obtain⟨e,rv⟩:=h
  by_cases hk:p.1=k
  ·refine .inr ⟨p.2,q.2,?_,zeP (by rw[<- e];exact hk),rv⟩
   simp[zjO,find?_cons,hk]
  ·have e1:zjO (p::l1) k=zjO l1 k:=by simp only[zjO,find?_cons,hk,decide_false]
   rw[e1,zeQ (by rw[<- e];exact hk)]
   exact ih
theorem RepKV.any(r:RepKV F as kvs ps)(k:Key):(kvs.any fun kv=>decide (kv.1=k))=(ps.any fun kv=>decide (kv.1=k)):=by
 induction r with
 | nil=>rfl
 | cons h t ih=>rw[any_cons,any_cons,ih,h.1]
theorem RepKV.mapPut{w:W}{v:V}(k:Key)(rv:Rep F as w v)(r:RepKV F as kvs ps):RepKV F as (kvs.map fun kv=>if kv.1=k then (kv.1,w) else kv) (ps.map fun kv=>if kv.1=k then (kv.1,v) else kv):=by
 induction r with
 | nil=>exact .nil
 | @cons p q l1 l2 h t ih =>
  rw[map_cons,map_cons]
  refine .cons ?_ ih
  by_cases hk:p.1=k
  ·rw[if_pos hk,if_pos (by rw[<- h.1];exact hk)]
   exact⟨h.1,rv⟩
  ·rw[if_neg hk,if_neg (by rw[<- h.1];exact hk)]
   exact h
theorem RepKV.put{w:W}{v:V}(r:RepKV F as kvs ps)(k:Key)(rv:Rep F as w v):RepKV F as (zjP kvs k w) (zg9 ps k v):=by
 unfold zjP zg9
 rw[r.any k]
 split
 ·exact r.mapPut k rv
 ·exact Paired.app r (.cons ⟨rfl,rv⟩ .nil)
theorem RepKV.length(r:RepKV F as kvs ps):kvs.length=ps.length:=Paired.length r
end
def zn7(ng:Bool)(ce:Ce)(x y:W):Option W:=match zj9 x,zqb ce y with
 | some k,some kvs=>some (.bl (if ng then !(zjO kvs k).isSome else (zjO kvs k).isSome))
 | _,_=>none
section
variable {X:Cx} {G:Ga} {E:XK} {a b c:Expr} {da db dc:Sl->M W} {pos:Pos}
theorem zo9(ng:Bool)(σ:L2.St)(H:Hp)(Q:VK)(h:zau G E (zaO (zn7 ng) da db) σ H Q) :
  zau G E da σ H fun y H1=>zau G E db σ H1 fun x H2=>∃a o,x=.ref a/\DGet H2 a y o/\Q (.bl (if ng then !o.isSome else o.isSome)) H2:=by
 obtain⟨F,as,sl,ce,S,P⟩:=h
 refine(step S P).mono fun x H1 zz_=>el8 zz_ fun wx F1 as1 ce1 l1 S1 rx P1=>(step S1 P1).mono fun y H2 zz_=>el8 zz_ fun wy F2 as2 ce2 l2 S2 ry P2=>?_
 obtain⟨w,e,P3⟩:=zbD P2
 unfold zn7 at e
 split at e
 ·rename_i k kvs hk hd
  cases e
  obtain⟨n,a,ps,rfl,rfl,ha,hH,rk⟩:=zkQ S2.st ry hd
  rw[zif rx hk]
  refine⟨a,_,rfl,DGet.k hH,?_⟩
  rcases rk.val k with ⟨e1,e2⟩|⟨w,v,e1,e2,_⟩
  ·rw[e1] at P3;rw[e2];exact P3.done S2 (by simp only[Rep];cases ng<;>rfl)
  ·rw[e1] at P3;rw[e2];exact P3.done S2 (by simp only[Rep];cases ng<;>rfl)
 ·cases e
theorem zhy(hu:X.A.units+1<cLine)(ha:PE X a (zau G E da))(hb:PE X b (zau G E db))(h1:behindInMarks .NotIn b=false):PT X (.Compare a [.NotIn] [b] pos) (zcC G E (dB (zaO (zn7 true) da db))):=zo6 ⟨_,zkE hu ha hb,zo9 true⟩ h1
def ixW(ce:Ce)(x y:W):Option W:=match zeR ce x,y with
 | some xs,.int i=>atI xs i
 | _,_=>none
theorem Reps.atI{F:Hp}{as:List Addr}{ws:List W}{vs:List V}{i:Int}{w:W}(r:Reps F as ws vs)(h:L2.atI ws i=some w):∃v,L2.atI vs i=some v/\Rep F as w v:=by
 unfold L2.atI at h ⊢
 rw[r.length]
 cases e:ixN ws.length i with
 | none=>rw[e] at h;cases h
 | some j=>rw[e] at h;exact r.get h
theorem zq7(K:PySem.W.Frag):OpC (fun x y H Q=>zsZ K x y H Q\/zs0 K x y H Q) ixW:=by
 intro G F as H ce x y wx wy w S rx ry e Q q
 unfold ixW at e
 split at e
 ·rename_i xs i hs
  obtain⟨a,vs,rfl,h,rs⟩:=zgq S rx hs
  obtain⟨v,hv,rv⟩:=rs.atI e
  simp only[Rep] at ry
  subst ry
  rcases h with h|h
  ·exact .inl ⟨a,vs,i,v,rfl,rfl,.inl h,hv,q _ rv⟩
  ·exact .inr ⟨a,vs,i,v,rfl,rfl,.inl h,hv,q _ rv⟩
 ·cases e
theorem zaK(ha:PE X a (zau G E da))(hb:PE X b (zau G E db))(hs:zkv b):PE X (.Subscript a b pos) (zau G E (zaO ixW da db)):=PE.imp (zsY (IxR.or (ixL X.K rfl) (ixT X.K rfl)) ha hb hs) (zbV (zq7 _))
def zbo:Sl->M (Option Int):=fun _=>ret none
def zbY(d:Sl->M W):Sl->M (Option Int):=fun sl=>bnd (d sl) fun w=>match w with
 | .int i=>ret (some i)
 | _=>zgm
def rO:Hp->List Addr->Option Int->Option Int->Prop:=fun _ _ a b=>a=b
abbrev zso(G:Ga)(E:XK)(d:Sl->M (Option Int)):TO:=toT G E rO d
theorem PO.imp{e:Option Expr}{t t':TO}(h:PO X e t)(q:∀σ H Q,t' σ H Q->t σ H Q):PO X e t':=fun pins s σ H Q I z=>h pins s σ H Q I (q _ _ _ z)
theorem zei:PO X none (zso G E zbo):=PO.imp zoQ fun σ H Q zz_=>el6 zz_ fun F as sl ce S P=>Post.done (RP:=rO) S (a:=none) P rfl
theorem zcp(h:PE X a (zau G E da)):PO X (some a) (zso G E (zbY da)):=by
 refine PO.imp (zoR h) fun σ H Q zz_=>el6 zz_ fun F as sl ce S P=>(step S P).mono fun x H1 zz_=>el8 zz_ fun wx F1 as1 ce1 l1 S1 rx P1=>?_
 cases wx<;>first|exact(show False from P1).elim|skip
 simp only[Rep] at rx
 exact⟨_,rx,Post.done (RP:=rO) S1 (a:=some _) P1 rfl⟩
def zmP(xs:List W)(lo hi:Option Int):List W:=(xs.drop (HT.sIx xs.length 0 lo)).take (HT.sIx xs.length xs.length hi-HT.sIx xs.length 0 lo)
theorem Reps.cut{F:Hp}{as:List Addr}{ws:List W}{vs:List V}(r:Reps F as ws vs)(lo hi:Option Int):Reps F as (zmP ws lo hi) (zp9 vs lo hi):=by
 unfold zmP zp9
 rw[r.length]
 exact(r.drop _).take _
def slW(mk:List W->M W)(x:W)(lo hi:Option Int):M W:=fun ce=>match zcg ce x with
 | some xs=>mk (zmP xs lo hi) ce
 | none=>none
def zbs(xs:List W):M W:=mkF (.lst xs) xs.length
def zgs(xs:List W):M W:=mkC (.lst xs) xs.length
def ztj(xs:List W):M W:=mkF (.tup xs) xs.length
def dSl(mk:List W->M W)(d:Sl->M W)(l h:Sl->M (Option Int)):Sl->M W:=fun sl=>bnd (d sl) fun x=>bnd (l sl) fun lo=>bnd (h sl) fun hi=>slW mk x lo hi
def MkL(G:Ga)(E:XK)(mk:List W->M W):Prop:=∀{F:Hp} {as:List Addr} {H:Hp} {σ:VS.St} {sl:Sl} {ce:Ce} {Q:VK} {xs:List W} {vs:List V},SR G F as H σ sl ce->Reps F as xs vs->Post G E Rep F as σ sl Q (mk xs ce)->xs.length<=sizeLine/\∀p,H p=none->Q (.ref p) (upd H p (.lst vs))
theorem zdF:MkL G E zbs:=fun S rs P=>zkW S rs P
theorem zmb:MkL G E zgs:=fun S rs P=>zkZ S rs P
theorem zhz{lo hi:Option Expr}{dl dh:Sl->M (Option Int)}{mk:List W->M W}{p2:Pos}(hm:MkL G E mk)(he:PE X a (zau G E da))(hl:PO X lo (zso G E dl))(hu:PO X hi (zso G E dh)):PE X (.Subscript a (.Slice lo hi none p2) pos) (zau G E (dSl mk da dl dh)):=by
 refine PE.imp (zmw (L2.slL X.K) he hl hu) fun σ H Q zz_=>el6 zz_ fun F as sl ce S P=>(step S P).mono fun x H1 zz_=>el8 zz_ fun wx F1 as1 ce1 l1 S1 rx P1=>(step (RP:=rO) S1 P1).mono fun y H2 zz_=>el8 zz_ fun wy F2 as2 ce2 l2 S2 ry P2=>(step (RP:=rO) S2 P2).mono fun z H3 zz_=>el8 zz_ fun wz F3 as3 ce3 l3 S3 rz P3=>?_
 have ry:wy=y:=ry
 have rz:wz=z:=rz
 subst ry rz
 unfold slW at P3
 cases e:zcg ce3 wx with
 | none=>rw[e] at P3;exact(show False from P3).elim
 | some xs =>
  rw[e] at P3
  obtain⟨p,vs,rfl,h,rs⟩:=zb8 S3.st ((rx.le l2).le l3) e
  exact⟨p,vs,rfl,.inl h,(hm S3 (rs.cut wy wz) P3).2⟩
open Classical in
def ztk(mk:List W->M W)(x y:W):M W:=fun ce=>match zcg ce x,zcg ce y with
 | some xs,some ys=>if xs.length+ys.length<=sizeLine then mk (xs++ys) ce else none
 | _,_=>none
def zk0(mk:List W->M W)(a b:Sl->M W):Sl->M W:=fun sl=>bnd (a sl) fun x=>bnd (b sl) fun y=>ztk mk x y
def ztl:R2:=fun x y H Q=>∃l b xs zs,x=.ref l/\y=.ref b/\Rd H l (.lst xs)/\Rd H b (.lst zs)/\xs.length+zs.length<=sizeLine/\∀p,H p=none->Q (.ref p) (upd H p (.lst (xs++zs)))
theorem Inv.lstR{pins:List (Addr×Obj)}{σ:VS.St}{H:Hp}{s:Shared}{l:Addr}{xs:List V}(I:Inv X pins σ H s)(hH:Rd H l (.lst xs)):xs.length<=sizeLine/\∃(its:List Value) (n:Nat),Vals xs its/\xs.length=its.length/\s.heap.get? l=some { cls:=.type "list",data:=.seq its.toArray n }:=by
 obtain⟨z,its,n,r,e⟩:=hH.ok I.hok
 exact⟨z,its,n,r,r.length,e⟩
theorem zpa:OpR X (binaryOp .Add) ztl:=by
 intro pins s σ H x y v u Q I rx ry h
 obtain⟨l,b,xs,zs,rfl,rfl,hH,hB,hz,q⟩:=h
 cases rx
 cases ry
 obtain⟨z,its,n,r,hl,e⟩:=Inv.lstR I hH
 obtain⟨z2,its2,n2,r2,hl2,e2⟩:=Inv.lstR I hB
 refine PySem.P.add_list e e2 ?_ (by rw[size_toArray,size_toArray];omega)
 have ea:its.toArray++its2.toArray=(its++its2).toArray:=by simp
 rw[ea]
 exact⟨.ref _,_,I.lnew (t':=s.toks) (r.append r2) (by rw[length_append];omega),rfl,q _ I.fresh⟩
theorem zhA{mk:List W->M W}(hm:MkL G E mk)(ha:PE X a (zau G E da))(hb:PE X b (zau G E db)):PE X (.BinOp a .Add b pos) (zau G E (zk0 mk da db)):=by
 refine PE.imp (zqF zpa ha hb) fun σ H Q h=>ziW h fun F as sl ce H2 x y wx wy S rx ry P=>?_
 unfold ztk at P
 split at P
 ·rename_i xs ys h1 h2
  split at P
  ·rename_i hl
   obtain⟨p,vs,rfl,q1,r1⟩:=zb8 S.st rx h1
   obtain⟨p',us,rfl,q2,r2⟩:=zb8 S.st ry h2
   exact⟨p,p',vs,us,rfl,rfl,q1,q2,by rw[r1.length,r2.length];exact hl,(hm S (r1.append r2) P).2⟩
  ·exact(show False from P).elim
 ·exact(show False from P).elim
end
end
section
inductive Fl where
 | nx|bk|ct|rt (w:W)
inductive O where
 | go (f:Fl) (sl:Sl) (ce:Ce)|ex (x:Exn) (ce:Ce)
abbrev DS:=Sl->Ce->Option O
def ztm(D:Ends)(F:Hp)(as:List Addr)(σ:VS.St)(H:Hp):Fl->Prop
 | .nx=>D.nx σ H
 | .bk=>D.bk σ H
 | .ct=>D.ct σ H
 | .rt w=>∀v,Rep F as w v->D.rt v H
def PostS(G:Ga)(E:XK)(D:Ends)(F:Hp)(as:List Addr):Option O->Prop
 | some (.go f sl' ce')=>∀σ' H' F' as',Le F as F' as'->SR G F' as' H' σ' sl' ce'->ztm D F' as' σ' H' f
 | some (.ex x ce')=>∀H' F' as' cv od,Le F as F' as'->Store G F' as' H' ce'->G.xr x cv od H'->E cv od H'
 | none=>False
def toTS(G:Ga)(E:XK)(d:DS):TS:=fun D σ H=>∃F as sl ce,SR G F as H σ sl ce/\PostS G E D F as (d sl ce)
def lft{α:Type}(m:Option (R α))(k:α->Ce->Option O):Option O:=match m with
 | some (.ok a ce')=>k a ce'
 | some (.ex x ce')=>some (.ex x ce')
 | none=>none
section
variable {α β:Type} {G:Ga} {E:XK} {RP:Hp->List Addr->α->β->Prop} {F F':Hp} {as as':List Addr} {H:Hp} {σ:VS.St} {sl:Sl} {ce:Ce} {D D':Ends}
theorem PostS.le{r:Option O}(l:Le F as F' as')(P:PostS G E D F as r):PostS G E D F' as' r:=by
 cases r with
 | none=>exact P
 | some r=>cases r with
  | go f sl' ce'=>exact fun σ' H' F2 as2 l2=>P σ' H' F2 as2 (l.trans l2)
  | ex x ce'=>exact fun H' F2 as2 cv od l2=>P H' F2 as2 cv od (l.trans l2)
theorem zej{d:Sl->M α}{k:α->Ce->Option O}(S:SR G F as H σ sl ce)(P:PostS G E D F as (lft (d sl ce) k)) :
  toT G E RP d σ H fun b H2=>∃a F' as' ce',Le F as F' as'/\SR G F' as' H2 σ sl ce'/\RP F' as' a b/\PostS G E D F' as' (k a ce'):=by
 refine⟨F,as,sl,ce,S,?_⟩
 revert P
 unfold lft
 cases d sl ce with
 | none=>exact fun P=>P
 | some r=>cases r with
  | ok a ce'=>exact fun P b H' F' as' l S' r=>⟨a,F',as',ce',l,S',r,P.le l⟩
  | ex x ce'=>exact fun P=>P
theorem PostS.nxt(S:SR G F as H σ sl ce)(P:PostS G E D F as (some (.go .nx sl ce))):D.nx σ H:=P σ H F as .refl S
end
def zaZ:DS:=fun sl ce=>some (.go .nx sl ce)
def zt2:DS:=fun sl ce=>some (.go .ct sl ce)
def zap(a b:DS):DS:=fun sl ce=>match a sl ce with
 | some (.go .nx sl' ce')=>b sl' ce'
 | r=>r
def dEx(d:Sl->M W):DS:=fun sl ce=>lft (d sl ce) fun _ ce'=>some (.go .nx sl ce')
def zbt(d:Sl->M W):DS:=fun sl ce=>lft (d sl ce) fun w ce'=>some (.go (.rt w) sl ce')
def dIf(c:Sl->M Bool)(a b:DS):DS:=fun sl ce=>lft (c sl ce) fun t ce'=>match t with
 | true=>a sl ce'
 | false=>b sl ce'
abbrev DG:=W->Sl->Ce->Option (Sl×Ce)
def gN(i:Nat):DG:=fun w sl ce=>some (sl.set i (some w),ce)
def zk1(d:Sl->M W)(g:DG):DS:=fun sl ce=>lft (d sl ce) fun w ce'=>match g w sl ce' with
 | some (sl',ce'')=>some (.go .nx sl' ce'')
 | none=>none
def za6(i:Nat)(d:Sl->M W):DS:=fun sl ce=>lft (d sl ce) fun w ce'=>some (.go .nx (sl.set i (some w)) ce')
def PGv(G:Ga)(X:Cx)(tg:Expr)(g:DG):Prop:=∃t:TG,PG X tg t/\∀F as H σ sl ce w v sl' ce' (Q:VS.St->Hp->Prop),SR G F as H σ sl ce->Rep F as w v->g w sl ce=some (sl',ce') ->
 (∀σ' H' F' as',Le F as F' as'->SR G F' as' H' σ' sl' ce'->Q σ' H')->t v σ H Q
def zsp(G:Ga)(X:Cx)(tgs:List Expr)(g:List W->Sl->Ce->Option (Sl×Ce)):Prop:=∃t:TGs,PGs X tgs t/\∀F as H σ sl ce ws vs sl' ce' (Q:VS.St->Hp->Prop),SR G F as H σ sl ce->Reps F as ws vs->g ws sl ce=some (sl',ce') ->
 (∀σ' H' F' as',Le F as F' as'->SR G F' as' H' σ' sl' ce'->Q σ' H')->t vs σ H Q
def zmQ:List W->Sl->Ce->Option (Sl×Ce):=fun ws sl ce=>match ws with
 | []=>some (sl,ce)
 | _=>none
def zex(g:DG)(r:List W->Sl->Ce->Option (Sl×Ce)):List W->Sl->Ce->Option (Sl×Ce):=fun ws sl ce=>match ws with
 | w::ws=>match g w sl ce with
  | some (sl',ce')=>r ws sl' ce'
  | none=>none
 | []=>none
def gT(n:Nat)(r:List W->Sl->Ce->Option (Sl×Ce)):DG:=fun w sl ce=>match w with
 | .tup ws=>if ws.length=n then r ws sl ce else none
 | _=>none
section
variable {X:Cx} {G:Ga} {E:XK} {st:Stmt} {rest:List Stmt} {a b:DS} {e tg:Expr} {d da db dc:Sl->M W} {c:Sl->M Bool} {g:DG} {pos:Pos}
theorem zaD:PSs X [] (toTS G E zaZ):=PSs.imp zoE fun D σ H zz_=>el6 zz_ fun F as sl ce S P=>P.nxt S
theorem zig:PS X (.Continue pos) (toTS G E zt2):=PS.imp zh7 fun D σ H zz_=>el6 zz_ fun F as sl ce S P=>P σ H F as .refl S
theorem zah(h:PS X st (toTS G E a)):PSs X [st] (toTS G E a):=zkh h
theorem zad(h1:PS X st (toTS G E a))(h2:PSs X rest (toTS G E b)):PSs X (st::rest) (toTS G E (zap a b)):=by
 refine PSs.imp (ziQ h1 h2) fun D σ H zz_=>el6 zz_ fun F as sl ce S P=>⟨F,as,sl,ce,S,?_⟩
 revert P
 unfold zap
 cases a sl ce with
 | none=>exact fun P=>P.elim
 | some r=>cases r with
  | ex x ce'=>exact fun P=>P
  | go f sl' ce'=>cases f with
   | nx=>exact fun P σ' H' F' as' l S'=>⟨F',as',sl',ce',S',P.le l⟩
   | bk=>exact fun P=>P
   | ct=>exact fun P=>P
   | rt w=>exact fun P=>P
theorem za1(he:PE X e (zau G E d))(hs:swapsWith e none pos.line X.env=pure false:=by rfl):PS X (.Expr e pos) (toTS G E (dEx d)) :=
 PS.imp (zki he hs) fun D σ H zz_=>el6 zz_ fun F as sl ce S P=>(zej S P).mono fun x H1 zz_=>el8 zz_ fun wx F1 as1 ce1 l1 S1 rx P1=>P1.nxt S1
theorem zaz(he:PE X e (zau G E d)):PS X (.Return (some e) pos) (toTS G E (zbt d)) :=
 PS.imp (zqx he) fun D σ H zz_=>el6 zz_ fun F as sl ce S P=>(zej S P).mono fun x H1 zz_=>el8 zz_ fun wx F1 as1 ce1 l1 S1 rx P1=>P1 σ H1 F1 as1 .refl S1 x rx
theorem za8{t:Expr}{sa sb:List Stmt}(hc:PT X t (zcC G E c))(ha:PSs X sa (toTS G E a))(hb:PSs X sb (toTS G E b)):PS X (.If t sa sb pos) (toTS G E (dIf c a b)):=by
 refine PS.imp (zsF hc ha hb) fun D σ H zz_=>el6 zz_ fun F as sl ce S P=>(zej (RP:=rB) S P).mono fun x H1 zz_=>el8 zz_ fun wx F1 as1 ce1 l1 S1 rx P1=>?_
 have rx:wx=x:=rx
 subst rx
 cases wx
 ·rw[if_neg Bool.false_ne_true];exact⟨F1,as1,sl,ce1,S1,P1⟩
 ·rw[if_pos rfl];exact⟨F1,as1,sl,ce1,S1,P1⟩
theorem zas{i:Nat}{x:Str}{pos':Pos}(hN:X.N.Nodup)(hi:X.N[i]?=some x)(hx:Loc X.env.scope x)(he:PE X e (zau G E d))(hs:swapsWith e (some (.Name x pos')) pos.line X.env=pure false:=by rfl)(hf:X.fn x=true\/X.env.scope.names.lookup x=some .local:=by first|exact .inl rfl|exact .inr rfl|assumption):PS X (.Assign [.Name x pos'] e pos) (toTS G E (za6 i d)) :=
 PS.imp (zqB hN hi hx he hs hf) fun D σ H zz_=>el6 zz_ fun F as sl ce S P=>(zej S P).mono fun x H1 zz_=>el8 zz_ fun wx F1 as1 ce1 l1 S1 rx P1=>P1 _ H1 F1 as1 .refl (S1.put rx i)
theorem zaM{i:Nat}{x:Str}(hN:X.N.Nodup)(hi:X.N[i]?=some x)(hx:Loc X.env.scope x)(hf:X.fn x=true\/X.env.scope.names.lookup x=some .local:=by first|exact .inl rfl|exact .inr rfl|assumption):PGv G X (.Name x pos) (gN i) :=
 ⟨gName i,zh8 hN hi hx hf,fun F as H σ sl ce w v sl' ce' Q S r e k=>by
  cases e
  exact k _ _ _ _ .refl (S.put r i)⟩
theorem zk2:zsp G X [] zmQ:=⟨_,zoF,fun F as H σ sl ce ws vs sl' ce' Q S r e k=>by
 cases ws with
 | nil=>cases e;simp only[Reps] at r;exact⟨r,k _ _ _ _ .refl S⟩
 | cons w ws=>cases e⟩
theorem zeS{es:List Expr}{r:List W->Sl->Ce->Option (Sl×Ce)}(h1:PGv G X e g)(h2:zsp G X es r)(hs:(assignEach (e::es) X.env).map (·.2)=assign e X.env::(assignEach es X.env).map (·.2):=by rfl):zsp G X (e::es) (zex g r):=by
 obtain⟨t,h1,q1⟩:=h1
 obtain⟨u,h2,q2⟩:=h2
 refine⟨_,zmk h1 h2 hs,fun F as H σ sl ce ws vs sl' ce' Q S rs e k=>?_⟩
 cases ws with
 | nil=>cases e
 | cons w ws =>
  simp only[Reps] at rs
  obtain⟨v,vs',rfl,rv,rs⟩:=rs
  simp only[zex] at e
  split at e
  ·rename_i sl1 ce1 eg
   refine⟨v,vs',rfl,q1 F as H σ sl ce w v sl1 ce1 _ S rv eg fun σ' H' F' as' l S'=>?_⟩
   exact q2 F' as' H' σ' sl1 ce1 ws vs' sl' ce' Q S' (rs.le l) e fun σ2 H2 F2 as2 l2 S2=>k _ _ _ _ (l.trans l2) S2
  ·cases e
theorem zn8{es:List Expr}{k n:Nat}{r:List W->Sl->Ce->Option (Sl×Ce)}(hc:X.calm=true)(h:zsp G X es r)(hn:(assignEach es X.env).length=n:=by rfl)(hst:(assignEach es X.env).findIdx? (·.1)=none:=by rfl):PGv G X (.Tuple es k pos) (gT n r):=by
 obtain⟨t,h,q⟩:=h
 refine⟨_,zqy hc h hn hst,fun F as H σ sl ce w v sl' ce' Q S rw' e k=>?_⟩
 cases w<;>simp only[gT,reduceCtorEq] at e
 split at e
 ·rename_i ws hl
  simp only[Rep] at rw'
  obtain⟨a,vs,rfl,ha,rs⟩:=rw'
  exact⟨a,vs,rfl,.inl (.inl (S.st.sub _ _ ha)),by rw[rs.length];exact hl,q F as H σ sl ce _ vs sl' ce' Q S rs e k⟩
 ·cases e
theorem zi4(he:PE X e (zau G E d))(hg:PGv G X tg g)(hs:swapsWithSole [tg] e pos.line X.env=pure false:=by rfl)(hw:swappedStores [tg] e X.env=pure none:=by rfl)(h1:(assignEach [tg] X.env).map (·.2)=[assign tg X.env]:=by rfl):PS X (.Assign [tg] e pos) (toTS G E (zk1 d g)):=by
 obtain⟨t,hg,q⟩:=hg
 refine PS.imp (zqA he hg hs hw h1) fun D σ H zz_=>el6 zz_ fun F as sl ce S P=>(zej S P).mono fun x H1 zz_=>el8 zz_ fun wx F1 as1 ce1 l1 S1 rx P1=>?_
 split at P1
 ·rename_i sl' ce'' eg
  exact q F1 as1 H1 σ sl ce1 wx x sl' ce'' _ S1 rx eg fun σ' H' F' as' l S'=>P1 σ' H' F' as' l S'
 ·exact(show False from P1).elim
def zmc(ce:Ce):W->Option (Nat×List W)
 | .cel k=>match ce[k]? with
  | some (.lst xs)=>some (k,xs)
  | _=>none
 | _=>none
def zn9(ce:Ce):W->Option (Nat×List (Key×W))
 | .cel k=>match ce[k]? with
  | some (.dct xs)=>some (k,xs)
  | _=>none
 | _=>none
theorem zdG{F:Hp}{as:List Addr}{H:Hp}{ce:Ce}{w:W}{v:V}{k:Nat}{xs:List W}(S:Store G F as H ce)(r:Rep F as w v)(e:zmc ce w=some (k,xs)):∃a vs,v=.ref a/\as[k]?=some a/\H a=some (.lst vs)/\Reps F as xs vs:=by
 cases w<;>simp only[zmc,reduceCtorEq] at e
 split at e
 ·rename_i hc
  cases e
  simp only[Rep] at r
  obtain⟨a,rfl,h⟩:=r
  obtain⟨_,vs,h2,rs⟩:=S.cell _ _ _ h hc
  exact⟨a,vs,rfl,h,h2,rs⟩
 ·cases e
theorem zmR{F:Hp}{as:List Addr}{H:Hp}{ce:Ce}{w:W}{v:V}{k:Nat}{xs:List (Key×W)}(S:Store G F as H ce)(r:Rep F as w v)(e:zn9 ce w=some (k,xs)):∃a ps,v=.ref a/\as[k]?=some a/\H a=some (.dK ps)/\RepKV F as xs ps:=by
 cases w<;>simp only[zn9,reduceCtorEq] at e
 split at e
 ·rename_i hc
  cases e
  simp only[Rep] at r
  obtain⟨a,rfl,h⟩:=r
  obtain⟨_,ps,h2,rs⟩:=S.cell _ _ _ h hc
  exact⟨a,ps,rfl,h,h2,rs⟩
 ·cases e
def zgt(o i:Sl->M W):DG:=fun w sl ce=>match o sl ce with
 | some (.ok ow ce1)=>match i sl ce1 with
  | some (.ok (.int j) ce2)=>match zmc ce2 ow with
   | some (k,xs)=>match ixN xs.length j with
    | some n=>some (sl,ce2.set k (.lst (xs.set n w)))
    | none=>none
   | none=>none
  | _=>none
 | _=>none
theorem zih{o i:Expr}(ho:PE X o (zau G E da))(hi:PE X i (zau G E db))(hA:∀v,assign (.Subscript o i pos) X.env v=(do
   let ov <- holding [v] (eval o X.env)
   let iv <- holding [v,ov] (eval i X.env)
   standAt pos
   holding [v,ov,iv] (setItem ov iv v)
   release [v,ov,iv] []):=by intro _;rfl):PGv G X (.Subscript o i pos) (zgt da db):=by
 refine⟨_,zqz ho hi zmx hA,fun F as H σ sl ce w v sl' ce' Q S rw' e k=>?_⟩
 unfold zgt at e
 refine⟨F,as,sl,ce,S,?_⟩
 cases e1:da sl ce with
 | none=>rw[e1] at e;cases e
 | some r1=>cases r1 with
  | ex x c=>rw[e1] at e;cases e
  | ok ow ce1 =>
   rw[e1] at e
   intro ov H1 F1 as1 l1 S1 ro
   refine⟨F1,as1,sl,ce1,S1,?_⟩
   dsimp only at e
   cases e2:db sl ce1 with
   | none=>rw[e2] at e;cases e
   | some r2=>cases r2 with
    | ex x c=>rw[e2] at e;cases e
    | ok iw ce2 =>
     rw[e2] at e
     intro iv H2 F2 as2 l2 S2 ri
     cases iw<;>simp only[reduceCtorEq] at e
     rename_i j
     split at e
     ·rename_i kk xs hk
      split at e
      ·rename_i n hn
       cases e
       simp only[Rep] at ri
       subst ri
       obtain⟨a,vs,rfl,ha,hH,rs⟩:=zdG S2.st (ro.le l2) hk
       have rset:=rs.set n ((rw'.le l1).le l2)
       refine⟨a,vs,j,n,rfl,rfl,hH,by rw[rs.length];exact hn,?_⟩
       exact k _ _ _ _ (l1.trans l2) (S2.slots (S2.st.write (o:=.lst (vs.set n v)) (c:=.lst (xs.set n w)) ha ⟨_,zat,rset⟩) .refl)
      ·cases e
     ·cases e
open Classical in
def zka(o i v:Sl->M W):DS:=fun sl ce=>lft (v sl ce) fun w ce1=>lft (o sl ce1) fun ow ce2=>lft (i sl ce2) fun iw ce3=>match zj9 iw,zn9 ce3 ow with
 | some key,some (k,kvs)=>if kvs.length<sizeLine then some (.go .nx sl (ce3.set k (.dct (zjP kvs key w)))) else none
 | _,_=>none
theorem zfd{o i value:Expr}{pos':Pos}(hu:X.A.units+1<cLine)(ho:PE X o (zau G E da))(hi:PE X i (zau G E db))(hv:PE X value (zau G E dc))(hs:swapsWith value (some (.Subscript o i pos')) pos.line X.env=pure false:=by rfl) :
  PS X (.Assign [.Subscript o i pos'] value pos) (toTS G E (zka da db dc)):=by
 refine PS.imp (zoZ hu ho hi hv hs) fun D σ H zz_=>el6 zz_ fun F as sl ce S P=>(zej S P).mono fun x H1 zz_=>el8 zz_ fun wx F1 as1 ce1 l1 S1 rx P1=>(zej S1 P1).mono fun y H2 zz_=>el8 zz_ fun wy F2 as2 ce2 l2 S2 ry P2=>(zej S2 P2).mono fun z H3 zz_=>el8 zz_ fun wz F3 as3 ce3 l3 S3 rz P3=>?_
 split at P3
 ·rename_i key kk kvs hk hc
  split at P3
  ·rename_i hl
   obtain⟨a,ps,rfl,ha,hH,rk⟩:=zmR S3.st (ry.le l3) hc
   rw[zif rz hk]
   have rput:=rk.put key ((rx.le l2).le l3)
   refine⟨a,_,rfl,DPut.k hH (by rw[<- rk.length];exact hl),?_⟩
   exact P3 _ _ _ _ .refl (S3.slots (S3.st.write (o:=.dK (zg9 ps key x)) (c:=.dct (zjP kvs key wx)) ha ⟨_,zat,rput⟩) .refl)
  ·exact(show False from P3).elim
 ·exact(show False from P3).elim
end
end
section
inductive Src where
 | lst (xs:List W)|tup (xs:List W)|cell (k:Nat) (xs:List W)|rng (lo:Int) (n:Nat)|dky (xs:List W)
def kW:Key->W
 | .inl i=>.int i
 | .inr x=>.str x
def Src.items:Src->List W
 | .lst xs=>xs
 | .tup xs=>xs
 | .cell _ xs=>xs
 | .rng lo n=>(List.range n).map fun(i:Nat)=>W.int (lo+(i:Int))
 | .dky xs=>xs
def Src.Stays(ce:Ce):Src->Prop
 | .cell k xs=>ce[k]?=some (.lst xs)
 | _=>True
def IRep(K:PySem.W.Frag)(F:Hp)(as:List Addr):Src->It->Prop
 | .lst xs,J=>∃a vs,J=Itl K a/\Rd F a (.lst vs)/\Reps F as xs vs
 | .tup xs,J=>∃a vs,J=Itt K a/\Rd F a (.tup vs)/\Reps F as xs vs
 | .cell k _,J=>∃a,J=Itl K a/\as[k]?=some a
 | .rng lo n,J=>J=Itr lo n
 | .dky xs,J=>∃a o ps,J=Itd a o ps/\F a=some (.frz o (.dK ps))/\xs=ps.map fun p=>kW p.1
theorem IRep.le{K:PySem.W.Frag}{F F':Hp}{as as':List Addr}{s:Src}{J:It}(l:Le F as F' as')(h:IRep K F as s J):IRep K F' as' s J:=by
 cases s with
 | lst xs=>obtain⟨a,vs,e,h,r⟩:=h;exact⟨a,vs,e,l.rd h,r.le l⟩
 | tup xs=>obtain⟨a,vs,e,h,r⟩:=h;exact⟨a,vs,e,l.rd h,r.le l⟩
 | cell k xs=>obtain⟨a,e,h⟩:=h;exact⟨a,e,l.c _ _ h⟩
 | rng lo n=>exact h
 | dky xs=>obtain⟨a,o,ps,e,h,q⟩:=h;exact⟨a,o,ps,e,l.f _ _ h,q⟩
theorem IRep.turn{G:Ga}{K:PySem.W.Frag}{F:Hp}{as:List Addr}{H:Hp}{ce:Ce}{s:Src}{J:It}(S:Store G F as H ce)(h:IRep K F as s J)(hs:s.Stays ce)(i:Nat) :
  (i<s.items.length->J.go i H/\∀x H',J.yld i H x H'->H'=H/\∃w,s.items[i]?=some w/\Rep F as w x)/\(i=s.items.length->J.stop i H):=by
 have lst:∀{a:Addr} {vs:List V} {xs:List W},SqL K H a vs->Reps F as xs vs->(i<xs.length->(Itl K a).go i H/\∀x H',(Itl K a).yld i H x H'->H'=H/\∃w,xs[i]?=some w/\Rep F as w x)/\(i=xs.length->(Itl K a).stop i H):=by
  intro a vs xs hq rs
  have hl:=rs.length
  refine⟨fun hi=>⟨⟨vs,vs[i]'(by omega),hq,by simp⟩,fun x H' y=>?_⟩,fun hi=>⟨vs,hq,by omega⟩⟩
  obtain⟨e,y⟩:=y
  exact⟨e,rs.get' (y vs hq)⟩
 cases s with
 | lst xs=>obtain⟨a,vs,rfl,h,r⟩:=h;exact lst (.inl (Rd.sub S h)) r
 | cell k xs =>
  obtain⟨a,rfl,h⟩:=h
  obtain⟨_,vs,h2,rs⟩:=S.cell _ _ _ h hs
  exact lst (.inl (.inl h2)) rs
 | tup xs =>
  obtain⟨a,vs,rfl,h,rs⟩:=h
  have hq:SqT K H a vs:=.inl (Rd.sub S h)
  have hl:=rs.length
  refine⟨fun hi=>⟨⟨vs,vs[i]'(by show i<_;simp only[Src.items] at hi;omega),hq,by simp⟩,fun x H' y=>?_⟩,fun hi=>⟨vs,hq,by simp only[Src.items] at hi;omega⟩⟩
  obtain⟨e,y⟩:=y
  exact⟨e,rs.get' (y vs hq)⟩
 | rng lo n =>
  cases h
  have hl:(Src.rng lo n).items.length=n:=by simp[Src.items]
  rw[hl]
  refine⟨fun hi=>⟨hi,fun x H' y=>?_⟩,fun hi=>by rw[hi];exact le_refl _⟩
  obtain⟨e,rfl⟩:=y
  refine⟨e,.int (lo+i),?_,by simp only[Rep]⟩
  simp[Src.items,hi]
 | dky xs =>
  obtain⟨a,o,ps,rfl,h,rfl⟩:=h
  have hH:=S.sub _ _ h
  have hl:(Src.dky (ps.map fun p=>kW p.1)).items.length=ps.length:=by simp[Src.items]
  rw[hl]
  refine⟨fun hi=>⟨⟨hH,hi⟩,fun x H' y=>?_⟩,fun hi=>⟨hH,hi.symm⟩⟩
  obtain⟨e,p,hp,rfl⟩:=y
  refine⟨e,kW p.1,by simp only[Src.items,getElem?_map,hp,map_some],?_⟩
  cases p.1<;>simp only[kW,kV,Rep]
abbrev zoa(G:Ga)(E:XK)(K:PySem.W.Frag)(d:Sl->M Src):TI:=toT G E (IRep K) d
theorem PI.imp{X:Cx}{tg e:Expr}{t t':TI}(h:PI X tg e t)(q:∀σ H R,t' σ H R->t σ H R):PI X tg e t':=fun pins s σ H Q I z=>h pins s σ H Q I (q _ _ _ z)
def zii(ce:Ce):W->Option Src
 | .lst xs=>some (.lst xs)
 | .cel k=>match ce[k]? with
  | some (.lst xs)=>some (.cell k xs)
  | _=>none
 | _=>none
def ztn:W->Option Src
 | .tup xs=>some (.tup xs)
 | _=>none
def dID(d:Sl->M W):Sl->M Src:=fun sl=>bnd (d sl) fun w ce=>match w with
 | .cel k=>match ce[k]? with
  | some (.dct kvs)=>some (.ok (.dky (kvs.map fun p=>kW p.1)) (ce.set k (.fzd kvs)))
  | some (.fzd kvs)=>some (.ok (.dky (kvs.map fun p=>kW p.1)) ce)
  | _=>none
 | _=>none
def dIL(d:Sl->M W):Sl->M Src:=fun sl=>bnd (d sl) fun w=>look fun ce=>zii ce w
def dIT(d:Sl->M W):Sl->M Src:=fun sl=>bnd (d sl) fun w=>look fun _=>ztn w
open Classical in
def zmd:List W->Option Src
 | [.int j]=>@ite _ (-4611686018427387904<=j/\j<4611686018427387904) (Classical.propDecidable _) (some (.rng 0 j.toNat)) none
 | _=>none
def zgu(d:Sl->M (List W)):Sl->M Src:=fun sl=>bnd (d sl) fun ws=>look fun _=>zmd ws
section
variable {X:Cx} {G:Ga} {E:XK} {tg a b:Expr} {da:Sl->M W} {dr:Sl->M (List W)} {p pos:Pos}
theorem zhb(hl:PE X a (zau G E da)):PI X tg a (zoa G E X.K (dIL da)):=by
 refine PI.imp (zoG hl) fun σ H R zz_=>el6 zz_ fun F as sl ce S P=>(step S P).mono fun x H1 zz_=>el8 zz_ fun wx F1 as1 ce1 l1 S1 rx P1=>?_
 obtain⟨src,e,P2⟩:=zbD P1
 cases wx<;>simp only[zii,reduceCtorEq,Option.some.injEq] at e
 ·subst e
  simp only[Rep] at rx
  obtain⟨a,vs,rfl,h,rs⟩:=rx
  exact⟨a,rfl,⟨vs,.inl (Rd.sub S1.st h)⟩,Post.done (RP:=IRep X.K) S1 P2 ⟨a,vs,rfl,h,rs⟩⟩
 ·split at e
  ·rename_i hc
   cases e
   simp only[Rep] at rx
   obtain⟨a,rfl,h⟩:=rx
   obtain⟨_,vs,h2,rs⟩:=S1.st.cell _ _ _ h hc
   exact⟨a,rfl,⟨vs,.inl (.inl h2)⟩,Post.done (RP:=IRep X.K) S1 P2 ⟨a,rfl,h⟩⟩
  ·cases e
theorem RepKV.kW{F:Hp}{as:List Addr}{kvs:List (Key×W)}{ps:List (Key×V)}(r:RepKV F as kvs ps):(kvs.map fun p=>VS.kW p.1)=ps.map fun p=>VS.kW p.1:=by
 induction r with
 | nil=>rfl
 | cons h t ih=>rw[map_cons,map_cons,ih,h.1]
theorem Store.fzd{F:Hp}{as:List Addr}{H:Hp}{ce:Ce}{k:Nat}{a:Addr}{kvs:List (Key×W)}{ps:List (Key×V)}(S:Store G F as H ce)(h:as[k]?=some a)(hc:ce[k]?=some (.dct kvs))(hH:H a=some (.dK ps))(r:RepKV F as kvs ps)(o:Obj) :
  Store G (upd F a (.frz o (.dK ps))) as (upd H a (.frz o (.dK ps))) (ce.set k (.fzd kvs))/\Le F as (upd F a (.frz o (.dK ps))) as:=by
 have hk:k<ce.length:=zax hc
 have q1:F a=none:=(S.cell k a _ h hc).1 rfl
 have l:Le F as (upd F a (.frz o (.dK ps))) as:=⟨upd_sub q1,fun _ _ h=>h⟩
 refine⟨⟨fun b u e=>?_,S.nd,by rw[length_set];exact S.len,fun j b c h1 h2=>?_⟩,l⟩
 ·by_cases hb:b=a
  ·subst hb;rw[zat] at e ⊢;exact e
  ·rw[zaC hb] at e ⊢;exact S.sub _ _ e
 ·by_cases hj:k=j
  ·subst hj
   rw[getElem?_set_self hk] at h2
   rw[h] at h1
   cases h1;cases h2
   exact⟨(fun z=>by cases z),o,ps,zat,zat,r.le l⟩
  ·rw[getElem?_set_ne hj] at h2
   obtain⟨p1,p2⟩:=S.cell j b c h1 h2
   have hb:b≠a:=fun z=>by
    subst z
    have hj':j<as.length:=zax h1
    have hk':k<as.length:=zax h
    have e1:as[k]=as[j]:=by
     rw[getElem?_eq_getElem hk'] at h
     rw[getElem?_eq_getElem hj'] at h1
     exact(Option.some.inj h).trans (Option.some.inj h1).symm
    exact hj (zht S.nd hk' hj' e1)
   exact⟨fun z=>by rw[zaC hb];exact p1 z,p2.le l (zaC hb)⟩
theorem zuS(hl:PE X a (zau G E da)):PI X tg a (zoa G E X.K (dID da)):=by
 refine PI.imp (zo3 hl) fun σ H R zz_=>el6 zz_ fun F as sl ce S P=>(step S P).mono fun x H1 zz_=>el8 zz_ fun wx F1 as1 ce1 l1 S1 rx P1=>?_
 cases wx<;>first|exact P1.elim|skip
 rename_i k
 simp only[Rep] at rx
 obtain⟨a,rfl,h⟩:=rx
 dsimp only at P1
 refine⟨a,rfl,?_⟩
 split at P1
 ·rename_i kvs hc
  obtain⟨_,ps,hH,r⟩:=S1.st.cell _ _ _ h hc
  refine .inl ⟨ps,hH,fun o=>?_⟩
  obtain⟨S2,l2⟩:=S1.st.fzd h hc hH r o
  exact P1 (Itd a o ps) _ _ _ l2 (S1.slots S2 l2) ⟨a,o,ps,rfl,zat,r.kW⟩
 ·rename_i kvs hc
  obtain⟨_,o,ps,hF,hH,r⟩:=S1.st.cell _ _ _ h hc
  exact .inr ⟨o,ps,hH,Post.done (RP:=IRep X.K) S1 P1 ⟨a,o,ps,rfl,hF,r.kW⟩⟩
 ·exact P1.elim
theorem zpb(hl:PE X a (zau G E da)):PI X tg a (zoa G E X.K (dIT da)):=by
 refine PI.imp (zqD hl) fun σ H R zz_=>el6 zz_ fun F as sl ce S P=>(step S P).mono fun x H1 zz_=>el8 zz_ fun wx F1 as1 ce1 l1 S1 rx P1=>?_
 obtain⟨src,e,P2⟩:=zbD P1
 cases wx<;>simp only[ztn,reduceCtorEq,Option.some.injEq] at e
 subst e
 simp only[Rep] at rx
 obtain⟨a,vs,rfl,h,rs⟩:=rx
 exact⟨a,rfl,⟨vs,.inl (.inl (S1.st.sub _ _ h))⟩,Post.done (RP:=IRep X.K) S1 P2 ⟨a,vs,rfl,.inl h,rs⟩⟩
theorem zeH(hg:Gl X "range")(hm:X.mg "range" = none)(ha:PA X [a] (zha G E dr))(hs:starEach [a] X.env=[(false,eval a X.env)]:=by rfl):PI X tg (.Call (.Name "range" p) [a] [] pos) (zoa G E X.K (zgu dr)):=by
 refine PI.imp (zkk hg hm ha hs) fun σ H R zz_=>el6 zz_ fun F as sl ce S P=>(step (RP:=Reps) S P).mono fun x H1 zz_=>el8 zz_ fun wx F1 as1 ce1 l1 S1 rx P1=>?_
 obtain⟨src,e,P2⟩:=zbD P1
 unfold zmd at e
 split at e
 ·rename_i j
  split at e
  ·rename_i hj
   cases e
   simp only[Reps,Rep] at rx
   obtain⟨v,r,rfl,rfl,rfl⟩:=rx
   exact⟨j,rfl,by omega,by omega,Post.done (RP:=IRep X.K) S1 P2 rfl⟩
  ·cases e
 ·cases e
end
open Classical in
def zi5(s:Src)(g:DG)(body:DS):List W->DS
 | []=>fun sl ce=>if s.Stays ce then some (.go .nx sl ce) else none
 | x::r=>fun sl ce=>if s.Stays ce then (match g x sl ce with
  | some (sl1,ce1)=>match body sl1 ce1 with
   | some (.go .nx sl2 ce2)=>zi5 s g body r sl2 ce2
   | some (.go .ct sl2 ce2)=>zi5 s g body r sl2 ce2
   | some (.go .bk sl2 ce2)=>some (.go .nx sl2 ce2)
   | o=>o
  | none=>none) else none
def zcY(i:Sl->M Src)(g:DG)(body:DS):DS:=fun sl ce=>lft (i sl ce) fun s ce'=>zi5 s g body s.items sl ce'
def zcO(c:Sl->M Bool)(body:DS):Nat->DS
 | 0=>fun _ _=>none
 | n+1=>fun sl ce=>lft (c sl ce) fun t ce1=>match t with
  | false=>some (.go .nx sl ce1)
  | true=>match body sl ce1 with
   | some (.go .nx sl2 ce2)=>zcO c body n sl2 ce2
   | some (.go .ct sl2 ce2)=>zcO c body n sl2 ce2
   | some (.go .bk sl2 ce2)=>some (.go .nx sl2 ce2)
   | o=>o
section
variable {X:Cx} {G:Ga} {E:XK} {tg iter t:Expr} {body:List Stmt} {di:Sl->M Src} {g:DG} {b:DS} {c:Sl->M Bool} {pos:Pos}
theorem zhB{D:Ends}{F:Hp}{as:List Addr}{N:VS.St->Hp->Prop}{k:DS}{r:Option O}(P:PostS G E D F as (match r with
   | some (.go .nx sl2 ce2)=>k sl2 ce2
   | some (.go .ct sl2 ce2)=>k sl2 ce2
   | some (.go .bk sl2 ce2)=>some (.go .nx sl2 ce2)
   | o=>o))(hN:∀σ H F' as' sl ce,Le F as F' as'->SR G F' as' H σ sl ce->PostS G E D F' as' (k sl ce)->N σ H):PostS G E { D with nx:=N,ct:=N,bk:=D.nx } F as r:=by
 cases r with
 | none=>exact P
 | some r=>cases r with
  | ex x ce'=>exact P
  | go f sl' ce'=>cases f with
   | nx=>exact fun σ' H' F' as' l S'=>hN σ' H' F' as' sl' ce' l S' (P.le l)
   | ct=>exact fun σ' H' F' as' l S'=>hN σ' H' F' as' sl' ce' l S' (P.le l)
   | bk=>exact fun σ' H' F' as' l S'=>P σ' H' F' as' l S'
   | rt w=>exact fun σ' H' F' as' l S'=>P σ' H' F' as' l S'
theorem zba(hp:PassesOwn (model X.prog X.w) X.A X.env X.xe)(hc:X.calm=true)(hi:PI X tg iter (zoa G E X.K di))(hg:PGv G X tg g)(hb:PSs X body (toTS G E b))(hs:∀x,foldedSetIterable iter X.env x=pure x:=by intro _;rfl):PS X (.For tg iter body [] pos) (toTS G E (zcY di g b)):=by
 obtain⟨tgt,hg,qg⟩:=hg
 refine PS.imp (zqE hp hc hi hg hb hs) fun D σ H zz_=>el6 zz_ fun F as sl ce S P=>(zej (RP:=IRep X.K) S P).mono fun J H1 zz_=>el8 zz_ fun s F1 as1 ce1 l1 S1 rJ P1=>?_
 refine⟨fun i m σ H=>∃F as sl ce,SR G F as H σ sl ce/\IRep X.K F as s J/\m=s.items.length-i/\i<=s.items.length/\PostS G E D F as (zi5 s g b (s.items.drop i) sl ce),⟨s.items.length,F1,as1,sl,ce1,S1,rJ,rfl,zero_le _,P1⟩,?_⟩
 rintro i m σ H ⟨F,as,sl,ce,S,rJ,rfl,hi,P⟩
 by_cases hlt:i<s.items.length
 ·rw[drop_eq_getElem_cons hlt] at P
  simp only[zi5] at P
  split at P
  ·rename_i hst
   obtain⟨t1,t2⟩:=rJ.turn S.st hst i
   obtain⟨go,yl⟩:=t1 hlt
   refine .inr ⟨go,_,fun σ' H' h=>h,fun x H' y=>?_⟩
   obtain⟨rfl,w,hw,rw'⟩:=yl x H' y
   rw[getElem?_eq_getElem hlt] at hw
   cases hw
   split at P
   ·rename_i sl1 ce1 eg
    refine qg F as H' σ sl ce _ x sl1 ce1 _ S rw' eg fun σ' H2 F' as' l S'=>⟨F',as',sl1,ce1,S',?_⟩
    refine zhB (P.le l) fun σ3 H3 F3 as3 sl3 ce3 l3 S3 P3=>?_
    exact⟨s.items.length-(i+1),by omega,F3,as3,sl3,ce3,S3,rJ.le (l.trans l3),rfl,hlt,P3⟩
   ·exact(show False from P).elim
  ·exact(show False from P).elim
 ·have e:i=s.items.length:=by omega
  subst e
  rw[drop_length] at P
  simp only[zi5] at P
  split at P
  ·rename_i hst
   exact .inl ⟨(rJ.turn S.st hst _).2 rfl,P.nxt S⟩
  ·exact(show False from P).elim
theorem zi6(n:Nat)(hp:PassesOwn (model X.prog X.w) X.A X.env X.xe)(hc:PT X t (zcC G E c))(hb:PSs X body (toTS G E b)):PS X (.While t body [] pos) (toTS G E (zcO c b n)):=by
 refine PS.imp (zml hp hc hb) fun D σ H zz_=>el6 zz_ fun F as sl ce S P=>?_
 refine⟨fun m σ H=>∃F as sl ce,SR G F as H σ sl ce/\PostS G E D F as (zcO c b m sl ce),⟨n,F,as,sl,ce,S,P⟩,?_⟩
 rintro m σ H ⟨F,as,sl,ce,S,P⟩
 cases m with
 | zero=>exact(show False from P).elim
 | succ m =>
  refine(zej (RP:=rB) S P).mono fun x H1 zz_=>el8 zz_ fun wx F1 as1 ce1 l1 S1 rx P1=>?_
  have rx:wx=x:=rx
  subst rx
  cases wx
  ·rw[if_neg Bool.false_ne_true];exact P1.nxt S1
  ·rw[if_pos rfl]
   refine⟨fun σ' H'=>∃F as sl ce,SR G F as H' σ' sl ce/\PostS G E D F as (zcO c b m sl ce),fun σ' H' h=>⟨m,lt_succ_self _,h⟩,F1,as1,sl,ce1,S1,?_⟩
   exact zhB P1 fun σ3 H3 F3 as3 sl3 ce3 l3 S3 P3=>⟨F3,as3,sl3,ce3,S3,P3⟩
end
def zdH(js:List Nat)(sl:Sl):Sl:=js.map fun j=>sl.getD j none
open Classical in
def lcL(s:Src)(cs:Sl)(c:Sl->M Bool)(e:Sl->M W):List W->List W->M (List W)
 | [],ys=>fun ce=>if s.Stays ce then some (.ok ys ce) else none
 | x::r,ys=>fun ce=>if s.Stays ce/\ys.length<sizeLine then bnd (c (some x::cs)) (fun t=>match t with
   | true=>bnd (e (some x::cs)) fun y=>lcL s cs c e r (ys++[y])
   | false=>lcL s cs c e r ys) ce else none
def dLC(mk:List W->M W)(js:List Nat)(i:Sl->M Src)(c:Sl->M Bool)(e:Sl->M W):Sl->M W:=fun sl=>bnd (i sl) fun s=>bnd (lcL s (zdH js sl) c e s.items []) mk
def zey:Sl->M Bool:=fun _=>ret true
section
variable {X:Cx} {G:Ga} {E:XK} {elt iter:Expr} {x:Str} {px pos:Pos} {ifs:List Expr} {scope:Scope} {js:List Nat} {caps:List Str} {di:Sl->M Src} {c:Sl->M Bool} {e:Sl->M W} {mk:List W->M W}
theorem PIfs.imp{Y:Cx}{ifs:List Expr}{t t':TT}(h:PIfs Y ifs t)(q:∀σ H Q,t' σ H Q->t σ H Q):PIfs Y ifs t':=fun pins s σ H Q I z=>h pins s σ H Q I (q _ _ _ z)
theorem zch{Y:Cx}:PIfs Y [] (zcC G E zey):=PIfs.imp zmA fun σ H Q zz_=>el6 zz_ fun F as sl ce S P=>Post.done (RP:=rB) S (a:=true) P rfl
theorem zdI{Y:Cx}{t:Expr}(h:PT Y t (zcC G E c)):PIfs Y [t] (zcC G E c):=zmB h
theorem SR.cap{F:Hp}{as:List Addr}{H:Hp}{σ:VS.St}{sl:Sl}{ce:Ce}(S:SR G F as H σ sl ce)(js:List Nat){w:W}{v:V}(r:Rep F as w v):SR G F as H (some v::zjH js σ) (some w::zdH js sl) ce:=by
 refine⟨S.st,by simp[zjH,zdH],fun i u h=>?_⟩
 cases i with
 | zero=>simp at h;subst h;exact⟨v,rfl,r⟩
 | succ i =>
  simp only[zdH,getElem?_cons_succ,getElem?_map] at h
  cases e:js[i]? with
  | none=>rw[e] at h;cases h
  | some j =>
   rw[e] at h
   have hj:sl[j]?=some (some u):=by
    have h':sl.getD j none=some u:=by simpa using h
    rw[getD_eq_getElem?_getD] at h'
    cases q:sl[j]? with
    | none=>rw[q] at h';cases h'
    | some z=>rw[q] at h';simp at h';rw[h']
   obtain⟨v',h1,h2⟩:=S.slot j u hj
   refine⟨v',?_,h2⟩
   simp only[zjH,getElem?_cons_succ,getElem?_map,e,map_some,getD_eq_getElem?_getD,h1,getD_some]
theorem zq8{α β γ δ:Type}{RP:Hp->List Addr->α->β->Prop}{RQ:Hp->List Addr->γ->δ->Prop}{F:Hp}{as:List Addr}{H:Hp}{σ σ':VS.St}{sl sl':Sl}{ce:Ce}{d:Sl->M α}{f:α->M γ}{Q:δ->Hp->Prop}(S:SR G F as H σ sl ce)(S':SR G F as H σ' sl' ce)(P:Post G E RQ F as σ sl Q (bnd (d sl') f ce)) :
  toT G E RP d σ' H fun b H2=>∃a F' as' ce',Le F as F' as'/\SR G F' as' H2 σ sl ce'/\SR G F' as' H2 σ' sl' ce'/\RP F' as' a b/\Post G E RQ F' as' σ sl Q (f a ce'):=by
 refine⟨F,as,sl',ce,S',?_⟩
 revert P
 unfold bnd
 cases d sl' ce with
 | none=>exact fun P=>P
 | some r=>cases r with
  | ok a ce'=>exact fun P b H' F' as' l S2 r=>⟨a,F',as',ce',l,S.slots S2.st l,S2,r,P.le l⟩
  | ex x ce'=>exact fun P=>P
theorem zhC{α β γ:Type}(m:M α)(f:α->M β)(g:β->M γ):bnd (bnd m f) g=bnd m fun a=>bnd (f a) g:=by
 funext ce
 unfold bnd
 cases m ce with
 | none=>rfl
 | some r=>cases r<;>rfl
theorem zk3{α β:Type}{m m':M α}{g:α->M β}{ce:Ce}(h:m ce=m' ce):bnd m g ce=bnd m' g ce:=by simp only[bnd,h]
theorem zgv{s:Src}{cs:Sl}{c:Sl->M Bool}{e:Sl->M W}{x:W}{r ys:List W}{ce:Ce}(h:s.Stays ce/\ys.length<sizeLine):lcL s cs c e (x::r) ys ce=bnd (c (some x::cs)) (fun t=>match t with
   | true=>bnd (e (some x::cs)) fun y=>lcL s cs c e r (ys++[y])
   | false=>lcL s cs c e r ys) ce:=by simp only[lcL,if_pos h]
theorem zq9{s:Src}{cs:Sl}{c:Sl->M Bool}{e:Sl->M W}{x:W}{r ys:List W}{ce:Ce}(h:¬(s.Stays ce/\ys.length<sizeLine)):lcL s cs c e (x::r) ys ce=none:=by simp only[lcL,if_neg h]
theorem zob(hm:MkL G E mk)(σ:L2.St)(H:Hp)(Q:VK)(h:zau G E (dLC mk js di c e) σ H Q):tLC js (zoa G E X.K di) (zcC G E c) (zau G E e) σ H Q:=by
 obtain⟨F,as,sl,ce,S,P⟩:=h
 refine(step (RP:=IRep X.K) S P).mono fun J H1 zz_=>el8 zz_ fun s F1 as1 ce1 l1 S1 rJ P1=>?_
 refine⟨fun i m ys H=>∃F as ce ws,SR G F as H σ sl ce/\IRep X.K F as s J/\m=s.items.length-i/\i<=s.items.length/\Reps F as ws ys/\Post G E Rep F as σ sl Q (bnd (lcL s (zdH js sl) c e (s.items.drop i) ws) mk ce),⟨s.items.length,F1,as1,ce1,[],S1,rJ,rfl,zero_le _,.nil,P1⟩,?_⟩
 rintro i m ys H ⟨F,as,ce,ws,S,rJ,rfl,hi,rs,P⟩
 by_cases hlt:i<s.items.length
 ·rw[drop_eq_getElem_cons hlt] at P
  by_cases hst:s.Stays ce/\ws.length<sizeLine
  ·obtain⟨go,yl⟩:=(rJ.turn S.st hst.1 i).1 hlt
   refine .inr ⟨go,by rw[rs.length];exact hst.2,_,fun ys' H' h=>h,fun x H' y=>?_⟩
   obtain⟨rfl,w,hw,rw'⟩:=yl x H' y
   rw[getElem?_eq_getElem hlt] at hw
   cases hw
   have P':=P
   rw[zk3 (zgv hst)] at P'
   rw[zhC] at P'
   refine(zq8 (RP:=rB) S (S.cap js rw') P').mono fun b H2 ⟨t,F2,as2,ce2,l2,S2,S2',rt,P2⟩=>?_
   have rt:t=b:=rt
   subst rt
   cases t
   ·rw[if_neg Bool.false_ne_true]
    exact⟨s.items.length-(i+1),by omega,F2,as2,ce2,ws,S2,rJ.le l2,rfl,hlt,rs.le l2,P2⟩
   ·rw[if_pos rfl]
    dsimp only at P2
    rw[zhC] at P2
    refine(zq8 (RP:=Rep) S2 S2' P2).mono fun y H3 ⟨wy,F3,as3,ce3,l3,S3,S3',ry,P3⟩=>?_
    exact⟨s.items.length-(i+1),by omega,F3,as3,ce3,ws++[wy],S3,rJ.le (l2.trans l3),rfl,hlt,(rs.le (l2.trans l3)).append (.cons ry .nil),P3⟩
  ·have P':=P
   simp only[bnd,zq9 hst] at P'
   exact(show False from P').elim
 ·have e':i=s.items.length:=by omega
  subst e'
  rw[drop_length] at P
  by_cases hst:s.Stays ce
  ·have eq:bnd (lcL s (zdH js sl) c e [] ws) mk ce=mk ws ce:=by simp only[bnd,lcL,if_pos hst]
   rw[eq] at P
   exact .inl ⟨(rJ.turn S.st hst _).2 rfl,(hm S rs P).2⟩
  ·have eq:bnd (lcL s (zdH js sl) c e [] ws) mk ce=none:=by simp only[bnd,lcL,if_neg hst]
   rw[eq] at P
   exact(show False from P).elim
theorem zhD(hm:MkL G E mk)(B:BlkS X.N X.env.scope js (x::caps) scope)(hc:X.calm=true)(hx:scope.names.lookup x=some .local)(hi:PI X (.Name x px) iter (zoa G E X.K di))(ht:∀C fp s₀ H₀,PIfs (blk X (x::caps) scope C fp s₀ H₀) ifs (zcC G E c))(he:∀C fp s₀ H₀,PE (blk X (x::caps) scope C fp s₀ H₀) elt (zau G E e))(hs:∀v,foldedSetIterable iter X.env v=pure v:=by intro _;rfl):PE X (.ListComp elt [⟨.Name x px,iter,ifs,0⟩] scope pos) (zau G E (dLC mk js di c e)):=PE.imp (zs4 B hc hx hi ht he hs) (zob hm)
theorem zk4{y:Str}{py spos:Pos}{k:Nat}(hm:MkL G E mk)(B:BlkS X.N X.env.scope js (x::caps) scope)(hc:X.calm=true)(hx:scope.names.lookup x=some .local)(hi:PI X (.Name x px) iter (zoa G E X.K di))(ht:∀C fp s₀ H₀,PIfs (blk X (x::caps) scope C fp s₀ H₀) ifs (zcC G E c))(he:∀C fp s₀ H₀,PE (blk X (x::caps) scope C fp s₀ H₀) elt (zau G E e))(hN:X.N.Nodup)(hk:X.N[k]?=some y)(hy:X.env.scope.names.lookup y=some .local)(hsw:swapsWith (.ListComp elt [⟨.Name x px,iter,ifs,0⟩] scope pos) (some (.Name y py)) spos.line X.env=pure true)(hs:∀v,foldedSetIterable iter X.env v=pure v:=by intro _;rfl):PS X (.Assign [.Name y py] (.ListComp elt [⟨.Name x px,iter,ifs,0⟩] scope pos) spos) (toTS G E (za6 k (dLC mk js di c e))):=by
 refine PS.imp (zs5 B hc hx hi ht he hN hk hy hsw hs) fun D σ H zz_=>el6 zz_ fun F as sl ce S P=>?_
 refine zob (X:=X) hm σ H _ ((zej S P).mono fun x H1 zz_=>el8 zz_ fun wx F1 as1 ce1 l1 S1 rx P1=>?_)
 exact P1 _ H1 F1 as1 .refl (S1.put rx k)
end
end
section
mutual
def Bel(n:Nat):W->Prop
 | .cel k=>k<n
 | .lst xs=>zcf n xs
 | .tup xs=>zcf n xs
 | .non=>True
 | .bl _=>True
 | .int _=>True
 | .str _=>True
 | .ty _=>True
def zcf(n:Nat):List W->Prop
 | []=>True
 | x::xs=>Bel n x/\zcf n xs
end
mutual
theorem Rep.bel{F:Hp}{as:List Addr}:∀{w:W} {v:V},Rep F as w v->Bel as.length w
 | .non,_,_=>by simp only[Bel]
 | .bl _,_,_=>by simp only[Bel]
 | .int _,_,_=>by simp only[Bel]
 | .str _,_,_=>by simp only[Bel]
 | .ty _,_,_=>by simp only[Bel]
 | .lst xs,_,r=>by
  simp only[Rep] at r
  obtain⟨a,vs,_,_,s⟩:=r
  simp only[Bel]
  exact Reps.bel s
 | .tup xs,_,r=>by
  simp only[Rep] at r
  obtain⟨a,vs,_,_,s⟩:=r
  simp only[Bel]
  exact Reps.bel s
 | .cel k,_,r=>by
  simp only[Rep] at r
  obtain⟨a,_,h⟩:=r
  simp only[Bel]
  exact zax h
theorem Reps.bel{F:Hp}{as:List Addr}:∀{ws:List W} {vs:List V},Reps F as ws vs->zcf as.length ws
 | [],_,_=>by simp only[zcf]
 | _::_,_,r=>by
  simp only[Reps] at r
  obtain⟨v,vs',_,h,t⟩:=r
  simp only[zcf]
  exact⟨Rep.bel h,Reps.bel t⟩
end
mutual
theorem Rep.cut{F:Hp}{as as':List Addr}{n:Nat}(hl:∀k,k<n->as'[k]?=as[k]?):∀{w:W} {v:V},Bel n w->Rep F as w v->Rep F as' w v
 | .non,_,_,r=>by simpa only[Rep] using r
 | .bl _,_,_,r=>by simpa only[Rep] using r
 | .int _,_,_,r=>by simpa only[Rep] using r
 | .str _,_,_,r=>by simpa only[Rep] using r
 | .ty _,_,_,r=>by simpa only[Rep] using r
 | .lst xs,_,b,r=>by
  simp only[Rep] at r ⊢
  simp only[Bel] at b
  obtain⟨a,vs,h1,h2,s⟩:=r
  exact⟨a,vs,h1,h2,Reps.cutS hl b s⟩
 | .tup xs,_,b,r=>by
  simp only[Rep] at r ⊢
  simp only[Bel] at b
  obtain⟨a,vs,h1,h2,s⟩:=r
  exact⟨a,vs,h1,h2,Reps.cutS hl b s⟩
 | .cel k,_,b,r=>by
  simp only[Rep] at r ⊢
  simp only[Bel] at b
  obtain⟨a,h1,h⟩:=r
  exact⟨a,h1,by rw[hl k b];exact h⟩
theorem Reps.cutS{F:Hp}{as as':List Addr}{n:Nat}(hl:∀k,k<n->as'[k]?=as[k]?):∀{ws:List W} {vs:List V},zcf n ws->Reps F as ws vs->Reps F as' ws vs
 | [],_,_,r=>by simpa only[Reps] using r
 | _::_,_,b,r=>by
  simp only[Reps] at r ⊢
  simp only[zcf] at b
  obtain⟨v,vs',h1,h,t⟩:=r
  exact⟨v,vs',h1,Rep.cut hl b.1 h,Reps.cutS hl b.2 t⟩
end
def zez(n:Nat):C->Prop
 | .lst xs=>zcf n xs
 | .dct kvs=>∀p∈kvs,Bel n p.2
 | .ins _ fs=>∀p∈fs,Bel n p.2
 | .exn _=>True
 | .dead=>True
 | .fzd kvs=>∀p∈kvs,Bel n p.2
 | .dtp kvs=>∀p∈kvs,Bel n p.2
theorem RepKV.bel{κ:Type}{F:Hp}{as:List Addr}{kvs:List (κ×W)}{ps:List (κ×V)}(r:RepKV F as kvs ps):∀p∈kvs,Bel as.length p.2:=by
 induction r with
 | nil=>simp
 | cons h t ih =>
  intro p hp
  rcases mem_cons.mp hp with rfl|hp
  ·exact h.2.bel
  ·exact ih p hp
theorem RepKV.cut{κ:Type}{F:Hp}{as as':List Addr}{n:Nat}(hl:∀k,k<n->as'[k]?=as[k]?){kvs:List (κ×W)}{ps:List (κ×V)}(b:∀p∈kvs,Bel n p.2)(r:RepKV F as kvs ps):RepKV F as' kvs ps:=by
 induction r with
 | nil=>exact .nil
 | cons h t ih=>exact .cons ⟨h.1,h.2.cut hl (b _ mem_cons_self)⟩ (ih fun p hp=>b p (mem_cons_of_mem _ hp))
section
variable {G:Ga} {F:Hp} {as as':List Addr} {H:Hp} {a:Addr} {c:C} {n:Nat}
theorem CRep.bel(h:CRep G F as H a c):zez as.length c:=by
 cases c with
 | lst xs=>obtain⟨vs,_,r⟩:=h;exact r.bel
 | dct xs=>obtain⟨vs,_,r⟩:=h;exact r.bel
 | ins c xs=>obtain⟨dx,vs,_,r⟩:=h;exact r.bel
 | exn c=>trivial
 | dead=>trivial
 | fzd xs=>obtain⟨o,ps,_,_,r⟩:=h;exact r.bel
 | dtp xs=>obtain⟨vs,_,r⟩:=h;exact r.bel
theorem CRep.cut(hl:∀k,k<n->as'[k]?=as[k]?)(b:zez n c)(h:CRep G F as H a c):CRep G F as' H a c:=by
 cases c with
 | lst xs=>obtain⟨vs,e,r⟩:=h;exact⟨vs,e,r.cutS hl b⟩
 | dct xs=>obtain⟨vs,e,r⟩:=h;exact⟨vs,e,RepKV.cut hl b r⟩
 | ins c xs=>obtain⟨dx,vs,e,r⟩:=h;exact⟨dx,vs,e,RepKV.cut hl b r⟩
 | exn c=>exact h
 | dead=>exact h
 | fzd xs=>obtain⟨o,ps,e1,e2,r⟩:=h;exact⟨o,ps,e1,e2,RepKV.cut hl b r⟩
 | dtp xs=>obtain⟨vs,e,r⟩:=h;exact⟨vs,e,RepKV.cut hl b r⟩
end
def zdw(ce ce':Ce):Prop:=ce.length<=ce'.length/\∀(k:Nat) (c:C),k<ce.length->ce'[k]?=some c->ce[k]?=some c\/zez ce.length c
section
variable {G:Ga} {F F':Hp} {as as':List Addr} {H H':Hp} {ce ce':Ce}
theorem zbS{α:Type}{l:List α}{n k:Nat}(h:k<n):(l.take n)[k]?=l[k]?:=getElem?_take_of_lt h
theorem Store.cut(S:Store G F as H ce)(S':Store G F' as' H' ce')(l:Le F as F' as')(h:zdw ce ce'):Store G F' (as'.take ce.length) H' (ce'.take ce.length)/\Le F as F' (as'.take ce.length):=by
 have hl:∀k,k<ce.length->(as'.take ce.length)[k]?=as'[k]?:=fun k hk=>zbS hk
 refine⟨⟨S'.sub,S'.nd.sublist (take_sublist _ _),by rw[length_take,length_take,S'.len],fun k a c h1 h2=>?_⟩,l.f,fun k a e=>?_⟩
 ·have hk:k<ce.length:=by have:=zax h2;rw[length_take] at this;omega
  rw[zbS hk] at h1 h2
  obtain⟨q1,q2⟩:=S'.cell k a c h1 h2
  refine⟨q1,q2.cut hl ?_⟩
  rcases h.2 k c hk h2 with h3|h3
  ·obtain⟨a0,e0,_,q0⟩:=S.at h3
   rw[<- S.len];exact q0.bel
  ·exact h3
 ·have hk:k<ce.length:=by rw[<- S.len];exact zax e
  rw[zbS hk];exact l.c k a e
end
open Classical in
def finC(ce ce':Ce)(w:W):Option (R W):=if zdw ce ce'/\Bel ce.length w then some (.ok w (ce'.take ce.length)) else none
open Classical in
def finO(ce ce':Ce)(w:W):Option (R W):=match w with
 | .cel k=>match ce'[k]? with
  | some c=>if zdw ce ce'/\ce.length<=k/\zez ce.length c then some (.ok (.cel ce.length) (ce'.take ce.length++[c])) else none
  | none=>none
 | _=>none
def zra(_ce ce':Ce)(w:W):Option (R W):=some (.ok w ce')
def zmS(G:Ga)(fin:Ce->Ce->W->Option (R W)):Prop:=∀(F F':Hp) (as as':List Addr) (H H':Hp) (ce ce':Ce) (w:W) (v:V) (r:R W),Store G F as H ce->Store G F' as' H' ce'->Le F as F' as'->Rep F' as' w v->fin ce ce' w=some r ->
 ∃w2 ce2 as2,r=.ok w2 ce2/\Le F as F' as2/\Store G F' as2 H' ce2/\Rep F' as2 w2 v
theorem zrb{G:Ga}:zmS G zra:=fun F F' as as' H H' ce ce' w v r S S' l rw' e=>by
 cases e
 exact⟨w,ce',as',rfl,l,S',rw'⟩
theorem zbU{G:Ga}:zmS G finC:=fun F F' as as' H H' ce ce' w v r S S' l rw' e=>by
 unfold finC at e
 split at e
 ·rename_i h
  cases e
  obtain⟨S2,l2⟩:=S.cut S' l h.1
  exact⟨w,_,_,rfl,l2,S2,rw'.cut (fun k hk=>zbS hk) h.2⟩
 ·cases e
theorem zfH{G:Ga}:zmS G finO:=fun F F' as as' H H' ce ce' w v r S S' l rw' e=>by
 cases w<;>simp only[finO,reduceCtorEq] at e
 rename_i k
 split at e
 ·rename_i c hc
  split at e
  ·rename_i h
   obtain⟨h1,h2,h3⟩:=h
   cases e
   obtain⟨S2,l2⟩:=S.cut S' l h1
   simp only[Rep] at rw'
   obtain⟨a,rfl,ha⟩:=rw'
   obtain⟨q1,q2⟩:=S'.cell k a c ha hc
   have hlen:(as'.take ce.length).length=ce.length:=by rw[length_take,S'.len];exact min_eq_left h1.1
   have hlen2:(ce'.take ce.length).length=ce.length:=by rw[length_take];exact min_eq_left h1.1
   have l3:Le F' (as'.take ce.length) F' (as'.take ce.length++[a]):=⟨fun _ _ h=>h,fun j b hb=>by rw[getElem?_append_left (zax hb)];exact hb⟩
   refine⟨_,_,as'.take ce.length++[a],rfl,l2.trans l3,⟨S'.sub,?_,by rw[length_append,length_append,hlen,hlen2];rfl,fun j b c' e1 e2=>?_⟩,?_⟩
   ·rw[nodup_append]
    refine⟨S2.nd,by simp,fun b hb d hd=>?_⟩
    rw[mem_singleton] at hd
    subst hd
    rintro rfl
    obtain⟨j,hj⟩:=getElem?_of_mem hb
    have hj1:j<ce.length:=by have:=zax hj;omega
    rw[zbS hj1] at hj
    have ha':=zax ha
    have hj':=zax hj
    rw[getElem?_eq_getElem ha'] at ha
    rw[getElem?_eq_getElem hj'] at hj
    have:=zht S'.nd ha' hj' ((Option.some.inj ha).trans (Option.some.inj hj).symm)
    omega
   ·by_cases hj:j<ce.length
    ·rw[getElem?_append_left (by omega)] at e1 e2
     obtain⟨p1,p2⟩:=S2.cell j b c' e1 e2
     exact⟨p1,p2.le l3 rfl⟩
    ·rw[getElem?_append_right (by omega),hlen] at e1
     rw[getElem?_append_right (by omega),hlen2] at e2
     have hz:j-ce.length=0:=by
      cases q:j-ce.length with
      | zero=>rfl
      | succ m=>rw[q] at e1;simp at e1
     rw[hz] at e1 e2
     simp at e1 e2
     subst e1;subst e2
     exact⟨q1,(q2.cut (n:=ce.length) (fun i hi=>zbS hi) h3).le l3 rfl⟩
   ·simp only[Rep]
    exact⟨a,rfl,by rw[getElem?_append_right (by omega),hlen];simp⟩
  ·cases e
 ·cases e
open Classical in
def dFn(fin:Ce->Ce->W->Option (R W))(n:Nat)(body:DS):List W->M W:=fun ws ce=>match body (ws.map some++List.replicate (n-ws.length) none) ce with
 | some (.go (.rt w) _ ce')=>fin ce ce' w
 | some (.go .nx _ ce')=>fin ce ce' .non
 | some (.ex x ce')=>if zdw ce ce' then some (.ex x (ce'.take ce.length)) else none
 | _=>none
def PostF(G:Ga)(E:XK)(F:Hp)(as:List Addr)(Q:VK):Option (R W)->Prop
 | some (.ok w ce')=>∀v H' F' as',Le F as F' as'->Store G F' as' H' ce'->Rep F' as' w v->Q v H'
 | some (.ex x ce')=>∀H' F' as' cv od,Le F as F' as'->Store G F' as' H' ce'->G.xr x cv od H'->E cv od H'
 | none=>False
def spV(G:Ga)(fe:XK->XK)(n:Nat)(d:List W->M W):Sp:=fun vs H Q E=>vs.length=n/\∃F as ws ce,Store G F as H ce/\Reps F as ws vs/\PostF G (fe E) F as Q (d ws ce)
theorem zmT{G:Ga}{F:Hp}{as:List Addr}{H:Hp}{ce:Ce}{ws:List W}{vs:List V}(S:Store G F as H ce)(rs:Reps F as ws vs)(N:List Str):SR G F as H (L2.start N vs) (ws.map some++List.replicate (N.length-ws.length) none) ce:=by
 have hl:=rs.length
 refine⟨S,by unfold L2.start;simp[hl],fun i w h=>?_⟩
 have hi:i<ws.length:=by
  by_cases hi:i<ws.length
  ·exact hi
  ·rw[getElem?_append_right (by simpa using hi),getElem?_replicate] at h
   split at h<;>cases h
 rw[getElem?_append_left (by simpa using hi),getElem?_map] at h
 cases e:ws[i]? with
 | none=>rw[e] at h;cases h
 | some w' =>
  rw[e] at h
  simp only[map_some,Option.some.injEq] at h
  subst h
  obtain⟨v,h1,h2⟩:=rs.get e
  refine⟨v,?_,h2⟩
  unfold L2.start
  rw[getElem?_append_left (by simp;omega),getElem?_map,h1]
  rfl
theorem zaA{G:Ga}{E:XK}{F:Hp}{as:List Addr}{H:Hp}{ce:Ce}{ws:List W}{vs:List V}{Q:VK}{fin:Ce->Ce->W->Option (R W)}{body:DS}(hf:zmS G fin)(N:List Str)(S:Store G F as H ce)(rs:Reps F as ws vs)(P:PostF G E F as Q (dFn fin N.length body ws ce)) :
  toTS G E body { nx:=fun _ H'=>Q .non H',rt:=Q } (L2.start N vs) H:=by
 refine⟨F,as,_,ce,zmT S rs N,?_⟩
 revert P
 unfold dFn
 have key:∀{w:W} {ce':Ce},PostF G E F as Q (fin ce ce' w)->∀v H' F' as',Le F as F' as'->Store G F' as' H' ce'->Rep F' as' w v->Q v H':=by
  intro w ce' P v H' F' as' l S' rw'
  cases e:fin ce ce' w with
  | none=>rw[e] at P;exact P.elim
  | some r =>
   obtain⟨w2,ce2,as2,rfl,l2,S2,r2⟩:=hf F F' as as' H H' ce ce' w v r S S' l rw' e
   rw[e] at P
   exact P v H' F' as2 l2 S2 r2
 cases body (ws.map some++List.replicate (N.length-ws.length) none) ce with
 | none=>exact fun P=>P
 | some o=>cases o with
  | ex x ce' =>
   intro P H' F' as' cv od l S' hx
   dsimp only at P
   split at P
   ·rename_i h
    obtain⟨S2,l2⟩:=S.cut S' l h
    exact P H' F' _ cv od l2 S2 hx
   ·exact P.elim
  | go f sl' ce'=>cases f with
   | nx=>exact fun P σ' H' F' as' l S'=>key P .non H' F' as' l S'.st (by simp only[Rep])
   | bk=>exact fun P=>P.elim
   | ct=>exact fun P=>P.elim
   | rt w=>exact fun P σ' H' F' as' l S' v r=>key P v H' F' as' l S'.st r
def zaJ(n:Nat)(f:List W->M W)(args:Sl->M (List W)):Sl->M W:=fun sl=>bnd (args sl) fun ws=>if ws.length=n then f ws else zgm
section
variable {X:Cx} {G:Ga} {E E1:XK} {CX:CXT} {k n:Nat} {f:Addr} {fd:FuncData} {ps:List Str} {df:List W->M W} {x:Str} {p pos:Pos} {e:Expr} {es:List Expr} {dr:Sl->M (List W)} {fe:XK->XK}
theorem PostF.of{F:Hp}{as:List Addr}{H:Hp}{σ:VS.St}{sl:Sl}{ce:Ce}{Q:VK}{r:Option (R W)}(S:SR G F as H σ sl ce)(P:Post G E Rep F as σ sl Q r):PostF G E F as Q r:=by
 cases r with
 | none=>exact P
 | some r=>cases r with
  | ok w ce'=>exact fun v H' F' as' l S' rv=>P v H' F' as' l (S.slots S' l) rv
  | ex y ce'=>exact P
theorem zav(Fk:FnOk X.prog X.w X.K X.mg X.base CX k f fd ps (spV G fe n df))(hr:Room k X.A)(hg:Gl X x)(hm:X.mg x=some (.ref f))(hk:PySem.W.keepIn X.K (.ref f)=true)(hb:Binds X.K fd ps [])(hx:zb7 CX X E1)(ha:PA X (e::es) (zha G E dr))(hfe:fe E1=E:=by rfl)(hdb:(x==("__debug__" : Str))=false:=by decide)(he:starEach (e::es) X.env=(false,eval e X.env)::starEach es X.env:=by rfl)(hpl:(backTo pos (starEach es X.env)).any (·.1)=false:=by rfl) :
  PE X (.Call (.Name x p) (e::es) [] pos) (zau G E (zaJ n df dr)):=by
 refine PE.imp (zoM Fk hr hg hm hk hb .nil hx ha hdb he hpl) fun σ H Q zz_=>el6 zz_ fun F as sl ce S P=>(step (RP:=Reps) S P).mono fun vs H1 zz_=>el8 zz_ fun ws F1 as1 ce1 l1 S1 rs P1=>?_
 split at P1
 ·rename_i hn
  rw[append_nil]
  exact⟨by rw[rs.length];exact hn,F1,as1,ws,ce1,S1.st,rs,by rw[hfe];exact PostF.of S1 P1⟩
 ·exact(show False from P1).elim
end
open Classical in
def zdB(d:List W->M W):List W->M W:=fun ws ce=>match d ws ce with
 | some (.ok (.cel k) ce')=>match ce'[k]? with
  | some (.lst xs)=>if zdw ce ce'/\k=ce.length/\zcf ce.length xs then some (.ok (.lst xs) (ce'.take ce.length)) else none
  | _=>none
 | some (.ok w ce')=>some (.ok w ce')
 | r=>r
theorem zc4{P:Program}{w:World}{K:PySem.W.Frag}{mg:Str->Option Value}{base:Heap}{CX:CXT}{k n:Nat}{f:Addr}{fd:FuncData}{ps:List Str}{G:Ga}{fe:XK->XK}{d:List W->M W}(h:FnOk P w K mg base CX k f fd ps (spV G fe n d)):FnOk P w K mg base CX k f fd ps (spV G fe n (zdB d)):=by
 refine h.imp fun vs H Q E ⟨hl,F,as,ws,ce,S,rs,Pf⟩=>⟨hl,F,as,ws,ce,S,rs,?_⟩
 revert Pf
 unfold zdB
 cases d ws ce with
 | none=>exact fun P=>P
 | some r=>cases r with
  | ex x ce'=>exact fun P=>P
  | ok w ce' =>
   cases w<;>first|exact fun P=>P|skip
   rename_i j
   dsimp only
   intro Pf v H' F' as' l S' rv
   simp only[Rep] at rv
   obtain⟨a,rfl,ha⟩:=rv
   split at Pf
   ·rename_i xs hc
    split at Pf
    ·rename_i h
     obtain⟨h1,h2,h3⟩:=h
     obtain⟨q1,vs',hH,rs'⟩:=S'.cell j a _ ha hc
     have q1:=q1 rfl
     obtain⟨S2,l2⟩:=S.cut S' l h1
     have rs2:Reps F' (as'.take ce.length) xs vs':=rs'.cutS (fun i hi=>zbS hi) h3
     have l3:Le F' (as'.take ce.length) (upd F' a (.lst vs')) (as'.take ce.length):=⟨upd_sub q1,fun _ _ h=>h⟩
     refine Pf (.ref a) H' (upd F' a (.lst vs')) (as'.take ce.length) (l2.trans l3) ⟨fun b o e=>?_,S2.nd,S2.len,fun i b c e1 e2=>?_⟩ (by simp only[Rep];exact⟨a,vs',rfl,.inl zat,rs2.le l3⟩)
     ·by_cases hb:b=a
      ·subst hb;rw[zat] at e;cases e;exact hH
      ·rw[zaC hb] at e;exact S2.sub _ _ e
     ·obtain⟨p1,p2⟩:=S2.cell i b c e1 e2
      have hb:b≠a:=by
       rintro rfl
       have hi:i<ce.length:=by have:=zax e2;rw[length_take] at this;omega
       rw[zbS hi] at e1
       have a1:=zax ha
       have a2:=zax e1
       rw[getElem?_eq_getElem a1] at ha
       rw[getElem?_eq_getElem a2] at e1
       have:=zht S'.nd a1 a2 ((Option.some.inj ha).trans (Option.some.inj e1).symm)
       omega
      exact⟨fun hn=>by rw[zaC hb];exact p1 hn,p2.le l3 rfl⟩
    ·exact Pf.elim
   ·exact Pf.elim
end
section
def zfI:List W->Option (List Int)
 | []=>some []
 | .int i::r=>(zfI r).map (i::·)
 | _=>none
def zfe:List W->Option (List Bool)
 | []=>some []
 | .bl i::r=>(zfe r).map (i::·)
 | _=>none
def zhE:List (Key×W)->Option (List Int)
 | []=>some []
 | (.inl i,_)::r=>(zhE r).map (i::·)
 | _=>none
theorem zff:∀ns:List Int,zfI (ns.map W.int)=some ns
 | []=>rfl
 | n::r=>by simp only[map_cons,zfI,zff r,map_some]
theorem zf2:∀ns:List Bool,zfe (ns.map W.bl)=some ns
 | []=>rfl
 | n::r=>by simp only[map_cons,zfe,zf2 r,map_some]
theorem zeT:∀{ws:List W} {ns:List Int},zfI ws=some ns->ws=ns.map W.int
 | [],ns,h=>by simp only[zfI,Option.some.injEq] at h;subst h;rfl
 | w::r,ns,h=>by
  cases w<;>simp only[zfI,reduceCtorEq,map_eq_some_iff] at h
  obtain⟨ms,h1,rfl⟩:=h
  rw[zeT h1,map_cons]
theorem zhF:∀{ws:List W} {ns:List Bool},zfe ws=some ns->ws=ns.map W.bl
 | [],ns,h=>by simp only[zfe,Option.some.injEq] at h;subst h;rfl
 | w::r,ns,h=>by
  cases w<;>simp only[zfe,reduceCtorEq,map_eq_some_iff] at h
  obtain⟨ms,h1,rfl⟩:=h
  rw[zhF h1,map_cons]
theorem zgw:∀{kvs:List (Key×W)} {ns:List Int},zhE kvs=some ns->kvs.map (·.1)=ns.map Sum.inl
 | [],ns,h=>by simp only[zhE,Option.some.injEq] at h;subst h;rfl
 | (k,w)::r,ns,h=>by
  cases k<;>simp only[zhE,reduceCtorEq,map_eq_some_iff] at h
  obtain⟨ms,h1,rfl⟩:=h
  rw[map_cons,zgw h1,map_cons]
def srt(ns:List Int):List Int:=ns.mergeSort fun a b=>decide (a<=b)
theorem zbT(ns:List Int):(srt ns).Perm ns:=mergeSort_perm ns _
theorem zdi(ns:List Int):(srt ns).Pairwise (·<=·):=by
 have:=pairwise_mergeSort (le:=fun a b:Int=>decide (a<=b)) (fun a b c=>by simp;omega) (fun a b=>by simp;omega) ns
 exact this.imp fun h=>by simpa using h
theorem zcF:∀{a b:List Int},a.Perm b->a.Pairwise (·<=·)->b.Pairwise (·<=·)->a=b
 | [],b,p,_,_=>by rw[nil_perm] at p;exact p.symm
 | x::a,[],p,_,_=>by have:=p.length_eq;simp at this
 | x::a,y::b,p,sa,sb=>by
  rw[pairwise_cons] at sa sb
  have h1:x=y:=by
   have hx:x∈y::b:=p.subset mem_cons_self
   have hy:y∈x::a:=p.symm.subset mem_cons_self
   rcases mem_cons.mp hx with e|hx
   ·exact e
   ·rcases mem_cons.mp hy with e|hy
    ·exact e.symm
    ·have:=sb.1 x hx
     have:=sa.1 y hy
     omega
  subst h1
  rw[zcF (List.Perm.cons_inv p) sa.2 sb.2]
theorem zoc{ms ns:List Int}(p:ms.Perm ns)(s:ms.Pairwise (·<=·)):ms=srt ns:=zcF (p.trans (zbT ns).symm) s (zdi ns)
def dBi(f:List W->M W)(args:Sl->M (List W)):Sl->M W:=fun sl=>bnd (args sl) f
def Bi(G:Ga)(E:XK)(r:List V->Hp->VK->Prop)(f:List W->M W):Prop:=∀F as H σ sl ce ws vs Q,SR G F as H σ sl ce->Reps F as ws vs->Post G E Rep F as σ sl Q (f ws ce)->r vs H Q
open Classical in
def zcq:List W->M W:=fun ws ce=>match ws with
 | [.str x]=>if x.length<=sizeLine then some (.ok (.int x.length) ce) else none
 | [w]=>match zeR ce w with
  | some xs=>some (.ok (.int xs.length) ce)
  | none=>match zqb ce w with
   | some kvs=>some (.ok (.int kvs.length) ce)
   | none=>none
 | _=>none
open Classical in
def za2(mk:List W->M W):List W->M W:=fun ws ce=>match ws with
 | [w]=>match zcg ce w with
  | some xs=>match zfI xs with
   | some ns=>if ns.length<64 then mk ((srt ns).map W.int) ce else none
   | none=>none
  | none=>match zma ce w with
   | some kvs=>match zhE kvs with
    | some ns=>if ns.length<64 then mk ((srt ns).map W.int) ce else none
    | none=>none
   | none=>none
 | _=>none
def zek(mk:List W->M W):List W->M W:=fun ws ce=>match ws with
 | [w]=>match zeR ce w with
  | some xs=>mk xs ce
  | none=>match zma ce w with
   | some kvs=>match zhE kvs with
    | some ns=>mk (ns.map W.int) ce
    | none=>none
   | none=>none
 | _=>none
def zbX:List W->M W:=fun ws ce=>match ws with
 | [.tup xs]=>some (.ok (.tup xs) ce)
 | [w]=>match zcg ce w with
  | some xs=>ztj xs ce
  | none=>none
 | _=>none
def zqd:List W->M W:=fun ws ce=>match ws with
 | [w]=>match zcg ce w with
  | some xs=>match zfe xs with
   | some bs=>some (.ok (.bl (bs.all id)) ce)
   | none=>none
  | none=>none
 | _=>none
def zu8:List W->M W:=fun ws ce=>match ws with
 | [.int i,.int j]=>some (.ok (.int (if j<i then j else i)) ce)
 | _=>none
def zu9:List W->M W:=fun ws ce=>match ws with
 | [.int i,.int j]=>some (.ok (.int (if j>i then j else i)) ce)
 | _=>none
def tyW(ce:Ce):W->Option String
 | .non=>some "NoneType"
 | .bl _=>some "bool"
 | .int _=>some "int"
 | .str _=>some "str"
 | .lst _=>some "list"
 | .tup _=>some "tuple"
 | .cel k=>match ce[k]? with
  | some (.lst _)=>some "list"
  | some (.dct _)=>some "dict"
  | _=>none
 | .ty _=>none
def zpc(a b:String):Bool:=a==b||(a == "bool" && b == "int")
def kinds:List String:=["NoneType", "bool", "int", "str", "list", "tuple", "dict"]
theorem zk5(K:PySem.W.Frag):∀a∈kinds,∀b∈["int", "bool", "list", "tuple", "str", "dict"],PySem.W.kitOne K (.type a) (.type b)=some (zpc a b):=by
 have h:∀a∈kinds,∀b∈["int", "bool", "list", "tuple", "str", "dict"],(fun _:Unit=>PySem.W.kitOne K (.type a) (.type b)) ()=some (zpc a b):=by
  intro a ha b hb
  simp only[kinds,mem_cons,not_mem_nil,or_false] at ha hb
  rcases ha with rfl|rfl|rfl|rfl|rfl|rfl|rfl<;>rcases hb with rfl|rfl|rfl|rfl|rfl|rfl<;>kernel_rfl
 exact h
def zmU:List W->M W:=fun ws ce=>match ws with
 | [w,.ty T]=>match tyW ce w with
  | some t=>if (kinds.contains t&&["int", "bool", "list", "tuple", "str", "dict"].contains T)=true then some (.ok (.bl (zpc t T)) ce) else none
  | none=>none
 | _=>none
section
variable {X:Cx} {G:Ga} {E:XK} {F:Hp} {as:List Addr} {H:Hp} {ce:Ce} {w:W} {v:V}
theorem CallR.or{f:Value}{r r':List V->Hp->VK->Prop}(h:CallR X f r)(h':CallR X f r'):CallR X f (fun xs H Q=>r xs H Q\/r' xs H Q):=by
 intro pins s σ H xs us Q I rx q
 rcases q with q|q
 ·exact h pins s σ H xs us Q I rx q
 ·exact h' pins s σ H xs us Q I rx q
theorem zbW{vs:List V}(h:Reps F as [w] vs):∃v,vs=[v]/\Rep F as w v:=by
 simp only[Reps] at h
 obtain⟨v,r,rfl,h1,rfl⟩:=h
 exact⟨v,rfl,h1⟩
theorem zpd{w':W}{vs:List V}(h:Reps F as [w,w'] vs):∃v v',vs=[v,v']/\Rep F as w v/\Rep F as w' v':=by
 simp only[Reps] at h
 obtain⟨v,r,rfl,h1,v',r',rfl,h2,rfl⟩:=h
 exact⟨v,v',rfl,h1,h2⟩
def zrc(K:PySem.W.Frag):List V->Hp->VK->Prop:=fun xs H Q=>(∃x n,xs=[x]/\ztT K x H n/\Q (.int n) H)\/∃a kvs,xs=[V.ref a]/\H a=some (.dK kvs)/\Q (.int kvs.length) H
theorem zc5{K:PySem.W.Frag}(hK:X.K=K:=by rfl):CallR X (.builtin "len") (zrc K):=by subst hK;exact CallR.or zmr zkG
theorem zc6(K:PySem.W.Frag):Bi G E (zrc K) zcq:=by
 intro F as H σ sl ce ws vs Q S rs P
 unfold zcq at P
 split at P
 ·rename_i x
  split at P
  ·rename_i hl
   obtain⟨v,rfl,r⟩:=zbW rs
   simp only[Rep] at r
   subst r
   exact .inl ⟨_,_,rfl,⟨hl,rfl⟩,P.done S (by simp only[Rep])⟩
  ·exact P.elim
 ·rename_i w _
  obtain⟨v,rfl,r⟩:=zbW rs
  split at P
  ·rename_i xs hx
   obtain⟨a,us,rfl,h,rs'⟩:=zgq S.st r hx
   refine .inl ⟨_,us.length,rfl,?_,P.done S (by simp only[Rep];rw[rs'.length])⟩
   rcases h with h|h
   ·exact .inl ⟨us,.inl h,rfl⟩
   ·exact .inr ⟨us,.inl h,rfl⟩
  ·split at P
   ·rename_i kvs hd
    obtain⟨n,a,ps,rfl,rfl,ha,hH,rk⟩:=zkQ S.st r hd
    exact .inr ⟨a,ps,rfl,hH,P.done S (by simp only[Rep];rw[rk.length])⟩
   ·exact P.elim
 ·exact P.elim
def zt3(K:PySem.W.Frag):List V->Hp->VK->Prop:=fun xs H Q=>zoV K xs H Q\/∃(a:Addr) (kvs:List (Key×V)) (ns:List Int),xs=[.ref a]/\Rd H a (.dK kvs)/\kvs.map (·.1)=ns.map Sum.inl/\ns.length<64 /\
  ∀ms:List Int,ms.Perm ns->ms.Pairwise (·<=·)->∀l,H l=none->Q (.ref l) (upd H l (.lst (ms.map V.int)))
theorem zjQ{K:PySem.W.Frag}(hc:X.calm=true:=by rfl)(hK:X.K=K:=by rfl):CallR X (.builtin "sorted") (zt3 K):=by subst hK;exact CallR.or zib (zhr hc)
theorem RepKV.keys{kvs:List (Key×W)}{ps:List (Key×V)}(r:RepKV F as kvs ps):ps.map (·.1)=kvs.map (·.1):=by
 induction r with
 | nil=>rfl
 | cons h t ih=>rw[map_cons,map_cons,ih,h.1]
theorem zjR{mk:List W->M W}(K:PySem.W.Frag)(hm:MkL G E mk):Bi G E (zt3 K) (za2 mk):=by
 intro F as H σ sl ce ws vs Q S rs P
 unfold za2 at P
 split at P
 ·rename_i w
  obtain⟨v,rfl,r⟩:=zbW rs
  split at P
  ·rename_i xs hx
   split at P
   ·rename_i ns hi
    split at P
    ·rename_i h64
     obtain⟨a,us,rfl,h,rs'⟩:=zb8 S.st r hx
     cases zeT hi
     cases rs'.of_ints
     refine .inl ⟨a,ns,rfl,.inl h,h64,fun ms p s l hl=>?_⟩
     rw[zoc p s]
     exact(hm S (Reps.ints (srt ns)) P).2 l hl
    ·exact P.elim
   ·exact P.elim
  ·split at P
   ·rename_i kvs hd
    split at P
    ·rename_i ns hk
     split at P
     ·rename_i h64
      obtain⟨n,a,ps,rfl,rfl,ha,hH,rk⟩:=zi2 S.st r hd
      refine .inr ⟨a,ps,ns,rfl,hH,by rw[rk.keys];exact zgw hk,h64,fun ms p s l hl=>?_⟩
      rw[zoc p s]
      exact(hm S (Reps.ints (srt ns)) P).2 l hl
     ·exact P.elim
    ·exact P.elim
   ·exact P.elim
 ·exact P.elim
def zrd(K:PySem.W.Frag):List V->Hp->VK->Prop:=fun xs H Q=>zoW K xs H Q\/∃(a:Addr) (kvs:List (Key×V)) (ns:List Int),xs=[.ref a]/\Rd H a (.dK kvs)/\kvs.map (·.1)=ns.map Sum.inl/\∀l,H l=none->Q (.ref l) (upd H l (.lst (ns.map V.int)))
theorem zf3{K:PySem.W.Frag}(hc:X.calm=true:=by rfl)(hK:X.K=K:=by rfl):CallR X (.type "list") (zrd K):=by subst hK;exact CallR.or zhm (zjK hc)
theorem zf4{mk:List W->M W}(K:PySem.W.Frag)(hm:MkL G E mk):Bi G E (zrd K) (zek mk):=by
 intro F as H σ sl ce ws vs Q S rs P
 unfold zek at P
 split at P
 ·rename_i w
  obtain⟨v,rfl,r⟩:=zbW rs
  split at P
  ·rename_i xs hx
   obtain⟨a,us,rfl,h,rs'⟩:=zgq S.st r hx
   exact .inl ⟨a,us,rfl,h.imp .inl .inl,(hm S rs' P).2⟩
  ·split at P
   ·rename_i kvs hd
    split at P
    ·rename_i ns hk
     obtain⟨n,a,ps,rfl,rfl,ha,hH,rk⟩:=zi2 S.st r hd
     exact .inr ⟨a,ps,ns,rfl,hH,by rw[rk.keys];exact zgw hk,(hm S (Reps.ints ns) P).2⟩
    ·exact P.elim
   ·exact P.elim
 ·exact P.elim
theorem zfg(K:PySem.W.Frag):Bi G E (zn0 K) zbX:=by
 intro F as H σ sl ce ws vs Q S rs P
 unfold zbX at P
 split at P
 ·rename_i xs
  obtain⟨v,rfl,r⟩:=zbW rs
  have r':=r
  simp only[Rep] at r
  obtain⟨a,us,rfl,h,rs'⟩:=r
  exact⟨a,us,rfl,.inr ⟨.inl (.inl (S.st.sub _ _ h)),P.done S r'⟩⟩
 ·rename_i w _
  obtain⟨v,rfl,r⟩:=zbW rs
  split at P
  ·rename_i xs hx
   obtain⟨a,us,rfl,h,rs'⟩:=zb8 S.st r hx
   exact⟨a,us,rfl,.inl ⟨.inl h,(zkX S rs' P).2⟩⟩
  ·exact P.elim
 ·exact P.elim
theorem zre(K:PySem.W.Frag):Bi G E (ztZ K) zqd:=by
 intro F as H σ sl ce ws vs Q S rs P
 unfold zqd at P
 split at P
 ·obtain⟨v,rfl,r⟩:=zbW rs
  split at P
  ·rename_i xs hx
   split at P
   ·rename_i bs hb
    obtain⟨a,us,rfl,h,rs'⟩:=zb8 S.st r hx
    cases zhF hb
    cases rs'.of_bools
    exact⟨a,bs,rfl,.inl h,P.done S (by simp only[Rep])⟩
   ·exact P.elim
  ·exact P.elim
 ·exact P.elim
theorem zrf(S:Store G F as H ce)(r:Rep F as w v){t:String}(e:tyW ce w=some t)(K:PySem.W.Frag):TyOf K H v (.type t):=by
 have lst:∀{a:Addr} {vs:List V},Rd H a (.lst vs)->TyOf K H (.ref a) (.type "list"):=fun {a vs} h=>by
  rcases h with h|⟨o,h⟩
  ·exact .lst h
  ·exact .frz h
 cases w with
 | non=>simp only[tyW,Option.some.injEq] at e;simp only[Rep] at r;subst e r;exact .non
 | bl b=>simp only[tyW,Option.some.injEq] at e;simp only[Rep] at r;subst e r;exact .bl b
 | int b=>simp only[tyW,Option.some.injEq] at e;simp only[Rep] at r;subst e r;exact .int b
 | str b=>simp only[tyW,Option.some.injEq] at e;simp only[Rep] at r;subst e r;exact .str b
 | ty b=>simp only[tyW,reduceCtorEq] at e
 | lst xs =>
  simp only[tyW,Option.some.injEq] at e
  simp only[Rep] at r
  obtain⟨a,vs,rfl,h,_⟩:=r
  subst e
  exact lst (Rd.sub S h)
 | tup xs =>
  simp only[tyW,Option.some.injEq] at e
  simp only[Rep] at r
  obtain⟨a,vs,rfl,h,_⟩:=r
  subst e
  exact .tup (S.sub _ _ h)
 | cel k =>
  simp only[Rep] at r
  obtain⟨a,rfl,h⟩:=r
  simp only[tyW] at e
  split at e
  ·rename_i hc
   cases e
   obtain⟨_,vs,h2,rs⟩:=S.cell _ _ _ h hc
   exact .lst h2
  ·rename_i hc
   cases e
   obtain⟨_,vs,h2,rs⟩:=S.cell _ _ _ h hc
   exact .dK h2
  ·cases e
end
end
section
section
variable {X:Cx} {G:Ga} {E:XK} {x:Str} {p pos:Pos} {e:Expr} {es:List Expr} {dr:Sl->M (List W)} {id T:String} {r:List V->Hp->VK->Prop} {f:List W->M W}
theorem zmV(K:PySem.W.Frag):Bi G E (zs6 K) zmU:=by
 intro F as H σ sl ce ws vs Q S rs P
 unfold zmU at P
 split at P
 ·rename_i w T
  obtain⟨v,v',rfl,r,r'⟩:=zpd rs
  simp only[Rep] at r'
  subst r'
  split at P
  ·rename_i t ht
   split at P
   ·rename_i hk
    rw[and_eq_true,contains_iff_mem,contains_iff_mem] at hk
    exact⟨v,T,_,_,rfl,zrf S.st r ht K,zk5 K t hk.1 T hk.2,P.done S (by simp only[Rep])⟩
   ·exact P.elim
  ·exact P.elim
 ·exact P.elim
theorem zaB(hc:CallR X (.builtin id) r)(hf:Bi G E r f)(hg:Gl X x)(hm:X.mg x=none)(hv:bootBuiltins x=some (.builtin id))(ha:PA X (e::es) (zha G E dr))(hn:x ≠ "__name__" := by decide)(hdb:(x==("__debug__" : Str))=false:=by decide)(he:starEach (e::es) X.env=(false,eval e X.env)::starEach es X.env:=by rfl)(hpl:(backTo pos (starEach es X.env)).any (·.1)=false:=by rfl):PE X (.Call (.Name x p) (e::es) [] pos) (zau G E (dBi f dr)) :=
 PE.imp (ziS hc hg hm hv ha hn hdb he hpl) fun σ H Q zz_=>el6 zz_ fun F as sl ce S P=>(step (RP:=Reps) S P).mono fun vs H1 zz_=>el8 zz_ fun ws F1 as1 ce1 l1 S1 rs P1=>hf F1 as1 H1 σ sl ce1 ws vs Q S1 rs P1
theorem zbg(hc:CallR X (.type T) r)(hf:Bi G E r f)(hg:Gl X x)(hm:X.mg x=none)(hv:bootBuiltins x=some (.type T))(ha:PA X (e::es) (zha G E dr))(hn:x ≠ "__name__" := by decide)(hdb:(x==("__debug__" : Str))=false:=by decide)(he:starEach (e::es) X.env=(false,eval e X.env)::starEach es X.env:=by rfl)(hpl:(backTo pos (starEach es X.env)).any (·.1)=false:=by rfl):PE X (.Call (.Name x p) (e::es) [] pos) (zau G E (dBi f dr)) :=
 PE.imp (zhk hc hg hm hv ha hn hdb he hpl) fun σ H Q zz_=>el6 zz_ fun F as sl ce S P=>(step (RP:=Reps) S P).mono fun vs H1 zz_=>el8 zz_ fun ws F1 as1 ce1 l1 S1 rs P1=>hf F1 as1 H1 σ sl ce1 ws vs Q S1 rs P1
open Classical in
def zjS(mk:List W->M W):List W->M W:=fun ws ce=>match zmd ws with
 | some (.rng lo n)=>if n<=sizeLine then mk ((List.range n).map fun(i:Nat)=>W.int (lo+(i:Int))) ce else none
 | _=>none
theorem Reps.rng{F:Hp}{as:List Addr}(lo:Int):∀(l:List Nat),Reps F as (l.map fun(i:Nat)=>W.int (lo+(i:Int))) (l.map fun(i:Nat)=>V.int (lo+(i:Int)))
 | []=>.nil
 | a::r=>.cons (by simp only[Rep]) (Reps.rng lo r)
theorem zpe{a:Expr}{p2 pos2:Pos}{mk:List W->M W}(hmk:MkL G E mk)(hc:X.calm=true)(hgl:Gl X "list")(hml:X.mg "list" = none)(hg:Gl X "range")(hm:X.mg "range" = none)(ha:PA X [a] (zha G E dr))(hs:starEach [a] X.env=[(false,eval a X.env)]:=by rfl)(he:starEach [.Call (.Name "range" p2) [a] [] pos2] X.env=[(false,eval (.Call (.Name "range" p2) [a] [] pos2) X.env)]:=by rfl) :
  PE X (.Call (.Name "list" p) [.Call (.Name "range" p2) [a] [] pos2] [] pos) (zau G E (dBi (zjS mk) dr)):=by
 refine PE.imp (zhk (zhs hc) hgl hml boot_list (zee (zkH hg hm ha hs) zhf (by rw[he];rfl)) (by decide) (by decide) (by rw[he];rfl) rfl) fun σ H Q zz_=>el6 zz_ fun F as sl ce S P=>(step (RP:=Reps) S P).mono fun vs H1 zz_=>el8 zz_ fun ws F1 as1 ce1 l1 S1 rs P1=>?_
 unfold zjS at P1
 split at P1
 ·rename_i lo n hr
  unfold zmd at hr
  split at hr
  ·rename_i j
   split at hr
   ·rename_i hj
    cases hr
    split at P1
    ·rename_i hz
     obtain⟨v,rfl,r1⟩:=zbW rs
     simp only[Rep] at r1
     subst r1
     refine⟨j,rfl,fun q hq=>?_⟩
     refine⟨q,0,j,rfl,zat,by omega,by omega,by omega,by omega,by rw[sub_zero];exact hz,fun l hl=>?_⟩
     rw[sub_zero]
     obtain⟨S2,l2⟩:=S1.st.freeze (o:=.rng 0 j) hq
     exact(hmk (S1.slots S2 l2) (Reps.rng 0 _) (P1.le l2)).2 l hl
    ·exact(show False from P1).elim
   ·cases hr
  ·cases hr
 ·exact(show False from P1).elim
def zme(ce:Ce)(w:W):Option Unit:=(zcg ce w).map fun _=>()
def dMt(f:W->List W->M W)(o:Sl->M W)(args:Sl->M (List W)):Sl->M W:=fun sl=>bnd (o sl) fun x=>bnd (look fun ce=>zme ce x) fun _=>bnd (args sl) fun ws=>f x ws
def Mt(G:Ga)(E:XK)(r:V->List V->Hp->VK->Prop)(f:W->List W->M W):Prop:=∀F as H σ sl ce w v ws vs Q,SR G F as H σ sl ce->Rep F as w v->Reps F as ws vs->Post G E Rep F as σ sl Q (f w ws ce)->r v vs H Q
variable {o:Expr} {name:Str} {apos cpos:Pos} {do':Sl->M W} {rm:V->List V->Hp->VK->Prop} {fm:W->List W->M W}
theorem zhG{F:Hp}{as:List Addr}{σ:VS.St}{sl:Sl}{ce:Ce}{Q:VK}{w:W}{k:Unit->M W}(P:Post G E Rep F as σ sl Q (bnd (look fun ce=>zme ce w) k ce)):∃xs,zcg ce w=some xs/\Post G E Rep F as σ sl Q (k () ce):=by
 revert P
 simp only[bnd,look,zme]
 cases zcg ce w with
 | none=>exact fun P=>P.elim
 | some xs=>exact fun P=>⟨xs,rfl,P⟩
theorem zdp(slot:Slot "list" name id)(hty:typeOf (.builtin id)=pure (.type "method_descriptor"))(hm:MtR X id rm)(hf:Mt G E rm fm)(ho:PE X o (zau G E do'))(ha:PA X (e::es) (zha G E dr))(hbase:attributeBase o name X.env (eval o X.env)=eval o X.env:=by rfl)(hfew:((backTo cpos (starEach (e::es) X.env)).all (fun x=>!x.1)&&(backToKw cpos (keywordEach [] X.env)).all (fun x=>x.1.isSome)
   && decide ((e::es).length+([]:List Keyword).length+(if ([]:List Keyword).isEmpty then 0 else 1)<30))=true:=by rfl)(hline:(apos.endLine==cpos.line)=true:=by rfl)(hs:starEach (e::es) X.env=(false,eval e X.env)::starEach es X.env:=by rfl)(hplain:(backTo cpos (starEach es X.env)).any (·.1)=false:=by rfl) :
  PE X (.Call (.Attribute o name apos) (e::es) [] cpos) (zau G E (dMt fm do' dr)):=by
 refine PE.imp (zs2 PySem.F.plainAttrs_list slot hty hm ho ha hbase hfew hline hs hplain) fun σ H Q zz_=>el6 zz_ fun F as sl ce S P=>(step S P).mono fun x H1 zz_=>el8 zz_ fun wx F1 as1 ce1 l1 S1 rx P1=>?_
 obtain⟨xs,hx,P2⟩:=zhG P1
 obtain⟨a,us,rfl,h,_⟩:=zb8 S1.st rx hx
 refine⟨.inl ⟨rfl,us,.inl h⟩,(step (RP:=Reps) S1 P2).mono fun vs H2 zz_=>el8 zz_ fun ws F2 as2 ce2 l2 S2 rs P3=>?_⟩
 exact hf F2 as2 H2 σ sl ce2 wx _ ws vs Q S2 (rx.le l2) rs P3
def zmW(f:W->List W->M W)(o:Sl->M W):Sl->M W:=fun sl=>bnd (o sl) fun x=>bnd (look fun ce=>zme ce x) fun _=>f x []
theorem zhH(slot:Slot "list" name id)(hty:typeOf (.builtin id)=pure (.type "method_descriptor"))(hm:MtR X id rm)(hf:Mt G E rm fm)(ho:PE X o (zau G E do'))(hbase:attributeBase o name X.env (eval o X.env)=eval o X.env:=by rfl)(hline:(apos.endLine==cpos.line)=true:=by rfl):PE X (.Call (.Attribute o name apos) [] [] cpos) (zau G E (zmW fm do')):=by
 refine PE.imp (zqS PySem.F.plainAttrs_list slot hty hm ho hbase hline) fun σ H Q zz_=>el6 zz_ fun F as sl ce S P=>(step S P).mono fun x H1 zz_=>el8 zz_ fun wx F1 as1 ce1 l1 S1 rx P1=>?_
 obtain⟨xs,hx,P2⟩:=zhG P1
 obtain⟨a,us,rfl,h,_⟩:=zb8 S1.st rx hx
 exact⟨.inl ⟨rfl,us,.inl h⟩,hf F1 as1 H1 σ sl ce1 wx _ [] [] Q S1 rx Reps.nil P2⟩
open Classical in
def zdJ:W->List W->M W:=fun w ws ce=>match zmc ce w,ws with
 | some (k,xs),[y]=>if xs.length<sizeLine then some (.ok .non (ce.set k (.lst (xs++[y])))) else none
 | _,_=>none
def zmX:W->List W->M W:=fun w ws ce=>match zmc ce w,ws with
 | some (k,xs),[]=>match xs[xs.length-1]? with
  | some y=>some (.ok y (ce.set k (.lst xs.dropLast)))
  | none=>none
 | _,_=>none
open Classical in
def zrg:W->List W->M W:=fun w ws ce=>match zmc ce w,ws with
 | some (k,xs),[y]=>match zcg ce y with
  | some ys=>if xs.length+ys.length<=sizeLine then some (.ok .non (ce.set k (.lst (xs++ys)))) else none
  | none=>none
 | _,_=>none
theorem zdK:Mt G E zkw zdJ:=by
 intro F as H σ sl ce w v ws vs Q S rw' rs P
 unfold zdJ at P
 split at P
 ·rename_i k xs y hk
  split at P
  ·rename_i hl
   obtain⟨a,us,rfl,ha,hH,r⟩:=zdG S.st rw' hk
   obtain⟨u,rfl,ry⟩:=zbW rs
   refine⟨a,us,u,rfl,rfl,hH,by rw[r.length];exact hl,?_⟩
   exact P .non _ F as .refl (S.slots (S.st.write (o:=.lst (us++[u])) (c:=.lst (xs++[y])) ha ⟨_,zat,r.append (.cons ry .nil)⟩) .refl) (by simp only[Rep])
  ·exact(show False from P).elim
 ·exact(show False from P).elim
theorem zk6:Mt G E ztW zmX:=by
 intro F as H σ sl ce w v ws vs Q S rw' rs P
 unfold zmX at P
 split at P
 ·rename_i k xs hk
  split at P
  ·rename_i y hy
   obtain⟨a,us,rfl,ha,hH,r⟩:=zdG S.st rw' hk
   simp only[Reps] at rs
   obtain⟨u,hu,ru⟩:=r.get hy
   refine⟨a,us,u,rfl,rs,hH,by rw[r.length];exact hu,?_⟩
   exact P u _ F as .refl (S.slots (S.st.write (o:=.lst us.dropLast) (c:=.lst xs.dropLast) ha ⟨_,zat,r.dropLast⟩) .refl) ru
  ·exact(show False from P).elim
 ·exact(show False from P).elim
def zrh:V->List V->Hp->VK->Prop:=fun x vs H Q=>∃l b xs zs,x=.ref l/\vs=[.ref b]/\H l=some (.lst xs)/\Rd H b (.lst zs)/\xs.length+zs.length<=sizeLine/\Q .non (upd H l (.lst (xs++zs)))
theorem zpf:MtR X "list.extend" zrh:=by
 intro pins s σ H x vs v us Q I rx rv h
 obtain⟨l,b,xs,zs,rfl,rfl,hH,hB,hz,q⟩:=h
 cases rx
 obtain⟨u,rfl,ru⟩:=rv.one
 cases ru
 obtain⟨z,its,n,r,hl,e⟩:=I.lstM hH
 obtain⟨z2,its2,n2,r2,hl2,e2⟩:=Inv.lstR I hB
 have hsz:its.toArray.size+its2.toArray.size<=sizeLine:=by rw[size_toArray,size_toArray];omega
 have hlong:¬(!its.toArray.isEmpty&&Builtin.List.listTooLong (its.toArray.size+its2.toArray.size))=true:=by
  rw[zmy hsz,Bool.and_false]
  exact Bool.false_ne_true
 refine call_meets F.slot_list_extend ⟨_,e,rfl⟩ F.entry_list_extend (F.args_list_extend_2 _ _)
  (AutoSeq1.list_extend_list_list_0 l its.toArray n b its2.toArray n2 hlong (by rw[size_toArray];omega) (by omega)) ⟨e,e2,?_⟩
 refine⟨.non,_,I.lset (its':=its++its2) hH e (by simp) (r.append r2) ?_,rfl,q⟩
 rw[length_append]
 omega
theorem zto:Mt G E zrh zrg:=by
 intro F as H σ sl ce w v ws vs Q S rw' rs P
 unfold zrg at P
 split at P
 ·rename_i k xs y hk
  split at P
  ·rename_i ys hy
   split at P
   ·rename_i hl
    obtain⟨a,us,rfl,ha,hH,r⟩:=zdG S.st rw' hk
    obtain⟨u,rfl,ry⟩:=zbW rs
    obtain⟨b,zs,rfl,hb,r2⟩:=zb8 S.st ry hy
    refine⟨a,b,us,zs,rfl,rfl,hH,hb,by rw[r.length,r2.length];exact hl,?_⟩
    exact P .non _ F as .refl (S.slots (S.st.write (o:=.lst (us++zs)) (c:=.lst (xs++ys)) ha ⟨_,zat,r.append r2⟩) .refl) (by simp only[Rep])
   ·exact(show False from P).elim
  ·exact(show False from P).elim
 ·exact(show False from P).elim
variable {a b:Expr} {da db:Sl->M W}
theorem zmY{i:Int}(hg:Gl X x)(hm:∃t,X.mg x=some (.int i t))(hd:(x==("__debug__" : Str))=false:=by decide):PE X (.Name x pos) (zau G E (dC (.int i))):=by
 obtain⟨t,hm⟩:=hm
 exact zqa (zh6 (v:=.int i) hg hm ⟨t,rfl⟩ hd) rfl
theorem zmZ{n:String}(hg:Gl X x)(hm:X.mg x=none)(hv:bootBuiltins x=some (.type n))(hn:x ≠ "__name__" := by decide)(hd:(x==("__debug__" : Str))=false:=by decide):PE X (.Name x pos) (zau G E (dC (.ty n))):=zqa (zkg (v:=.ty n) hg hm hv rfl hn hd) rfl
end
end
section
section
variable {X:Cx} {G:Ga} {E:XK} {a b:Expr} {da db:Sl->M W} {pos:Pos}
def zf5:W->W->Option W:=i2 fun i j=>.bl (decide (i=j))
def zqe:W->W->Option W:=i2 fun i j=>.bl (!decide (i=j))
theorem zri:Sc2 rEq zf5:=by
 intro x y w e
 cases x<;>cases y<;>simp only[zf5,i2,Option.some.injEq,reduceCtorEq] at e
 subst e
 exact⟨_,_,_,rfl,rfl,rfl,fun H Q hq=>⟨rfl,by simpa using hq⟩⟩
theorem zrj:Sc2 rNe zqe:=by
 intro x y w e
 cases x<;>cases y<;>simp only[zqe,i2,Option.some.injEq,reduceCtorEq] at e
 subst e
 exact⟨_,_,_,rfl,rfl,rfl,fun H Q hq=>⟨rfl,by simpa using hq⟩⟩
theorem zcP(ha:PE X a (zau G E da))(hb:PE X b (zau G E db)):PT X (.Compare a [.Eq] [b] pos) (zcC G E (dB (dOp zf5 da db))):=zgo zsO ha hb (zcv _) (zbV (zfa zri))
theorem zrk(ha:PE X a (zau G E da))(hb:PE X b (zau G E db)):PT X (.Compare a [.NotEq] [b] pos) (zcC G E (dB (dOp zqe da db))):=zgo zsP ha hb (zcv _) (zbV (zfa zrj))
def zhI(k v:Sl->M W):Sl->M W:=fun sl ce=>match bnd (k sl) (fun kw=>bnd (v sl) fun vw=>ret (kw,vw)) (ce++[.dct []]) with
 | some (.ok (kw,vw) ce2)=>match zj9 kw,ce2[ce.length]? with
  | some key,some (.dct [])=>some (.ok (.cel ce.length) (ce2.set ce.length (.dct [(key,vw)])))
  | _,_=>none
 | some (.ex x ce2)=>some (.ex x ce2)
 | none=>none
theorem zm0{k v:Expr}{dk dv:Sl->M W}(hk:PE X k (zau G E dk))(hv:PE X v (zau G E dv)):PE X (.Dict [some k] [v] pos) (zau G E (zhI dk dv)):=by
 refine PE.imp (zo1 (zmG hk hv zo0) rfl rfl (by intro h;cases h) (by simp)) fun σ H Q zz_=>el6 zz_ fun F as sl ce S P=>?_
 intro p hp
 obtain⟨S1,l1⟩:=S.st.alloc (o:=.dK []) (c:=.dct []) hp (fun as' l=>⟨[],zat,.nil⟩)
 have hlen:as.length=ce.length:=S.st.len
 have P':Post G E (fun F as (a:W×W) (b:V×V)=>Rep F as a.1 b.1/\Rep F as a.2 b.2) F (as++[p]) σ sl (fun b H2=>H2 p=some (.dK [])/\∃kvs:List (Key×V),[b]=kvs.map (fun kv=>(kV kv.1,kv.2))/\kvs.length<=15/\Q (.ref p) (upd H2 p (.dK (ze6 [] kvs))))
   (bnd (dk sl) (fun kw=>bnd (dv sl) fun vw=>ret (kw,vw)) (ce++[.dct []])):=by
  unfold zhI at P
  cases e:bnd (dk sl) (fun kw=>bnd (dv sl) fun vw=>ret (kw,vw)) (ce++[.dct []]) with
  | none=>rw[e] at P;exact P.elim
  | some r=>cases r with
   | ex x ce2=>rw[e] at P;exact fun H' F' as' cv od l=>P H' F' as' cv od (l1.trans l)
   | ok a ce2 =>
    obtain⟨kw,vw⟩:=a
    rw[e] at P
    dsimp only at P
    split at P
    ·rename_i key hkey hcell
     intro b H' F' as' l S' r
     obtain⟨kv,vv⟩:=b
     have hp':as'[ce.length]?=some p:=l.c _ _ (by rw[<- hlen];simp)
     obtain⟨_,ps,h2,rk⟩:=S'.st.cell _ _ _ hp' hcell
     cases rk
     have rput:RepKV F' as' [(key,vw)] [(key,vv)]:=.cons ⟨rfl,r.2⟩ .nil
     refine⟨h2,[(key,vv)],?_,by simp,?_⟩
     ·simp only[map_cons,map_nil];rw[show kv=kV key from zif r.1 hkey]
     ·exact P (.ref p) _ F' as' (l1.trans l) (S'.slots (S'.st.write (o:=.dK (ze6 [] [(key,vv)])) (c:=.dct [(key,vw)]) hp' ⟨_,zat,rput⟩) .refl) (by simp only[Rep];exact⟨p,rfl,hp'⟩)
    ·exact P.elim
 refine(step (S.slots S1 l1) P').mono fun x H1 zz_=>el8 zz_ fun wx F1 as1 ce1 l2 S2 rx P1=>(step S2 P1).mono fun y H2 zz_=>el8 zz_ fun wy F2 as2 ce2 l3 S3 ry P2=>?_
 exact Post.done (RP:=fun F as (a:W×W) (b:V×V)=>Rep F as a.1 b.1/\Rep F as a.2 b.2) (a:=(wx,wy)) (b:=(x,y)) S3 P2 ⟨rx.le l3,ry⟩
end
end
section
def noL(K:PySem.W.Frag):Bool:=K.all fun p=>match p.2.cls with
 | .type "list" => false
 | _=>true
theorem zrl{K:PySem.W.Frag}(h:noL K=true){a:Addr}{o:Obj}(e:K.lookup a=some o):o.cls≠.type "list" := by
 intro hc
 have hm:∀{l:PySem.W.Frag},l.lookup a=some o->(a,o)∈l:=by
  intro l
  induction l with
  | nil=>intro e;cases e
  | cons p r ih =>
   intro e
   obtain⟨b,q⟩:=p
   by_cases hb:a=b
   ·subst hb
    have:List.lookup a ((a,q)::r)=some q:=by simp[List.lookup]
    rw[this] at e;cases e;exact mem_cons_self
   ·have:List.lookup a ((b,q)::r)=List.lookup a r:=by
     have hb':(a==b)=false:=by simpa using hb
     simp[List.lookup,hb']
    rw[this] at e
    exact mem_cons_of_mem _ (ih e)
 have:=all_eq_true.mp h _ (hm e)
 simp only[hc] at this
 cases this
def spLaw(G:PySem.W.Frag->Ga)(d:List W->M W)(K:PySem.W.Frag):Sp:=fun vs H Q E=>noL K=true->spV (G K) (fun _=>E0) 1 d vs H Q E
theorem law_sp{G:PySem.W.Frag->Ga}{d:List W->M W}{n:Nat}(main:∀ns:List Int,ns.length<=n->∃ce',d [.lst (ns.map W.int)] []=some (.ok (.bl true) ce'))(K:PySem.W.Frag)(H:Hp)(a:Addr)(ns:List Int)(hl:ns.length<=n)(_hO:zqT H)(hS:SqL K H a (ns.map V.int)):spLaw G d K [.ref a] H (fun v _=>v=.bl true) fun _ _ _=>False:=by
 intro nl
 rcases hS with hS|⟨o,its,m,hk,hc,_⟩
 ·obtain⟨ce',e⟩:=main ns hl
  refine⟨rfl,H,[],[.lst (ns.map W.int)],[],⟨fun _ _ h=>h,by simp,rfl,fun k a c h _=>by simp at h⟩,.cons (by simp only[Rep];exact⟨a,_,rfl,hS,Reps.ints ns⟩) .nil,?_⟩
  rw[e]
  intro v H' F' as' _ _ r
  simpa only[Rep] using r
 ·exact absurd hc (zrl nl hk)
section
variable {α β:Type}
theorem zci{m:M α}{f:α->M β}{ce ce':Ce}{a:α}(h:m ce=some (.ok a ce')):bnd m f ce=f a ce':=by simp only[bnd,h]
theorem zk7{a b:DS}{sl sl':Sl}{ce ce':Ce}(h:a sl ce=some (.go .nx sl' ce')):zap a b sl ce=b sl' ce':=by simp only[zap,h]
theorem zpg{a b:DS}{sl sl':Sl}{ce ce':Ce}{w:W}(h:a sl ce=some (.go (.rt w) sl' ce')):zap a b sl ce=some (.go (.rt w) sl' ce'):=by simp only[zap,h]
end
section
variable {ce l:Ce} {c:C} {n:Nat}
theorem zsq(ce l:Ce)(j:Nat):(ce++l)[ce.length+j]?=l[j]?:=by rw[getElem?_append_right (le_add_right _ _),add_sub_cancel_left]
theorem zrm(ce l:Ce):(ce++l)[ce.length]?=l[0]?:=zsq ce l 0
theorem zt4(ce l:Ce)(j:Nat)(c:C):(ce++l).set (ce.length+j) c=ce++l.set j c:=by rw[set_append_right _ _ (le_add_right _ _),add_sub_cancel_left]
theorem ztp(ce l:Ce)(c:C):(ce++l).set ce.length c=ce++l.set 0 c:=zt4 ce l 0 c
theorem cutOk_app(ce l:Ce):zdw ce (ce++l):=⟨by rw[length_append];omega,fun k c hk h=>.inl (by rwa [getElem?_append_left hk] at h)⟩
theorem zgx(ce l:Ce):(ce++l).take ce.length=ce:=take_left
theorem belInts(n:Nat):∀ns:List Int,zcf n (ns.map W.int)
 | []=>by simp only[map_nil,zcf]
 | a::r=>by simp only[map_cons,zcf,Bel];exact⟨trivial,belInts n r⟩
end
theorem zm1{ce l:Ce}{j:Nat}{c:C}(h:l[j]?=some c)(hb:zez ce.length c):finO ce (ce++l) (.cel (ce.length+j))=some (.ok (.cel ce.length) (ce++[c])):=by
 have e:(ce++l)[ce.length+j]?=some c:=by rw[zsq];exact h
 simp only[finO,e]
 rw[if_pos ⟨cutOk_app ce l,le_add_right _ _,hb⟩,zgx]
theorem zeU{ce l:Ce}{w:W}(hb:Bel ce.length w):finC ce (ce++l) w=some (.ok w ce):=by
 unfold finC
 rw[if_pos ⟨cutOk_app ce l,hb⟩,zgx]
theorem zaE{ce:Ce}{w:W}(hb:Bel ce.length w):finC ce ce w=some (.ok w ce):=by
 have:=zeU (l:=[]) hb
 rwa [append_nil] at this
theorem zcr{d:List W->M W}{ws:List W}{ce:Ce}{xs:List W}(h:d ws ce=some (.ok (.cel ce.length) (ce++[.lst xs])))(hb:zcf ce.length xs):zdB d ws ce=some (.ok (.lst xs) ce):=by
 have e:(ce++[C.lst xs])[ce.length]?=some (.lst xs):=by rw[zrm];rfl
 simp only[zdB,h,e]
 rw[if_pos ⟨cutOk_app ce _,rfl,hb⟩,zgx]
end
end VS
namespace VS
open L2
section
variable {α β:Type}
@[simp] theorem zm2(m:M α)(f:α->M β)(ce:Ce):bnd m f ce=match m ce with|some (.ok a ce')=>f a ce'|some (.ex x ce')=>some (.ex x ce')|none=>none:=rfl
@[simp] theorem ztq(m:Option (R α))(k:α->Ce->Option O):lft m k=match m with|some (.ok a ce')=>k a ce'|some (.ex x ce')=>some (.ex x ce')|none=>none:=rfl
@[simp] theorem zrn(a:α)(ce:Ce):ret a ce=some (.ok a ce):=rfl
@[simp] theorem zod(f:Ce->Option α)(ce:Ce):look f ce=(f ce).map fun a=>R.ok a ce:=rfl
end
variable (a b c:Sl->M W) (ta tb:Sl->M Bool) (s t:DS) (sl:Sl) (ce:Ce) (i:Nat) (w:W)
@[simp] theorem zi7:zae i sl ce=match sl[i]? with|some (some w)=>some (.ok w ce)|_=>none:=rfl
@[simp] theorem zva:dC w sl ce=some (.ok w ce):=rfl
@[simp] theorem zuT(f:W->W->Option W):dOp f a b sl ce=bnd (a sl) (fun x=>bnd (b sl) fun y=>look fun _=>f x y) ce:=rfl
@[simp] theorem zro(f:Ce->W->W->Option W):zaO f a b sl ce=bnd (a sl) (fun x=>bnd (b sl) fun y=>look fun ce=>f ce x y) ce:=rfl
@[simp] theorem zuU(f:W->Option W):dUn f a sl ce=bnd (a sl) (fun x=>look fun _=>f x) ce:=rfl
@[simp] theorem zvb:dB a sl ce=bnd (a sl) (fun w=>look fun _=>match w with|.bl b=>some b|_=>none) ce:=rfl
@[simp] theorem zt5:zkM a sl ce=bnd (a sl) (fun w=>look fun ce=>zid ce w) ce:=rfl
@[simp] theorem ztr:zeG ta tb sl ce=bnd (ta sl) (fun x=>match x with|true=>tb sl|false=>ret false) ce:=rfl
@[simp] theorem zt6:zmM ta tb sl ce=bnd (ta sl) (fun x=>match x with|true=>ret true|false=>tb sl) ce:=rfl
@[simp] theorem zts:zcE ta sl ce=bnd (ta sl) (fun x=>ret (!x)) ce:=rfl
@[simp] theorem zt7:zap s t sl ce=match s sl ce with|some (.go .nx sl' ce')=>t sl' ce'|r=>r:=rfl
@[simp] theorem ztt:zaZ sl ce=some (.go .nx sl ce):=rfl
@[simp] theorem zt8:za6 i a sl ce=lft (a sl ce) fun w ce'=>some (.go .nx (sl.set i (some w)) ce'):=rfl
@[simp] theorem zt9:zbt a sl ce=lft (a sl ce) fun w ce'=>some (.go (.rt w) sl ce'):=rfl
@[simp] theorem ztu:dEx a sl ce=lft (a sl ce) fun _ ce'=>some (.go .nx sl ce'):=rfl
@[simp] theorem zuV:dIf ta s t sl ce=lft (ta sl ce) fun x ce'=>match x with|true=>s sl ce'|false=>t sl ce':=rfl
@[simp] theorem zoe:zan sl ce=some (.ok [] ce):=rfl
@[simp] theorem zk8(r:Sl->M (List W)):zac a r sl ce=bnd (a sl) (fun x=>bnd (r sl) fun xs=>ret (x::xs)) ce:=rfl
@[simp] theorem ztv(f:List W->M W)(r:Sl->M (List W)):dBi f r sl ce=bnd (r sl) f ce:=rfl
@[simp] theorem ztw(n:Nat)(f:List W->M W)(r:Sl->M (List W)):zaJ n f r sl ce=bnd (r sl) (fun ws=>if ws.length=n then f ws else zgm) ce:=rfl
@[simp] theorem zua(r:Sl->M (List W)):zf1 r sl ce=bnd (r sl) (fun xs=>mkF (.tup xs) xs.length) ce:=rfl
@[simp] theorem zub(r:Sl->M (List W)):zh2 r sl ce=bnd (r sl) (fun xs=>mkF (.lst xs) xs.length) ce:=rfl
@[simp] theorem ztx(r:Sl->M (List W)):zb9 r sl ce=bnd (r sl) (fun xs=>mkC (.lst xs) xs.length) ce:=rfl
@[simp] theorem zty:zgr sl ce=mkC (.dct []) 0 ce:=rfl
@[simp] theorem zuW{n:Nat}(h:n<=PySem.sizeLine):mkF w n ce=some (.ok w ce):=if_pos h
@[simp] theorem zuX(c:C){n:Nat}(h:n<=PySem.sizeLine):mkC c n ce=some (.ok (.cel ce.length) (ce++[c])):=if_pos h
@[simp] theorem zk9{xs:List W}(h:xs.length<=PySem.sizeLine):zbs xs ce=some (.ok (.lst xs) ce):=if_pos h
@[simp] theorem zuc{xs:List W}(h:xs.length<=PySem.sizeLine):zgs xs ce=some (.ok (.cel ce.length) (ce++[.lst xs])):=if_pos h
@[simp] theorem zrp{xs:List W}(h:xs.length<=PySem.sizeLine):ztj xs ce=some (.ok (.tup xs) ce):=if_pos h
@[simp] theorem ztz(f:W->List W->M W)(r:Sl->M (List W)):dMt f a r sl ce=bnd (a sl) (fun x=>bnd (look fun ce=>zme ce x) fun _=>bnd (r sl) fun ws=>f x ws) ce:=rfl
@[simp] theorem zud(f:W->List W->M W):zmW f a sl ce=bnd (a sl) (fun x=>bnd (look fun ce=>zme ce x) fun _=>f x []) ce:=rfl
@[simp] theorem zvc:gN i w sl ce=some (sl.set i (some w),ce):=rfl
theorem zof{o i v:Sl->M W}{sl:Sl}{ce ce1 ce2 ce3:Ce}{w ow iw:W}{key:Key}{k:Nat}{kvs:List (Key×W)}(h1:v sl ce=some (.ok w ce1))(h2:o sl ce1=some (.ok ow ce2))(h3:i sl ce2=some (.ok iw ce3))(h4:zj9 iw=some key)(h5:zn9 ce3 ow=some (k,kvs))(h6:kvs.length<PySem.sizeLine) :
  zka o i v sl ce=some (.go .nx sl (ce3.set k (.dct (zjP kvs key w)))):=by
 simp only[zka,lft,h1,h2,h3,h4,h5,if_pos h6]
theorem zm3{w y:W}{ce:Ce}{k:Nat}{xs:List W}(h:zmc ce w=some (k,xs))(hl:xs.length<PySem.sizeLine):zdJ w [y] ce=some (.ok .non (ce.set k (.lst (xs++[y])))):=by simp only[zdJ,h,if_pos hl]
@[simp] theorem zue(x y:Int):zc2 (.int x) (.int y)=some (.int (x+y)):=rfl
@[simp] theorem zuf(x y:Int):zjL (.int x) (.int y)=some (.int (x-y)):=rfl
@[simp] theorem zuY(x y:Int):fLt (.int x) (.int y)=some (.bl (decide (x<y))):=rfl
@[simp] theorem zuZ(x y:Int):fLe (.int x) (.int y)=some (.bl (decide (x<=y))):=rfl
@[simp] theorem zu0(x y:Int):fGt (.int x) (.int y)=some (.bl (decide (y<x))):=rfl
@[simp] theorem zu1(x y:Int):fGe (.int x) (.int y)=some (.bl (decide (y<=x))):=rfl
@[simp] theorem zug(x y:Int):zf5 (.int x) (.int y)=some (.bl (decide (x=y))):=rfl
@[simp] theorem zuh(x y:Int):zqe (.int x) (.int y)=some (.bl (!decide (x=y))):=rfl
@[simp] theorem zui(x:Int):zmH (.int x)=some (.int (-x)):=rfl
theorem zhJ{x y:Int}(h:CMul x y):zgn (.int x) (.int y)=some (.int (x*y)):=by simp only[zgn,i2c,if_pos h]
theorem zeA{x y:Int}(h:0<y):zco (.int x) (.int y)=some (.int (x % y)):=by simp only[zco,i2c,if_pos h]
theorem zrq{x y:Int}(h:0<y/\y<1073741824):zn3 (.int x) (.int y)=some (.int (x / y)):=by
 have h':zsN x y:=h
 simp only[zn3,i2c,if_pos h']
@[simp] theorem zuj(xs:List W):zeR ce (.tup xs)=some xs:=rfl
@[simp] theorem zuk(xs:List W):zeR ce (.lst xs)=some xs:=rfl
@[simp] theorem zrr(xs:List W):zcg ce (.lst xs)=some xs:=rfl
theorem zcj{ce:Ce}{k:Nat}{xs:List W}(h:ce[k]?=some (.lst xs)):zcg ce (.cel k)=some xs:=by simp only[zcg,h]
theorem zck{ce:Ce}{k:Nat}{xs:List W}(h:ce[k]?=some (.lst xs)):zeR ce (.cel k)=some xs:=by simp only[zeR,zcg,h]
theorem zog{ce:Ce}{k:Nat}{xs:List (Key×W)}(h:ce[k]?=some (.dct xs)):zqb ce (.cel k)=some xs:=by simp only[zqb,h]
theorem zeB{ce:Ce}{k:Nat}{xs:List W}(h:ce[k]?=some (.lst xs)):zmc ce (.cel k)=some (k,xs):=by simp only[zmc,h]
theorem zfh{ce:Ce}{k:Nat}{xs:List (Key×W)}(h:ce[k]?=some (.dct xs)):zn9 ce (.cel k)=some (k,xs):=by simp only[zn9,h]
@[simp] theorem zul(j:Int):zj9 (.int j)=some (.inl j):=rfl
theorem zm4{α:Type}{xs:List α}{j:Nat}:atI xs (j:Int)=xs[j]?:=by
 unfold atI ixN
 by_cases h:j<xs.length
 ·rw[if_pos (by omega),if_pos (by omega)];simp
 ·rw[if_pos (by omega),if_neg (by omega),getElem?_eq_none (by omega)];rfl
theorem zkb{xs:List W}{x y:W}{ce:Ce}{j:Nat}(h:zeR ce x=some xs)(hy:y=.int j):ixW ce x y=xs[j]?:=by
 subst hy
 simp only[ixW,h]
 exact zm4
theorem zf6(c0:C):(ce++[c0])[ce.length]?=some c0:=by rw[zrm];rfl
def nW(n:Nat):W:=.int (n:Int)
def wT(l:List Nat):W:=.tup (l.map nW)
def wB(b:List (List Nat)):W:=.tup (b.map wT)
def kvs(F:List Nat):List (Key×W):=F.map fun(x:Nat)=>((Sum.inl (x:Int):Key),W.bl true)
def toI(F:List Nat):List Int:=F.map fun(x:Nat)=>(x:Int)
theorem zph(F:List Nat)(y:Nat):(zjO (kvs F) (.inl (y:Int))).isSome=decide (y∈F):=by
 induction F with
 | nil=>rfl
 | cons x F ih =>
  by_cases h:x=y
  ·subst h;simp[kvs,zjO]
  ·have h':¬((x:Int)=(y:Int)):=by omega
   have e:zjO (kvs (x::F)) (.inl (y:Int))=zjO (kvs F) (.inl (y:Int)):=by simp[kvs,zjO,find?_cons,h']
   have hm:(y∈x::F)↔y∈F:=by simp[Ne.symm h]
   rw[e,ih]
   simp[hm]
theorem zij(F:List Nat)(y:Nat)(h:y∉F):zjP (kvs F) (.inl (y:Int)) (.bl true)=kvs (F++[y]):=by
 have e:((kvs F).any fun kv=>decide (kv.1=(.inl (y:Int):Key)))=false:=by
  rw[eq_false_iff]
  intro q
  obtain⟨p,hp,e⟩:=any_eq_true.mp q
  obtain⟨x,hx,rfl⟩:=mem_map.mp hp
  have e:=of_decide_eq_true e
  have:(x:Int)=y:=Sum.inl.inj e
  exact h (by rw[<- ofNat_inj.mp this];exact hx)
 unfold zjP
 rw[e]
 simp[kvs]
theorem zbu(F:List Nat):(kvs F).length=F.length:=by simp[kvs]
theorem zgy(F:List Nat):zhE (kvs F)=some (toI F):=by
 induction F with
 | nil=>rfl
 | cons x F ih=>simp only[kvs,toI,map_cons,zhE] at ih ⊢;rw[ih];rfl
theorem zb3(F:List Nat):(toI F).length=F.length:=by simp[toI]
theorem zla(F:List Nat):F.map nW=(toI F).map W.int:=by simp[toI,nW]
theorem zeV(F:List Nat):zfI (F.map nW)=some (toI F):=by rw[zla,zff]
theorem zlb{F F':List Nat}(h:F.Perm F'):srt (toI F)=srt (toI F') :=
 zcF ((zbT _).trans ((show(toI F).Perm (toI F') from h.map _).trans (zbT _).symm)) (zdi _) (zdi _)
theorem zgz{F F':List Nat}(h:F.Nodup)(h':F'.Nodup)(e:∀x,x∈F↔x∈F'):F.Perm F':=by
 rw[perm_iff_count]
 intro x
 rw[h.count,h'.count]
 simp[e x]
theorem zaF:∀{n:Nat} {F:List Nat},F.Nodup->(∀x∈F,x<n)->F.length<=n
 | 0,F,_,hl=>by
  cases F with
  | nil=>simp
  | cons a r=>exact absurd (hl a mem_cons_self) (not_lt_zero _)
 | n+1,F,h,hl=>by
  by_cases hn:n∈F
  ·have h1:=zaF (n:=n) (h.erase n) fun x hx=>by
    have hx':=(List.Nodup.mem_erase_iff h).mp hx
    have:=hl x hx'.2
    have:=hx'.1
    omega
   rw[length_erase_of_mem hn] at h1
   have:=length_pos_of_mem hn
   omega
  ·have h1:=zaF (n:=n) h fun x hx=>by
    have:=hl x hx
    have:x≠n:=fun e=>hn (e▸hx)
    omega
   omega
inductive Reach (b:List (List Nat)) (ok:Nat->Prop) (s:Nat):Nat->Prop where
 | refl:Reach b ok s s
 | step {x y:Nat} (h:Reach b ok s x) (hy:y∈b.getD x []) (o:ok y):Reach b ok s y
structure Comp (b:List (List Nat)) (ok:Nat->Prop) (s:Nat) (F:List Nat):Prop where
 nd:F.Nodup
 st:s∈F
 lt:∀x∈F,x<b.length
 cl:∀x∈F,∀y∈b.getD x [],ok y->y∈F
 re:∀x∈F,Reach b ok s x
theorem Comp.mem{b:List (List Nat)}{ok:Nat->Prop}{s:Nat}{F:List Nat}(h:Comp b ok s F)(x:Nat):x∈F↔Reach b ok s x:=by
 refine⟨h.re x,fun r=>?_⟩
 induction r with
 | refl=>exact h.st
 | step _ hy o ih=>exact h.cl _ ih _ hy o
def Bd(b:List (List Nat)):Prop:=∀r∈b,∀x∈r,x<b.length
theorem Bd.get{b:List (List Nat)}(h:Bd b){x y:Nat}(hy:y∈b.getD x []):y<b.length:=by
 rw[getD_eq_getElem?_getD] at hy
 cases e:b[x]? with
 | none=>rw[e] at hy;simp at hy
 | some r=>rw[e] at hy;exact h r (mem_of_getElem? e) y (by simpa using hy)
structure Row (row:List Nat) (ok:Nat->Prop) (F F':List Nat) (r new:List Nat):Prop where
 app:F'=F++new
 nd:F'.Nodup
 mem:∀y∈new,y∈row/\ok y
 done:∃d,row=d++r/\∀y∈d,ok y->y∈F'
theorem zgA{ce:Ce}{x:W}{xs:List W}{j:Nat}(h:zeR ce x=some xs):ixW ce x (nW j)=xs[j]?:=zkb h rfl
theorem zrs(T:List Nat)(y:Nat):(T.map nW).any (fun z=>peq z (nW y))=decide (y∈T):=by
 induction T with
 | nil=>rfl
 | cons x T ih =>
  rw[map_cons,any_cons,ih]
  by_cases h:x=y
  ·subst h;simp[nW,peq]
  ·have h':¬((x:Int)=(y:Int)):=by omega
   simp[nW,peq,h',Ne.symm h]
theorem zrt(T:List Nat):(T.map nW).all (cln 8)=true:=by
 rw[all_eq_true]
 intro w hw
 obtain⟨x,_,rfl⟩:=mem_map.mp hw
 rfl
theorem zdL(T:List Int)(n:Nat):(T.map W.int).all (cln n)=true:=by
 rw[all_eq_true]
 intro w hw
 obtain⟨x,_,rfl⟩:=mem_map.mp hw
 cases n<;>rfl
theorem zru{ce:Ce}{x:W}{T:List Nat}{y:Nat}(h:zeR ce x=some (T.map nW))(ng:Bool):inW ng ce (nW y) x=some (.bl (if ng then !decide (y∈T) else decide (y∈T))):=by
 have c:cln 8 (nW y)=true:=rfl
 have e:drf ce (nW y)=nW y:=rfl
 simp only[inW,h,e,c,zrt,Bool.and_self,if_true,zrs]
theorem zlc(a b:Int):peq (.int a) (.int b)=decide (a=b):=by simp[peq];rfl
theorem zfi:∀(l m:List Int),peqs (l.map W.int) (m.map W.int)=decide (l=m)
 | [],[]=>by simp[peqs]
 | [],_::_=>by simp[peqs]
 | _::_,[]=>by simp[peqs]
 | a::l,b::m=>by
  simp only[map_cons,peqs,zlc,zfi l m]
  by_cases h1:a=b<;>by_cases h2:l=m<;>simp[h1,h2]
theorem zm5(l m:List Int):peq (.lst (l.map W.int)) (.lst (m.map W.int))=decide (l=m):=by simp only[peq,zfi]
theorem sl36:(36:Nat)<PySem.sizeLine:=by decide
theorem zoh{s:Src}{cs:Sl}{e:Sl->M W}{ce:Ce}(hst:s.Stays ce)(P:W->W->Prop):∀(l ys:List W),(∀x∈l,∃y,P x y/\e (some x::cs) ce=some (.ok y ce))->ys.length+l.length<=PySem.sizeLine ->
  ∃zs,lcL s cs zey e l ys ce=some (.ok (ys++zs) ce)/\PySem.Paired P l zs
 | [],ys,_,_=>⟨[],by simp only[lcL,if_pos hst,append_nil],.nil⟩
 | x::r,ys,h,hz=>by
  have hl:ys.length<PySem.sizeLine:=by simp only[length_cons] at hz;omega
  obtain⟨y,py,ey⟩:=h x mem_cons_self
  obtain⟨zs,ez,pz⟩:=zoh hst P r (ys++[y]) (fun z hz=>h z (mem_cons_of_mem _ hz)) (by simp only[length_append,length_cons,length_nil] at hz ⊢;omega)
  refine⟨y::zs,?_,.cons py pz⟩
  rw[zgv ⟨hst,hl⟩]
  show bnd (ret true) _ ce=_
  rw[zci (m:=ret true) rfl]
  show bnd (e (some x::cs)) (fun y=>lcL s cs zey e r (ys++[y])) ce=_
  rw[zci ey,ez,append_assoc]
  rfl
theorem zrv{mk:List W->M W}{js:List Nat}{di:Sl->M Src}{e:Sl->M W}{sl:Sl}{ce ce0:Ce}{s:Src}(hi:di sl ce0=some (.ok s ce))(hst:s.Stays ce)(P:W->W->Prop)(h:∀x∈s.items,∃y,P x y/\e (some x::zdH js sl) ce=some (.ok y ce))(hz:s.items.length<=PySem.sizeLine) :
  ∃zs,dLC mk js di zey e sl ce0=mk zs ce/\PySem.Paired P s.items zs:=by
 obtain⟨zs,e1,p⟩:=zoh hst P s.items [] h (by simpa using hz)
 refine⟨zs,?_,p⟩
 show bnd (di sl) (fun s=>bnd (lcL s (zdH js sl) zey e s.items []) mk) ce0=_
 rw[zci hi,zci e1,nil_append]
theorem zhK{s:Src}{cs:Sl}(hst:∀ce,s.Stays ce):∀(l ys:List W) (ce:Ce),ys.length+l.length<=PySem.sizeLine ->
  lcL s cs zey (zb9 zan) l ys ce=some (.ok (ys++(List.range l.length).map fun i=>W.cel (ce.length+i)) (ce++List.replicate l.length (C.lst [])))
 | [],ys,ce,_=>by simp[lcL,if_pos (hst ce)]
 | x::r,ys,ce,hz=>by
  have hl:ys.length<PySem.sizeLine:=by simp only[length_cons] at hz;omega
  have ih:=zhK (s:=s) (cs:=cs) hst r (ys++[W.cel ce.length]) (ce++[C.lst []]) (by simp only[length_append,length_cons,length_nil] at hz ⊢;omega)
  rw[zgv ⟨hst ce,hl⟩]
  show bnd (ret true) _ ce=_
  rw[zci (m:=ret true) rfl]
  have ex:zb9 zan (some x::cs) ce=some (.ok (W.cel ce.length) (ce++[C.lst []])):=by simp
  show bnd (zb9 zan (some x::cs)) (fun y=>lcL s cs zey (zb9 zan) r (ys++[y])) ce=_
  rw[zci ex,ih]
  have e1:(List.range (r.length+1)).map (fun i=>W.cel (ce.length+i))=W.cel ce.length::(List.range r.length).map fun i=>W.cel ((ce++[C.lst []]).length+i):=by
   rw[range_succ_eq_map,map_cons,map_map]
   congr 1
   apply map_congr_left
   intro i _
   simp only[Function.comp,length_append,length_cons,length_nil]
   congr 1
   omega
  have e2:ce++List.replicate (r.length+1) (C.lst [])=ce++[C.lst []]++List.replicate r.length (C.lst []):=by
   rw[replicate_succ,append_assoc];rfl
  rw[length_cons,e1,e2,append_assoc]
  rfl
theorem zrw{n:Nat}(h:n<=1000):zmd [nW n]=some (.rng 0 n):=by
 have h1:(-4611686018427387904:Int)<=(n:Int)/\(n:Int)<4611686018427387904:=by omega
 simp only[zmd,nW,if_pos h1,toNat_natCast]
theorem zrx{d:Sl->M (List W)}{sl:Sl}{ce ce':Ce}{n:Nat}(hd:d sl ce=some (.ok [nW n] ce'))(h:n<=1000):zgu d sl ce=some (.ok (.rng 0 n) ce'):=by
 show bnd (d sl) (fun ws=>look (fun _=>zmd ws)) ce=_
 rw[zci hd]
 show(zmd [nW n]).map _=_
 rw[zrw h]
 rfl
theorem zgB(k:Int){n:Nat}(h:0<n):∃j:Nat,j<n/\k % (n:Int)=j:=by
 have h1:=emod_nonneg k (b:=(n:Int)) (by omega)
 have h2:=emod_lt_of_pos k (b:=(n:Int)) (by omega)
 exact⟨(k % (n:Int)).toNat,by omega,by omega⟩
theorem zi8{k:Int}{n j:Nat}(h:0<n)(e:k % (n:Int)=j):zco (.int k) (.int (n:Int))=some (nW j):=by rw[zeA (by omega),e];rfl
theorem zoi{fin:Ce->Ce->W->Option (R W)}{n:Nat}{body:DS}{ws:List W}{ce ce':Ce}{sl:Sl}{w:W}{r:Option (R W)}(h:body (ws.map some++List.replicate (n-ws.length) none) ce=some (.go (.rt w) sl ce'))(hf:fin ce ce' w=r):dFn fin n body ws ce=r:=by
 unfold dFn
 rw[h]
 exact hf
theorem zm6{s:Src}{g:DG}{body:DS}{sl:Sl}{ce:Ce}(hst:s.Stays ce):zi5 s g body [] sl ce=some (.go .nx sl ce):=by
 simp only[zi5,if_pos hst]
theorem zgC{di:Sl->M Src}{g:DG}{body:DS}{sl:Sl}{ce ce0:Ce}{src:Src}(hi:di sl ce=some (.ok src ce0)):zcY di g body sl ce=zi5 src g body src.items sl ce0:=by simp only[zcY,lft,hi]
theorem zld{i:Nat}{d:Sl->M W}{sl:Sl}{ce ce':Ce}{w:W}(h:d sl ce=some (.ok w ce')):za6 i d sl ce=some (.go .nx (sl.set i (some w)) ce'):=by simp only[za6,lft,h]
theorem zry{c:Sl->M Bool}{a b:DS}{sl:Sl}{ce ce':Ce}(h:c sl ce=some (.ok true ce')):dIf c a b sl ce=a sl ce':=by simp only[dIf,lft,h]
theorem zrz{c:Sl->M Bool}{a b:DS}{sl:Sl}{ce ce':Ce}(h:c sl ce=some (.ok false ce')):dIf c a b sl ce=b sl ce':=by simp only[dIf,lft,h]
theorem zfj(n:Nat):(Src.rng 0 n).items=(List.range n).map nW:=by
 simp only[Src.items,Int.zero_add]
 rfl
theorem bels_nW(n:Nat):∀l:List Nat,zcf n (l.map nW)
 | []=>by simp only[map_nil,zcf]
 | a::r=>by simp only[map_cons,zcf,nW,Bel];exact⟨trivial,bels_nW n r⟩
theorem zrA(n:Nat)(b:List (List Nat)):Bel n (wB b):=by
 simp only[wB,Bel]
 induction b with
 | nil=>simp only[map_nil,zcf]
 | cons r b ih=>simp only[map_cons,zcf,wT,Bel];exact⟨bels_nW n r,ih⟩
def zcZ(r:List Nat):List Nat:=(srt (toI r)).map Int.toNat
theorem zdM(r:List Nat):(srt (toI r)).map W.int=(zcZ r).map nW:=by
 unfold zcZ
 rw[map_map]
 apply map_congr_left
 intro x hx
 have hx':=(zbT (toI r)).subset hx
 obtain⟨y,_,rfl⟩:=mem_map.mp hx'
 show W.int (y:Int)=W.int (((y:Int).toNat:Nat):Int)
 simp
theorem zeW(r:List Nat)(x:Nat):x∈zcZ r↔x∈r:=by
 unfold zcZ
 constructor
 ·intro h
  obtain⟨z,hz,rfl⟩:=mem_map.mp h
  obtain⟨y,hy,rfl⟩:=mem_map.mp ((zbT (toI r)).subset hz)
  simpa using hy
 ·intro h
  refine mem_map.mpr ⟨(x:Int),(zbT (toI r)).symm.subset (mem_map.mpr ⟨x,h,rfl⟩),by simp⟩
theorem Reach.trans{b:List (List Nat)}{ok:Nat->Prop}{s x y:Nat}(h:Reach b ok s x)(h':Reach b ok x y):Reach b ok s y:=by
 induction h' with
 | refl=>exact h
 | step _ hy o ih=>exact .step ih hy o
theorem Reach.okOf{b:List (List Nat)}{ok:Nat->Prop}{s x:Nat}(hs:ok s)(h:Reach b ok s x):ok x:=by
 cases h with
 | refl=>exact hs
 | step _ _ o=>exact o
theorem Reach.symm{b:List (List Nat)}{ok:Nat->Prop}{s x:Nat}(sym:∀i j,j∈b.getD i []->i∈b.getD j [])(hs:ok s)(h:Reach b ok s x):Reach b ok x s:=by
 induction h with
 | refl=>exact .refl
 | step h hy o ih=>exact Reach.trans (.step .refl (sym _ _ hy) (h.okOf hs)) ih
theorem Paired.nth{α β:Type}{P:α->β->Prop}{l:List α}{m:List β}(h:PySem.Paired P l m):l.length=m.length/\∀(i:Nat) (a:α) (b:β),l[i]?=some a->m[i]?=some b->P a b:=by
 refine⟨PySem.Paired.length h,fun i a b h1 h2=>?_⟩
 obtain⟨b',e,p⟩:=L2.Paired.at2 h i a h1
 rw[h2] at e;cases e;exact p
def Run(s:DS)(sl:Sl)(ce:Ce)(Q:O->Prop):Prop:=∃o,s sl ce=some o/\Q o
def Nx(P:Sl->Ce->Prop):O->Prop
 | .go .nx sl ce=>P sl ce
 | .go .ct sl ce=>P sl ce
 | _=>False
def Rt(P:W->Ce->Prop):O->Prop
 | .go (.rt w) _ ce=>P w ce
 | _=>False
def NR(P:Sl->Ce->Prop)(T:W->Ce->Prop):O->Prop
 | .go .nx sl ce=>P sl ce
 | .go .ct sl ce=>P sl ce
 | .go (.rt w) _ ce=>T w ce
 | _=>False
section
variable {s a b:DS} {sl sl':Sl} {ce ce' c1 c2 c3:Ce} {Q Q':O->Prop} {d e:Sl->M W} {w x y:W} {i:Nat} {p q:Bool} {ta tb:Sl->M Bool}
theorem Run.mono(h:Run s sl ce Q)(m:∀o,Q o->Q' o):Run s sl ce Q':=by
 obtain⟨o,e,q⟩:=h;exact⟨o,e,m o q⟩
theorem zrB{o:O}(h:s sl ce=some o)(q:Q o):Run s sl ce Q:=⟨o,h,q⟩
theorem zbn(q:Q (.go .nx sl ce)):Run zaZ sl ce Q:=⟨_,rfl,q⟩
theorem zik(h:e sl ce=some (.ok w ce'))(q:Q (.go .nx (sl.set i (some w)) ce')):Run (za6 i e) sl ce Q:=⟨_,zld h,q⟩
theorem zaw(h:e sl ce=some (.ok w ce'))(q:Q (.go (.rt w) sl ce')):Run (zbt e) sl ce Q:=⟨_,by simp only[zbt,lft,h],q⟩
theorem zeC(h:e sl ce=some (.ok w ce'))(q:Q (.go .nx sl ce')):Run (dEx e) sl ce Q:=⟨_,by simp only[dEx,lft,h],q⟩
theorem zbE(h:ta sl ce=some (.ok p ce'))(ht:p=true->Run a sl ce' Q)(hf:p=false->Run b sl ce' Q):Run (dIf ta a b) sl ce Q:=by
 cases p with
 | true=>obtain⟨o,e,q⟩:=ht rfl;exact⟨o,by rw[zry h];exact e,q⟩
 | false=>obtain⟨o,e,q⟩:=hf rfl;exact⟨o,by rw[zrz h];exact e,q⟩
theorem zcQ(h:a sl ce=some (.go .nx sl' ce'))(q:Run b sl' ce' Q):Run (zap a b) sl ce Q:=by
 obtain⟨o,e,q⟩:=q;exact⟨o,by rw[zk7 h];exact e,q⟩
theorem zao(h:e sl ce=some (.ok w ce'))(q:Run b (sl.set i (some w)) ce' Q):Run (zap (za6 i e) b) sl ce Q:=zcQ (zld h) q
theorem zdN(h:e sl ce=some (.ok w ce'))(q:Run b sl ce' Q):Run (zap (dEx e) b) sl ce Q:=zcQ (by simp only[dEx,lft,h]) q
theorem zjT{c:DS}:zap (zap a b) c=zap a (zap b c):=by
 funext sl ce
 simp only[zap]
 cases a sl ce with
 | none=>rfl
 | some o=>cases o with
  | ex x c=>rfl
  | go f sl' ce'=>cases f<;>rfl
theorem zbF{c:DS}(h:Run (zap a (zap b c)) sl ce Q):Run (zap (zap a b) c) sl ce Q:=by rw[zjT];exact h
theorem zaH{c:DS}(h:Run c sl ce Q):Run (zap zaZ c) sl ce Q:=h
theorem zc7{c:DS}(h:Run (zbt e) sl ce Q):Run (zap (zbt e) c) sl ce Q:=by
 obtain⟨o,e',q⟩:=h
 refine⟨o,?_,q⟩
 simp only[zap]
 simp only[zbt,lft] at e' ⊢
 cases h:e sl ce with
 | none=>rw[h] at e';cases e'
 | some r=>rw[h] at e';cases r<;>exact e'
theorem zaP{c:DS}(h:ta sl ce=some (.ok p ce'))(ht:p=true->Run (zap a c) sl ce' Q)(hf:p=false->Run (zap b c) sl ce' Q):Run (zap (dIf ta a b) c) sl ce Q:=by
 cases p with
 | true=>obtain⟨o,e,q⟩:=ht rfl;exact⟨o,by rw[<- e];simp only[zap,zry h],q⟩
 | false=>obtain⟨o,e,q⟩:=hf rfl;exact⟨o,by rw[<- e];simp only[zap,zrz h],q⟩
end
section
variable {α:Type} {en:α->W} {src:Src} {g:DG} {body b:DS} {Q:O->Prop}
theorem zeX(xs:List α)(R:List α->Sl->Ce->Prop)(T:W->Ce->Prop)(step:∀d x r sl ce,d++x::r=xs->R d sl ce->src.Stays ce/\∃sl1,g (en x) sl ce=some (sl1,ce)/\Run body sl1 ce (NR (R (d++[x])) T))(hst:∀sl ce,R xs sl ce->src.Stays ce) :
  ∀(r d:List α) (sl:Sl) (ce:Ce),d++r=xs->R d sl ce->Run (zi5 src g body (r.map en)) sl ce fun o=>(∃sl' ce',o=.go .nx sl' ce'/\R xs sl' ce')\/∃w sl' ce',o=.go (.rt w) sl' ce'/\T w ce'
 | [],d,sl,ce,e,h=>by
  rw[append_nil] at e
  subst e
  exact⟨_,zm6 (hst _ _ h),.inl ⟨_,_,rfl,h⟩⟩
 | x::r,d,sl,ce,e,h=>by
  obtain⟨hs,sl1,e1,o,e2,q⟩:=step d x r sl ce e h
  have go:∀sl2 ce2,R (d++[x]) sl2 ce2->Run (zi5 src g body (r.map en)) sl2 ce2 fun o=>(∃sl' ce',o=.go .nx sl' ce'/\R xs sl' ce')\/∃w sl' ce',o=.go (.rt w) sl' ce'/\T w ce':=fun sl2 ce2 h2=>zeX xs R T step hst r (d++[x]) sl2 ce2 (by rw[append_assoc];exact e) h2
  cases o with
  | ex x c=>exact q.elim
  | go f sl2 ce2 =>
   cases f with
   | nx =>
    obtain⟨o,e3,q3⟩:=go sl2 ce2 q
    exact⟨o,by simp only[map_cons,zi5,if_pos hs,e1,e2];exact e3,q3⟩
   | ct =>
    obtain⟨o,e3,q3⟩:=go sl2 ce2 q
    exact⟨o,by simp only[map_cons,zi5,if_pos hs,e1,e2];exact e3,q3⟩
   | bk=>exact q.elim
   | rt w=>exact⟨.go (.rt w) sl2 ce2,by simp only[map_cons,zi5,if_pos hs,e1,e2],.inr ⟨w,sl2,ce2,rfl,q⟩⟩
theorem zil{di:Sl->M Src}{sl:Sl}{ce ce0:Ce}{i:Nat}{xs:List α}(hi:di sl ce=some (.ok src ce0))(hx:src.items=xs.map en)(R:List α->Sl->Ce->Prop)(h0:R [] sl ce0)(step:∀d x r sl ce,d++x::r=xs->x∈xs->R d sl ce->src.Stays ce/\Run body (sl.set i (some (en x))) ce (Nx (R (d++[x]))))(hst:∀sl ce,R xs sl ce->src.Stays ce)(fin:∀sl ce,R xs sl ce->Q (.go .nx sl ce)):Run (zcY di (gN i) body) sl ce Q:=by
 obtain⟨o,e,q⟩:=zeX (g:=gN i) (body:=body) (en:=en) (src:=src) xs R (fun _ _=>False) (fun d x r sl ce e h=>by
  obtain⟨h1,h2⟩:=step d x r sl ce e (by rw[<- e];simp) h
  exact⟨h1,_,rfl,h2.mono fun o q=>by
   cases o with
   | ex x c=>exact q.elim
   | go f sl2 ce2=>cases f<;>first|exact q|exact q.elim⟩) hst xs [] sl ce0 rfl h0
 rcases q with ⟨sl',ce',rfl,h⟩|⟨w,sl',ce',rfl,h⟩
 ·exact⟨_,by rw[zgC hi,hx];exact e,fin _ _ h⟩
 ·exact h.elim
theorem zim{di:Sl->M Src}{sl:Sl}{ce ce0:Ce}{i:Nat}{xs:List α}(hi:di sl ce=some (.ok src ce0))(hx:src.items=xs.map en)(R:List α->Sl->Ce->Prop)(h0:R [] sl ce0)(step:∀d x r sl ce,d++x::r=xs->x∈xs->R d sl ce->src.Stays ce/\Run body (sl.set i (some (en x))) ce (Nx (R (d++[x]))))(hst:∀sl ce,R xs sl ce->src.Stays ce)(fin:∀sl ce,R xs sl ce->Run b sl ce Q):Run (zap (zcY di (gN i) body) b) sl ce Q:=by
 obtain⟨o,e,q⟩:=zil (Q:=fun o=>∃sl' ce',o=.go .nx sl' ce'/\Run b sl' ce' Q) (body:=body) (i:=i) hi hx R h0 step hst fun sl ce h=>⟨sl,ce,rfl,fin sl ce h⟩
 obtain⟨sl',ce',rfl,h⟩:=q
 exact zcQ e h
theorem zle{σ:Type}{c:Sl->M Bool}{sl:Sl}{ce:Ce}{fu:Nat}(R:σ->Sl->Ce->Prop)(m:σ->Nat)(s0:σ)(h0:R s0 sl ce)(hm:m s0<fu)(step:∀s sl ce,R s sl ce->∃p,c sl ce=some (.ok p ce)/\(p=true->Run body sl ce (Nx fun sl2 ce2=>∃s2,m s2<m s/\R s2 sl2 ce2))/\(p=false->Q (.go .nx sl ce))):Run (zcO c body fu) sl ce Q:=by
 induction fu generalizing s0 sl ce with
 | zero=>exact absurd hm (not_lt_zero _)
 | succ fu ih =>
  obtain⟨p,e,ht,hf⟩:=step s0 sl ce h0
  cases p with
  | false=>exact⟨_,by simp only[zcO,lft,e],hf rfl⟩
  | true =>
   obtain⟨o,e2,q⟩:=ht rfl
   cases o with
   | ex x c=>exact q.elim
   | go f sl2 ce2 =>
    cases f with
    | nx =>
     obtain⟨s2,hs,r⟩:=q
     obtain⟨o,e3,q3⟩:=ih s2 r (by omega)
     exact⟨o,by simp only[zcO,lft,e,e2];exact e3,q3⟩
    | ct =>
     obtain⟨s2,hs,r⟩:=q
     obtain⟨o,e3,q3⟩:=ih s2 r (by omega)
     exact⟨o,by simp only[zcO,lft,e,e2];exact e3,q3⟩
    | bk=>exact q.elim
    | rt w=>exact q.elim
theorem zpi{a b:DS}{sl:Sl}{ce:Ce}(h:Run a sl ce fun o=>∃sl' ce',o=.go .nx sl' ce'/\Run b sl' ce' Q):Run (zap a b) sl ce Q:=by
 obtain⟨o,e,sl',ce',rfl,q⟩:=h
 exact zcQ e q
end
section
variable {sl:Sl} {ce c1 c2 c3:Ce} {a b:Sl->M W} {w x y:W} {i:Nat} {p q:Bool} {ta tb:Sl->M Bool} {ra:Sl->M (List W)} {xs ws:List W} {src:Src}
theorem zai(h:sl[i]?=some (some w)):zae i sl ce=some (.ok w ce):=by simp only[zae,h]
theorem zbH:dC w sl ce=some (.ok w ce):=rfl
theorem zcG{f:W->W->Option W}(ha:a sl ce=some (.ok x c1))(hb:b sl c1=some (.ok y c2))(h:f x y=some w):dOp f a b sl ce=some (.ok w c2):=by simp only[dOp,bnd,look,ha,hb,h,map_some]
theorem zaR{f:Ce->W->W->Option W}(ha:a sl ce=some (.ok x c1))(hb:b sl c1=some (.ok y c2))(h:f c2 x y=some w):zaO f a b sl ce=some (.ok w c2):=by simp only[zaO,bnd,look,ha,hb,h,map_some]
theorem zcW{f:W->Option W}(ha:a sl ce=some (.ok x c1))(h:f x=some w):dUn f a sl ce=some (.ok w c1):=by simp only[dUn,bnd,look,ha,h,map_some]
theorem zc0(ha:a sl ce=some (.ok (.bl p) c1)):dB a sl ce=some (.ok p c1):=by simp only[dB,bnd,look,ha,map_some]
theorem zhL(ha:a sl ce=some (.ok x c1))(h:zid c1 x=some p):zkM a sl ce=some (.ok p c1):=by simp only[zkM,bnd,look,ha,h,map_some]
theorem zin(ha:ta sl ce=some (.ok p c1))(hb:p=true->tb sl c1=some (.ok q c1)):zeG ta tb sl ce=some (.ok (p&&q) c1):=by
 cases p with
 | true=>simp only[zeG,bnd,ha,hb rfl,Bool.true_and]
 | false=>simp only[zeG,bnd,ha,Bool.false_and];rfl
theorem zi9(ha:ta sl ce=some (.ok p c1))(hb:p=false->tb sl c1=some (.ok q c1)):zmM ta tb sl ce=some (.ok (p||q) c1):=by
 cases p with
 | true=>simp only[zmM,bnd,ha,Bool.true_or];rfl
 | false=>simp only[zmM,bnd,ha,hb rfl,Bool.false_or]
theorem zbJ(ha:ta sl ce=some (.ok p c1)):zcE ta sl ce=some (.ok (!p) c1):=by simp only[zcE,bnd,ha];rfl
theorem zoj(hc:ta sl ce=some (.ok p c1))(ht:p=true->a sl c1=some (.ok x c1))(hf:p=false->b sl c1=some (.ok y c1)):zq5 ta a b sl ce=some (.ok (if p=true then x else y) c1):=by
 cases p with
 | true=>simp only[zq5,bnd,hc,ht rfl,if_true]
 | false=>simp[zq5,bnd,hc,hf rfl]
theorem zam:zan sl ce=some (.ok [] ce):=rfl
theorem zaj(ha:a sl ce=some (.ok x c1))(hr:ra sl c1=some (.ok xs c2)):zac a ra sl ce=some (.ok (x::xs) c2):=by simp only[zac,bnd,ha,hr];rfl
theorem zbC{f:List W->M W}(hr:ra sl ce=some (.ok ws c1))(h:f ws c1=some (.ok w c2)):dBi f ra sl ce=some (.ok w c2):=by simp only[dBi,bnd,hr,h]
theorem zaG{f:List W->M W}{n:Nat}(hr:ra sl ce=some (.ok ws c1))(hl:ws.length=n)(h:f ws c1=some (.ok w c2)):zaJ n f ra sl ce=some (.ok w c2):=by simp only[zaJ,bnd,hr,if_pos hl,h]
theorem zeD(hr:ra sl ce=some (.ok ws c1))(hl:ws.length<=PySem.sizeLine):zf1 ra sl ce=some (.ok (.tup ws) c1):=by simp only[zf1,bnd,hr,mkF,if_pos hl]
theorem zdO(hr:ra sl ce=some (.ok ws c1))(hl:ws.length<=PySem.sizeLine):zh2 ra sl ce=some (.ok (.lst ws) c1):=by simp only[zh2,bnd,hr,mkF,if_pos hl]
theorem zca(hr:ra sl ce=some (.ok ws c1))(hl:ws.length<=PySem.sizeLine):zb9 ra sl ce=some (.ok (.cel c1.length) (c1++[.lst ws])):=by simp only[zb9,bnd,hr,mkC,if_pos hl]
theorem zgD:zgr sl ce=some (.ok (.cel ce.length) (ce++[.dct []])):=by simp[zgr,mkC]
theorem zfk{f:W->List W->M W}{ys:List W}(ha:a sl ce=some (.ok x c1))(hl:zcg c1 x=some ys)(hr:ra sl c1=some (.ok ws c2))(h:f x ws c2=some (.ok w c3)):dMt f a ra sl ce=some (.ok w c3):=by simp only[dMt,bnd,ha,look,zme,hl,hr,h,map_some]
theorem zhM{f:W->List W->M W}{ys:List W}(ha:a sl ce=some (.ok x c1))(hl:zcg c1 x=some ys)(h:f x [] c1=some (.ok w c3)):zmW f a sl ce=some (.ok w c3):=by simp only[zmW,bnd,ha,look,zme,hl,h,map_some]
theorem zlf(ha:a sl ce=some (.ok x c1))(h:zii c1 x=some src):dIL a sl ce=some (.ok src c1):=by simp only[dIL,bnd,ha,look,h,map_some]
theorem zrC(ha:a sl ce=some (.ok x c1))(h:ztn x=some src):dIT a sl ce=some (.ok src c1):=by simp only[dIT,bnd,ha,look,h,map_some]
theorem zlg{n:Nat}(ha:ra sl ce=some (.ok [nW n] c1))(h:n<=1000):zgu ra sl ce=some (.ok (.rng 0 n) c1):=zrx ha h
theorem zrD{α:Type}{mk:List W->M W}{js:List Nat}{di:Sl->M Src}{c:Sl->M Bool}{e:Sl->M W}{en:α->W}{zs:List α}{t:α->Bool}{g:α->W}(hi:di sl ce=some (.ok src c1))(hx:src.items=zs.map en)(hst:src.Stays c1)(hc:∀x∈zs,c (some (en x)::zdH js sl) c1=some (.ok (t x) c1))(he:∀x∈zs,t x=true->e (some (en x)::zdH js sl) c1=some (.ok (g x) c1))(hz:zs.length<=PySem.sizeLine)(hm:mk ((zs.filter t).map g) c1=some (.ok w c2)):dLC mk js di c e sl ce=some (.ok w c2):=by
 have key:∀(l:List α) (ys:List W),(∀x∈l,x∈zs)->ys.length+l.length<=PySem.sizeLine->lcL src (zdH js sl) c e (l.map en) ys c1=some (.ok (ys++(l.filter t).map g) c1):=by
  intro l
  induction l with
  | nil=>intro ys _ _;simp only[map_nil,lcL,if_pos hst,filter_nil,append_nil]
  | cons x r ih =>
   intro ys hl hz
   simp only[length_cons] at hz
   rw[map_cons,zgv ⟨hst,by omega⟩,zci (hc x (hl x mem_cons_self))]
   cases ht:t x with
   | true =>
    show bnd (e (some (en x)::zdH js sl)) (fun y=>lcL src (zdH js sl) c e (r.map en) (ys++[y])) c1=_
    rw[zci (he x (hl x mem_cons_self) ht),ih _ (fun y hy=>hl y (mem_cons_of_mem _ hy)) (by simp only[length_append,length_cons,length_nil];omega),filter_cons_of_pos ht,map_cons,append_assoc]
    rfl
   | false =>
    show lcL src (zdH js sl) c e (r.map en) ys c1=_
    rw[ih _ (fun y hy=>hl y (mem_cons_of_mem _ hy)) (by omega),filter_cons_of_neg (by simp[ht])]
 show bnd (di sl) (fun s=>bnd (lcL s (zdH js sl) c e s.items []) mk) ce=_
 rw[zci hi,hx,zci (key zs [] (fun _ h=>h) (by simpa using hz)),nil_append]
 exact hm
theorem zcs(h:xs.length<=PySem.sizeLine):zbs xs ce=some (.ok (.lst xs) ce):=if_pos h
theorem zdx(h:xs.length<=PySem.sizeLine):zgs xs ce=some (.ok (.cel ce.length) (ce++[.lst xs])):=if_pos h
theorem zrE{o i v:Sl->M W}{ow iw:W}{key:Key}{k:Nat}{kvs:List (Key×W)}{Q:O->Prop}(h1:v sl ce=some (.ok w c1))(h2:o sl c1=some (.ok ow c2))(h3:i sl c2=some (.ok iw c3))(h4:zj9 iw=some key)(h5:zn9 c3 ow=some (k,kvs))(h6:kvs.length<PySem.sizeLine)(q:Q (.go .nx sl (c3.set k (.dct (zjP kvs key w))))):Run (zka o i v) sl ce Q:=⟨_,zof h1 h2 h3 h4 h5 h6,q⟩
theorem zpj{o i v:Sl->M W}{s:DS}{ow iw:W}{key:Key}{k:Nat}{kvs:List (Key×W)}{Q:O->Prop}(h1:v sl ce=some (.ok w c1))(h2:o sl c1=some (.ok ow c2))(h3:i sl c2=some (.ok iw c3))(h4:zj9 iw=some key)(h5:zn9 c3 ow=some (k,kvs))(h6:kvs.length<PySem.sizeLine)(q:Run s sl (c3.set k (.dct (zjP kvs key w))) Q):Run (zap (zka o i v) s) sl ce Q:=zcQ (zof h1 h2 h3 h4 h5 h6) q
end
structure Own (b ce:Ce) (l:List (Nat×C)):Prop where
 cut:∃t,ce=b++t
 get:∀p∈l,ce[p.1]?=some p.2
 ge:∀p∈l,b.length<=p.1
 nd:(l.map Prod.fst).Nodup
namespace Own
variable {b ce:Ce} {l:List (Nat×C)} {k k1 k2 k3:Nat} {c c' q1 q2 q3:C}
theorem start(b:Ce):Own b b []:=⟨⟨[],by simp⟩,by simp,by simp,by simp⟩
theorem alloc(h:Own b ce l)(c:C):Own b (ce++[c]) ((ce.length,c)::l):=by
 obtain⟨⟨t,e⟩,h2,h3,h4⟩:=h
 have lt:∀p∈l,p.1<ce.length:=fun p hp=>by
  have:=h2 p hp
  exact(List.getElem?_eq_some_iff.mp this).1
 refine⟨⟨t++[c],by rw[e,append_assoc]⟩,fun p hp=>?_,fun p hp=>?_,?_⟩
 ·rcases mem_cons.mp hp with rfl|hp
  ·exact zf6 _ _
  ·rw[getElem?_append_left (lt p hp)];exact h2 p hp
 ·rcases mem_cons.mp hp with rfl|hp
  ·simp[e]
  ·exact h3 p hp
 ·simp only[map_cons,nodup_cons]
  exact⟨fun q=>by obtain⟨p,hp,e⟩:=mem_map.mp q;have:=lt p hp;omega,h4⟩
theorem perm{l':List (Nat×C)}(h:Own b ce l)(p:l.Perm l'):Own b ce l' :=
 ⟨h.cut,fun q hq=>h.get q (p.symm.subset hq),fun q hq=>h.ge q (p.symm.subset hq),(p.map _).nodup h.nd⟩
theorem g0(h:Own b ce ((k,c)::l)):ce[k]?=some c:=h.get _ mem_cons_self
theorem g1(h:Own b ce ((k1,q1)::(k,c)::l)):ce[k]?=some c:=h.get (k,c) (by simp)
theorem g2(h:Own b ce ((k1,q1)::(k2,q2)::(k,c)::l)):ce[k]?=some c:=h.get (k,c) (by simp)
theorem drop(h:Own b ce ((k,c)::l)):Own b ce l:=⟨h.cut,fun p hp=>h.get p (mem_cons_of_mem _ hp),fun p hp=>h.ge p (mem_cons_of_mem _ hp),(nodup_cons.mp h.nd).2⟩
theorem set0(h:Own b ce ((k,c)::l))(c':C):Own b (ce.set k c') ((k,c')::l):=by
 have hk:k<ce.length:=(List.getElem?_eq_some_iff.mp h.g0).1
 obtain⟨⟨t,e⟩,h2,h3,h4⟩:=h
 have hb:=h3 (k,c) mem_cons_self
 have hn:∀p∈l,p.1≠k:=fun p hp q=>(nodup_cons.mp h4).1 (mem_map.mpr ⟨p,hp,q⟩)
 refine⟨⟨t.set (k-b.length) c',?_⟩,fun p hp=>?_,fun p hp=>?_,h4⟩
 ·rw[e,set_append_right _ _ hb]
 ·rcases mem_cons.mp hp with rfl|hp
  ·simp[hk]
  ·rw[getElem?_set_ne (Ne.symm (hn p hp))];exact h2 p (mem_cons_of_mem _ hp)
 ·rcases mem_cons.mp hp with rfl|hp
  ·exact hb
  ·exact h3 p (mem_cons_of_mem _ hp)
theorem set1(h:Own b ce ((k1,q1)::(k,c)::l))(c':C):Own b (ce.set k c') ((k1,q1)::(k,c')::l):=((h.perm (.swap _ _ _)).set0 c').perm (.swap _ _ _)
theorem set2(h:Own b ce ((k1,q1)::(k2,q2)::(k,c)::l))(c':C):Own b (ce.set k c') ((k1,q1)::(k2,q2)::(k,c')::l) :=
 ((h.perm (.trans (.cons _ (.swap _ _ _)) (.swap _ _ _))).set0 c').perm (.trans (.swap _ _ _) (.cons _ (.swap _ _ _)))
theorem finC(h:Own b ce l){w:W}(hb:Bel b.length w):finC b ce w=some (.ok w b):=by
 obtain⟨t,rfl⟩:=h.cut
 exact zeU hb
theorem finO(h:Own b ce ((k,c)::l))(hb:zez b.length c):finO b ce (.cel k)=some (.ok (.cel b.length) (b++[c])):=by
 have g:=h.g0
 have ge:=h.ge _ mem_cons_self
 obtain⟨t,rfl⟩:=h.cut
 obtain⟨j,hj⟩:=exists_eq_add_of_le ge
 have hj':k=b.length+j:=hj
 subst hj'
 exact zm1 (by rw[<- zsq b t j];exact g) hb
end Own
theorem zfU{fin:Ce->Ce->W->Option (R W)}{n:Nat}{body:DS}{ws:List W}{ce:Ce}{r:Option (R W)}(h:Run body (ws.map some++List.replicate (n-ws.length) none) ce (Rt fun w ce'=>fin ce ce' w=r)):dFn fin n body ws ce=r:=by
 obtain⟨o,e,q⟩:=h
 cases o with
 | ex x c=>exact q.elim
 | go f sl c=>cases f with
  | rt w=>exact zoi e q
  | nx=>exact q.elim
  | bk=>exact q.elim
  | ct=>exact q.elim
section
variable {ce:Ce} {k n p j:Nat} {b:List (List Nat)} {is:List Int} {l:List Nat} {xs:List W}
abbrev wS(is:List Int):W:=.tup (is.map W.int)
abbrev wL(l:List Nat):W:=.lst (l.map nW)
abbrev sW(ns:List Int):W:=.lst (ns.map W.int)
theorem zrF(h:p<b.length):ixW ce (wB b) (nW p)=some (wT (b.getD p [])):=by
 rw[zgA (xs:=b.map wT) rfl,getElem?_map,getD_eq_getElem?_getD,getElem?_eq_getElem h];rfl
theorem zok(h:p<l.length):ixW ce (wL l) (nW p)=some (nW (l.getD p 0)):=by
 rw[zgA (xs:=l.map nW) rfl,getElem?_map,getD_eq_getElem?_getD,getElem?_eq_getElem h];rfl
theorem zcR(h:p<is.length):ixW ce (wS is) (nW p)=some (.int (is.getD p 0)):=by
 rw[zgA (xs:=is.map W.int) rfl,getElem?_map,getD_eq_getElem?_getD,getElem?_eq_getElem h];rfl
theorem zol(g:ce[k]?=some (.lst (l.map nW)))(h:p<l.length):ixW ce (.cel k) (nW p)=some (nW (l.getD p 0)):=by
 rw[zgA (zck g),getElem?_map,getD_eq_getElem?_getD,getElem?_eq_getElem h];rfl
theorem zpk(g:ce[k]?=some (.lst (l.map nW))):zcq [.cel k] ce=some (.ok (nW l.length) ce):=by simp only[zcq,zck g,length_map];rfl
theorem zpl:zcq [wL l] ce=some (.ok (nW l.length) ce):=by simp[zcq];rfl
theorem zlh:zcq [wB b] ce=some (.ok (nW b.length) ce):=by simp[zcq,wB];rfl
theorem zrG(g:ce[k]?=some (.lst (l.map nW))){ng:Bool}:inW ng ce (nW p) (.cel k)=some (.bl (if ng then !decide (p∈l) else decide (p∈l))):=zru (zck g) ng
theorem zpm{F:List Nat}(g:ce[k]?=some (.dct (kvs F))){ng:Bool}:zn7 ng ce (nW p) (.cel k)=some (.bl (if ng then !decide (p∈F) else decide (p∈F))):=by
 have ky:zj9 (nW p)=some (.inl (p:Int)):=rfl
 simp only[zn7,ky,zog g,zph]
theorem zfl{y:W}(g:ce[k]?=some (.lst xs))(h:xs.length<PySem.sizeLine):zdJ (.cel k) [y] ce=some (.ok .non (ce.set k (.lst (xs++[y])))):=zm3 (zeB g) h
end
open L2
def ins(F:List Nat)(y:Nat):List Nat:=if y∈F then F else F++[y]
theorem ins_mem{F:List Nat}{y x:Nat}:x∈ins F y↔x∈F\/x=y:=by
 unfold ins
 split
 ·rename_i h
  exact⟨.inl,fun q=>q.elim id fun e=>e▸h⟩
 ·simp
theorem zf7{F:List Nat}{y:Nat}(h:F.Nodup):(ins F y).Nodup:=by
 unfold ins
 split
 ·exact h
 ·rename_i hn
  rw[nodup_append]
  exact⟨h,by simp,fun a ha b hb=>by rw[mem_singleton] at hb;subst hb;intro q;subst q;exact hn ha⟩
theorem zel(F:List Nat)(y:Nat):zjP (kvs F) (.inl (y:Int)) (.bl true)=kvs (ins F y):=by
 unfold ins
 split
 ·rename_i h
  have e:((kvs F).any fun kv=>decide (kv.1=(.inl (y:Int):Key)))=true:=any_eq_true.mpr ⟨(.inl (y:Int),.bl true),mem_map.mpr ⟨y,h,rfl⟩,by simp⟩
  unfold zjP
  rw[e]
  simp only[if_true]
  conv=>rhs;rw[<- map_id (kvs F)]
  apply map_congr_left
  intro p hp
  obtain⟨x,hx,rfl⟩:=mem_map.mp hp
  simp only[id]
  split
  ·rename_i q;simp at q;rw[q]
  ·rfl
 ·rename_i h;exact zij F y h
theorem zdP{F:List Nat}{n:Nat}(nd:F.Nodup)(lt:∀x∈F,x<n):zcZ F=(List.range n).filter fun x=>decide (x∈F):=by
 have h:srt (toI F)=toI ((List.range n).filter fun x=>decide (x∈F)):=by
  refine zcF ((zbT _).trans ?_) (zdi _) ?_
  ·refine List.Perm.map _ (zgz nd (List.Pairwise.filter _ nodup_range) fun x=>?_)
   simp only[mem_filter,mem_range,decide_eq_true_eq]
   exact⟨fun h=>⟨lt x h,h⟩,fun h=>h.2⟩
  ·unfold toI
   rw[pairwise_map]
   exact(List.Pairwise.filter _ pairwise_lt_range).imp fun h=>by omega
 unfold zcZ
 rw[h]
 unfold toI
 rw[map_map]
 conv=>rhs;rw[<- map_id (List.filter _ _)]
 apply map_congr_left
 intro x _
 simp
theorem zja{ce:Ce}{k:Nat}{F:List Nat}{mk:List W->M W}(g:ce[k]?=some (.dct (kvs F)))(h:F.length<64):za2 mk [.cel k] ce=mk ((zcZ F).map nW) ce:=by
 have l:zcg ce (.cel k)=none:=by simp only[zcg,g]
 have g':zma ce (.cel k)=some (kvs F):=by simp only[zma,g]
 simp only[za2,l,g',zgy,zb3,if_pos h,zdM]
inductive DctOf (ce:Ce):W->List Nat->Prop where
 | cl {k:Nat} {F:List Nat} (g:ce[k]?=some (.dct (kvs F))):DctOf ce (.cel k) F
 | fz {k:Nat} {F:List Nat} (g:ce[k]?=some (.fzd (kvs F))):DctOf ce (.cel k) F
theorem zjb{ce:Ce}{w:W}{F:List Nat}{mk:List W->M W}(h:DctOf ce w F):zek mk [w] ce=mk (F.map nW) ce:=by
 have e:(toI F).map W.int=F.map nW:=by unfold toI;rw[map_map];rfl
 cases h with
 | cl g =>
  rename_i k
  have l:zeR ce (.cel k)=none:=by simp only[zeR,zcg,g]
  have g':zma ce (.cel k)=some (kvs F):=by simp only[zma,g]
  simp only[zek,l,g',zgy,e]
 | fz g =>
  rename_i k
  have l:zeR ce (.cel k)=none:=by simp only[zeR,zcg,g]
  have g':zma ce (.cel k)=some (kvs F):=by simp only[zma,g]
  simp only[zek,l,g',zgy,e]
theorem zm7{ce:Ce}{k:Nat}{l:List Nat}{mk:List W->M W}(g:ce[k]?=some (.lst (l.map nW)))(h:l.length<64):za2 mk [.cel k] ce=mk ((zcZ l).map nW) ce:=by
 simp only[za2,zcj g,zeV,zb3,if_pos h,zdM]
inductive LstOf (ce:Ce):W->List W->Prop where
 | fr (xs:List W):LstOf ce (.lst xs) xs
 | cl {k:Nat} {xs:List W} (h:ce[k]?=some (.lst xs)):LstOf ce (.cel k) xs
namespace LstOf
variable {ce:Ce} {w:W} {xs:List W}
theorem drf(h:LstOf ce w xs):drf ce w=.lst xs:=by
 cases h with
 | fr=>rfl
 | cl h=>simp only[VS.drf,h]
theorem src(h:LstOf ce w xs):∃s,zii ce w=some s/\s.items=xs/\s.Stays ce:=by
 cases h with
 | fr=>exact⟨.lst xs,rfl,rfl,trivial⟩
 | cl h=>exact⟨.cell _ xs,by simp only[zii,h],rfl,h⟩
theorem eqI{w':W}{l m:List Int}(h:LstOf ce w (l.map W.int))(h':LstOf ce w' (m.map W.int))(ng:Bool):eqW ng ce w w'=some (.bl (if ng then !decide (l=m) else decide (l=m))):=by
 have c1:cln 8 (.lst (l.map W.int))=true:=zdL l 7
 have c2:cln 8 (.lst (m.map W.int))=true:=zdL m 7
 simp only[eqW,h.drf,h'.drf,c1,c2,zm5,Bool.and_self,if_true]
theorem eqN{w':W}{l m:List Nat}(h:LstOf ce w (l.map nW))(h':LstOf ce w' (m.map nW))(ng:Bool):eqW ng ce w w'=some (.bl (if ng then !decide (l=m) else decide (l=m))):=by
 rw[zla] at h h'
 rw[h.eqI h' ng]
 have inj:(toI l=toI m)↔l=m:=by
  unfold toI
  exact⟨fun h=>by simpa using List.map_inj_right (f:=fun(x:Nat)=>(x:Int)) (fun x y h=>by have h:(x:Int)=(y:Int):=h;omega) |>.mp h,fun h=>by rw[h]⟩
 simp only[inj]
end LstOf
theorem zgE{ce:Ce}{w:W}{xs:List W}(h:LstOf ce w xs)(hz:xs.length<=PySem.sizeLine):zbX [w] ce=some (.ok (.tup xs) ce):=by
 cases h with
 | fr=>exact if_pos hz
 | cl h=>simp only[zbX,zcj h];exact if_pos hz
theorem zgF{ce:Ce}{w:W}{xs:List W}{mk:List W->M W}(h:zeR ce w=some xs):zek mk [w] ce=mk xs ce:=by simp only[zek,h]
def zfJ(di:Sl->M Src)(sl:Sl)(ce c1:Ce)(xs:List W):Prop:=∃s,di sl ce=some (.ok s c1)/\s.items=xs/\s.Stays c1
def SrcFix(di:Sl->M Src)(sl:Sl)(ce c1:Ce)(xs:List W):Prop:=∃s,di sl ce=some (.ok s c1)/\s.items=xs/\∀c,s.Stays c
section
variable {di:Sl->M Src} {sl:Sl} {ce c1 c2:Ce} {xs:List W} {a:Sl->M W} {ra:Sl->M (List W)} {w:W}
theorem SrcFix.is(h:SrcFix di sl ce c1 xs):zfJ di sl ce c1 xs:=by obtain⟨s,h1,h2,h3⟩:=h;exact⟨s,h1,h2,h3 _⟩
theorem zfm(h:a sl ce=some (.ok (.lst xs) c1)):SrcFix (dIL a) sl ce c1 xs:=⟨.lst xs,zlf h rfl,rfl,fun _=>trivial⟩
theorem zm8(h:a sl ce=some (.ok (.tup xs) c1)):SrcFix (dIT a) sl ce c1 xs:=⟨.tup xs,zrC h rfl,rfl,fun _=>trivial⟩
theorem zf8{l:List Nat}(h:a sl ce=some (.ok (wT l) c1)):SrcFix (dIT a) sl ce c1 (l.map nW):=zm8 h
theorem zeI{n:Nat}(h:ra sl ce=some (.ok [nW n] c1))(hn:n<=1000):SrcFix (zgu ra) sl ce c1 ((List.range n).map nW):=⟨.rng 0 n,zlg h hn,zfj n,fun _=>trivial⟩
theorem zpn(h:a sl ce=some (.ok w c1))(hw:LstOf c1 w xs):zfJ (dIL a) sl ce c1 xs:=by
 obtain⟨s,h1,h2,h3⟩:=hw.src
 exact⟨s,zlf h h1,h2,h3⟩
variable {α:Type} {en:α->W} {zs:List α} {t:α->Bool} {g:α->W} {js:List Nat} {c:Sl->M Bool} {e:Sl->M W}
theorem lcF(hi:zfJ di sl ce c1 (zs.map en))(hz:zs.length<=PySem.sizeLine)(hc:∀x∈zs,c (some (en x)::zdH js sl) c1=some (.ok (t x) c1))(he:∀x∈zs,t x=true->e (some (en x)::zdH js sl) c1=some (.ok (g x) c1)) :
  dLC zbs js di c e sl ce=some (.ok (.lst ((zs.filter t).map g)) c1):=by
 obtain⟨s,h1,h2,h3⟩:=hi
 exact zrD h1 h2 h3 hc he hz (zcs (by rw[length_map];exact le_trans (length_filter_le _ _) hz))
theorem lcC(hi:zfJ di sl ce c1 (zs.map en))(hz:zs.length<=PySem.sizeLine)(hc:∀x∈zs,c (some (en x)::zdH js sl) c1=some (.ok (t x) c1))(he:∀x∈zs,t x=true->e (some (en x)::zdH js sl) c1=some (.ok (g x) c1)) :
  dLC zgs js di c e sl ce=some (.ok (.cel c1.length) (c1++[.lst ((zs.filter t).map g)])):=by
 obtain⟨s,h1,h2,h3⟩:=hi
 exact zrD h1 h2 h3 hc he hz (zdx (by rw[length_map];exact le_trans (length_filter_le _ _) hz))
theorem zjc(zs:List α):zs.filter (fun _=>true)=zs:=filter_eq_self.mpr fun _ _=>rfl
theorem zsr(hi:zfJ di sl ce c1 (zs.map en))(hz:zs.length<=PySem.sizeLine)(he:∀x∈zs,e (some (en x)::zdH js sl) c1=some (.ok (g x) c1)) :
  dLC zbs js di zey e sl ce=some (.ok (.lst (zs.map g)) c1):=by
 have h:=lcF (t:=fun _=>true) (js:=js) hi hz (c:=zey) (fun _ _=>rfl) (fun x hx _=>he x hx)
 rwa [zjc] at h
theorem ztA(hi:zfJ di sl ce c1 (zs.map en))(hz:zs.length<=PySem.sizeLine)(he:∀x∈zs,e (some (en x)::zdH js sl) c1=some (.ok (g x) c1)) :
  dLC zgs js di zey e sl ce=some (.ok (.cel c1.length) (c1++[.lst (zs.map g)])):=by
 have h:=lcC (t:=fun _=>true) (js:=js) hi hz (c:=zey) (fun _ _=>rfl) (fun x hx _=>he x hx)
 rwa [zjc] at h
theorem zrH{f:α->Int}(hi:zfJ di sl ce c1 (zs.map en))(hz:zs.length<=PySem.sizeLine)(he:∀x∈zs,e (some (en x)::zdH js sl) c1=some (.ok (.int (f x)) c1)):dLC zbs js di zey e sl ce=some (.ok (sW (zs.map f)) c1):=by
 rw[zsr hi hz he,sW,map_map];rfl
theorem ztB(hi:zfJ di sl ce c1 (zs.map en))(hz:zs.length<=PySem.sizeLine)(hc:∀x∈zs,c (some (en x)::zdH js sl) c1=some (.ok (t x) c1)):dLC zbs js di c (zae 0) sl ce=some (.ok (.lst ((zs.filter t).map en)) c1) :=
 lcF hi hz hc fun _ _ _=>rfl
theorem zum(hi:zfJ di sl ce c1 (zs.map en))(hz:zs.length<=PySem.sizeLine)(hc:∀x∈zs,c (some (en x)::zdH js sl) c1=some (.ok (t x) c1)):dLC zgs js di c (zae 0) sl ce=some (.ok (.cel c1.length) (c1++[.lst ((zs.filter t).map en)])) :=
 lcC hi hz hc fun _ _ _=>rfl
theorem zcH{body:DS}{i:Nat}{Q:O->Prop}(hi:SrcFix di sl ce c1 (zs.map en))(R:List α->Sl->Ce->Prop)(h0:R [] sl c1)(step:∀d x r sl ce,d++x::r=zs->x∈zs->R d sl ce->Run body (sl.set i (some (en x))) ce (Nx (R (d++[x]))))(fin:∀sl ce,R zs sl ce->Q (.go .nx sl ce)):Run (zcY di (gN i) body) sl ce Q:=by
 obtain⟨s,h1,h2,h3⟩:=hi
 exact zil h1 h2 R h0 (fun d x r sl ce e m h=>⟨h3 _,step d x r sl ce e m h⟩) (fun _ _ _=>h3 _) fin
theorem zbj{body b:DS}{i:Nat}{Q:O->Prop}(hi:SrcFix di sl ce c1 (zs.map en))(R:List α->Sl->Ce->Prop)(h0:R [] sl c1)(step:∀d x r sl ce,d++x::r=zs->x∈zs->R d sl ce->Run body (sl.set i (some (en x))) ce (Nx (R (d++[x]))))(fin:∀sl ce,R zs sl ce->Run b sl ce Q):Run (zap (zcY di (gN i) body) b) sl ce Q:=by
 obtain⟨s,h1,h2,h3⟩:=hi
 exact zim h1 h2 R h0 (fun d x r sl ce e m h=>⟨h3 _,step d x r sl ce e m h⟩) (fun _ _ _=>h3 _) fin
end
theorem zfn(ce:Ce)(x y:Int)(ng:Bool):eqW ng ce (.int x) (.int y)=some (.bl (if ng then !decide (x=y) else decide (x=y))):=by
 have d1:drf ce (.int x)=.int x:=rfl
 have d2:drf ce (.int y)=.int y:=rfl
 have c:∀i:Int,cln 8 (.int i)=true:=fun _=>rfl
 simp only[eqW,d1,d2,c,Bool.and_self,if_true,zlc]
theorem zbK{fin:Ce->Ce->W->Option (R W)}{n:Nat}{body:DS}{ws:List W}{ce:Ce}{w:W}{c':Ce}(sl:Sl)(e:ws.map some++List.replicate (n-ws.length) none=sl)(h:Run body sl ce (Rt fun v ce'=>fin ce ce' v=some (.ok w c'))):dFn fin n body ws ce=some (.ok w c'):=by
 subst e
 exact zfU h
section
variable {ce:Ce} {k p:Nat} {l:List Nat} {m:List Int} {i j:Int} {w w':W}
theorem eqI0:eqW false ce (.int i) (.int j)=some (.bl (decide (i=j))):=zfn _ _ _ _
theorem zun:eqW true ce (.int i) (.int j)=some (.bl (!decide (i=j))):=zfn _ _ _ _
theorem zu2(g:ce[k]?=some (.lst (l.map nW))):inW true ce (nW p) (.cel k)=some (.bl (!decide (p∈l))):=zrG g
theorem ztC(g:ce[k]?=some (.dct (kvs l))):zn7 true ce (nW p) (.cel k)=some (.bl (!decide (p∈l))):=zpm g
end
section
variable {x y:W} {i j:Int} {n k:Nat} {ce:Ce}
theorem zcI(hx:x=.int i)(hy:y=.int j):zc2 x y=some (.int (i+j)):=by subst hx;subst hy;rfl
theorem zgG(hx:x=.int i)(hy:y=.int j):zjL x y=some (.int (i-j)):=by subst hx;subst hy;rfl
theorem zli(hx:x=.int i)(hy:y=.int j):fLt x y=some (.bl (decide (i<j))):=by subst hx;subst hy;rfl
theorem zlj(hx:x=.int i)(hy:y=.int j):fGt x y=some (.bl (decide (j<i))):=by subst hx;subst hy;rfl
theorem zem(hx:x=.int i)(hy:y=.int j):zf5 x y=some (.bl (decide (i=j))):=by subst hx;subst hy;rfl
theorem zpo(hx:x=.int i)(hy:y=.int j):zqe x y=some (.bl (!decide (i=j))):=by subst hx;subst hy;rfl
theorem zfo(hx:x=.int i)(hy:y=.int j)(h:0<j):zco x y=some (.int (i % j)):=by subst hx;subst hy;exact zeA h
theorem zgH(hx:x=.int i)(hy:y=.int j)(h:0<j/\j<1073741824):zn3 x y=some (.int (i / j)):=by subst hx;subst hy;exact zrq h
theorem zpp(hx:x=.int i)(hy:y=.int j)(h:CMul i j):zgn x y=some (.int (i*j)):=by subst hx;subst hy;exact zhJ h
theorem zrI(hx:x=.int i):zj9 x=some (.inl i):=by subst hx;rfl
theorem zjd{mk:List W->M W}{l:List Nat}(h:l.length<64):za2 mk [wL l] ce=mk ((zcZ l).map nW) ce:=by
 simp only[za2,zrr,zeV,zb3,if_pos h,zdM]
end
section
variable {ce:Ce} {l:List Nat} {m:List Int} {w:W}
theorem zen{P:W->Ce->Prop}{sl:Sl}(h:P w ce):Rt P (.go (.rt w) sl ce):=h
end
section
variable {ce c1:Ce} {l:List Nat} {k:Nat} {sl:Sl} {a:Sl->M W} {α:Type} {en:α->W} {zs:List α}
theorem zdj(l:List Nat):(zcZ l).length=l.length:=by rw[zcZ,length_map,(zbT _).length_eq,zb3]
theorem zm9{body:DS}{i:Nat}{Q:O->Prop}(hi:a sl ce=some (.ok (.cel k) c1))(g:c1[k]?=some (.lst (zs.map en)))(R:List α->Sl->Ce->Prop)(h0:R [] sl c1)(hst:∀d sl ce,R d sl ce->ce[k]?=some (.lst (zs.map en)))(step:∀d x r sl ce,d++x::r=zs->x∈zs->R d sl ce->Run body (sl.set i (some (en x))) ce (Nx (R (d++[x]))))(fin:∀sl ce,R zs sl ce->Q (.go .nx sl ce)):Run (zcY (dIL a) (gN i) body) sl ce Q :=
 zil (src:=.cell k (zs.map en)) (zlf hi (by simp only[zii,g])) rfl R h0 (fun d x r sl ce e m h=>⟨hst _ _ _ h,step d x r sl ce e m h⟩) (fun _ _ h=>hst _ _ _ h) fin
theorem zhN{σ:Type}{c:Sl->M Bool}{body b:DS}{fu:Nat}{Q:O->Prop}(R:σ->Sl->Ce->Prop)(m:σ->Nat)(s0:σ)(h0:R s0 sl ce)(hm:m s0<fu)(step:∀s sl ce,R s sl ce->∃p,c sl ce=some (.ok p ce)/\(p=true->Run body sl ce (Nx fun sl2 ce2=>∃s2,m s2<m s/\R s2 sl2 ce2))/\(p=false->Run b sl ce Q)):Run (zap (zcO c body fu) b) sl ce Q :=
 zpi (zle R m s0 h0 hm fun s sl ce h=>by
  obtain⟨p,e,ht,hf⟩:=step s sl ce h
  exact⟨p,e,ht,fun q=>⟨sl,ce,rfl,hf q⟩⟩)
end
theorem zgI(n:Nat):∀cs:List (List Nat),zcf n (cs.map wL)
 | []=>by simp only[map_nil,zcf]
 | a::r=>by simp only[map_cons,zcf,wL,Bel];exact⟨bels_nW n a,zgI n r⟩
section
variable {ce:Ce} {k:Nat} {l:List Nat} {b:List (List Nat)} {m:List Int}
theorem zpq(g:ce[k]?=some (.lst (m.map W.int)))(h:m.length<=PySem.sizeLine):zbX [.cel k] ce=some (.ok (wS m) ce):=zgE (.cl g) (by rw[length_map];exact h)
theorem zrJ(h:b.length<=PySem.sizeLine):zbX [.lst (b.map wT)] ce=some (.ok (wB b) ce):=zgE (.fr _) (by rw[length_map];exact h)
theorem zrK(h:m.length<=PySem.sizeLine):zbX [sW m] ce=some (.ok (wS m) ce):=zgE (.fr _) (by rw[length_map];exact h)
end
section
variable {ce:Ce} {k:Nat} {l l':List Nat} {m:List Int}
end
open PySem PySem.Spec PyProof.Rows L2
section
variable {X:Cx}
end
section
variable {X:Cx} {G:Ga} {E:XK} {a b:Expr} {da db:Sl->M W} {pos:Pos}
def zvd(ng:Bool):W->W->Option W
 | .bl c,.bl d=>some (.bl (if ng then c != d else c==d))
 | _,_=>none
end
end VS
namespace VS
open L2
section
variable {sl:Sl} {ce c1 c2:Ce} {a b:Sl->M W} {w x y:W} {xs ys:List W} {k n:Nat} {i:Int} {p q:Bool}
theorem zna{key:Key}(ha:a sl (ce++[.dct []])=some (.ok x (ce++[.dct []])))(hb:b sl (ce++[.dct []])=some (.ok y (ce++[.dct []])))(hk:zj9 x=some key):zhI a b sl ce=some (.ok (.cel ce.length) (ce++[.dct [(key,y)]])):=by
 have g:(ce++[C.dct []])[ce.length]?=some (.dct []):=zf6 _ _
 have s:(ce++[C.dct []]).set ce.length (.dct [(key,y)])=ce++[.dct [(key,y)]]:=by rw[ztp];rfl
 simp only[zhI,bnd,ha,hb,ret,hk,g,s]
theorem zhO(g:ce[k]?=some (.lst xs))(e:xs=ys++[y]):zmX (.cel k) [] ce=some (.ok y (ce.set k (.lst ys))):=by
 subst e
 simp[zmX,zeB g]
theorem zio(g:ce[k]?=some (.lst xs)):zid ce (.cel k)=some (!xs.isEmpty):=by simp only[zid,g]
theorem zpr(g:ce[k]?=some (.lst xs))(h:zcg ce w=some ys)(hz:xs.length+ys.length<=PySem.sizeLine):zrg (.cel k) [w] ce=some (.ok .non (ce.set k (.lst (xs++ys)))):=by simp only[zrg,zeB g,h,if_pos hz]
theorem zeo(ha:a sl ce=some (.ok (.int i) c1)):zbY a sl ce=some (.ok (some i) c1):=by simp only[zbY,bnd,ha];rfl
theorem zlk{bs:List Bool}:zqd [.lst (bs.map W.bl)] ce=some (.ok (.bl (bs.all id)) ce):=by simp only[zqd,zcg,zf2]
variable {α:Type} {en:α->W} {zs:List α} {di:Sl->M Src} {e:Sl->M W} {js:List Nat}
theorem zrL{f:α->Bool}(hi:zfJ di sl ce c1 (zs.map en))(hz:zs.length<=PySem.sizeLine)(he:∀x∈zs,e (some (en x)::zdH js sl) c1=some (.ok (.bl (f x)) c1)):dLC zbs js di zey e sl ce=some (.ok (.lst ((zs.map f).map W.bl)) c1):=by
 rw[zsr hi hz he,map_map];rfl
theorem zll{body:DS}{i:Nat}{Q:O->Prop}(hi:SrcFix di sl ce c1 (zs.map en))(R:List α->Sl->Ce->Prop)(T:W->Ce->Prop)(h0:R [] sl c1)(step:∀d x r sl ce,d++x::r=zs->x∈zs->R d sl ce->Run body (sl.set i (some (en x))) ce (NR (R (d++[x])) T))(tell:∀w sl ce,T w ce->Q (.go (.rt w) sl ce))(fin:∀sl ce,R zs sl ce->Q (.go .nx sl ce)):Run (zcY di (gN i) body) sl ce Q:=by
 obtain⟨s,h1,h2,h3⟩:=hi
 obtain⟨o,e,q⟩:=zeX (g:=gN i) (body:=body) (en:=en) (src:=s) zs R T (fun d x r sl ce e h=>⟨h3 _,_,rfl,step d x r sl ce e (by rw[<- e];simp) h⟩) (fun _ _ _=>h3 _) zs [] sl c1 rfl h0
 rcases q with ⟨sl',ce',rfl,h⟩|⟨w,sl',ce',rfl,h⟩
 ·exact⟨_,by rw[zgC h1,h2];exact e,fin _ _ h⟩
 ·exact⟨_,by rw[zgC h1,h2];exact e,tell _ _ _ h⟩
theorem znb{a b:DS}{Q:O->Prop}(h:Run a sl ce fun o=>(∃sl' ce',o=.go .nx sl' ce'/\Run b sl' ce' Q)\/∃w sl' ce',o=.go (.rt w) sl' ce'/\Q o):Run (zap a b) sl ce Q:=by
 obtain⟨o,e,⟨sl',ce',rfl,q⟩|⟨w,sl',ce',rfl,q⟩⟩:=h
 ·exact zcQ e q
 ·exact⟨_,zpg e,q⟩
theorem zlm{body b:DS}{i:Nat}{Q:O->Prop}(hi:SrcFix di sl ce c1 (zs.map en))(R:List α->Sl->Ce->Prop)(T:W->Ce->Prop)(h0:R [] sl c1)(step:∀d x r sl ce,d++x::r=zs->x∈zs->R d sl ce->Run body (sl.set i (some (en x))) ce (NR (R (d++[x])) T))(tell:∀w sl ce,T w ce->Q (.go (.rt w) sl ce))(fin:∀sl ce,R zs sl ce->Run b sl ce Q):Run (zap (zcY di (gN i) body) b) sl ce Q :=
 znb (zll hi R T h0 step (fun w sl ce h=>.inr ⟨w,sl,ce,rfl,tell w sl ce h⟩) fun sl ce h=>.inl ⟨sl,ce,rfl,fin sl ce h⟩)
end
inductive SetAt:Sl->Nat->Option W->Sl->Prop where
 | zero {x w:Option W} {r:Sl}:SetAt (x::r) 0 w (w::r)
 | succ {x w:Option W} {r r':Sl} {i:Nat} (h:SetAt r i w r'):SetAt (x::r) (i+1) w (x::r')
theorem SetAt.eq{sl sl':Sl}{i:Nat}{w:Option W}(h:SetAt sl i w sl'):sl.set i w=sl':=by
 induction h with
 | zero=>rfl
 | succ _ ih=>rw[set_cons_succ,ih]
theorem zal{b:DS}{sl sl':Sl}{i:Nat}{w:Option W}{ce:Ce}{Q:O->Prop}(hs:SetAt sl i w sl')(h:Run b sl' ce Q):Run b (sl.set i w) ce Q:=by rw[hs.eq];exact h
section
variable {b:List (List Nat)} {vl:Nat->Int} {s x y:Nat}
abbrev okV(vl:Nat->Int)(s y:Nat):Prop:=vl y=vl s
abbrev Sym(b:List (List Nat)):Prop:=∀i j,j∈b.getD i []->i∈b.getD j []
open Classical in
def cpt(b:List (List Nat))(vl:Nat->Int)(s:Nat):List Nat:=(List.range b.length).filter fun y=>decide (Reach b (okV vl s) s y)
def zbZ(b:List (List Nat))(vl:Nat->Int)(s:Nat):Bool:=(cpt b vl s).all fun y=>decide (s<=y)
def ptc(b:List (List Nat))(vl:Nat->Int):List (List Nat):=((List.range b.length).filter (zbZ b vl)).map (cpt b vl)
theorem Reach.lt(hb:Bd b)(hs:s<b.length){ok:Nat->Prop}(h:Reach b ok s x):x<b.length:=by
 cases h with
 | refl=>exact hs
 | step _ hy _=>exact hb.get hy
open Classical in
theorem zbL(hb:Bd b)(hs:s<b.length):x∈cpt b vl s↔Reach b (okV vl s) s x:=by
 unfold cpt
 rw[mem_filter,mem_range,decide_eq_true_eq]
 exact⟨fun h=>h.2,fun h=>⟨h.lt hb hs,h⟩⟩
theorem cpt_lt(h:x∈cpt b vl s):x<b.length:=mem_range.mp (mem_filter.mp h).1
theorem zrM:(cpt b vl s).Nodup:=List.Pairwise.filter _ nodup_range
theorem zps:(cpt b vl s).length<=b.length:=by
 have:=length_filter_le (fun y=>@decide (Reach b (okV vl s) s y) (Classical.propDecidable _)) (List.range b.length)
 rw[length_range] at this
 exact this
theorem zb0(hb:Bd b)(hs:s<b.length):s∈cpt b vl s:=(zbL hb hs).mpr .refl
theorem cpt_val(hb:Bd b)(hs:s<b.length)(h:x∈cpt b vl s):vl x=vl s:=Reach.okOf (ok:=okV vl s) rfl ((zbL hb hs).mp h)
open Classical in
theorem zpt{F:List Nat}(c:Comp b (okV vl s) s F):zcZ F=cpt b vl s:=by
 rw[zdP c.nd c.lt]
 unfold cpt
 apply filter_congr
 intro x _
 rw[Bool.eq_iff_iff,decide_eq_true_eq,decide_eq_true_eq]
 exact c.mem x
theorem zom(h:vl x=vl s):okV vl x=okV vl s:=by funext y;unfold okV;rw[h]
open Classical in
theorem zdQ(hb:Bd b)(sym:Sym b)(hs:s<b.length)(h:x∈cpt b vl s):cpt b vl x=cpt b vl s:=by
 have v:=cpt_val hb hs h
 have r:=(zbL hb hs).mp h
 unfold cpt
 apply filter_congr
 intro y _
 rw[Bool.eq_iff_iff,decide_eq_true_eq,decide_eq_true_eq,zom v]
 exact⟨fun q=>r.trans q,fun q=>(Reach.symm (ok:=okV vl s) sym rfl r).trans q⟩
theorem zje(hb:Bd b)(sym:Sym b)(hs:s<b.length)(h:x∈cpt b vl s):s∈cpt b vl x:=by rw[zdQ hb sym hs h];exact zb0 hb hs
theorem zfp(hb:Bd b)(sym:Sym b)(hs:s<b.length):∃m,m∈cpt b vl s/\zbZ b vl m=true/\cpt b vl m=cpt b vl s:=by
 have key:∀(k:Nat) (s:Nat),s<=k->s<b.length->∃m,m∈cpt b vl s/\zbZ b vl m=true/\cpt b vl m=cpt b vl s:=by
  intro k
  induction k with
  | zero =>
   intro s hk hs
   refine⟨s,zb0 hb hs,?_,rfl⟩
   unfold zbZ
   rw[all_eq_true]
   intro y _
   exact decide_eq_true (by omega)
  | succ k ih =>
   intro s hk hs
   by_cases h:zbZ b vl s=true
   ·exact⟨s,zb0 hb hs,h,rfl⟩
   ·unfold zbZ at h
    rw[all_eq_true] at h
    obtain⟨y,hy⟩:=Classical.not_forall.mp h
    obtain⟨hy,hn⟩:=Classical.not_imp.mp hy
    have hn':¬s<=y:=fun q=>hn (decide_eq_true q)
    obtain⟨m,h1,h2,h3⟩:=ih y (by omega) (cpt_lt hy)
    have e:=zdQ hb sym hs hy
    exact⟨m,by rw[<- e];exact h1,h2,by rw[h3,e]⟩
 exact key s s (le_refl _) hs
theorem zdy(hb:Bd b){c:List Nat}:c∈ptc b vl↔∃s,s<b.length/\zbZ b vl s=true/\c=cpt b vl s:=by
 unfold ptc
 rw[mem_map]
 constructor
 ·rintro⟨s,hs,rfl⟩
  obtain⟨h1,h2⟩:=mem_filter.mp hs
  exact⟨s,mem_range.mp h1,h2,rfl⟩
 ·rintro⟨s,h1,h2,rfl⟩
  exact⟨s,mem_filter.mpr ⟨mem_range.mpr h1,h2⟩,rfl⟩
theorem zln:(ptc b vl).length<=b.length:=by
 unfold ptc
 rw[length_map]
 have:=length_filter_le (zbZ b vl) (List.range b.length)
 rw[length_range] at this
 exact this
theorem zdk(hb:Bd b)(hs:s<b.length)(h:zbZ b vl s=true):(cpt b vl s).getD 0 0=s:=by
 have hmem:=zb0 (vl:=vl) hb hs
 unfold zbZ at h
 rw[all_eq_true] at h
 have srt:(cpt b vl s).Pairwise (·<·):=List.Pairwise.filter _ pairwise_lt_range
 cases e:cpt b vl s with
 | nil=>rw[e] at hmem;simp at hmem
 | cons a r =>
  rw[e] at hmem h srt
  have h1:s<=a:=of_decide_eq_true (h a (by simp))
  rcases mem_cons.mp hmem with h2|h2
  ·simp[h2]
  ·have:=(pairwise_cons.mp srt).1 s h2
   omega
end
end VS
namespace VS
open PySem PySem.Spec PyProof.Rows L2
mutual
def zfK(n:Nat)(ce:Ce):Nat->W->Option W
 | 0,.cel k=>if k<n then some (.cel k) else none
 | 0,.lst _=>none
 | 0,.tup _=>none
 | d+1,.cel k=>if k<n then some (.cel k) else match ce[k]? with
  | some (.lst xs)=>(zdq n ce d xs).map .lst
  | _=>none
 | d+1,.lst xs=>(zdq n ce d xs).map .lst
 | d+1,.tup xs=>(zdq n ce d xs).map .tup
 | _,w=>some w
def zdq(n:Nat)(ce:Ce):Nat->List W->Option (List W)
 | _,[]=>some []
 | d,x::xs=>match zfK n ce d x,zdq n ce d xs with
  | some y,some ys=>some (y::ys)
  | _,_=>none
end
section
variable {G:Ga} {F F2:Hp} {as as2:List Addr} {H:Hp} {ce:Ce} {n:Nat}
theorem zjf(h:∀{w w2:W} {v:V},zfK n ce d w=some w2->Rep F as w v->Rep F2 as2 w2 v):∀{ws ws2:List W} {vs:List V},zdq n ce d ws=some ws2->Reps F as ws vs->Reps F2 as2 ws2 vs
 | [],ws2,vs,e,r=>by
  simp only[zdq,Option.some.injEq] at e
  subst e
  simp only[Reps] at r
  subst r
  exact .nil
 | x::xs,ws2,vs,e,r=>by
  simp only[zdq] at e
  simp only[Reps] at r
  obtain⟨v,r',rfl,q,s⟩:=r
  split at e
  ·rename_i y ys e1 e2
   cases e
   exact .cons (h e1 q) (zjf h e2 s)
  ·cases e
theorem zjg(S:Store G F as H ce)(hF:∀a o,F a=some o->F2 a=some o)(hc:∀(k:Nat) (a:Addr) (xs:List W) (vs:List V),n<=k->as[k]?=some a->ce[k]?=some (.lst xs)->H a=some (.lst vs)->F2 a=some (.lst vs))(ha:∀(k:Nat) (a:Addr),k<n->as[k]?=some a->as2[k]?=some a):∀(d:Nat) {w w2:W} {v:V},zfK n ce d w=some w2->Rep F as w v->Rep F2 as2 w2 v:=by
 have rd:∀{a:Addr} {o:HO},Rd F a o->Rd F2 a o:=fun r=>by
  rcases r with r|⟨u,r⟩
  ·exact .inl (hF _ _ r)
  ·exact .inr ⟨u,hF _ _ r⟩
 have low:∀{k:Nat} {v:V},k<n->Rep F as (.cel k) v->Rep F2 as2 (.cel k) v:=fun hk r=>by
  simp only[Rep] at r ⊢
  obtain⟨a,rfl,q⟩:=r
  exact⟨a,rfl,ha _ _ hk q⟩
 intro d
 induction d with
 | zero =>
  intro w w2 v e r
  cases w<;>simp only[zfK,Option.some.injEq,reduceCtorEq] at e
  case cel k =>
   split at e
   ·rename_i hk
    cases e
    exact low hk r
   ·cases e
  all_goals (subst e;simp only[Rep] at r ⊢;exact r)
 | succ d ih =>
  have ihs:∀{ws ws2:List W} {vs:List V},zdq n ce d ws=some ws2->Reps F as ws vs->Reps F2 as2 ws2 vs:=fun e r=>zjf ih e r
  intro w w2 v e r
  cases w<;>simp only[zfK,Option.some.injEq] at e
  case cel k =>
   split at e
   ·rename_i hk
    cases e
    exact low hk r
   ·rename_i hk
    split at e
    ·rename_i xs hx
     obtain⟨ys,e1,rfl⟩:=map_eq_some_iff.mp e
     simp only[Rep] at r
     obtain⟨a,rfl,q⟩:=r
     obtain⟨_,vs,h2,rs⟩:=S.cell _ _ _ q hx
     simp only[Rep]
     exact⟨a,vs,rfl,.inl (hc k a xs vs (by omega) q hx h2),ihs e1 rs⟩
    ·cases e
  case lst xs =>
   obtain⟨ys,e1,rfl⟩:=map_eq_some_iff.mp e
   simp only[Rep] at r ⊢
   obtain⟨a,vs,rfl,h2,rs⟩:=r
   exact⟨a,vs,rfl,rd h2,ihs e1 rs⟩
  case tup xs =>
   obtain⟨ys,e1,rfl⟩:=map_eq_some_iff.mp e
   simp only[Rep] at r ⊢
   obtain⟨a,vs,rfl,h2,rs⟩:=r
   exact⟨a,vs,rfl,hF _ _ h2,ihs e1 rs⟩
  all_goals (subst e;simp only[Rep] at r ⊢;exact r)
end
open Classical in
def zqf(d:List W->M W):List W->M W:=fun ws ce=>match d ws ce with
 | some (.ok w ce')=>if zdw ce ce' then match zfK ce.length ce' 6 w with
  | some w2=>some (.ok w2 (ce'.take ce.length))
  | none=>none
  else none
 | r=>r
open Classical in
theorem zpu{P:Program}{w:World}{K:PySem.W.Frag}{mg:Str->Option Value}{base:Heap}{CX:CXT}{k n:Nat}{f:Addr}{fd:FuncData}{ps:List Str}{G:Ga}{fe:XK->XK}{d:List W->M W}(h:FnOk P w K mg base CX k f fd ps (spV G fe n d)):FnOk P w K mg base CX k f fd ps (spV G fe n (zqf d)):=by
 refine h.imp fun vs H Q E ⟨hl,F,as,ws,ce,S,rs,Pf⟩=>⟨hl,F,as,ws,ce,S,rs,?_⟩
 revert Pf
 unfold zqf
 cases d ws ce with
 | none=>exact fun P=>P
 | some r=>cases r with
  | ex x ce'=>exact fun P=>P
  | ok w ce' =>
   dsimp only
   intro Pf v H' F' as' l S' rv
   split at Pf
   ·rename_i h1
    split at Pf
    ·rename_i w2 e2
     obtain⟨S2,l2⟩:=S.cut S' l h1
     let isC:Addr->Prop:=fun a=>∃(k:Nat) (xs:List W),ce.length<=k/\as'[k]?=some a/\ce'[k]?=some (.lst xs)
     let F2:Hp:=fun a=>if isC a then H' a else F' a
     have sub:∀a o,F' a=some o->F2 a=some o:=fun a o e=>by
      have:¬isC a:=by
       rintro⟨k,xs,_,e1,e3⟩
       have:=(S'.cell k a _ e1 e3).1 rfl
       rw[this] at e
       cases e
      show(if isC a then H' a else F' a)=_
      rw[if_neg this];exact e
     have l3:Le F' (as'.take ce.length) F2 (as'.take ce.length):=⟨sub,fun _ _ h=>h⟩
     refine Pf v H' F2 (as'.take ce.length) (l2.trans l3) ⟨fun b o e=>?_,S2.nd,S2.len,fun i b c e1 e3=>?_⟩ ?_
     ·have e:(if isC b then H' b else F' b)=some o:=e
      split at e
      ·exact e
      ·exact S'.sub _ _ e
     ·obtain⟨p1,p2⟩:=S2.cell i b c e1 e3
      refine⟨fun hn=>?_,p2.le l3 rfl⟩
      show(if isC b then H' b else F' b)=none
      rw[if_neg]
      ·exact p1 hn
      ·rintro⟨k,xs,hk,e4,_⟩
       have hi:i<ce.length:=by have:=zax e3;rw[length_take] at this;omega
       rw[zbS hi] at e1
       have a1:=zax e4
       have a2:=zax e1
       rw[getElem?_eq_getElem a1] at e4
       rw[getElem?_eq_getElem a2] at e1
       have:=zht S'.nd a1 a2 ((Option.some.inj e4).trans (Option.some.inj e1).symm)
       omega
     ·refine zjg S' sub (fun k a xs vs hk e1 e3 e4=>?_) (fun k a hk e1=>by rw[zbS hk];exact e1) 6 e2 rv
      show(if isC a then H' a else F' a)=_
      rw[if_pos ⟨k,xs,hk,e1,e3⟩]
      exact e4
    ·exact Pf.elim
   ·exact Pf.elim
def zss(ce:Ce)(w:W):Option W:=zfK 0 ce 6 w
theorem zjh{G:Ga}{F:Hp}{as:List Addr}{H:Hp}{ce:Ce}{w w2:W}{v:V}(S:Store G F as H ce)(r:Rep F as w v)(e:zss ce w=some w2):Rep H as w2 v :=
 zjg S S.sub (fun k a xs vs _ _ _ h=>h) (fun k a hk _=>absurd hk (not_lt_zero _)) 6 e r
def eqD(ng:Bool)(ce:Ce)(x y:W):Option W:=match zss ce x,zss ce y with
 | some x',some y'=>if (cln 8 x'&&cln 8 y')=true then some (.bl (if ng then !peq x' y' else peq x' y')) else none
 | _,_=>none
theorem zlo(ng:Bool):OpC (zsn ng) (eqD ng):=by
 intro G F as H ce x y wx wy w S rx ry e Q q
 unfold eqD at e
 split at e
 ·rename_i x' y' e1 e2
  split at e
  ·rename_i hc
   rw[and_eq_true] at hc
   cases e
   exact⟨as,_,_,zjh S rx e1,zjh S ry e2,hc.1,hc.2,q _ (by simp only[Rep])⟩
  ·cases e
 ·cases e
section
variable {X:Cx} {G:Ga} {E:XK} {a b:Expr} {da db:Sl->M W} {pos:Pos}
theorem zrN(hu:X.A.units+8<cLine)(ha:PE X a (zau G E da))(hb:PE X b (zau G E db)):PE X (.Compare a [.Eq] [b] pos) (zau G E (zaO (eqD false) da db)):=PE.imp (zh9 (zkR hu) ha hb (zcv _)) (zbV (zlo false))
theorem zon(hu:X.A.units+8<cLine)(ha:PE X a (zau G E da))(hb:PE X b (zau G E db)):PT X (.Compare a [.NotEq] [b] pos) (zcC G E (dB (zaO (eqD true) da db))):=zgo (zn4 hu) ha hb (zcv _) (zbV (zlo true))
end
end VS
namespace VS
open L2
section
variable {sl:Sl} {ce c1 c2 c3:Ce} {e o i:Sl->M W} {w x y:W} {xs:List W} {k j:Nat} {b:DS} {Q:O->Prop} {p q:Nat} {ij:Int}
theorem ziq{n j:Nat}(h:j<n):ixN n (j:Int)=some j:=by
 unfold ixN
 rw[if_pos (by omega),if_pos (by omega)]
 simp
theorem zuo(he:e sl ce=some (.ok w c1))(ho:o sl c1=some (.ok (.cel k) c2))(hi:i sl c2=some (.ok (.int ij) c3))(g:c3[k]?=some (.lst xs))(hj:ixN xs.length ij=some j) :
  zk1 e (zgt o i) sl ce=some (.go .nx sl (c3.set k (.lst (xs.set j w)))):=by
 simp only[zk1,lft,he,zgt,ho,hi,zeB g,hj]
theorem zji(he:e sl ce=some (.ok w c1))(ho:o sl c1=some (.ok (.cel k) c2))(hi:i sl c2=some (.ok (.int ij) c3))(g:c3[k]?=some (.lst xs))(hj:ixN xs.length ij=some j)(q:Q (.go .nx sl (c3.set k (.lst (xs.set j w))))) :
  Run (zk1 e (zgt o i)) sl ce Q:=⟨_,zuo he ho hi g hj,q⟩
theorem znc(he:e sl ce=some (.ok w c1))(ho:o sl c1=some (.ok (.cel k) c2))(hi:i sl c2=some (.ok (.int ij) c3))(g:c3[k]?=some (.lst xs))(hj:ixN xs.length ij=some j)(q:Run b sl (c3.set k (.lst (xs.set j w))) Q) :
  Run (zap (zk1 e (zgt o i)) b) sl ce Q:=zcQ (zuo he ho hi g hj) q
abbrev g2(p q:Nat):DG:=gT 2 (zex (gN p) (zex (gN q) zmQ))
theorem zrO:g2 p q (.tup [x,y]) sl ce=some ((sl.set p (some x)).set q (some y),ce):=rfl
theorem znd(he:e sl ce=some (.ok (.tup [x,y]) c1))(q':Run b ((sl.set p (some x)).set q (some y)) c1 Q):Run (zap (zk1 e (g2 p q)) b) sl ce Q :=
 zcQ (sl':=(sl.set p (some x)).set q (some y)) (ce':=c1) (by simp only[zk1,lft,he,zrO]) q'
variable {α:Type} {fa fb:α->W} {zs:List α} {di:Sl->M Src} {body:DS}
theorem zne(hi:SrcFix di sl ce c1 (zs.map fun z=>.tup [fa z,fb z]))(R:List α->Sl->Ce->Prop)(h0:R [] sl c1)(step:∀d x r sl ce,d++x::r=zs->x∈zs->R d sl ce->Run body ((sl.set p (some (fa x))).set q (some (fb x))) ce (Nx (R (d++[x]))))(fin:∀sl ce,R zs sl ce->Run b sl ce Q):Run (zap (zcY di (g2 p q) body) b) sl ce Q:=by
 obtain⟨s,h1,h2,h3⟩:=hi
 obtain⟨o,e,q'⟩:=zeX (g:=g2 p q) (body:=body) (en:=fun z=>W.tup [fa z,fb z]) (src:=s) zs R (fun _ _=>False) (fun d x r sl ce e h=>⟨h3 _,_,zrO,(step d x r sl ce e (by rw[<- e];simp) h).mono fun o q=>by
   cases o with
   | ex x c=>exact q.elim
   | go f sl2 ce2=>cases f<;>first|exact q|exact q.elim⟩) (fun _ _ _=>h3 _) zs [] sl c1 rfl h0
 rcases q' with ⟨sl',ce',rfl,h⟩|⟨w,sl',ce',rfl,h⟩
 ·exact zcQ (by rw[zgC h1,h2];exact e) (fin _ _ h)
 ·exact h.elim
end
structure Chg (ce b:Ce):Prop where
 len:b.length=ce.length
 cell:∀(k:Nat) (c:C),b[k]?=some c->ce[k]?=some c\/zez ce.length c
theorem Chg.refl(ce:Ce):Chg ce ce:=⟨rfl,fun _ _ h=>.inl h⟩
theorem Chg.cut{ce b t:Ce}(h:Chg ce b):zdw ce (b++t):=⟨by rw[length_append,h.len];omega,fun k c hk e=>h.cell k c (by rwa [getElem?_append_left (by rw[h.len];exact hk)] at e)⟩
theorem Chg.take{ce b t:Ce}(h:Chg ce b):(b++t).take ce.length=b:=by rw[<- h.len];exact take_left
namespace Own
variable {b ce c:Ce} {l:List (Nat×C)} {k:Nat} {x:C} {w:W}
theorem frzD'{d:List W->M W}{ws:List W}{w2:W}(e:d ws ce=some (.ok w c))(h:Own b c l)(g:Chg ce b)(ht:zfK ce.length c 6 w=some w2):zqf d ws ce=some (.ok w2 b):=by
 obtain⟨⟨t,rfl⟩,_⟩:=h
 simp only[zqf,e,ht,g.take]
 exact if_pos g.cut
end Own
def pW(p:Nat×Nat):W:=.tup [nW p.1,nW p.2]
section
variable {ce:Ce} {n:Nat}
theorem zir(d:Nat)(k:Nat):zfK n ce d (nW k)=some (nW k):=by cases d<;>simp only[nW,zfK]
theorem zgJ(d:Nat):∀l:List (Nat×Nat),zdq n ce (d+1) (l.map pW)=some (l.map pW)
 | []=>by simp only[map_nil,zdq]
 | a::r=>by simp only[map_cons,zdq,pW,zfK,zir,zgJ d r,map_some]
end
open L2
section
variable {ce:Ce} {n:Nat}
def Cls(ce:Ce)(ks:List Nat)(cs:List (List Nat)):Prop:=PySem.Paired (fun k c=>ce[k]?=some (.lst (c.map nW))) ks cs
end
end VS
namespace VS
open PySem PySem.Spec PyProof.Rows L2
open MeetsSeq (EqGives)
section
variable {X:Cx} {G:Ga} {E:XK} {o e:Expr} {es:List Expr} {name:Str} {apos cpos:Pos} {do':Sl->M W} {dr:Sl->M (List W)} {id:String} {rm:V->List V->Hp->VK->Prop} {fm:W->List W->M W}
end
section
variable {X:Cx} {G:Ga} {E:XK} {tg a:Expr} {da:Sl->M W}
end
end VS
namespace VS
open L2
section
variable {sl:Sl} {ce c1 c2 c3:Ce} {a b:Sl->M W} {w x y:W} {xs ws:List W} {n:Nat} {ra:Sl->M (List W)}
theorem zrP(ha:a sl ce=some (.ok (.bl true) c1))(hb:b sl c1=some (.ok w c2)):zqc a b sl ce=some (.ok w c2):=by simp only[zqc,bnd,ha,hb]
end
section
variable {ce:Ce} {k:Nat} {xs:List W}
theorem zu3(ng:Bool)(l m:List Int):eqW ng ce (wS l) (wS m)=some (.bl (if ng then !decide (l=m) else decide (l=m))):=by
 have d:∀l:List Int,drf ce (wS l)=wS l:=fun _=>rfl
 have c:∀l:List Int,cln 8 (wS l)=true:=fun l=>zdL l 7
 simp only[eqW,d,c,Bool.and_self,if_true]
 simp only[peq,zfi]
end
end VS
namespace VS
open PySem PySem.Spec PyProof.Rows L2
section
variable {X:Cx} {G:Ga} {E:XK} {a b:Expr} {da db:Sl->M W} {pos:Pos}
end
end VS
namespace VS
open PySem PySem.Spec PyProof.Rows L2 HT
section
variable {prog:Program} {w:World} {A:Around} {E:Value->Shared->Prop} {s:Shared}
end
section
variable {X:Cx} {G:Ga} {E:XK} {a:Expr} {da:Sl->M W} {pos:Pos}
end
end VS
namespace VS
open PySem PySem.Spec PyProof.Rows L2
end VS
namespace L2
open PySem PySem.Spec PyProof.Rows
theorem ObjOk.there{P:Program}{w:World}{H:Hp}{h:Heap}{a:Addr}{o:HO}(x:ObjOk P w H h a o):∃u,h.get? a=some u:=by
 cases o with
 | lst xs=>obtain⟨_,_,_,_,e⟩:=x;exact⟨_,e⟩
 | tup xs=>obtain⟨_,_,_,u,e,_⟩:=x;exact⟨_,e⟩
 | dK kvs=>obtain⟨_,_,_,_,o,_,_,e,_⟩:=x;exact⟨_,e⟩
 | dT kvs=>obtain⟨_,_,_,_,o,_,_,e,_⟩:=x;exact⟨_,e⟩
 | set S n=>obtain⟨o,_,_,_,e,_⟩:=x;exact⟨_,e⟩
 | ins C dx fs=>obtain⟨_,_,_,e,_⟩:=x;exact⟨_,e⟩
 | own y=>exact x
 | xd fs=>obtain⟨_,⟨_,_,_,e,_⟩,_⟩:=x;exact⟨_,e⟩
 | rng lo hi=>obtain⟨_,_,_,e⟩:=x;exact⟨_,e⟩
 | frz ob u=>obtain⟨e,_⟩:=x;exact⟨_,e⟩
 | tbl ps=>exact⟨_,x⟩
 | met f y=>exact⟨_,x⟩
 | ext φ=>exact x.2.1
def Fl(N:Addr->Prop)(a:Addr)(cls:Value)(H:Hp)(h:Heap):Prop :=
 ∃oe vs a0,N a/\H a=none/\h.get? a=some oe/\oe.cls=cls/\oe.data=.fields vs/\vs[0]?=some a0 /\
  (vs[1]?=some .none\/∃T oT ts,vs[1]?=some (.ref T)/\N T/\H T=none/\T≠a/\h.get? T=some oT/\oT.data=.fields ts/\ts[3]?=some .none)
theorem Fl.mono{N N':Addr->Prop}{a:Addr}{cls:Value}{H:Hp}{h:Heap}(f:Fl N a cls H h)(k:∀b,N b->N' b):Fl N' a cls H h:=by
 obtain⟨oe,vs,a0,n,h1,h2,h3,h4,h5,h6⟩:=f
 refine⟨oe,vs,a0,k _ n,h1,h2,h3,h4,h5,h6.imp id fun⟨T,oT,ts,e1,e2,e⟩=>⟨T,oT,ts,e1,k _ e2,e⟩⟩
theorem znf{M:Model}{A:Around}{E:Value->Shared->Prop}{s:Shared}{B:Heap}{env:Env}{outer:List Env}{L a:Addr}{oe:Obj}{vs:Array Value}{a0:Value}{Q:Unit->Shared->Prop}(hfr:A.frames=some (env::outer))(hl:s.heap.FunFrames B (env::outer))(hf:env.frame=some L)(he:s.heap.get? a=some oe)(hkb:B.StaysIn s.heap)(hen:B.get? a=none)(hd:oe.data=.fields vs)(h0:vs[0]?=some a0)(h1:vs[1]?=some .none\/∃T oT ts,vs[1]?=some (.ref T)/\B.get? T=none/\T≠a/\s.heap.get? T=some oT/\oT.data=.fields ts/\ts[3]?=some .none)(hQ:∀h',Heap.NotedW B (env::outer) a oe.cls a0 (rawInt L) s.heap h'->Q () { s with heap:=h' }):wpAny M A (noteFrame (.ref a) env) Q E s:=by
 rcases h1 with h1|⟨T,oT,ts,h1,hnT,hTe,hT,hdT,h3⟩
 ·unfold noteFrame
  simp only[hf]
  refine wpAny_bind (wpAny_field he hd h1 ?_)
  rw[if_neg (by decide)]
  exact wpAny_entryW hfr hl hf he hkb hen hd (Array.getElem?_eq_some_iff.mp h1).1 h0 hQ
 ·exact wpAny_noteFrame_onW hfr hl hf ⟨oe,vs,T,oT,ts,he,⟨rfl,h0⟩,hd,h1,hnT,hTe,hT,hdT,h3⟩ hkb hen hQ
structure Flown (stk:List Addr) (N:Addr->Prop) (H:Hp) (a:Addr) (cls:Value) (h h':Heap):Prop where
 keep:∀b o,h.get? b=some o->b∉stk->(H b≠none\/¬N b\/∀vs,o.data≠.fields vs)->h'.get? b=some o
 slot:∀b o,h.get? b=some o->b∈stk->∃sl,h'.get? b=some { o with slots:=sl }
 fl:Fl (fun b=>N b\/h.get? b=none) a cls H h'
theorem flown{X:Cx}{M:Model}{A':Around}{E:Value->Shared->Prop}{pins:List (Addr×Obj)}{σ:St}{H:Hp}{s:Shared}{N:Addr->Prop}{a:Addr}{cls:Value}{Q:Unit->Shared->Prop}(I:Inv X pins σ H s)(hst:X.stack=X.env::X.outer)(hf:X.env.frame=some X.env.locals)(f:Fl N a cls H s.heap)(hQ:∀h',Flown (frs X.stack) N H a cls s.heap h'->Q () { s with heap:=h' }) :
  wpAny M X.A (noteFrame (.ref a) X.env) (fun _ s₂=>wpAny M A' (setFlight (.ref a) none) Q E s₂) E s:=by
 obtain⟨oe,vs,a0,na,ha,he,rfl,hd,h0,h1⟩:=f
 have hstk:=I.stack
 have hfree:=I.stkFree
 have hfr:=I.ok.frames
 obtain⟨hid,hh1,hh2,hh3,hh4⟩:∃hid:List Addr,(∀b∈frs X.stack,b∈hid)/\a∈hid/\(∀b∈hid,b∈frs X.stack\/(N b/\H b=none/\∃o vs,s.heap.get? b=some o/\o.data=.fields vs)) /\
   (vs[1]?=some .none\/∃T oT ts,vs[1]?=some (.ref T)/\T∈hid/\T≠a/\s.heap.get? T=some oT/\oT.data=.fields ts/\ts[3]?=some .none):=by
  rcases h1 with h1|⟨T,oT,ts,h1,nT,hT,hTa,r⟩
  ·refine⟨frs X.stack++[a],fun b hb=>mem_append_left _ hb,mem_append_right _ (by simp),fun b hb=>?_,.inl h1⟩
   rcases mem_append.mp hb with hb|hb
   ·exact .inl hb
   ·rw[mem_singleton] at hb;subst hb;exact .inr ⟨na,ha,_,_,he,hd⟩
  ·obtain⟨hT1,hT2,hT3⟩:=r
   refine⟨frs X.stack++[a,T],fun b hb=>mem_append_left _ hb,mem_append_right _ (by simp),fun b hb=>?_,.inr ⟨T,oT,ts,h1,mem_append_right _ (by simp),hTa,hT1,hT2,hT3⟩⟩
   rcases mem_append.mp hb with hb|hb
   ·exact .inl hb
   ·rcases mem_cons.mp hb with rfl|hb
    ·exact .inr ⟨na,ha,_,_,he,hd⟩
    ·rw[mem_singleton] at hb;subst hb;exact .inr ⟨nT,hT,_,_,hT1,hT2⟩
 have hin:∀env∈X.env::X.outer,∀b,env.frame=some b->b∈hid:=fun env he b hb=>hh1 b (mem_filterMap.mpr ⟨env,by rw[hst];exact he,hb⟩)
 have hl:s.heap.FunFrames (PySem.W.hideAll s.heap hid) (X.env::X.outer):=PySem.W.funFrames_hide (by rw[<- hst];exact hstk) hin
 refine znf (by rw[hfr,hst]) hl hf he (fun b o q=>PySem.W.of_hideAll _ q) (PySem.W.hideAll_none _ hh2) hd h0 (hh4.imp id fun⟨T,oT,ts,e1,e2,e3,e4⟩=>⟨T,oT,ts,e1,PySem.W.hideAll_none _ e2,e3,e4⟩) fun h1 z=>?_
 obtain⟨z1,z2,z3,z4⟩:=z
 refine wpAny_landsW (base:=PySem.W.hideAll s.heap hid) (l:=X.env::X.outer) (cls:=oe.cls) (a0:=a0) ⟨z1,PySem.W.hideAll_none _ hh2,z2,z3⟩ fun h2 y1 y2=>hQ h2 ?_
 have up:∀b o,s.heap.get? b=some o->(∀vs,o.data≠.fields vs)->∃sl,h2.get? b=some { o with slots:=sl }:=fun b o e n=>by
  obtain⟨s1,e1⟩:=z4 b o e n
  obtain⟨s2,e2⟩:=y2 b _ e1 n
  exact⟨s2,e2⟩
 have sl:∀b o,s.heap.get? b=some o->b∈frs X.stack->∃sl,h2.get? b=some { o with slots:=sl }:=fun b o e hb=>by
  obtain⟨_,o',e',n⟩:=hstk.mem hb
  rw[e] at e';cases e'
  exact up b o e n
 obtain⟨y1,y3,y4,oe',vs',T',oT',ts',t1,⟨t2,t3⟩,t4,t5,t6,t7,t8,t9,t10⟩:=y1
 refine⟨fun b o e hb hc=>?_,sl,oe',vs',a0,.inl na,ha,t1,t2,t4,t3,.inr ⟨T',oT',ts',t5,?_,?_,t7,t8,t9,t10⟩⟩
 ·refine y1 b o (PySem.W.hideAll_get _ e fun hm=>?_)
  rcases hh3 b hm with q|⟨q1,q2,o',vs',q3,q4⟩
  ·exact hb q
  ·rcases hc with hc|hc|hc
   ·exact hc q2
   ·exact hc q1
   ·rw[e] at q3;cases q3;exact hc _ q4
 all_goals
  cases q:s.heap.get? T' with
  | none =>
   first
    | exact .inr q
    | (cases q2:H T' with
       | none=>rfl
       | some u=>obtain⟨u',e'⟩:=(I.hok T' u q2).there;rw[q] at e';cases e')
  | some o =>
   have hm:T'∈hid:=by
    apply Classical.byContradiction
    intro hm
    have:=PySem.W.hideAll_get _ q hm
    rw[t6] at this;cases this
   rcases hh3 T' hm with hs|⟨q1,q2,_⟩
   ·exfalso
    obtain⟨_,o',e',n⟩:=hstk.mem hs
    rw[q] at e';cases e'
    obtain⟨s2,e2⟩:=up T' o q n
    rw[t8] at e2;cases e2
    exact n _ t9
   ·first|exact .inl q1|exact q2
def CXx(P:Program)(w:World):CXT:=fun outer H s E e s'=>∃a cls H',e=.ref a/\s'.os=s.os/\AllBare s'.gens/\Un (frs outer) [] H H' s.heap s'.heap/\HOk P w H' s'.heap/\Fl (fun b=>s.heap.get? b=none) a cls H' s'.heap/\E cls none H'
def Nw(X:Cx)(pins:List (Addr×Obj))(b:Addr):Prop:=X.s₀.heap.get? b=none/\∀p∈X.pn++pins,p.1≠b
def Flies(X:Cx)(E:XK):Prop:=∀(pins:List (Addr×Obj)) (σ:St) (H:Hp) (s:Shared) (a:Addr) (cls:Value),Inv X pins σ H s->Fl (Nw X pins) a cls H s.heap->E cls none H->X.xe (.ref a) s
theorem zis{X:Cx}{pins:List (Addr×Obj)}{σ:St}{H:Hp}{s:Shared}{b:Addr}(hx:X.ex=[])(I:Inv X pins σ H s)(h:s.heap.get? b=none):Nw X pins b:=by
 refine⟨?_,fun p hp e=>?_⟩
 ·cases q:X.s₀.heap.get? b with
  | none=>rfl
  | some o =>
   obtain⟨o',e⟩:=I.base.there b o q (by rw[hx];simp)
   rw[h] at e;cases e
 ·obtain⟨e1,_⟩:=I.pin p hp
  rw[e,h] at e1;cases e1
theorem Flies.passes{X:Cx}{E:XK}(h:Flies X E)(hx:X.ex=[]):zb7 (CXx X.prog X.w) X E:=fun pins σ H s e s' I z=>by
 obtain⟨a,cls,H',rfl,ho,hg,u,hok,f,q⟩:=z
 exact h pins σ H' s' a cls (I.call' ho u hok hg (fun b z=>absurd z (by simp))) (f.mono fun b hb=>zis hx I hb) q
theorem zgK{X:Cx}:zb7 (CXx X.prog X.w) X E0:=fun _ _ _ _ _ _ _ z=>by
 obtain⟨_,_,_,_,_,_,_,_,_,q⟩:=z
 exact q.elim
theorem flies_cxOf{P:Program}{w:World}{K:PySem.W.Frag}{mg:Str->Option Value}{base:Heap}{N:List Str}{qual:Str}{scope:Scope}{f:Addr}{cd:Value}{A:Around}{outer:List Env}{s:Shared}{H:Hp}{E:XK} :
  Flies (zj8 (CXx P w) P w K mg base N qual scope f cd A outer s H E) E:=by
 intro pins σ H1 s1 a cls I fl q
 show wpAny (model P w) _ (leaving _ _) _ _ s1
 unfold leaving
 refine wpAny_bind (flown I rfl rfl fl fun h' F=>?_)
 have hb:=I.base
 have hstk:=I.stack
 have hlt:∀b o,s.heap.get? b=some o->b≠(zj8 (CXx P w) P w K mg base N qual scope f cd A outer s H E).env.locals:=fun b o e q=>absurd (Heap.lt_size e) (by rw[q];exact not_lt.mpr I.ok.above)
 have hfs:∀b,b∈frs (zj8 (CXx P w) P w K mg base N qual scope f cd A outer s H E).stack->b=(zj8 (CXx P w) P w K mg base N qual scope f cd A outer s H E).env.locals\/b∈frs outer:=fun b hb=>mem_cons.mp (I.stkSub b hb)
 have hout:∀b,b∈frs outer->b∈frs (zj8 (CXx P w) P w K mg base N qual scope f cd A outer s H E).stack:=fun b hb=>by
  obtain⟨env,h1,h2⟩:=mem_filterMap.mp hb
  exact mem_filterMap.mpr ⟨env,mem_cons_of_mem _ h1,h2⟩
 refine⟨a,cls,H1,rfl,I.os,I.bare,⟨fun b o e n h1 h2=>?_,fun b o e n h1 h2=>?_,fun b o e n h2=>hb.free b o e n h2,fun b o e h2=>?_,hb.tups,hb.frzs,hb.tbls⟩,fun b o e=>?_,F.fl.mono fun b hb'=>?_,q⟩
 ·have e1:=hb.keep b o e n h1 h2
  refine F.keep b o e1 (fun hm=>?_) (.inr<|.inl fun hn=>by have z:s.heap.get? b=none:=hn.1;rw[z] at e;cases e)
  rcases hfs b hm with z|z
  ·exact hlt b o e z
  ·exact h1 z
 ·obtain⟨sl,e1⟩:=hb.slot b o e n h1 h2
  obtain⟨s2,e2⟩:=F.slot b _ e1 (hout b h1)
  exact⟨s2,e2⟩
 ·obtain⟨o',e1⟩:=hb.there b o e h2
  by_cases hm:b∈frs (zj8 (CXx P w) P w K mg base N qual scope f cd A outer s H E).stack
  ·obtain⟨s2,e2⟩:=F.slot b o' e1 hm
   exact⟨_,e2⟩
  ·exact⟨o',F.keep b o' e1 hm (.inr<|.inl fun hn=>by have z:s.heap.get? b=none:=hn.1;rw[z] at e;cases e)⟩
 ·refine(I.hok b o e).stay (fun c u hc r=>?_) (fun _ q=>q) fun _ _ q=>q
  have hH:H1 c≠none:=by
   rcases hc with rfl|hc
   ·rw[e];simp
   ·rw[hc];simp
  exact F.keep c u r (fun hm=>hH (I.stkFree c hm)) (.inl hH)
 ·rcases hb' with hb'|hb'
  ·exact hb'.1
  ·exact(zis (pins:=pins) rfl I hb').1
theorem Fun.okX{P:Program}{w:World}{K:PySem.W.Frag}{mg:Str->Option Value}{base:Heap}{x qual:Str}{st:Stmt}{f:Addr}{fd:FuncData}{N ps:List Str}{k:Nat}{sp:Sp}(F:Fun K x qual st f fd)(S:FnScope N ps (zaf st))(len:∀vs H Q E,sp vs H Q E->vs.length=ps.length)(hbody:∀(cdv:Value) (A:Around) (outer:List Env) (s:Shared) (H:Hp) (vs:List V) (Q:VK) (E:XK),Room k (A.deeper (envOfC qual (zaf st) s.heap.objs.size f cdv))->sp vs H Q E ->
   ∃t,PSs (zj8 (CXx P w) P w K mg base N qual (zaf st) f cdv A outer s H E) (zaq st) t/\t { nx:=fun _ H'=>Q .non H',rt:=Q } (start N vs) H):FnOk P w K mg base (CXx P w) (k+1) f fd ps sp:=by
 obtain⟨oc,od,kV,doc,pm,an,cdv,ct,osl,rfl,lk,hcd⟩:=F.ex
 refine zsW lk hcd S len fun A outer s H vs Q E hr hsp=>?_
 obtain⟨t,h,q⟩:=hbody cdv A outer s H vs Q E hr hsp
 exact⟨t,h,q⟩
def bmV:List Value:=[.type "ValueError",.type "Exception",.type "BaseException",.type "object"]
def XC(K:PySem.W.Frag)(C:Addr):Prop:=PySem.W.excIn K C bmV "ValueError.__new__" = true
theorem XC.obj{K:PySem.W.Frag}{h:Heap}{C:Addr}(q:XC K C)(X:K.In h):∃bm N nm qn bs hdct sn sub ab col dd k0 k1 k2 k3 k5 mN,
  h.get? C=some (excClassObj nm qn C N bs bm hdct sn sub ab col dd k0 k1 k2 k3 k5 "ValueError.__new__")/\h.Ns N mN/\mN "__init__" = none/\OwnTail h bmV bm:=by
 unfold XC PySem.W.excIn at q
 split at q
 case h_2=>cases q
 rename_i dd cd sl ho
 split at q
 case h_2=>cases q
 rename_i C' bm k0 k1 k2 k3 n k5 hm hs
 simp only[and_eq_true,beq_iff_eq,not_eq_true'] at q
 obtain⟨⟨⟨⟨⟨rfl,rfl⟩,hdel⟩,ht⟩,hok⟩,hni⟩:=q
 obtain⟨nm,bs,mro,ns,qn,hd,sn,sub,ab,col,del⟩:=cd
 dsimp only at hm hdel hok hni
 subst hm hdel
 have hsl:sl=#[k0,k1,k2,k3,some (.builtin "ValueError.__new__"),k5]:=by
  obtain⟨l⟩:=sl
  simp only at hs
  rw[hs]
 subst hsl
 exact⟨bm,ns,nm,qn,bs,hd,sn,sub,ab,col,dd,k0,k1,k2,k3,k5,_,X _ _ ho,.of_isNs (PySem.W.isNs_of_in X hok),PySem.W.nsMap_none_of_in X hok hni,PySem.W.tail_of_in X ht⟩
section
variable {X:Cx}
def PM(X:Cx)(e:Expr)(t:St->Prop):Prop:=∀(pins:List (Addr×Obj)) (s:Shared) (σ:St) (H:Hp),Inv X pins σ H s->t σ->wpAny (model X.prog X.w) X.A (eval e X.env) (fun u s'=>(∃y tk,u=.str y tk/\y.length<=1000)/\Inv X pins σ H s') X.xe s
def PX(X:Cx)(e:Expr)(t:St->Prop):Prop:=∀(pins:List (Addr×Obj)) (s:Shared) (σ:St) (H:Hp),Inv X pins σ H s->t σ->wpAny (model X.prog X.w) X.A (eval e X.env) (fun u s'=>Inv X pins σ H s') X.xe s
def PMs(X:Cx)(es:List Expr)(t:St->Prop):Prop:=∀(out:Str) (pins:List (Addr×Obj)) (s:Shared) (σ:St) (H:Hp),out.length+1000*es.length<=sizeLine->Inv X pins σ H s->t σ->wpAny (model X.prog X.w) X.A (joinParts out (evalEach es X.env)) (fun u s'=>Inv X pins σ H s') X.xe s
theorem zhP{x:Str}{j:Nat}{pos:Pos}(hx:x.length<=1000:=by decide):PM X (.Constant (.str x) j pos) (fun _=>True):=fun pins s σ H I _=>Calls.Constant_str ⟨⟨x,_,rfl,hx⟩,I.tok _⟩
theorem zrQ{e:Expr}{pos:Pos}{n:Int}{s:Shared}{pins:List (Addr×Obj)}{σ:St}{H:Hp}(hn:n.natAbs<1000)(I:Inv X pins σ H s)(tk:Tok) :
  wpAny (model X.prog X.w) X.A (formatField (.int n tk) Str.empty) (fun u s'=>(∃y tk,u=.str y tk/\y.length<=1000)/\Inv X pins σ H s') X.xe s:=by
 have hl:n.natAbs.log2<100:=by
  by_cases h0:n.natAbs=0
  ·rw[h0];decide
  ·exact(log2_lt h0).mpr (lt_of_lt_of_le hn (by decide))
 refine formatField_int_small (by omega) ⟨⟨_,_,rfl,?_⟩,I.tok _⟩
 have e:=int_text_length_le (k:=100) (by decide) hl
 show(Str.ofString (toString n)).length<=1000
 rw[PySem.ofString_length];omega
theorem zlp{x:Str}{p pos:Pos}(i:Nat)(hN:X.N[i]?=some x:=by rfl)(hv:Vis X.env.scope x:=by first|exact Or.inl rfl|exact Or.inr (Or.inl rfl)|exact Or.inr (Or.inr rfl))(hd:(x==("__debug__" : Str))=false:=by decide)(hcd:(x==("__classdict__" : Str))=false:=by decide):PM X (.FormattedValue (.Name x p) (-1) none pos) (fun σ=>∃n:Int,σ[i]?=some (some (.int n))/\n.natAbs<1000):=fun pins s σ H I ⟨n,e,hn⟩=>by
 refine FormattedValue_plain (thn (zfR (pos:=p) hN hv hd hcd pins s σ H (fun v H'=>v=.int n/\H'=H) I ⟨.int n,e,rfl,rfl⟩) fun u s1 ⟨v,H1,I1,r,hv,hH⟩=>?_)
 subst hv;subst hH
 obtain⟨tk,rfl⟩:∃tk,u=.int n tk:=r
 exact zrQ (e:=.Name x p) (pos:=pos) hn I1 tk
theorem zit:PMs X [] (fun _=>True):=fun out pins s σ H hl I _=>joinParts_nil (I.tok _) (by simpa using hl)
theorem zcl{e:Expr}{es:List Expr}{t t':St->Prop}(h1:PM X e t)(h2:PMs X es t'):PMs X (e::es) (fun σ=>t σ/\t' σ):=fun out pins s σ H hl I q=>by
 show wpAny _ _ (joinParts out (eval e X.env::evalEach es X.env)) _ _ _
 refine joinParts_cons (thn (h1 pins s σ H I q.1) fun u s1 ⟨⟨y,tk,hu,hy⟩,I1⟩=>?_)
 subst hu
 have hz:(out++y).length=out.length+y.length:=strLen_append _ _
 simp only[length_cons] at hl
 exact⟨by omega,h2 (out++y) pins s1 σ H (by omega) I1 q.2⟩
theorem zjj{x:Str}{j:Nat}{pos:Pos}:PX X (.Constant (.str x) j pos) (fun _=>True):=fun pins s σ H I _=>Calls.Constant_str (I.tok _)
theorem ziu{e1 e2:Expr}{es:List Expr}{t:St->Prop}{pos:Pos}(h:PMs X (e1::e2::es) t)(hl:1000*(es.length+2)<=sizeLine:=by decide):PX X (.JoinedStr (e1::e2::es) pos) t:=fun pins s σ H I q =>
 JoinedStr_many (h Str.empty pins s σ H (by show 0+1000*(es.length+2)<=sizeLine;rw[zero_add];exact hl) I q)
theorem zng{E:XK}{C:Addr}{x:Str}{np cpos pos:Pos}{e:Expr}{t:St->Prop}(hx:Flies X E)(hex:X.ex=[])(xc:XC X.K C)(hg:Gl X x)(hm:X.mg x=some (.ref C))(hh:X.A.handled=none)(ha:PX X e t)(he:starEach [e] X.env=[(false,eval e X.env)]:=by rfl)(hd:(x==("__debug__" : Str))=false:=by decide) :
  PS X (.Raise (some (.Call (.Name x np) [e] [] cpos)) none pos) (fun _ σ H=>t σ/\E (.ref C) none H):=by
 intro pins s σ H D I hq
 obtain⟨bm,N,nm,qn,bs,hdct,sn,sub,ab,col,dd,k0,k1,k2,k3,k5,mN,hC,hN,hni,T⟩:=xc.obj I.ok.mod.kin
 refine wpAny_Raise_call_subU (C:=C) (nm:=nm) (q:=qn) (N:=N) (bs:=bs) (bm:=bm) (hdct:=hdct) (sn:=sn) (sub:=sub) (ab:=ab) (col:=col) (dd:=dd) (k0:=k0) (k1:=k1) (k2:=k2) (k3:=k3) (k5:=k5)
  PySem.F.excBase_ValueError (by decide) PySem.F.excBase_ValueError (mN:=mN) (T.hasType PySem.F.excBase_ValueError.hasBase) hh (by rw[he];rfl) hni (zcn I hg hm ⟨rfl,?_⟩ hd)
 rw[he]
 refine Calls.evalArgs_plain (Calls.spliced_cons (thn (ha pins s σ H I hq.1) fun u s1 I1=>Calls.spliced_nil ?_))
 refine⟨rfl,(by show 1<=sizeLine;decide),I1.bk _ _ hC,hN.keeps I1.bk,T.keeps I1.bk,fun h' b hm=>?_⟩
 obtain⟨tt,e1,e2,e3⟩:=hm.there
 refine hx pins σ H { s1 with heap:=h' } b (.ref C) (I1.kept (t':=s1.toks) hm.keeps) ⟨_,_,_,zis hex I1 hm.new,?_,e1,rfl,rfl,rfl,.inl rfl⟩ hq.2
 cases q:H b with
 | none=>rfl
 | some o=>obtain⟨u,e⟩:=(I1.hok b o q).there;rw[hm.new] at e;cases e
end
section
variable {X:Cx} {pins:List (Addr×Obj)} {σ:St} {H:Hp} {s:Shared} {a:Addr} {cls:Value}
theorem Inv.flown{h':Heap}(I:Inv X pins σ H s)(hex:X.ex=[])(F:Flown (frs X.stack) (Nw X pins) H a cls s.heap h'):Inv X pins σ H { s with heap:=h' }:=by
 have neL:∀b o,X.s₀.heap.get? b=some o->b≠X.env.locals:=fun b o e=>ne_of_lt (lt_of_lt_of_le (Heap.lt_size e) I.ok.above)
 have hs0:∀b o,X.s₀.heap.get? b=some o->¬Nw X pins b:=fun b o e n=>by rw[n.1] at e;cases e
 have stk:∀b,b≠X.env.locals->b∉X.fs->b∉frs X.stack:=fun b h1 h2=>I.stkNe h1 h2
 have anyK:∀b o,s.heap.get? b=some o->(¬Nw X pins b\/∀vs,o.data≠.fields vs)->∃sl,h'.get? b=some { o with slots:=sl }:=fun b o e hn=>by
  by_cases hm:b∈frs X.stack
  ·exact F.slot b o e hm
  ·exact⟨o.slots,F.keep b o e hm (.inr hn)⟩
 have cellK:∀x c,X.env.cells.lookup x=some c->∀v,s.heap.IsCell c v->h'.IsCell c v:=fun x c e v ⟨o,ho,hd⟩=>by
  obtain⟨sl,q⟩:=anyK c o ho (.inr fun vs q=>by rw[hd] at q;cases q)
  exact⟨_,q,hd⟩
 refine⟨I.ok,I.os,I.bare,⟨fun b o e n hb hx=>?_,fun b o e n hb hx=>?_,I.base.free,fun b o e hx=>?_,I.base.tups,I.base.frzs,I.base.tbls⟩,?_,fun x c e=>?_,I.free,I.freeC,fun p hp=>?_,fun b o e=>?_,I.len⟩
 ·exact F.keep b o (I.base.keep b o e n hb hx) (stk b (neL b o e) hb) (.inr (.inl (hs0 b o e)))
 ·obtain⟨sl,e1⟩:=I.base.slot b o e n hb hx
  obtain⟨sl',e2⟩:=anyK b _ e1 (.inl (hs0 b o e))
  exact⟨sl',e2⟩
 ·obtain⟨o',e1⟩:=I.base.there b o e hx
  obtain⟨sl',e2⟩:=anyK b _ e1 (.inl (hs0 b o e))
  exact⟨_,e2⟩
 ·obtain⟨m,hn,hl⟩:=I.loc
  obtain⟨oL,es,ep,hoL,hdL,r⟩:=id hn
  obtain⟨sl,q⟩:=anyK _ oL hoL (.inr fun vs q=>by rw[hdL] at q;cases q)
  refine⟨m,⟨_,es,ep,q,hdL,r⟩,fun i x v e1 e2 e3=>?_⟩
  obtain⟨u,r,l⟩:=hl i x v e1 e2 e3
  refine⟨u,r,?_⟩
  rcases l with l|⟨k,c,e,z⟩
  ·exact .inl l
  ·exact .inr ⟨k,c,e,cellK x c e _ z⟩
 ·obtain⟨v,z⟩:=I.cell x c e
  exact⟨v,cellK x c e v z⟩
 ·obtain⟨e,n,ne,nf,d⟩:=I.pin p hp
  exact⟨F.keep p.1 p.2 e (stk _ ne nf) (.inr (.inl fun hn=>hn.2 p hp rfl)),n,ne,nf,d⟩
 ·refine(I.hok b o e).stay (fun c u hc r=>?_) (fun _ q=>q) fun _ _ q=>q
  have hH:H c≠none:=by
   rcases hc with rfl|hc
   ·rw[e];simp
   ·rw[hc];simp
  exact F.keep c u r (fun hm=>hH (I.stkFree c hm)) (.inl hH)
theorem Fl.nw{h':Heap}(I:Inv X pins σ H s)(hex:X.ex=[])(F:Flown (frs X.stack) (Nw X pins) H a cls s.heap h'):Fl (Nw X pins) a cls H h':=F.fl.mono fun b hb=>hb.elim id fun hb=>zis hex I hb
theorem zc8{N:Addr->Prop}{M:Model}{A:Around}{E:Value->Shared->Prop}{Q:Unit->Shared->Prop}(f:Fl N a cls H s.heap)(h:Q () s):wpAny M A (setFlight (.ref a) none) Q E s:=by
 obtain⟨oe,vs,a0,_,_,he,_,hd,h0,h1⟩:=f
 unfold setFlight
 rcases h1 with h1|⟨T,oT,ts,h1,_,_,_,hT,hdT,h3⟩
 ·refine wpAny_bind (wpAny_field he hd h1 ?_)
  rw[if_neg (by decide)]
  exact wpAny_pure h
 ·refine wpAny_bind (wpAny_field he hd h1 ?_)
  rw[if_pos (show(Value.ref T != Value.none)=true from by simp)]
  refine wpAny_setField hT hdT (Array.getElem?_eq_some_iff.mp h3).1 ?_
  show Q () { s with heap:=s.heap.update T (Obj.mapFields (·.setIfInBounds 3 Value.none)) }
  rw[Heap.update_setField_same s.heap T oT ts 3 Value.none hT hdT h3]
  exact h
theorem Inv.trackX{N:Addr->Prop}(I:Inv X pins σ H s)(hN:∀b,N b->Nw X pins b)(f:Fl N a cls H s.heap):Inv X pins σ (upd H a (.ext (VS.XPhi a cls))) s:=by
 obtain⟨oe,vs,a0,na,ha,he,hc,hd,h0,_⟩:=f
 obtain⟨n1,n2⟩:=hN a na
 obtain⟨m,hn,hl⟩:=id I.loc
 obtain⟨oL,es,ep,hoL,hdL,r⟩:=id hn
 have hne:a≠X.env.locals:=by rintro rfl;rw[he] at hoL;cases hoL;rw[hd] at hdL;cases hdL
 have up:∀b,b≠a->∀{o:Option HO},H b=o->upd H a (.ext (VS.XPhi a cls)) b=o:=fun b hb o e=>by rw[zaC hb];exact e
 refine⟨I.ok,I.os,I.bare,⟨I.base.keep,I.base.slot,fun b o e n hx=>?_,I.base.there,fun b xs e=>?_,fun b o u e=>?_,fun b ps e=>?_⟩,I.loc,I.cell,?_,fun x c e=>?_,fun p hp=>?_,I.hok.track ha ⟨⟨oe,vs,he,hc,hd,a0,h0⟩,⟨oe,he⟩,fun h1 h2 ⟨o,vs,e1,e2,e3⟩ k=>⟨o,vs,k _ e1,e2,e3⟩⟩,I.len⟩
 ·refine up b ?_ (I.base.free b o e n hx)
  rintro rfl;rw[n1] at e;cases e
 ·have:=I.base.tups b xs e
  exact up b (zay this ha) this
 ·have:=I.base.frzs b o u e
  exact up b (zay this ha) this
 ·obtain⟨m,this⟩:=I.base.tbls b ps e
  exact⟨m,up b (zay this ha) this⟩
 ·exact up _ (Ne.symm hne) I.free
 ·refine up c ?_ (I.freeC x c e)
  rintro rfl
  obtain⟨v,o,ho,hd'⟩:=I.cell x c e
  rw[he] at ho;cases ho;rw[hd] at hd';cases hd'
 ·obtain⟨e,n,r⟩:=I.pin p hp
  exact⟨e,up _ (n2 p hp) n,r⟩
theorem zdR{M:Model}{A:Around}{E:Value->Shared->Prop}{i:Nat}{n:Str}{pos:Pos}{Q:Unit->Shared->Prop}(I:Inv X pins σ H s)(hN:X.N.Nodup)(hi:X.N[i]?=some n)(hk:X.env.scope.names.lookup n=some .local)(h:∀s',Inv X pins (σ.set i none) H s'->Q () s'):wpAny M A (do bindName X.env n .none;unbindBehindTheSuite X.env n pos) Q E s:=by
 obtain⟨m,hn,hl⟩:=id I.loc
 have hcls:(X.env.scope.kind==.class||(X.env.scope.kind==.module&&X.env.locals != X.env.globals))=false:=by rw[I.ok.kind];rfl
 refine wpAny_nameGoes_keeps hk hn hcls fun h' v hn' hs=>h _ ?_
 refine⟨I.ok,I.os,I.bare,⟨fun b o e n hb hx=>?_,fun b o e n hb hx=>?_,I.base.free,fun b o e hx=>?_,I.base.tups,I.base.frzs,I.base.tbls⟩,⟨_,hn',fun j y v' e1 e2 e3=>?_⟩,fun y c e=>?_,I.free,I.freeC,fun p hp=>?_,fun b ob e=>?_,by simpa using I.len⟩
 ·exact(hs.2 b (ne_of_lt (lt_of_lt_of_le (Heap.lt_size e) I.ok.above))).trans (I.base.keep b o e n hb hx)
 ·obtain⟨sl,e1⟩:=I.base.slot b o e n hb hx
  exact⟨sl,(hs.2 b (ne_of_lt (lt_of_lt_of_le (Heap.lt_size e) I.ok.above))).trans e1⟩
 ·obtain⟨o',e1⟩:=I.base.there b o e hx
  exact⟨o',(hs.2 b (ne_of_lt (lt_of_lt_of_le (Heap.lt_size e) I.ok.above))).trans e1⟩
 ·by_cases hj:j=i
  ·subst hj
   by_cases hjl:j<σ.length
   ·rw[getElem?_set_self hjl] at e2;cases e2
   ·rw[getElem?_eq_none (by simpa using hjl)] at e2;cases e2
  ·rw[getElem?_set_ne (Ne.symm hj)] at e2
   obtain⟨u',r',q⟩:=hl j y v' e1 e2 e3
   refine⟨u',r',?_⟩
   rcases q with ⟨k,e⟩|⟨k,c,e,z⟩
   ·refine .inl ⟨k,?_⟩
    have:y≠n:=fun e=>hj (zgh hN e1 (e▸hi))
    simp[this,e]
   ·exact .inr ⟨k,c,e,z.sameBut hs (I.cne y c e)⟩
 ·obtain⟨w',z⟩:=I.cell y c e
  exact⟨w',z.sameBut hs (I.cne y c e)⟩
 ·obtain⟨e,n,ne,nf,d⟩:=I.pin p hp
  exact⟨(hs.2 p.1 ne).trans e,n,ne,nf,d⟩
 ·refine(I.hok b ob e).stay (fun c w' hc q=>(hs.2 c ?_).trans q) (fun _ q=>q) fun _ _ q=>q
  rintro rfl
  rcases hc with rfl|hc
  ·rw[I.free] at e;cases e
  ·rw[I.free] at hc;cases hc
end
abbrev Cx.hnd(X:Cx)(a:Addr):Cx:={ X with A:=X.A.mark (some (.ref a)),calm:=false,xe:=fun _ _=>False }
section
variable {X:Cx} {pins:List (Addr×Obj)} {σ:St} {H:Hp} {s:Shared} {a:Addr}
theorem Cx.Ok.hnd(ok:X.Ok)(a:Addr):(X.hnd a).Ok :=
 ⟨ok.mod,ok.kind,ok.glob,ok.blt,ok.above,ok.inj,ok.has,ok.cab,fun h=>absurd (show false=true from h) Bool.false_ne_true,ok.frames,ok.stk,ok.exf,ok.bs,ok.bsz,ok.noex,ok.exfs,ok.funs,ok.frf⟩
theorem Inv.hnd(I:Inv X pins σ H s)(a:Addr):Inv (X.hnd a) pins σ H s:=⟨I.ok.hnd a,I.os,I.bare,I.base,I.loc,I.cell,I.free,I.freeC,I.pin,I.hok,I.len⟩
theorem Inv.unhnd(ok:X.Ok)(I:Inv (X.hnd a) pins σ H s):Inv X pins σ H s:=⟨ok,I.os,I.bare,I.base,I.loc,I.cell,I.free,I.freeC,I.pin,I.hok,I.len⟩
theorem SP.unhnd{D:Ends}{f:Flow}{s':Shared}(ok:X.Ok)(h:SP (X.hnd a) pins D f s'):SP X pins D f s':=by
 cases f with
 | next=>obtain⟨σ',H',I,q⟩:=h;exact⟨σ',H',I.unhnd ok,q⟩
 | brk=>obtain⟨σ',H',I,q⟩:=h;exact⟨σ',H',I.unhnd ok,q⟩
 | cont=>obtain⟨σ',H',I,q⟩:=h;exact⟨σ',H',I.unhnd ok,q⟩
 | ret u=>obtain⟨v,σ',H',I,r,q⟩:=h;exact⟨v,σ',H',I.unhnd ok,r,q⟩
end
theorem zfL{K:PySem.W.Frag}{M:Model}{A:Around}{E:Value->Shared->Prop}{s:Shared}{Q:Bool->Shared->Prop}{a C S:Addr}{oe:Obj}{b:Bool}(X:K.In s.heap)(he:s.heap.get? a=some oe)(hcls:oe.cls=.ref C)(xs:XC K S)(hm:PySem.W.mroIn K C (.ref S)=some b)(h:Q b s):wpAny M A (excMatches (.ref a) (.ref S)) Q E s:=by
 obtain⟨bm,N,nm,qn,bs,hdct,sn,sub,ab,col,dd,k0,k1,k2,k3,k5,mN,hC,hN,hni,T⟩:=xs.obj X
 have hL:=PySem.W.looks_mroIn (M:=M) X hm
 obtain⟨hp,g,d,tk,os⟩:=s
 have hcB:(Value.ref S::bm).contains (.type "BaseException")=true:=by rw[contains_cons,T.hasType PySem.F.excBase_ValueError.hasBase,Bool.or_true]
 have f:=tc_notTuple
 unfold excMatches
 repeat (first|with_reducible refine hL.at ?_|(with_reducible refine wpAny_loadPart_at he ?_;rw[hcls])|with_reducible refine wpAny_loadPart_at hC ?_|(with_reducible refine wpAny_isSubtype_exc hC ?_;rw[hcB])|wp_step)
 cases b<;>(wp_walk;exact h)
section
variable {X:Cx}
def PH(X:Cx)(h:ExceptHandler)(th:Value->TS):Prop:=∀(pins:List (Addr×Obj)) (s:Shared) (σ:St) (H:Hp) (D:Ends) (a:Addr) (cls:Value),Inv X pins σ H s->Fl (Nw X pins) a cls H s.heap->th cls D σ H ->
 wpAny (model X.prog X.w) X.A (handleBy (.ref a) X.env [h]) (SP X pins D) X.xe s
def zoo(D:Ends)(i:Nat):Ends:={ nx:=fun σ' H'=>D.nx (σ'.set i none) H',rt:=D.rt,bk:=fun σ' H'=>D.bk (σ'.set i none) H',ct:=fun σ' H'=>D.ct (σ'.set i none) H' }
theorem ztD{S:Addr}{cn n:Str}{i:Nat}{np hpos:Pos}{b0:Stmt}{suite:List Stmt}{ts:TS}(hN:X.N.Nodup)(hi:X.N[i]?=some n)(hk:X.env.scope.names.lookup n=some .local)(hg:Gl X cn)(hm:X.mg cn=some (.ref S))(xs:XC X.K S)(hs:∀a,PSs (X.hnd a) (b0::suite) ts)(hd:(cn==("__debug__" : Str))=false:=by decide) :
  PH X (.ExceptHandler (some (.Name cn np)) (some n) (b0::suite) hpos) (fun cls D σ H=>(∃C,cls=.ref C/\PySem.W.mroIn X.K C (.ref S)=some true)/\∀a,H a=none->ts (zoo D i) (σ.set i (some (.ref a))) (upd H a (.ext (VS.XPhi a cls)))):=by
 intro pins s σ H D a cls I fl ⟨⟨C,hC,hmr⟩,hq⟩
 subst hC
 refine wpAny_handleBy_cons (codeAny_handlers_test (zcn (X:=X.hnd a) (I.hnd a) hg hm ?_ hd)) (by intro q;cases q)
 obtain⟨oe,vs,a0,_,ha,he,hc,_⟩:=id fl
 refine zfL I.kIn he hc xs hmr ?_
 refine codeAny_handlers_suite_as (zc8 fl (zeO (I.trackX (fun _ z=>z) fl) hN hi (.inl hk) (show RelV (.ref a) (.ref a) from rfl) (fun s2 I2=>?_) (.inr hk)))
 refine wpAny_mono (hs a pins s2 _ _ (zoo D i) (I2.hnd a) (hq a ha)) (fun f s3 z=>?_) fun _ _ z=>z.elim
 have z':=SP.unhnd I.ok z
 cases f with
 | next=>obtain⟨σ',H',I3,q⟩:=z';exact zdR I3 hN hi hk fun s4 I4=>⟨_,H',I4,q⟩
 | brk=>obtain⟨σ',H',I3,q⟩:=z';exact zdR I3 hN hi hk fun s4 I4=>⟨_,H',I4,q⟩
 | cont=>obtain⟨σ',H',I3,q⟩:=z';exact zdR I3 hN hi hk fun s4 I4=>⟨_,H',I4,q⟩
 | ret u=>obtain⟨v,σ',H',I3,r,q⟩:=z';exact zdR I3 hN hi hk fun s4 I4=>⟨v,_,H',I4,r,q⟩
def XP(X:Cx)(pins:List (Addr×Obj))(σ:St)(E:XK)(e:Value)(s':Shared):Prop:=∃a cls H',e=.ref a/\Inv X pins σ H' s'/\Fl (Nw X pins) a cls H' s'.heap/\E cls none H'
def PCx(X:Cx)(e:Expr)(t:XK->TE):Prop:=∀(pins:List (Addr×Obj)) (s:Shared) (σ:St) (H:Hp) (Q:VK) (E:XK),Inv X pins σ H s->t E σ H Q->wpAny (model X.prog X.w) X.A (eval e X.env) (EP X pins σ Q) (XP X pins σ E) s
def PB(X:Cx)(b:List Stmt)(t:XK->TS):Prop:=∀(pins:List (Addr×Obj)) (s:Shared) (σ:St) (H:Hp) (D:Ends) (E:XK),Inv X pins σ H s->t E D σ H->wpAny (model X.prog X.w) X.A (execs b X.env) (SP X pins D) (XP X pins σ E) s
theorem zop{b:List Stmt}{h:ExceptHandler}{t:XK->TS}{th:Value->TS}{pos:Pos}(hst:X.stack=X.env::X.outer)(hf:X.env.frame=some X.env.locals)(hex:X.ex=[])(hb:PB X b t)(hh:PH X h th) :
  PS X (.Try b [h] [] [] pos) (fun D σ H=>t (fun cls _ H'=>th cls D σ H') D σ H):=by
 intro pins s σ H D I q
 refine wpAny_Try_except (wpAny_mono (hb pins s σ H D _ I q) (fun f s1 z=>?_) fun e s1 ⟨a,cls,H',e1,I1,fl,z⟩=>?_)
 ·cases f with
  | next=>exact wpAny_execs_nil z
  | brk=>exact z
  | cont=>exact z
  | ret u=>exact z
 ·subst e1
  exact flown I1 hst hf fl fun h' F=>hh pins _ σ H' D a cls (I1.flown hex F) (Fl.nw I1 hex F) z
variable {k:Nat} {f:Addr} {fd:FuncData} {ps:List Str} {sp:Sp} {x:Str} {p pos:Pos} {e:Expr} {es:List Expr} {t:TA}
theorem znh(F:FnOk X.prog X.w X.K X.mg X.base (CXx X.prog X.w) k f fd ps sp)(hr:Room k X.A)(hex:X.ex=[])(hg:Gl X x)(hm:X.mg x=some (.ref f))(hk:PySem.W.keepIn X.K (.ref f)=true)(hb:Binds X.K fd ps [])(ha:PA X.nox (e::es) t)(hdb:(x==("__debug__" : Str))=false:=by decide)(he:starEach (e::es) X.env=(false,eval e X.env)::starEach es X.env:=by rfl)(hpl:(backTo pos (starEach es X.env)).any (·.1)=false:=by rfl) :
  PCx X (.Call (.Name x p) (e::es) [] pos) (fun E σ H Q=>t σ H fun vs H1=>sp vs H1 Q E):=by
 intro pins s σ H Q E I h
 refine wpAny_Call_Name_kw (zcn I hg hm ?_ hdb)
 refine PySem.W.callWith_K (h₀:=X.base) I.ok.mod.kin hk (wpAny_mono (ha pos pins s σ H _ (I.wish _) h) (fun us s1 ⟨vs,H1,I1,r,q⟩=>⟨I1.unwish.kIn,?_⟩) fun _ _ z=>z.elim) he hpl
 have I1:=I1.unwish
 have hl:(us++[]).length=ps.length:=by rw[append_nil,<- r.length];exact F.len _ _ _ _ q
 have hb':=hb s1 us I1.kIn hl
 rw[append_nil] at hb'
 refine wpAny_call (codeAny_mono (F.run X.A X.stack s1 H1 ⟨us,[]⟩ us vs Q E hr I1.env0 hb' r q) fun r s' hq=>?_)
 cases r with
 | error e =>
  obtain⟨a,cls,H',rfl,ho,hgn,u,hok,fl,z⟩:=hq
  exact⟨a,cls,H',rfl,I1.call' ho u hok hgn (fun b z=>absurd z (by simp)),fl.mono fun b hb=>zis hex I1 hb,z⟩
 | ok fl =>
  cases fl with
  | ret u=>exact I1.after hq
  | next=>exact False.elim hq
  | brk=>exact False.elim hq
  | cont=>exact False.elim hq
variable {te:XK->TE}
theorem zpv(he:PCx X e te)(hs:swapsWith e none pos.line X.env=pure false:=by rfl):PB X [.Expr e pos] (fun E D σ H=>te E σ H fun _ H1=>D.nx σ H1):=by
 intro pins s σ H D E I h
 exact wpAny_execs_cons (wpAny_Expr_any (wpAny_mono (he pins s σ H _ E I h) (fun v s1 ⟨x,H1,I1,r1,q1⟩=>wpAny_execs_nil ⟨σ,H1,I1,q1⟩) fun _ _ z=>z) I.quiet hs)
theorem zrR{i:Nat}{pos':Pos}(hN:X.N.Nodup)(hi:X.N[i]?=some x)(hx:Loc X.env.scope x)(he:PCx X e te)(hs:swapsWith e (some (.Name x pos')) pos.line X.env=pure false:=by rfl)(hf:X.fn x=true\/X.env.scope.names.lookup x=some .local:=by first|exact .inl rfl|exact .inr rfl|assumption):PB X [.Assign [.Name x pos'] e pos] (fun E D σ H=>te E σ H fun v H1=>D.nx (σ.set i (some v)) H1):=by
 intro pins s σ H D E I h
 refine wpAny_execs_cons (wpAny_Assign_Name (wpAny_mono (he pins s σ H _ E I h) (fun v s1 ⟨y,H1,I1,r1,q1⟩=>?_) fun _ _ z=>z) hs)
 exact zeO I1 hN hi hx r1 (fun s2 I2=>wpAny_execs_nil ⟨_,H1,I2,q1⟩) hf
end
end L2
namespace L2
open PySem PySem.Spec PyProof.Rows PySem.W PySem.Builtin PySem.Builtin.ObjectAttr PySem.Builtin.Getset_descriptor
section
variable {prog:Program} {w:World} {A:Around} {E:Value->Shared->Prop} {K:PySem.W.Frag} {h:Heap} {g:Array GenState} {d:Drawn} {t:Nat} {os:OsState} {a C:Addr} {o:Obj}
theorem zrS{tp:Value}{R:Result->Shared->Prop}(X:K.In h)(hx:h.get? a=some o)(hc:o.cls=.ref C)(hm:mroIn K C (.type "object")=some true)(hq:R (.ok (.ret (.ref C))) ⟨h,g,d,t,os⟩) :
  codeAny (model prog w) A (.call (.builtin "getset_descriptor.__get__") ⟨[.builtin "object.__class__",.ref a,tp],[]⟩) R ⟨h,g,d,t,os⟩:=by
 have L0:Looks (model prog w) h (typeOf (.ref a)) (.ref C):=hc▸(Looks.ld hx).andThen .now
 have L1:=looks_mroIn (M:=model prog w) X hm
 refine codeAny_call_builtin KF.slot_gs.plain KF.entry_gs (KF.slot_gs.check _ _ _ _ _ _ _ _ KF.type_class (KF.args_gs _ _ _) ?_)
 unfold Builtin.«getset_descriptor.__get__» descrGet
 rw[dga_obj]
 refine wpAny_bind (wpAny_pure ?_)
 unfold descrGetter descrCheckInstance descrNameAndClass isInstance
 simp only[KF.owner_class]
 repeat lk
 refine⟨Code.quiet_builtin _ (by decide +kernel),codeAny_builtin KF.entry_class ?_⟩
 unfold Builtin.«object.__class__» shownTypeOf
 repeat lk
 exact hq
theorem zni{tk:Tok}{Q:Fin->Shared->Prop}(X:K.In h)(hx:h.get? a=some o)(hc:o.cls=.ref C)(hcl:findIn K (.ref C) "__class__" = some (some (.builtin "object.__class__")))(hm:mroIn K C (.type "object")=some true)(hq:Q (.done (.ret (.ref C))) ⟨h,g,d,t,os⟩) :
  wpAny (model prog w) A (Builtin.«object.__getattribute__» ⟨[.ref a,.str "__class__" tk],[]⟩) Q E ⟨h,g,d,t,os⟩:=by
 have hT5:(⟨h,g,d,t,os⟩:Shared).TypeIs (.builtin "object.__class__") "getset_descriptor" := PySem.F.typeOf_object_class
 have f5:=PySem.F.typeOf_object_class
 have f6:=PySem.F.slot_gs_get.lookup
 have f7:=PySem.F.slot_gs_set.lookup
 have L2:=looks_findIn (M:=model prog w) X hcl
 repeat (any_goals (first|assumption|(with_reducible refine wpAny_loadPart_at hx ?_;rw[hc])|with_reducible refine L2.at ?_|wp_step))
 refine zrS X hx hc hm ?_
 repeat (any_goals (first|assumption|wp_step))
theorem znj{M:Model}{nameV:Value}{Q:Unit->Shared->Prop}(X:K.In h)(hx:h.get? a=some o)(hc:o.cls=.ref C)(hb:mroIn K C (.type "BaseException")=some true)(hq:Q () ⟨h,g,d,t,os⟩) :
  wpAny M A (checkBuiltinCall "BaseException.__getattribute__" ⟨[.ref a,nameV],[]⟩) Q E ⟨h,g,d,t,os⟩:=by
 have hk:builtinKind "BaseException.__getattribute__" = some .slot:=by decide +kernel
 have hsplit:splitId "BaseException.__getattribute__" = some ("BaseException", "__getattribute__"):=by decide +kernel
 have ha:=PySem.F.args_bexc_ga (.ref a) nameV
 have L1:=looks_mroIn (M:=M) X hb
 simp only[checkBuiltinCall,hk,hsplit]
 refine wpAny_bind ?_
 ·unfold isInstance
  repeat (first|(with_reducible refine wpAny_loadPart_at hx ?_;rw[hc])|with_reducible refine L1.at ?_|wp_step)
  exact hq
theorem ztE{tk:Tok}{Q:Value->Shared->Prop}(X:K.In h)(hx:h.get? a=some o)(hc:o.cls=.ref C)(hga:findIn K (.ref C) "__getattribute__" = some (some (.builtin "BaseException.__getattribute__")))(hgh:findIn K (.ref C) "__getattr__" = some none)(hcl:findIn K (.ref C) "__class__" = some (some (.builtin "object.__class__")))(hm:mroIn K C (.type "object")=some true)(hb:mroIn K C (.type "BaseException")=some true)(hq:Q (.ref C) ⟨h,g,d,t,os⟩) :
  wpAny (model prog w) A (getAttrBy (.ref a) (.str "__class__" tk) false) Q E ⟨h,g,d,t,os⟩:=by
 have f3:=PySem.F.attr_ValueError.ga.bind (.ref a)
 have hx2:(Value.builtin "BaseException.__getattribute__" == Value.builtin "object.__getattribute__")=false:=by decide +kernel
 have hx1:(onTheHeap (Value.ref C)&&Value.builtin "BaseException.__getattribute__" == Value.builtin "object.__getattribute__")=false:=by rw[hx2];rfl
 have L1:=looks_findIn (M:=model prog w) X hga
 have L2:=looks_findIn (M:=model prog w) X hgh
 repeat (any_goals (first|assumption|(with_reducible refine wpAny_loadPart_at hx ?_;rw[hc])|with_reducible refine L1.at ?_|with_reducible refine L2.at ?_|wp_step))
 refine codeAny_call_builtin PySem.F.attr_ValueError.ga.plain PySem.F.entry_bexc_ga (znj X hx hc hb (zni X hx hc hcl hm ?_))
 repeat (any_goals (first|assumption|wp_step))
theorem zpw{Q:Option Value->Shared->Prop}(X:K.In h)(hx:h.get? a=some o)(hc:o.cls=.ref C)(hga:findIn K (.ref C) "__getattribute__" = some (some (.builtin "BaseException.__getattribute__")))(hgh:findIn K (.ref C) "__getattr__" = some none)(hcl:findIn K (.ref C) "__class__" = some (some (.builtin "object.__class__")))(hm:mroIn K C (.type "object")=some true)(hb:mroIn K C (.type "BaseException")=some true)(hq:Q (some (.ref C)) ⟨h,g,d,t+1,os⟩) :
  wpAny (model prog w) A (getAttr? (.ref a) "__class__") Q E ⟨h,g,d,t,os⟩:=by
 unfold getAttr? getAttrBy?
 refine wpAny_bind (wpAny_mkText (wpAny_bind (wpAny_attempt (ztE X hx hc hga hgh hcl hm hb (wpAny_pure hq)))))
def zqg(K:PySem.W.Frag)(C:Addr):Bool:=findIn K (.ref C) "__getattribute__" == some (some (.builtin "BaseException.__getattribute__"))&&findIn K (.ref C) "__getattr__" == some none &&
 findIn K (.ref C) "__class__" == some (some (.builtin "object.__class__"))&&mroIn K C (.type "object")==some true&&mroIn K C (.type "BaseException")==some true&&(clsIn K C).isSome
theorem zpx{C:Addr}(q:zqg K C=true):findIn K (.ref C) "__getattribute__" = some (some (.builtin "BaseException.__getattribute__"))/\findIn K (.ref C) "__getattr__" = some none /\
  findIn K (.ref C) "__class__" = some (some (.builtin "object.__class__"))/\mroIn K C (.type "object")=some true/\mroIn K C (.type "BaseException")=some true/\(clsIn K C).isSome=true:=by
 unfold zqg at q
 simp only[and_eq_true,beq_iff_eq] at q
 obtain⟨⟨⟨⟨⟨q2,q3⟩,q4⟩,q5⟩,q6⟩,q7⟩:=q
 exact⟨q2,q3,q4,q5,q6,q7⟩
theorem zgL(q:zqg K C=true):KitX K (.ref a) (.ref C) (VS.XPhi a (.ref C)):=by
 obtain⟨q2,q3,q4,q5,q6,q7⟩:=zpx q
 obtain⟨cdD,hcD⟩:=isSome_iff_exists.mp q7
 refine⟨fun M h X p=>?_,fun M h X p=>?_,fun h tp dd its n sl X htp=>?_,fun {prog w A E Q s} X p k=>?_⟩
 ·obtain⟨o,vs,e1,e2,_⟩:=p
  exact e2▸(Looks.ld e1).andThen .now
 ·unfold clsIn at hcD
  split at hcD
  ·rename_i c' d' cd' sl' ho
   intro A' Q' E' s' k q
   unfold isType loadHead
   exact wpAny_bind (wpAny_loadPart (k _ _ (X _ _ ho)) (wpAny_pure q))
  ·cases hcD
 ·refine eq_false_iff.mpr fun q=>?_
  have e:C=tp:=Value.ref.inj (beq_iff_eq.mp q)
  subst e
  unfold clsIn at hcD
  split at hcD
  ·rename_i c' d' cd' sl' ho
   have z:=(X _ _ ho).symm.trans htp
   cases z
  ·cases hcD
 ·obtain⟨o,vs,e1,e2,_⟩:=p
  obtain⟨hh,gg,dd,tt,oss⟩:=s
  exact zpw X e1 e2 q2 q3 q4 q5 q6 k
end
end L2
namespace L2
open PySem PySem.Spec PyProof.Rows
section
variable {X:Cx}
def ztF(K:PySem.W.Frag):List V->Hp->VK->Prop:=fun xs H Q=>∃a C,PySem.W.keepIn K (.ref C)=PySem.W.keepIn K (.ref C)/\zqg K C=true/\H a=some (.ext (VS.XPhi a (.ref C))) /\
 ((∃S b,xs=[.ref a,.ref S]/\PySem.W.kitOne K (.ref C) (.ref S)=some b/\Q (.bl b) H)\/(∃T b,xs=[.ref a,.ty T]/\PySem.W.kitOne K (.ref C) (.type T)=some b/\Q (.bl b) H) \/
   (∃(tp:Addr) (Ss:List Addr) (b:Bool),xs=[.ref a,.ref tp]/\H tp=some (.tup (Ss.map V.ref))/\PySem.W.kitAny K (.ref C) (Ss.map Value.ref)=some b/\Q (.bl b) H))
theorem zhQ:∀{Ss:List Addr} {us:List Value},Vals (Ss.map V.ref) us->us=Ss.map Value.ref
 | [],us,h=>by cases h;rfl
 | S::r,us,h=>by
  cases h with
  | cons h1 h2 =>
   rw[zhQ h2]
   exact congrArg (·::_) h1
theorem znk:CallR X (.builtin "isinstance") (ztF X.K):=by
 intro pins s σ H xs us Q I r h
 obtain⟨a,C,_,xc,hH,h⟩:=h
 have hp:VS.XPhi a (.ref C) s.heap:=(I.hok a _ hH).1
 have fin:∀b tk,Q (.bl b) H->EP X pins σ Q (.bool b) { s with toks:=tk }:=fun b tk q=>⟨.bl b,H,I.tok tk,rfl,q⟩
 rcases h with ⟨S,b,rfl,e,q⟩|⟨T,b,rfl,e,q⟩|⟨tp,Ss,b,rfl,hT,e,q⟩
 ·obtain⟨u,w',rfl,rx,ry⟩:=zmq r
  cases rx;cases ry
  exact PySem.W.kia_one (zgL xc) I.kIn hp e (by intro z;cases z) fun tk=>fin b tk q
 ·obtain⟨u,w',rfl,rx,ry⟩:=zmq r
  cases rx;cases ry
  exact PySem.W.kia_one (zgL xc) I.kIn hp e (by intro z;cases z) fun tk=>fin b tk q
 ·obtain⟨u,w',rfl,rx,ry⟩:=zmq r
  cases rx;cases ry
  obtain⟨_,its,rv,⟨oc,od,odt,osl⟩,e1,e2,⟨n,e3⟩,_⟩:=I.hok tp _ hT
  dsimp only at e2 e3
  subst e2;subst e3
  rw[zhQ rv] at e1
  exact PySem.W.kia_tup (zgL xc) I.kIn hp e1 e (by intro z;cases z) fun tk=>fin b tk q
end
end L2
namespace VS
open PySem PySem.Spec PyProof.Rows L2
section
def clOf(K:PySem.W.Frag)(nm:Str):Addr:=match PySem.W.nsIn K mainGlobals nm with
 | some (some (.ref C))=>C
 | _=>0
abbrev Gy(K:PySem.W.Frag):Ga:=⟨K,clOf K,fun x cv od _=>cv=.ref (clOf K x.nm)/\od=none⟩
abbrev XTb:=List (Str×Bool×List Str)
def ztG(K:PySem.W.Frag)(tb:XTb):Bool:=tb.all fun p=>PySem.W.nsIn K mainGlobals p.1==some (some (.ref (clOf K p.1)))&&(!p.2.1||PySem.W.excIn K (clOf K p.1) bmV "ValueError.__new__")&&zqg K (clOf K p.1)&&PySem.W.kitOne K (.ref (clOf K p.1)) (.type "ValueError")==some true &&
 tb.all fun q=>PySem.W.kitOne K (.ref (clOf K p.1)) (.ref (clOf K q.1))==some (p.2.2.contains q.1)&&PySem.W.mroIn K (clOf K p.1) (.ref (clOf K q.1))==some (p.2.2.contains q.1)
structure XT (K:PySem.W.Frag) (mg:Str->Option Value) (tb:XTb):Prop where
 ok:ztG K tb=true
 mg:∀p∈tb,mg p.1=some (.ref (clOf K p.1))
theorem ztH{K:PySem.W.Frag}{h:Heap}{mg:Str->Option Value}{tb:XTb}(X:K.In h)(G:h.Ns mainGlobals mg)(ok:ztG K tb=true):XT K mg tb:=by
 refine⟨ok,fun p hp=>?_⟩
 have:=all_eq_true.mp ok p hp
 simp only[and_eq_true,beq_iff_eq] at this
 exact PySem.W.mg_of X G this.1.1.1.1
section
variable {K:PySem.W.Frag} {mg:Str->Option Value} {tb:XTb}
theorem XT.x(T:XT K mg tb){nm:Str}{fl:Bool}{anc:List Str}(h:(nm,fl,anc)∈tb):zqg K (clOf K nm)=true/\PySem.W.kitOne K (.ref (clOf K nm)) (.type "ValueError")=some true /\
  ∀q∈tb,PySem.W.kitOne K (.ref (clOf K nm)) (.ref (clOf K q.1))=some (anc.contains q.1)/\PySem.W.mroIn K (clOf K nm) (.ref (clOf K q.1))=some (anc.contains q.1):=by
 have:=all_eq_true.mp T.ok _ h
 simp only[and_eq_true,beq_iff_eq,all_eq_true] at this
 exact⟨this.1.1.2,this.1.2,fun q hq=>this.2 q hq⟩
theorem XT.xc(T:XT K mg tb){nm:Str}{anc:List Str}(h:(nm,true,anc)∈tb):XC K (clOf K nm):=by
 have:=all_eq_true.mp T.ok _ h
 simp only[Bool.not_true,Bool.false_or,and_eq_true,beq_iff_eq,all_eq_true] at this
 exact this.1.1.1.2
end
def zfM(tb:XTb)(nm:Str):Option (List Str):=match tb.find? (fun p=>p.1==nm) with
 | some p=>some p.2.2
 | none=>none
theorem zc9{tb:XTb}{nm:Str}{anc:List Str}(h:zfM tb nm=some anc):∃fl,(nm,fl,anc)∈tb:=by
 unfold zfM at h
 split at h
 ·rename_i p e
  cases h
  have h1:=mem_of_find?_eq_some e
  have h2:=find?_some e
  simp only[beq_iff_eq] at h2
  obtain⟨a,b,c⟩:=p
  dsimp only at h2
  subst h2
  exact⟨b,h1⟩
 ·cases h
def zpy(tb:XTb)(nm:Str):Option (List Str):=match tb.find? (fun p=>p.1==nm&&p.2.1) with
 | some p=>some p.2.2
 | none=>none
theorem zdS{tb:XTb}{nm:Str}{anc:List Str}(h:zpy tb nm=some anc):(nm,true,anc)∈tb:=by
 unfold zpy at h
 split at h
 ·rename_i p e
  cases h
  have h1:=mem_of_find?_eq_some e
  have h2:=find?_some e
  simp only[and_eq_true,beq_iff_eq] at h2
  obtain⟨a,b,c⟩:=p
  dsimp only at h2
  obtain⟨rfl,rfl⟩:=h2
  exact h1
 ·cases h
def noX{α:Type}(m:M α):M α:=fun ce=>match m ce with
 | some (.ok a ce')=>some (.ok a ce')
 | _=>none
section
variable {α β:Type} {X:Cx} {G:Ga} {E E':XK} {RP:Hp->List Addr->α->β->Prop}
theorem toT.noX{d:Sl->M α}{σ:VS.St}{H:Hp}{Q:β->Hp->Prop}(h:toT G E RP (fun sl=>VS.noX (d sl)) σ H Q):toT G E' RP d σ H Q:=by
 obtain⟨F,as,sl,ce,S,P⟩:=h
 refine⟨F,as,sl,ce,S,?_⟩
 unfold VS.noX at P
 dsimp only at P
 split at P
 ·rename_i a ce' e
  rw[e];exact P
 ·exact(show False from P).elim
def zep{α:Type}(d:Sl->M α):Sl->M α:=fun sl=>noX (d sl)
theorem zoq{e:Expr}{d:Sl->M W}(h:PE X e (zau G E0 d)):PE X e (zau G E (zep d)):=PE.imp h fun _ _ _ z=>z.noX
theorem zor{e:Expr}{d:Sl->M Bool}(h:PT X e (zcC G E0 d)):PT X e (zcC G E (zep d)):=PT.imp h fun _ _ _ z=>z.noX
end
def sml(sl:Sl)(i:Nat):Bool:=match sl[i]? with
 | some (some (.int n))=>decide (n.natAbs<1000)
 | _=>false
def zbG(nm:Str)(l:List Nat):DS:=fun sl ce=>if l.all (sml sl)=true then some (.ex ⟨nm,none⟩ ce) else none
section
variable {X:Cx} {K:PySem.W.Frag} {E:XK} {tb:XTb} {x:Str} {np cpos pos:Pos} {e:Expr} {t:L2.St->Prop}
theorem zdl{l:List Nat}{anc:List Str}(hx:Flies X E)(hK:X.K=K)(T:XT K X.mg tb)(hm:zpy tb x=some anc)(hex:X.ex=[])(hg:Gl X x)(hh:X.A.handled=none)(ha:PX X e t)(ht:∀σ:L2.St,(∀i∈l,∃n:Int,σ[i]?=some (some (.int n))/\n.natAbs<1000)->t σ)(he:starEach [e] X.env=[(false,eval e X.env)]:=by rfl)(hd:(x==("__debug__" : Str))=false:=by decide) :
  PS X (.Raise (some (.Call (.Name x np) [e] [] cpos)) none pos) (toTS (Gy K) E (zbG x l)):=by
 have hmem:=zdS hm
 have hx':=T.xc hmem
 refine PS.imp (zng (E:=E) (C:=clOf K x) hx hex (by rw[hK];exact hx') hg (T.mg _ hmem) hh ha he hd) fun D σ H zz_=>el6 zz_ fun F as sl ce S P=>?_
 unfold zbG at P
 split at P
 ·rename_i h
  refine⟨ht σ fun i hi=>?_,P H F as (.ref (clOf K x)) none .refl S.st ⟨rfl,rfl⟩⟩
  have:=all_eq_true.mp h i hi
  unfold sml at this
  split at this
  ·rename_i n e
   obtain⟨v,e1,e2⟩:=S.slot i _ e
   simp only[Rep] at e2
   subst e2
   exact⟨n,e1,of_decide_eq_true this⟩
  ·cases this
 ·exact(show False from P).elim
end
def zst(d:DS):DS:=fun sl ce=>match d sl ce with
 | some (.go f sl' ce')=>some (.go f sl' ce')
 | _=>none
def zup(put:Option Nat)(sl:Sl)(w:W):Sl:=match put with
 | some i=>sl.set i (some w)
 | none=>sl
def zsu(put:Option Nat)(σ:VS.St)(v:V):VS.St:=match put with
 | some i=>σ.set i (some v)
 | none=>σ
def zh3(c:Sl->M W)(put:Option Nat)(ok:Exn->Bool)(hd:Exn->DS):DS:=fun sl ce=>match c sl ce with
 | some (.ok w ce')=>some (.go .nx (zup put sl w) ce')
 | some (.ex x ce')=>if ok x=true then hd x sl ce' else none
 | none=>none
def ztI(i:Nat):Option O->Option O
 | some (.go f sl ce)=>some (.go f (sl.set i none) ce)
 | _=>none
def dAs(i:Nat)(d:DS):Exn->DS:=fun x sl ce=>ztI i (d (sl.set i (some (.cel ce.length))) (ce++[.exn x.nm]))
def zcb(tb:XTb)(cn:Str)(x:Exn):Bool:=match zfM tb x.nm with
 | some anc=>anc.contains cn&&tb.any (fun p=>p.1==cn)
 | none=>false
theorem zjU{K:PySem.W.Frag}{mg:Str->Option Value}{tb:XTb}(T:XT K mg tb){cn:Str}{x:Exn}(h:zcb tb cn x=true):PySem.W.mroIn K (clOf K x.nm) (.ref (clOf K cn))=some true:=by
 unfold zcb at h
 split at h
 ·rename_i anc e
  simp only[and_eq_true,any_eq_true,beq_iff_eq] at h
  obtain⟨h1,p,hp,rfl⟩:=h
  have:=((T.x (zc9 e).choose_spec).2.2 p hp).2
  rw[h1] at this
  exact this
 ·cases h
theorem SR.unset{G:Ga}{F:Hp}{as:List Addr}{H:Hp}{σ:VS.St}{sl:Sl}{ce:Ce}(S:SR G F as H σ sl ce)(i:Nat):SR G F as H (σ.set i none) (sl.set i none) ce:=by
 refine⟨S.st,by rw[length_set,length_set];exact S.len,fun j u e=>?_⟩
 by_cases hj:i=j
 ·subst hj
  have hi:i<sl.length:=by have:=zax e;rwa [length_set] at this
  rw[getElem?_set_self hi] at e
  cases e
 ·rw[getElem?_set_ne hj] at e
  obtain⟨v,h1,h2⟩:=S.slot j u e
  exact⟨v,by rw[getElem?_set_ne hj];exact h1,h2⟩
section
variable {X:Cx} {K:PySem.W.Frag} {E:XK} {tb:XTb} {k n:Nat} {f:Addr} {fd:FuncData} {ps:List Str} {df:List W->M W} {x cn:Str} {p pos hpos np cpos epos:Pos} {e:Expr} {es:List Expr} {dr:Sl->M (List W)} {h:ExceptHandler} {hd:Exn->DS} {ok:Exn->Bool} {b0:Stmt} {suite:List Stmt} {ds:DS}
def PHv(K:PySem.W.Frag)(E:XK)(X:Cx)(h:ExceptHandler)(ok:Exn->Bool)(hd:Exn->DS):Prop:=∃th:Value->TS,PH X h th/\∀D σ H F as sl ce (x:Exn),SR (Gy K) F as H σ sl ce->ok x=true->PostS (Gy K) E D F as (hd x sl ce)->th (.ref (clOf K x.nm)) D σ H
theorem zlq{G:Ga}{E':XK}{D:Ends}{F:Hp}{as:List Addr}{sl:Sl}{ce:Ce}(P:PostS G E D F as (zst ds sl ce)):PostS G E' D F as (ds sl ce):=by
 unfold zst at P
 split at P
 ·rename_i e;rw[e];exact P
 ·exact(show False from P).elim
theorem ztJ{i:Nat}{nm:Str}{anc:List Str}(hK:X.K=K)(T:XT K X.mg tb)(hm:zpy tb cn=some anc)(hN:X.N.Nodup)(hi:X.N[i]?=some nm)(hk:X.env.scope.names.lookup nm=some .local)(hg:Gl X cn)(hs:∀a,PSs (X.hnd a) (b0::suite) (toTS (Gy K) E0 ds))(hd:(cn==("__debug__" : Str))=false:=by decide):PHv K E X (.ExceptHandler (some (.Name cn np)) (some nm) (b0::suite) hpos) (zcb tb cn) (dAs i ds):=by
 have hmem:=zdS hm
 refine⟨_,ztD hN hi hk hg (T.mg _ hmem) (by rw[hK];exact T.xc hmem) hs hd,fun D σ H F as sl ce x S hx P=>⟨⟨_,rfl,by rw[hK];exact zjU T hx⟩,fun a ha=>?_⟩⟩
 obtain⟨S2,l2⟩:=S.st.alloc (G:=Gy K) (o:=.ext (XPhi a (.ref (clOf K x.nm)))) ha (c:=.exn x.nm) (fun as' _=>zat)
 have S3:SR (Gy K) F (as++[a]) (upd H a (.ext (XPhi a (.ref (clOf K x.nm))))) σ sl (ce++[.exn x.nm]):=S.slots S2 l2
 have hr:Rep F (as++[a]) (.cel ce.length) (.ref a):=by
  simp only[Rep]
  exact⟨a,rfl,by rw[<- S.st.len];simp⟩
 refine⟨F,as++[a],_,_,S3.put hr i,?_⟩
 unfold dAs at P
 revert P
 cases ds (sl.set i (some (.cel ce.length))) (ce++[.exn x.nm]) with
 | none=>exact fun P=>P
 | some o=>cases o with
  | ex y ce'=>exact fun P=>(show False from P).elim
  | go f sl' ce' =>
   intro P σ' H' F' as' l S'
   have q:=P (σ'.set i none) H' F' as' (l2.trans l) (S'.unset i)
   cases f with
   | nx=>exact q
   | bk=>exact q
   | ct=>exact q
   | rt w=>exact q
theorem zpz{G:Ga}{D:Ends}{σ:VS.St}{H:Hp}{put:Option Nat}{th:Value->TS}{F:Hp}{as:List Addr}{sl:Sl}{ce:Ce}(hh:∀D σ H F as sl ce (x:Exn),SR (Gy K) F as H σ sl ce->ok x=true->PostS (Gy K) E D F as (hd x sl ce)->th (.ref (clOf K x.nm)) D σ H)(S:SR (Gy K) F as H σ sl ce)(P:PostS (Gy K) E D F as (zh3 (zaJ n df (zep dr)) put ok hd sl ce)) :
  zha (Gy K) E0 dr σ H fun vs H1=>spV (Gy K) (fun E=>E) n df vs H1 (fun v H2=>D.nx (zsu put σ v) H2) (fun cls _ H'=>th cls D σ H'):=by
 refine⟨F,as,sl,ce,S,?_⟩
 unfold zh3 zaJ zep noX bnd at P
 dsimp only at P
 cases e:dr sl ce with
 | none=>rw[e] at P;exact(show False from P).elim
 | some r=>cases r with
  | ex y ce'=>rw[e] at P;exact(show False from P).elim
  | ok ws ce1 =>
   rw[e] at P
   dsimp only at P
   intro vs H1 F1 as1 l1 S1 rs
   split at P
   ·rename_i w ce2 e2
    split at e2
    ·rename_i hl
     refine⟨by rw[rs.length];exact hl,F1,as1,ws,ce1,S1.st,rs,?_⟩
     rw[e2]
     intro v H2 F2 as2 l2 S2 rv
     have S3:=S1.slots S2 l2
     cases put with
     | none=>exact P σ H2 F2 as2 (l1.trans l2) S3
     | some i=>exact P _ H2 F2 as2 (l1.trans l2) (S3.put rv i)
    ·cases e2
   ·rename_i x ce2 e2
    split at e2
    ·rename_i hl
     refine⟨by rw[rs.length];exact hl,F1,as1,ws,ce1,S1.st,rs,?_⟩
     rw[e2]
     split at P
     ·rename_i hok
      intro H2 F2 as2 cv od l2 S2 hx
      obtain⟨rfl,rfl⟩:=hx
      exact hh D σ H2 F2 as2 sl ce2 x (S1.slots S2 l2) hok (P.le (l1.trans l2))
     ·exact(show False from P).elim
    ·cases e2
   ·exact(show False from P).elim
theorem zpA{i:Nat}{y:Str}{pos':Pos}(hst:X.stack=X.env::X.outer)(hf:X.env.frame=some X.env.locals)(hex:X.ex=[])(hN:X.N.Nodup)(hi:X.N[i]?=some y)(hx:Loc X.env.scope y)(Fk:FnOk X.prog X.w X.K X.mg X.base (CXx X.prog X.w) k f fd ps (spV (Gy K) (fun E=>E) n df))(hr:Room k X.A)(hg:Gl X x)(hm:X.mg x=some (.ref f))(hk:PySem.W.keepIn X.K (.ref f)=true)(hb:Binds X.K fd ps [])(ha:PA X.nox (e::es) (zha (Gy K) E0 dr))(hh:PHv K E X h ok hd)(hdb:(x==("__debug__" : Str))=false:=by decide)(he:starEach (e::es) X.env=(false,eval e X.env)::starEach es X.env:=by rfl)(hpl:(backTo cpos (starEach es X.env)).any (·.1)=false:=by rfl)(hs:swapsWith (.Call (.Name x p) (e::es) [] cpos) (some (.Name y pos')) epos.line X.env=pure false:=by rfl)(hfn:X.fn y=true\/X.env.scope.names.lookup y=some .local:=by first|exact .inl rfl|exact .inr rfl|assumption) :
  PS X (.Try [.Assign [.Name y pos'] (.Call (.Name x p) (e::es) [] cpos) epos] [h] [] [] pos) (toTS (Gy K) E (zh3 (zaJ n df (zep dr)) (some i) ok hd)):=by
 obtain⟨th,hh1,hh2⟩:=hh
 exact PS.imp (zop hst hf hex (zrR hN hi hx (znh Fk hr hex hg hm hk hb ha hdb he hpl) hs hfn) hh1) fun D σ H zz_=>el6 zz_ fun F as sl ce S P=>zpz (G:=Gy K) hh2 S P
end
def ziv(ce:Ce):W->Option Str
 | .cel k=>match ce[k]? with
  | some (.exn nm)=>some nm
  | _=>none
 | _=>none
def zrT(tb:XTb)(ce:Ce)(w:W)(cn:Str):Option W:=(ziv ce w).bind fun nm=>(zfM tb nm).bind fun anc=>if tb.any (fun p=>p.1==cn)=true then some (.bl (anc.contains cn)) else none
def zrU(tb:XTb)(ce:Ce)(w:W):Option W:=(ziv ce w).bind fun nm=>(zfM tb nm).bind fun _=>some (.bl true)
def zrV(tb:XTb)(ce:Ce)(w:W)(cns:List Str):Option W:=(ziv ce w).bind fun nm=>(zfM tb nm).bind fun anc=>if (cns.all fun cn=>tb.any fun p=>p.1==cn)=true then some (.bl (cns.any anc.contains)) else none
def znl(f:Ce->W->Option W)(d:Sl->M W):Sl->M W:=fun sl=>bnd (d sl) fun w=>look fun ce=>f ce w
section
variable {X:Cx} {K:PySem.W.Frag} {E:XK} {tb:XTb} {cn:Str} {p pos p2:Pos} {e:Expr} {d:Sl->M W} {F:Hp} {as:List Addr} {H:Hp} {ce:Ce} {w:W} {v:V}
theorem zgM{nm:Str}{σ:VS.St}{sl:Sl}(S:SR (Gy K) F as H σ sl ce)(r:Rep F as w v)(h:ziv ce w=some nm):∃a,v=.ref a/\H a=some (.ext (XPhi a (.ref (clOf K nm)))):=by
 unfold ziv at h
 split at h
 ·rename_i k
  split at h
  ·rename_i nm' e
   cases h
   simp only[Rep] at r
   obtain⟨a,rfl,ha⟩:=r
   obtain⟨_,q⟩:=S.st.cell k a _ ha e
   exact⟨a,rfl,q⟩
  ·cases h
 ·cases h
theorem zlr{f:Ce->W->Option W}{x2:Expr}{t2:TE}(hK:X.K=K)(hx:PE X e (zau (Gy K) E d))(h2:PE X x2 t2)(hg:Gl X "isinstance")(hm:X.mg "isinstance" = none)(hf:∀F as H σ sl ce w w' v (Q:VK),SR (Gy K) F as H σ sl ce->Rep F as w v->f ce w=some w'->(∀H' v',(∀b o,H b=some o->H' b=some o)->SR (Gy K) F as H' σ sl ce->Rep F as w' v'->Q v' H')->t2 σ H fun u H2=>ztF K [v,u] H2 Q)(he:starEach [e,x2] X.env=(false,eval e X.env)::starEach [x2] X.env:=by rfl)(he2:starEach [x2] X.env=(false,eval x2 X.env)::starEach [] X.env:=by rfl)(hpl:(backTo pos (starEach [x2] X.env)).any (·.1)=false:=by rfl) :
  PE X (.Call (.Name "isinstance" p) [e,x2] [] pos) (zau (Gy K) E (znl f d)):=by
 refine PE.imp (ziS (r:=ztF K) (hK▸znk) hg hm PyProof.Rows.boot_isinstance (zee hx (zee h2 zhf he2) he) (he:=he) (hpl:=hpl)) fun σ H Q zz_=>el6 zz_ fun F as sl ce S P=>?_
 refine(step S P).mono fun v H1 zz_=>el8 zz_ fun w F1 as1 ce1 l1 S1 r1 P1=>?_
 obtain⟨w',e1,P2⟩:=zbD P1
 exact hf F1 as1 H1 σ sl ce1 w w' v Q S1 r1 e1 fun H' v' _ S' r'=>P2 v' H' F1 as1 .refl S' r'
theorem zpB(hK:X.K=K)(T:XT K X.mg tb)(hin:tb.any (fun p=>p.1==cn)=true)(hx:PE X e (zau (Gy K) E d))(hg:Gl X "isinstance")(hm:X.mg "isinstance" = none)(hgc:Gl X cn)(hd:(cn==("__debug__" : Str))=false:=by decide)(he:starEach [e,.Name cn p2] X.env=(false,eval e X.env)::starEach [.Name cn p2] X.env:=by rfl)(he2:starEach [.Name cn p2] X.env=(false,eval (.Name cn p2) X.env)::starEach [] X.env:=by rfl)(hpl:(backTo pos (starEach [.Name cn p2] X.env)).any (·.1)=false:=by rfl) :
  PE X (.Call (.Name "isinstance" p) [e,.Name cn p2] [] pos) (zau (Gy K) E (znl (fun ce w=>zrT tb ce w cn) d)):=by
 obtain⟨q,hq,hqn⟩:=any_eq_true.mp hin
 have hqn:=beq_iff_eq.mp hqn
 have hmg:X.mg cn=some (.ref (clOf K cn)):=hqn▸T.mg q hq
 refine zlr hK hx (zh6 (v:=.ref (clOf K cn)) hgc hmg rfl hd) hg hm (fun F as H σ sl ce w w' v Q S r e1 k=>?_) he he2 hpl
 unfold zrT at e1
 obtain⟨nm,h1,e1⟩:=bind_eq_some_iff.mp e1
 obtain⟨anc,h2,e1⟩:=bind_eq_some_iff.mp e1
 rw[if_pos hin] at e1
 cases e1
 obtain⟨a,rfl,ha⟩:=zgM S r h1
 obtain⟨t1,t2,t3⟩:=T.x (zc9 h2).choose_spec
 exact⟨a,_,rfl,t1,ha,.inl ⟨_,_,rfl,hqn▸(t3 q hq).1,k H _ (fun _ _ z=>z) S (by simp only[Rep])⟩⟩
theorem zpC(hK:X.K=K)(T:XT K X.mg tb)(hx:PE X e (zau (Gy K) E d))(hg:Gl X "isinstance")(hm:X.mg "isinstance" = none)(hgc:Gl X "ValueError")(hmv:X.mg "ValueError" = none)(he:starEach [e,.Name "ValueError" p2] X.env=(false,eval e X.env)::starEach [.Name "ValueError" p2] X.env:=by rfl)(he2:starEach [.Name "ValueError" p2] X.env=(false,eval (.Name "ValueError" p2) X.env)::starEach [] X.env:=by rfl)(hpl:(backTo pos (starEach [.Name "ValueError" p2] X.env)).any (·.1)=false:=by rfl) :
  PE X (.Call (.Name "isinstance" p) [e,.Name "ValueError" p2] [] pos) (zau (Gy K) E (znl (fun ce w=>zrU tb ce w) d)):=by
 refine zlr hK hx (zkg (v:=.ty "ValueError") hgc hmv (by decide +kernel) rfl) hg hm (fun F as H σ sl ce w w' v Q S r e1 k=>?_) he he2 hpl
 unfold zrU at e1
 obtain⟨nm,h1,e1⟩:=bind_eq_some_iff.mp e1
 obtain⟨anc,h2,e1⟩:=bind_eq_some_iff.mp e1
 cases e1
 obtain⟨a,rfl,ha⟩:=zgM S r h1
 obtain⟨t1,t2,t3⟩:=T.x (zc9 h2).choose_spec
 exact⟨a,_,rfl,t1,ha,.inr (.inl ⟨_,_,rfl,t2,k H _ (fun _ _ z=>z) S (by simp only[Rep])⟩)⟩
def PCl(X:Cx)(K:PySem.W.Frag)(es:List Expr)(cns:List Str):Prop:=PA X es (fun _ H Q=>Q (cns.map fun c=>V.ref (clOf K c)) H)
theorem zpD:PCl X K [] []:=zhf
theorem zdT{es:List Expr}{cns:List Str}(hm:X.mg cn=some (.ref (clOf K cn)))(hg:Gl X cn)(h:PCl X K es cns)(hs:starEach (.Name cn p::es) X.env=(false,eval (.Name cn p) X.env)::starEach es X.env:=by rfl)(hd:(cn==("__debug__" : Str))=false:=by decide):PCl X K (.Name cn p::es) (cn::cns) :=
 PA.imp (zee (zh6 (v:=.ref (clOf K cn)) hg hm rfl hd) h hs) fun σ H Q z=>z
theorem zls{C:Value}{cns:List Str}{f:Str->Bool}(h:∀c∈cns,PySem.W.kitOne K C (.ref (clOf K c))=some (f c)):PySem.W.kitAny K C (cns.map fun c=>Value.ref (clOf K c))=some (cns.any f):=by
 induction cns with
 | nil=>rfl
 | cons c r ih =>
  simp only[map_cons,PySem.W.kitAny,h c mem_cons_self,any_cons]
  cases f c with
  | true=>rfl
  | false=>simpa using ih fun c hc=>h c (mem_cons_of_mem _ hc)
theorem zpE{es:List Expr}{cns:List Str}{x1}(hK:X.K=K)(T:XT K X.mg tb)(hin:(cns.all fun cn=>tb.any fun p=>p.1==cn)=true)(hl:cns.length<=sizeLine)(hx:PE X e (zau (Gy K) E d))(hcs:PCl X K es cns)(hg:Gl X "isinstance")(hm:X.mg "isinstance" = none)(he:starEach [e,.Tuple es x1 p2] X.env=(false,eval e X.env)::starEach [.Tuple es x1 p2] X.env:=by rfl)(he2:starEach [.Tuple es x1 p2] X.env=(false,eval (.Tuple es x1 p2) X.env)::starEach [] X.env:=by rfl)(hpl:(backTo pos (starEach [.Tuple es x1 p2] X.env)).any (·.1)=false:=by rfl) :
  PE X (.Call (.Name "isinstance" p) [e,.Tuple es x1 p2] [] pos) (zau (Gy K) E (znl (fun ce w=>zrV tb ce w cns) d)):=by
 refine zlr hK hx (znX hcs) hg hm (fun F as H σ sl ce w w' v Q S r e1 k=>?_) he he2 hpl
 unfold zrV at e1
 obtain⟨nm,h1,e1⟩:=bind_eq_some_iff.mp e1
 obtain⟨anc,h2,e1⟩:=bind_eq_some_iff.mp e1
 rw[if_pos hin] at e1
 cases e1
 obtain⟨a,rfl,ha⟩:=zgM S r h1
 obtain⟨t1,t2,t3⟩:=T.x (zc9 h2).choose_spec
 refine⟨by rw[length_map];exact hl,fun tp htp=>?_⟩
 have keep:∀b o,H b=some o->upd H tp (.tup (cns.map fun c=>V.ref (clOf K c))) b=some o:=fun b o q=>by rw[zaC (zay q htp)];exact q
 obtain⟨S2,l2⟩:Store (Gy K) F as (upd H tp (.tup (cns.map fun c=>V.ref (clOf K c)))) ce/\True:=by
  refine⟨⟨fun b o q=>keep b o (S.st.sub b o q),S.st.nd,S.st.len,fun j b c q1 q2=>?_⟩,trivial⟩
  obtain⟨z1,z2⟩:=S.st.cell j b c q1 q2
  obtain⟨o,ho⟩:=z2.tracked
  exact⟨z1,z2.le .refl (by rw[ho];exact keep b o ho)⟩
 have hS:SR (Gy K) F as (upd H tp (.tup (cns.map fun c=>V.ref (clOf K c)))) σ sl ce:=⟨S2,S.len,S.slot⟩
 have hka:∀c∈cns,PySem.W.kitOne K (.ref (clOf K nm)) (.ref (clOf K c))=some (anc.contains c):=fun c hc=>by
  obtain⟨q,hq,hqn⟩:=any_eq_true.mp (all_eq_true.mp hin c hc)
  have hqn:=beq_iff_eq.mp hqn
  exact hqn▸(t3 q hq).1
 exact⟨a,_,rfl,t1,keep a _ ha,.inr (.inr ⟨tp,cns.map (clOf K),_,rfl,by rw[zat,map_map];rfl,by rw[map_map];exact zls (f:=anc.contains) hka,k _ _ keep hS (by simp only[Rep])⟩)⟩
end
end
section
theorem XT.at{K:PySem.W.Frag}{mg:Str->Option Value}{tb:XTb}(T:XT K mg tb){cn:Str}(h:tb.any (fun p=>p.1==cn)=true):mg cn=some (.ref (clOf K cn)):=by
 obtain⟨q,hq,hqn⟩:=any_eq_true.mp h
 exact beq_iff_eq.mp hqn▸T.mg q hq
section
variable {P:Program} {w:World} {K:PySem.W.Frag} {mg:Str->Option Value} {base:Heap} {k:Nat} {f:Addr} {fd:FuncData} {ps:List Str}
theorem zrW{sp:Sp}(F:FnOk P w K mg base (CXx P w) k f fd ps sp):FnOk P w K mg base CX0 k f fd ps (fun vs H Q _=>sp vs H Q E0):=by
 refine⟨fun vs H Q E h=>F.len vs H Q E0 h,fun A outer s H args us vs Q E hr he hb hv hs=>codeAny_mono (F.run A outer s H args us vs Q E0 hr he hb hv hs) fun r s' h=>?_⟩
 cases r with
 | error e=>obtain⟨_,_,_,_,_,_,_,_,_,z⟩:=h;exact z
 | ok fl=>cases fl<;>exact h
theorem zpF{G:PySem.W.Frag->Ga}{d:List W->M W}(nl:noL K=true)(h:FnOk P w K mg base (CXx P w) k f fd ps (spV (G K) (fun E=>E) 1 d)):FnOk P w K mg base CX0 k f fd ps (spLaw G d K):=(zrW h).imp fun _ _ _ _ q=>q nl
end
end
section
def Xt(T:Exn->Ce->Prop):O->Prop
 | .ex x ce=>T x ce
 | _=>False
section
variable {sl:Sl} {ce c1:Ce} {a b:DS} {Q:O->Prop} {x:Exn} {nm:Str} {l:List Nat}
theorem zlt(h:l.all (sml sl)=true)(q:Q (.ex ⟨nm,none⟩ ce)):Run (zbG nm l) sl ce Q:=⟨_,by unfold zbG;rw[if_pos h],q⟩
theorem zlu(h:Run a sl ce (Xt fun x c=>Q (.ex x c))):Run (zap a b) sl ce Q:=by
 obtain⟨o,e,q⟩:=h
 cases o with
 | ex x c=>exact⟨_,by simp only[zap,e],q⟩
 | go f sl' c=>exact(show False from q).elim
theorem zda(h:l.all (sml sl)=true)(q:Q (.ex ⟨nm,none⟩ ce)):Run (zap (zbG nm l) b) sl ce Q:=zlu (zlt h q)
variable {f:List W->M W} {n:Nat} {ra:Sl->M (List W)} {ws:List W} {e:Sl->M W} {i:Nat}
theorem znm(h:ra sl ce=some (.ok ws c1))(hn:ws.length=n)(hf:f ws c1=some (.ex x ce)):zaJ n f ra sl ce=some (.ex x ce):=by simp only[zaJ,bnd,h,hn,if_true,hf]
theorem zfq{α:Type}{d:Sl->M α}{v:α}(h:d sl ce=some (.ok v c1)):zep d sl ce=some (.ok v c1):=by simp only[zep,noX,h]
theorem zdm{fin:Ce->Ce->W->Option (R W)}{body:DS}(sl:Sl)(e:ws.map some++List.replicate (n-ws.length) none=sl)(h:Run body sl ce (Xt fun y c'=>y=x/\∃t,c'=ce++t)):dFn fin n body ws ce=some (.ex x ce):=by
 subst e
 obtain⟨o,e,q⟩:=h
 cases o with
 | go f sl' c=>exact(show False from q).elim
 | ex y c =>
  obtain⟨rfl,t,rfl⟩:=q
  have hc:zdw ce (ce++t):=⟨by simp,fun k c hk e=>.inl (by rw[getElem?_append_left hk] at e;exact e)⟩
  simp only[dFn,e]
  rw[if_pos hc]
  simp
theorem znn{c:Sl->M W}{put:Option Nat}{ok:Exn->Bool}{hd:Exn->DS}{w:W}(h:c sl ce=some (.ok w c1))(q:Run b (zup put sl w) c1 Q):Run (zap (zh3 c put ok hd) b) sl ce Q:=zcQ (by simp only[zh3,h]) q
theorem zno{c:Sl->M W}{put:Option Nat}{ok:Exn->Bool}{hd:Exn->DS}{sl':Sl}{c2:Ce}(h:c sl ce=some (.ex x c1))(hok:ok x=true)(e:hd x sl c1=some (.go .nx sl' c2))(q:Run b sl' c2 Q):Run (zap (zh3 c put ok hd) b) sl ce Q :=
 zcQ (by simp only[zh3,h];rw[if_pos hok];exact e) q
variable {α:Type} {en:α->W} {src:Src} {g:DG} {body:DS} {zs:List α} {di:Sl->M Src}
end
end
end VS
namespace L2
open PySem PySem.Spec PyProof.Rows
section
variable {X:Cx}
end
end L2
namespace VS
open PySem PySem.Spec PyProof.Rows L2
section
section
variable {G:Ga} {E:XK}
end
end
section
end
end VS
namespace L2
open PySem PySem.Spec PyProof.Rows
section
variable {X:Cx}
def zuq:V->List V->Hp->VK->Prop:=fun x vs H Q=>∃(l:Addr) (ns:List Int) (i:Int),x=.ref l/\vs=[.int i]/\H l=some (.lst (ns.map V.int))/\i∈ns/\Q .non (upd H l (.lst ((ns.erase i).map V.int)))
theorem zrX:MtM X "list.remove" zuq:=by
 intro pins s σ H x vs v us Q I rx rv h
 obtain⟨l,ns,i,rfl,rfl,hH,hi,q⟩:=h
 cases rx
 obtain⟨u,rfl,ru⟩:=ze0 rv
 obtain⟨t,rfl⟩:=ru
 obtain⟨z,its,n,r,hl,e⟩:=I.lstM hH
 have hI:IntsAre its ns:=zef r
 have hlen:=hI.length
 have hj:ns.idxOf i<ns.length:=idxOf_lt_length_iff.mpr hi
 have hsz:its.toArray.size<=sizeLine:=by rw[size_toArray];omega
 refine call_meets PySem.F.slot_list_remove ⟨_,e,rfl⟩ PySem.F.entry_list_remove (PySem.F.args_list_remove_2 _ _)
  (MeetsSeq.list_remove l its.toArray n (.int i t) (isInt i) (fun y hy=>eq_isInt i t hI y (by simpa using hy)) (ns.idxOf i) (by simpa[hlen] using hj) ?_ ?_ hsz) ⟨e,?_⟩
 ·show isInt i its[ns.idxOf i]=true
  rw[isInt_at i hI _ (by omega) hj]
  simpa using getElem_idxOf hj
 ·intro m hm hlt
  show isInt i its[m]=false
  rw[isInt_at i hI m (by simpa using hm) (by omega)]
  exact ne_of_lt_idxOf hlt _
 ·refine⟨.non,_,I.lset (its':=its.eraseIdx (ns.idxOf i)) hH e ?_ ?_ ?_,rfl,q⟩
  ·apply toList_inj.mp
   simp[toList_eraseIdxIfInBounds]
  ·rw[erase_eq_eraseIdx_of_idxOf rfl,eraseIdx_eq_take_drop_succ,eraseIdx_eq_take_drop_succ,map_append,map_take,map_drop]
   exact(r.take _).append (r.drop _)
  ·rw[length_map] at z ⊢;exact le_trans (length_erase_le ..) z
end
end L2
namespace VS
open PySem PySem.Spec PyProof.Rows L2
section
open Classical in
def zrY:W->List W->M W:=fun w ws ce=>match zmc ce w,ws with
 | some (k,xs),[.int i]=>match zfI xs with
  | some ns=>if i∈ns then some (.ok .non (ce.set k (.lst ((ns.erase i).map W.int)))) else none
  | none=>none
 | _,_=>none
section
variable {G:Ga} {E:XK}
theorem ztK:Mt G E zuq zrY:=by
 intro F as H σ sl ce w v ws vs Q S rw' rs P
 revert P
 unfold zrY
 split
 ·rename_i k xs i hc
  intro P
  split at P
  ·rename_i ns hn
   split at P
   ·rename_i hi
    have hx:=zeT hn
    subst hx
    obtain⟨a,us,rfl,ha,hH,r⟩:=zdG S.st rw' hc
    obtain⟨v1,rfl,rv⟩:=zbW rs
    simp only[Rep] at rv
    subst rv
    have:=r.of_ints
    subst this
    refine⟨a,ns,i,rfl,rfl,hH,hi,P .non _ F as .refl (S.slots (S.st.write (o:=.lst ((ns.erase i).map V.int)) (c:=.lst ((ns.erase i).map W.int)) ha ⟨_,zat,Reps.ints _⟩) .refl) (by simp only[Rep])⟩
   ·exact(show False from P).elim
  ·exact(show False from P).elim
 ·exact fun P=>(show False from P).elim
theorem zhR:∀(l:List Nat) (p:Nat),(toI l).erase (p:Int)=toI (l.erase p)
 | [],_=>rfl
 | a::l,p=>by
  unfold toI
  rw[map_cons,erase_cons,erase_cons]
  by_cases h:a=p
  ·subst h;simp
  ·have h':¬((a:Int)=(p:Int)):=by omega
   have h1:((a:Int)==(p:Int))=false:=by simpa using h'
   have h2:(a==p)=false:=by simpa using h
   have ih:=zhR l p
   unfold toI at ih
   rw[h1,h2]
   simp only[false_eq_true,if_false,map_cons,ih]
theorem zrZ{ce:Ce}{k p:Nat}{l:List Nat}(g:ce[k]?=some (.lst (l.map nW)))(hp:p∈l):zrY (.cel k) [nW p] ce=some (.ok .non (ce.set k (.lst ((l.erase p).map nW)))):=by
 have hi:(p:Int)∈toI l:=mem_map.mpr ⟨p,hp,rfl⟩
 simp only[zrY,zeB g,nW,zeV]
 rw[zla,if_pos hi,zhR]
end
end
end VS
namespace HT
open PySem PySem.Spec PyProof.Rows
section
variable {prog:Program} {w:World} {A:Around} {E:Value->Shared->Prop} {s:Shared}
end
end HT
namespace L2
open PySem PySem.Spec PyProof.Rows
section
variable {X:Cx} {e:Expr} {te:TE} {st:Expr} {ts:TO} {pos p2:Pos}
theorem znp{K:PySem.W.Frag}(hc:X.calm=true:=by rfl)(hK:X.K=K:=by rfl):CallR X (.builtin "sum") (fun xs H Q=>∃(a:Addr) (ns:List Int),xs=[.ref a]/\SqL K H a (ns.map V.int)/\Q (.int ns.sum) H):=by
 subst hK
 intro pins s σ H xs us Q I r h
 obtain⟨a,ns,rfl,ha,q⟩:=h
 obtain⟨u,rfl,rx⟩:=ze0 r
 cases rx
 obtain⟨its,r1,p1,_⟩:=I.list ha
 have hI:IntsAre its ns:=zef r1
 obtain⟨xs,e⟩:=hI.allInts.items
 have hl:s.heap.IsList a (intItems xs):=by rw[<- e];exact p1.isList
 refine sum_intListG (I.ok.hd hc) hl fun h' tk t' hk=>?_
 have e3:preSum (numAt xs) xs.size=ns.sum:=by
  rw[preSum_eq,take_of_length_le (by simp)]
  have:numsOf its.toArray.toList=ns:=hI.numsOf
  rw[e,nums_intItems] at this
  rw[this]
 rw[e3]
 exact⟨.int ns.sum,H,I.kept hk,⟨_,rfl⟩,q⟩
end
end L2
namespace VS
open PySem PySem.Spec PyProof.Rows L2
section
def zr0:List W->M W:=fun ws ce=>match ws with
 | [w]=>match zcg ce w with
  | some xs=>match zfI xs with
   | some ns=>some (.ok (.int ns.sum) ce)
   | none=>none
  | none=>none
 | _=>none
section
variable {X:Cx} {G:Ga} {E:XK} {a:Expr} {da:Sl->M W} {pos p2:Pos}
theorem ztL(K:PySem.W.Frag):Bi G E (fun xs H Q=>∃(a:Addr) (ns:List Int),xs=[.ref a]/\SqL K H a (ns.map V.int)/\Q (.int ns.sum) H) zr0:=by
 intro F as H σ sl ce ws vs Q S rs P
 unfold zr0 at P
 split at P
 ·rename_i w
  obtain⟨v,rfl,r⟩:=zbW rs
  split at P
  ·rename_i xs hx
   split at P
   ·rename_i ns hi
    obtain⟨a,us,rfl,h,rs'⟩:=zb8 S.st r hx
    cases zeT hi
    cases rs'.of_ints
    exact⟨a,ns,rfl,.inl h,P.done S (by simp only[Rep])⟩
   ·exact P.elim
  ·exact P.elim
 ·exact P.elim
theorem zpG{ce:Ce}{ns:List Int}:zr0 [sW ns] ce=some (.ok (.int ns.sum) ce):=by simp only[zr0,zcg,zff]
end
end
theorem us1{fd:FuncData}{ps:List Str}(h:∀a,bindArgs fd { pos:=[a] }=pure (ps.zip [a])):∀us:List Value,us.length=1->bindArgs fd { pos:=us }=pure (ps.zip us)
 | [a],_=>h a
theorem us2{fd:FuncData}{ps:List Str}(h:∀a b,bindArgs fd { pos:=[a,b] }=pure (ps.zip [a,b])):∀us:List Value,us.length=2->bindArgs fd { pos:=us }=pure (ps.zip us)
 | [a,b],_=>h a b
theorem us3{fd:FuncData}{ps:List Str}(h:∀a b c,bindArgs fd { pos:=[a,b,c] }=pure (ps.zip [a,b,c])):∀us:List Value,us.length=3->bindArgs fd { pos:=us }=pure (ps.zip us)
 | [a,b,c],_=>h a b c
theorem us4{fd:FuncData}{ps:List Str}(h:∀a b c d,bindArgs fd { pos:=[a,b,c,d] }=pure (ps.zip [a,b,c,d])):∀us:List Value,us.length=4->bindArgs fd { pos:=us }=pure (ps.zip us)
 | [a,b,c,d],_=>h a b c d
theorem us5{fd:FuncData}{ps:List Str}(h:∀a b c d e,bindArgs fd { pos:=[a,b,c,d,e] }=pure (ps.zip [a,b,c,d,e])):∀us:List Value,us.length=5->bindArgs fd { pos:=us }=pure (ps.zip us)
 | [a,b,c,d,e],_=>h a b c d e
section
section
variable {κ:Type} [DecidableEq κ] {F:Hp} {as:List Addr} {kvs:List (κ×W)} {ps:List (κ×V)}
end
section
variable {G:Ga} {F:Hp} {as:List Addr} {H:Hp} {ce:Ce} {w:W} {v:V}
end
section
variable {X:Cx} {G:Ga} {E:XK} {a b c:Expr} {da db dc:Sl->M W} {pos:Pos}
end
section
variable {sl:Sl} {ce c1 c2 c3:Ce} {k:Nat} {a b o i v:Sl->M W} {x y w:W}
end
end
end VS
namespace L2
open PySem PySem.Spec PyProof.Rows PySem.MeetsSeq
open PySem.AutoSeq1 (wpAny_loadPart')
end L2
namespace VS
open PySem PySem.Spec PyProof.Rows L2
section
section
variable {X:Cx}
end
section
variable {G:Ga} {E:XK}
end
end
end VS
namespace L2
open PySem PySem.Spec PyProof.Rows
section
variable {X:Cx} {e:Expr} {te:TE} {st:Expr} {ts:TO} {pos p2:Pos}
end
end L2
namespace VS
open PySem PySem.Spec PyProof.Rows L2
section
section
variable {X:Cx} {G:Ga} {E:XK} {a:Expr} {da:Sl->M W} {pos p2:Pos}
end
end
end VS
namespace L2
open PySem
def Ris(xs:Array Nat):Prop:=xs.toList.Pairwise (·<·)
structure TOk (t:SetTable):Prop where
 dum:t.dummies=#[]
 ris:t.plain=true->Ris t.place
end L2
namespace L2
open PySem PySem.Spec PyProof.Rows
def iv:Value->Int
 | .int k _=>k
 | _=>0
section
variable {prog:Program} {w:World} {A:Around} {E:Value->Shared->Prop} {s:Shared} {a:Addr} {ds:List Int} {led:Bool}
def zve(prog:Program)(w:World)(h:Heap)(a:Addr)(ds:List Int)(led:Bool):Prop :=
 ∃o es ep t,h.get? a=some o/\o.ExactSet/\o.data=.set es ep t/\ElemsOf (intKind prog w) es.toList/\es.size<scanBound/\t.fits es.size=true/\TOk t/\t.led=led/\(∀e∈es.toList,∃k tk,e.2=.int k tk)/\(es.toList.map fun e=>iv e.2).Perm ds
end
section
variable {prog:Program} {w:World} {A:Around} {R:Result->Shared->Prop} {I:Addr} {fp wr:List Addr} {G:Array GenState->Array GenState->Prop} {n:Nat} {P:Nat->Value->Prop} {St:Nat->Shared->Prop}
end
section
variable {prog:Program} {w:World} {A:Around} {E:Value->Shared->Prop} {s:Shared}
end
section
variable {prog:Program} {w:World} {A:Around} {E:Value->Shared->Prop} {s:Shared} {a:Addr} {o:Obj} {es:Array (Int×Value)} {ep:Nat} {t:SetTable}
end
section
variable {prog:Program} {w:World} {A:Around} {E:Value->Shared->Prop} {s:Shared} {a I T:Addr} {o:Obj} {es:Array (Int×Value)} {ep:Nat} {t:SetTable} {i sl sl':Nat} {x:Value} {Q:Option Value->Shared->Prop}
end
section
variable {prog:Program} {w:World} {A:Around} {E:Value->Shared->Prop} {s:Shared} {a I T:Addr} {o:Obj} {es:Array (Int×Value)} {ep:Nat} {t:SetTable} {ds:List Int}
end
section
variable {prog:Program} {w:World} {A:Around} {E:Value->Shared->Prop} {s:Shared} {a:Addr} {ds:List Int}
end
section
variable {X:Cx} {e:Expr} {t:TA} {p pos p2 pos2:Pos}
end
end L2
namespace VS
open PySem PySem.Spec PyProof.Rows L2
section
section
variable {X:Cx} {G:Ga} {E:XK} {e:Expr} {dr:Sl->M (List W)} {p pos p2 pos2:Pos}
end
end
end VS
namespace L2
open PySem PySem.Spec PyProof.Rows
open PySem.AutoSeq1 (wpAny_loadPart')
section
variable {prog:Program} {w:World} {A:Around} {E:Value->Shared->Prop} {s:Shared}
end
end L2
namespace L2
open PySem PySem.Spec PyProof.Rows PySem.MeetsSeq PySem.MeetsSeq3
open PySem.AutoSeq1 (wpAny_loadPart')
section
variable {prog:Program} {w:World} {A:Around} {E:Value->Shared->Prop} {s:Shared}
end
end L2
namespace L2
open PySem PySem.Spec PyProof.Rows
section
variable {prog:Program} {w:World} {A:Around} {E:Value->Shared->Prop} {s:Shared}
end
section
variable {X:Cx}
end
end L2
namespace VS
open PySem PySem.Spec PyProof.Rows L2
section
section
variable {X:Cx} {G:Ga} {E:XK}
end
end
section
variable {X:Cx} {G:Ga} {E:XK} {a b c:Expr} {da db dc:Sl->M W} {pos:Pos}
end
section
variable {G:Ga} {E:XK}
end
end VS
namespace L2
open PySem PySem.Spec PyProof.Rows
theorem zeE{K:PySem.W.Frag}{M:Model}{h:Heap}{S:Addr}(X:K.In h)(xs:XC K S):PySem.W.Looks M h (isExcClass (.ref S)) true:=by
 obtain⟨bm,N,nm,qn,bs,hdct,sn,sub,ab,col,dd,k0,k1,k2,k3,k5,mN,hC,hN,hni,T⟩:=xs.obj X
 have hcB:(Value.ref S::bm).contains (.type "BaseException")=true:=by rw[contains_cons,T.hasType PySem.F.excBase_ValueError.hasBase,Bool.or_true]
 intro A Q E s k q
 obtain⟨hh,g,d,tk,os⟩:=s
 have k:∀b o,h.get? b=some o->hh.get? b=some o:=k
 have hC:=k _ _ hC
 have f:=tc_notTuple
 unfold isExcClass
 repeat (first|with_reducible refine wpAny_loadPart_at hC ?_|(with_reducible refine wpAny_isSubtype_exc hC ?_;rw[hcB])|wp_step)
 exact q
open PySem.W in
theorem zfN{K:PySem.W.Frag}{M:Model}{A:Around}{E:Value->Shared->Prop}{s:Shared}{Q:Bool->Shared->Prop}{a C S1 S2 tp:Addr}{oe:Obj}{b1 b2:Bool}(X:K.In s.heap)(he:s.heap.get? a=some oe)(hcls:oe.cls=.ref C)(x1:XC K S1)(x2:XC K S2)(hp:s.heap.get? tp=some { cls:=.type "tuple",data:=.seq [Value.ref S1,.ref S2].toArray })(m1:PySem.W.mroIn K C (.ref S1)=some b1)(m2:PySem.W.mroIn K C (.ref S2)=some b2)(h:Q (b1||b2) s):wpAny M A (excMatches (.ref a) (.ref tp)) Q E s:=by
 have e1:=zeE (M:=M) X x1
 have e2:=zeE (M:=M) X x2
 have S1':=PySem.W.looks_mroIn (M:=M) X m1
 have S2':=PySem.W.looks_mroIn (M:=M) X m2
 have LT0:Looks M s.heap (isInstance (.ref tp) (.type "tuple")) true:=((Looks.ld hp).andThen .now).andThen (Looks.of_pure isSubtype_tuple_tuple)
 have LT:Looks M s.heap (typeOf (.ref a)) (.ref C):=by
  rw[<- hcls]
  exact(Looks.ld he).andThen .now
 obtain⟨hh,g,d,tk,os⟩:=s
 unfold excMatches
 refine wpAny_bind (LT0.at ?_)
 dsimp only
 rw[if_pos rfl]
 first
  | refine wpAny_bind (wpAny_seqItems hp rfl ?_)
  | refine wpAny_bind (wpAny_bind (wpAny_seqItems hp rfl (wpAny_pure ?_)))
 dsimp only[getD_some,Option.getD]
 cases b1<;>cases b2<;>((repeat (first|simp only[forIn_cons,forIn_nil,Bool.not_true,false_eq_true,if_false,if_true]|lk));exact h)
section
variable {X:Cx}
theorem Fl.push{N:Addr->Prop}{a:Addr}{cls:Value}{H:Hp}{h:Heap}{o:Obj}{x:HO}(f:Fl N a cls H h):Fl N a cls (upd H h.objs.size x) (h.push o):=by
 obtain⟨oe,vs,a0,n,h1,h2,h3,h4,h5,h6⟩:=f
 refine⟨oe,vs,a0,n,by rw[zaC (ne_of_lt (Heap.lt_size h2))];exact h1,Heap.get?_push_of_some _ h2,h3,h4,h5,h6.imp id ?_⟩
 rintro⟨T,oT,ts,e1,e2,e3,e4,e5,e6⟩
 exact⟨T,oT,ts,e1,e2,by rw[zaC (ne_of_lt (Heap.lt_size e5))];exact e3,e4,Heap.get?_push_of_some _ e5,e6⟩
theorem zr1{S1 S2:Addr}{c1 c2:Str}{p1 p2 hpos tpos:Pos}{x1}{b0:Stmt}{suite:List Stmt}{ts:TS}(g1:Gl X c1)(m1:X.mg c1=some (.ref S1))(s1:XC X.K S1)(g2:Gl X c2)(m2:X.mg c2=some (.ref S2))(s2:XC X.K S2)(hs:∀a,PSs (X.hnd a) (b0::suite) ts)(d1:(c1==("__debug__" : Str))=false:=by decide)(d2:(c2==("__debug__" : Str))=false:=by decide)(st1:starEach [.Name c1 p1,.Name c2 p2] X.env=(false,eval (.Name c1 p1) X.env)::starEach [.Name c2 p2] X.env:=by rfl)(st2:starEach [.Name c2 p2] X.env=(false,eval (.Name c2 p2) X.env)::starEach [] X.env:=by rfl) :
  PH X (.ExceptHandler (some (.Tuple [.Name c1 p1,.Name c2 p2] x1 tpos)) none (b0::suite) hpos) (fun cls D σ H=>(∃C q1 q2,cls=.ref C/\PySem.W.mroIn X.K C (.ref S1)=some q1/\PySem.W.mroIn X.K C (.ref S2)=some q2/\(q1||q2)=true)/\∀t,H t=none->ts D σ (upd H t (.tup [V.ref S1,V.ref S2]))):=by
 intro pins s σ H D a cls I fl ⟨⟨C,q1,q2,hC,r1,r2,hq12⟩,hq⟩
 subst hC
 refine wpAny_handleBy_cons (codeAny_handlers_test (wpAny_Tuple_spliced ?_)) (by intro q;cases q)
 show wpAny _ _ (spliced (backTo tpos (starEach [.Name c1 p1,.Name c2 p2] (X.hnd a).env))) _ _ s
 have st1:starEach [.Name c1 p1,.Name c2 p2] (X.hnd a).env=(false,eval (.Name c1 p1) (X.hnd a).env)::starEach [.Name c2 p2] (X.hnd a).env:=st1
 have st2:starEach [.Name c2 p2] (X.hnd a).env=(false,eval (.Name c2 p2) (X.hnd a).env)::starEach [] (X.hnd a).env:=st2
 rw[st1]
 refine Calls.spliced_cons (zcn (X:=X.hnd a) (I.hnd a) g1 m1 ?_ d1)
 rw[st2]
 refine Calls.spliced_cons (zcn (X:=X.hnd a) (I.hnd a) g2 m2 ?_ d2)
 refine Calls.spliced_nil ⟨(show 2<=sizeLine by decide),?_⟩
 obtain⟨oe,vs,a0,_,_,he,hc,_⟩:=id fl
 have I':Inv X pins σ (upd H s.heap.objs.size (.tup [V.ref S1,V.ref S2])) { s with heap:=s.heap.push { cls:=.type "tuple",data:=.seq [Value.ref S1,.ref S2].toArray } } :=
  I.laid (t':=s.toks) (fun b u e=>Heap.get?_push_of_some _ e) (le_refl _) ⟨(show 2<=sizeLine by decide),[.ref S1,.ref S2],.cons rfl (.cons rfl .nil),⟨_,Heap.get?_push_size _ rfl,rfl,⟨_,rfl⟩,rfl⟩⟩
 refine zfN I'.kIn (Heap.get?_push_of_some _ he) hc s1 s2 (Heap.get?_push_size _ rfl) r1 r2 ?_
 rw[hq12]
 have hf:H s.heap.objs.size=none:=I.hok.fresh (le_refl _)
 exact codeAny_handlers_suite (zc8 (fl.push (x:=.tup [V.ref S1,V.ref S2])) (wpAny_mono (hs a pins _ σ _ D (I'.hnd a) (hq _ hf)) (fun f s2 z=>z.unhnd I.ok) fun _ _ z=>z.elim))
end
end L2
namespace VS
open PySem PySem.Spec PyProof.Rows L2
section
variable {X:Cx} {K:PySem.W.Frag} {E:XK} {tb:XTb} {c1 c2:Str} {p1 p2 tpos hpos:Pos} {b0:Stmt} {suite:List Stmt} {ds:DS}
theorem zf9{K:PySem.W.Frag}{mg:Str->Option Value}{tb:XTb}(T:XT K mg tb){x:Exn}{anc:List Str}(h:zfM tb x.nm=some anc){cn:Str}{an:List Str}(hc:zpy tb cn=some an):PySem.W.mroIn K (clOf K x.nm) (.ref (clOf K cn))=some (anc.contains cn) :=
 ((T.x (zc9 h).choose_spec).2.2 _ (zdS hc)).2
theorem zr2{a1 a2:List Str}{x1}(hK:X.K=K)(T:XT K X.mg tb)(h1:zpy tb c1=some a1)(h2:zpy tb c2=some a2)(g1:Gl X c1)(g2:Gl X c2)(hs:∀a,PSs (X.hnd a) (b0::suite) (toTS (Gy K) E0 ds))(d1:(c1==("__debug__" : Str))=false:=by decide)(d2:(c2==("__debug__" : Str))=false:=by decide)(st1:starEach [.Name c1 p1,.Name c2 p2] X.env=(false,eval (.Name c1 p1) X.env)::starEach [.Name c2 p2] X.env:=by rfl)(st2:starEach [.Name c2 p2] X.env=(false,eval (.Name c2 p2) X.env)::starEach [] X.env:=by rfl) :
  PHv K E X (.ExceptHandler (some (.Tuple [.Name c1 p1,.Name c2 p2] x1 tpos)) none (b0::suite) hpos) (fun x=>zcb tb c1 x||zcb tb c2 x) (fun _=>zst ds):=by
 have e1:=zdS h1
 have e2:=zdS h2
 refine⟨_,zr1 g1 (T.mg _ e1) (by rw[hK];exact T.xc e1) g2 (T.mg _ e2) (by rw[hK];exact T.xc e2) hs d1 d2 st1 st2,fun D σ H F as sl ce x S hx P=>?_⟩
 obtain⟨anc,ha⟩:∃anc,zfM tb x.nm=some anc:=by
  cases q:zfM tb x.nm with
  | some anc=>exact⟨anc,rfl⟩
  | none=>simp only[zcb,q] at hx;cases hx
 refine⟨⟨_,anc.contains c1,anc.contains c2,rfl,by rw[hK];exact zf9 T ha h1,by rw[hK];exact zf9 T ha h2,by simp only[zcb,ha,or_eq_true,and_eq_true] at hx;rw[or_eq_true];exact hx.imp And.left And.left⟩,fun t ht=>?_⟩
 have keep:∀b o,H b=some o->upd H t (.tup [V.ref (clOf K c1),V.ref (clOf K c2)]) b=some o:=fun b o q=>by rw[zaC (zay q ht)];exact q
 have S2:Store (Gy K) F as (upd H t (.tup [V.ref (clOf K c1),V.ref (clOf K c2)])) ce:=by
  refine⟨fun b o q=>keep b o (S.st.sub b o q),S.st.nd,S.st.len,fun j b c q1 q2=>?_⟩
  obtain⟨z1,z2⟩:=S.st.cell j b c q1 q2
  obtain⟨o,ho⟩:=z2.tracked
  exact⟨z1,z2.le .refl (by rw[ho];exact keep b o ho)⟩
 exact⟨F,as,sl,ce,⟨S2,S.len,S.slot⟩,zlq P⟩
end
end VS
namespace L2
open PySem PySem.Spec PyProof.Rows
section
variable {X:Cx} {k:Nat} {f C:Addr} {fd:FuncData} {ps:List Str} {sp:Sp} {x m:Str} {p pos apos:Pos} {e o:Expr} {es:List Expr} {t:TA} {ta:TE}
theorem zpH{pins:List (Addr×Obj)}{σ:St}{H:Hp}{s:Shared}{Q:VK}{E:XK}{us:List Value}{vs:List V}(F:FnOk X.prog X.w X.K X.mg X.base (CXx X.prog X.w) k f fd ps sp)(hr:Room k X.A)(hex:X.ex=[])(hb:Binds X.K fd ps [])(I:Inv X pins σ H s)(r:Vals vs us)(q:sp vs H Q E):wpAny (model X.prog X.w) X.A (call (.ref f) us) (EP X pins σ Q) (XP X pins σ E) s:=by
 have hl:(us++[]).length=ps.length:=by rw[append_nil,<- r.length];exact F.len _ _ _ _ q
 have hb':=hb s us I.kIn hl
 rw[append_nil] at hb'
 refine wpAny_call (codeAny_mono (F.run X.A X.stack s H ⟨us,[]⟩ us vs Q E hr I.env0 hb' r q) fun r s' hq=>?_)
 cases r with
 | error e =>
  obtain⟨a,cls,H',rfl,ho,hgn,u,hok,fl,z⟩:=hq
  exact⟨a,cls,H',rfl,I.call' ho u hok hgn (fun b z=>absurd z (by simp)),fl.mono fun b hb=>zis hex I hb,z⟩
 | ok fl =>
  cases fl with
  | ret u=>exact I.after hq
  | next=>exact False.elim hq
  | brk=>exact False.elim hq
  | cont=>exact False.elim hq
end
end L2
namespace VS
open PySem PySem.Spec PyProof.Rows L2
section
def putA(f:Str)(v:W):List (Str×W)->List (Str×W)
 | []=>[(f,v)]
 | (g,x)::r=>if g=f then (g,v)::r else (g,x)::putA f v r
section
variable {F:Hp} {as:List Addr} {fs:List (Str×W)} {ps:List (Str×V)}
theorem RepKV.look{w:W}{f:Str}(r:RepKV F as fs ps)(e:fs.lookup f=some w):∃v,ps.lookup f=some v/\Rep F as w v:=by
 induction r with
 | nil=>cases e
 | @cons p q l1 l2 h t ih =>
  obtain⟨a,x⟩:=p
  obtain⟨b,y⟩:=q
  obtain⟨e1,rv⟩:=h
  dsimp only at e1 rv
  subst e1
  rw[lookup_cons] at e ⊢
  split at e
  ·rename_i h;cases e;exact⟨y,rfl,rv⟩
  ·rename_i h;exact ih e
theorem RepKV.lookN{f:Str}(r:RepKV F as fs ps)(e:fs.lookup f=none):ps.lookup f=none:=by
 induction r with
 | nil=>rfl
 | @cons p q l1 l2 h t ih =>
  obtain⟨a,x⟩:=p
  obtain⟨b,y⟩:=q
  obtain⟨e1,rv⟩:=h
  dsimp only at e1 rv
  subst e1
  rw[lookup_cons] at e ⊢
  split at e
  ·cases e
  ·exact ih e
theorem RepKV.putA{w:W}{v:V}(r:RepKV F as fs ps)(f:Str)(rv:Rep F as w v):RepKV F as (VS.putA f w fs) (zgi f v ps):=by
 induction r with
 | nil=>exact .cons ⟨rfl,rv⟩ .nil
 | @cons p q l1 l2 h t ih =>
  obtain⟨a,x⟩:=p
  obtain⟨b,y⟩:=q
  obtain⟨e1,rx⟩:=h
  dsimp only at e1 rx
  subst e1
  simp only[VS.putA,zgi]
  split
  ·exact .cons ⟨rfl,rv⟩ t
  ·exact .cons ⟨rfl,rx⟩ ih
end
def zgN(ce:Ce)(c:Str):W->Option (Nat×List (Str×W))
 | .cel k=>match ce[k]? with
  | some (.ins c' fs)=>if c'=c then some (k,fs) else none
  | _=>none
 | _=>none
section
variable {G:Ga} {E:XK} {F:Hp} {as:List Addr} {H:Hp} {σ:VS.St} {sl:Sl} {ce:Ce} {w:W} {v:V} {c:Str} {k:Nat} {fs:List (Str×W)}
theorem zgO(S:Store G F as H ce)(r:Rep F as w v)(h:zgN ce c w=some (k,fs)):∃a dx ps,v=.ref a/\as[k]?=some a/\H a=some (.ins (G.cl c) dx ps)/\RepKV F as fs ps:=by
 unfold zgN at h
 split at h
 ·rename_i j
  split at h
  ·rename_i c' fs' e
   split at h
   ·rename_i hc
    cases h
    subst hc
    simp only[Rep] at r
    obtain⟨a,rfl,ha⟩:=r
    obtain⟨_,dx,ps,h1,h2⟩:=S.cell _ a _ ha e
    exact⟨a,dx,ps,rfl,ha,h1,h2⟩
   ·cases h
  ·cases h
 ·cases h
end
def zcX(c f:Str)(d:Sl->M W):Sl->M W:=fun sl=>bnd (d sl) fun x=>look fun ce=>match zgN ce c x with
 | some p=>p.2.lookup f
 | none=>none
def zfr(c f:Str)(d v:Sl->M W):DS:=fun sl ce=>lft (v sl ce) fun w ce1=>lft (d sl ce1) fun x ce2=>match zgN ce2 c x with
 | some (k,fs)=>if fs.length<1000 then some (.go .nx sl (ce2.set k (.ins c (putA f w fs)))) else none
 | none=>none
def za3(c m:Str)(n:Nat)(df:List W->M W)(d:Sl->M W)(dr:Sl->M (List W)):Sl->M W:=fun sl=>bnd (d sl) fun x=>bnd (look fun ce=>match zgN ce c x with
 | some p=>if p.2.lookup m=none then some () else none
 | none=>none) fun _=>bnd (dr sl) fun ws=>if ws.length+1=n then df (x::ws) else zgm
def zpI(k:Nat):Option (R W)->Option (R W)
 | some (.ok .non ce')=>some (.ok (.cel k) ce')
 | some (.ex x ce')=>some (.ex x ce')
 | _=>none
def znq(c:Str)(n:Nat)(df:List W->M W)(dr:Sl->M (List W)):Sl->M W:=fun sl=>bnd (dr sl) fun ws ce=>if ws.length+1=n then zpI ce.length (df (.cel ce.length::ws) (ce++[.ins c []])) else none
section
variable {X:Cx} {G:Ga} {E E1:XK} {CX:CXT} {k n:Nat} {f:Addr} {fd:FuncData} {ps:List Str} {df:List W->M W} {x c m:Str} {p pos pos' apos tpos:Pos} {e o value:Expr} {es:List Expr} {d dv:Sl->M W} {dr:Sl->M (List W)} {fe:XK->XK}
theorem zbh(hc:L2.Cls X.K (G.cl c))(hn:L2.NoAttr X.K (G.cl c) m)(he:PE X e (zau G E d))(hb:attributeBase e m X.env (eval e X.env)=eval e X.env:=by rfl):PE X (.Attribute e m pos) (zau G E (zcX c m d)):=by
 refine PE.imp (zqO he hb) fun σ H Q zz_=>el6 zz_ fun F as sl ce S P=>(step S P).mono fun x H1 zz_=>el8 zz_ fun wx F1 as1 ce1 l1 S1 rx P1=>?_
 obtain⟨w,e1,P2⟩:=zbD P1
 split at e1
 ·rename_i q hq
  obtain⟨j,fs⟩:=q
  obtain⟨a,dx,ps,rfl,ha,hH,rk⟩:=zgO S1.st rx hq
  obtain⟨v,e4,rv⟩:=rk.look e1
  exact⟨a,_,dx,ps,v,rfl,hH,hc,hn,e4,P2.done S1 rv⟩
 ·cases e1
theorem zga(hc:L2.Cls X.K (G.cl c))(hn:L2.NoAttr X.K (G.cl c) m)(ho:PE X o (zau G E d))(hv:PE X value (zau G E dv))(hs:swapsWith value (some (.Attribute o m pos')) pos.line X.env=pure false:=by rfl) :
  PS X (.Assign [.Attribute o m pos'] value pos) (toTS G E (zfr c m d dv)):=by
 refine PS.imp (zqP ho hv hs) fun D σ H zz_=>el6 zz_ fun F as sl ce S P=>(zej S P).mono fun y H1 zz_=>el8 zz_ fun wy F1 as1 ce1 l1 S1 ry P1=>(zej S1 P1).mono fun x H2 zz_=>el8 zz_ fun wx F2 as2 ce2 l2 S2 rx P2=>?_
 split at P2
 ·rename_i j fs hq
  split at P2
  ·rename_i hl
   obtain⟨a,dx,ps,rfl,ha,hH,rk⟩:=zgO S2.st rx hq
   refine⟨a,_,dx,ps,rfl,hH,hc,hn,by rw[<- Paired.length rk];exact hl,?_⟩
   exact P2 _ _ _ _ .refl (S2.slots (S2.st.write (o:=.ins (G.cl c) dx (zgi m y ps)) (c:=.ins c (putA m wy fs)) ha ⟨_,_,zat,rk.putA m (ry.le l2)⟩) .refl)
  ·exact(show False from P2).elim
 ·exact(show False from P2).elim
theorem zgP{F:Hp}{as:List Addr}{H:Hp}{σ:VS.St}{sl:Sl}{ce:Ce}{Q:VK}(S:SR G F as H σ sl ce)(P:Post G E Rep F as σ sl Q (za3 c m n df d dr sl ce)) :
  zau G E d σ H fun x H1=>∃a dx fs,x=.ref a/\H1 a=some (.ins (G.cl c) dx fs)/\fs.lookup m=none/\zha G E dr σ H1 fun vs H2=>vs.length+1=n/\∃F2 as2 ws ce2,SR G F2 as2 H2 σ sl ce2/\Reps F2 as2 ws (x::vs)/\Post G E Rep F2 as2 σ sl Q (df ws ce2):=by
 refine(step S P).mono fun x H1 zz_=>el8 zz_ fun wx F1 as1 ce1 l1 S1 rx P1=>?_
 unfold bnd at P1
 unfold look at P1
 dsimp only at P1
 split at P1
 ·rename_i u ce' e1
  cases hq:zgN ce1 c wx with
  | none=>rw[hq] at e1;cases e1
  | some q =>
   obtain⟨j,fs⟩:=q
   rw[hq] at e1
   dsimp only at e1
   split at e1
   ·rename_i hl
    cases e1
    obtain⟨a,dx,ps,rfl,ha,hH,rk⟩:=zgO S1.st rx hq
    refine⟨a,dx,ps,rfl,hH,rk.lookN hl,?_⟩
    refine(step (RP:=Reps) S1 P1).mono fun vs H2 zz_=>el8 zz_ fun ws F2 as2 ce2 l2 S2 rs P2=>?_
    split at P2
    ·rename_i hn
     exact⟨by rw[rs.length];exact hn,F2,as2,wx::ws,ce2,S2,.cons (rx.le l2) rs,P2⟩
    ·exact(show False from P2).elim
   ·cases e1
 ·rename_i e1
  cases hq:zgN ce1 c wx with
  | none=>rw[hq] at e1;cases e1
  | some q=>rw[hq] at e1;dsimp only at e1;split at e1<;>cases e1
 ·exact P1.elim
theorem zct{pl:Sem Bool}(hc:L2.Cls X.K (G.cl c))(hm:L2.Meth X.K (G.cl c) m f)(Fk:FnOk X.prog X.w X.K X.mg X.base CX k f fd ps (spV G fe n df))(hr:Room k X.A)(hb:Binds X.K fd ps [])(hx:zb7 CX X E1)(he:PE X o (zau G E d))(ha:PA X (e::es) (zha G E dr))(hfe:fe E1=E:=by rfl)(hst:starEach (e::es) X.env=(false,eval e X.env)::starEach es X.env:=by rfl)(hpl:(backTo pos (starEach es X.env)).any (·.1)=false:=by rfl)(ht:eval (.Call (.Attribute o m apos) (e::es) [] pos) X.env=(do
   let ov <- eval o X.env
   standAt apos.atName
   let (f,first) <- holding [ov] (getMethod ov m pl)
   callWith pos f first (backTo pos (starEach (e::es) X.env)) (backToKw pos (keywordEach [] X.env))):=by rfl) :
  PE X (.Call (.Attribute o m apos) (e::es) [] pos) (zau G E (za3 c m n df d dr)):=by
 refine PE.imp (zoN he hc hm Fk hr hb .nil hx ha hst hpl ht) fun σ H Q zz_=>el6 zz_ fun F as sl ce S P=>(zgP S P).mono fun x H1 h=>?_
 obtain⟨a,dx,fs,e1,e2,e3,h⟩:=h
 refine⟨a,dx,fs,e1,e2,e3,h.mono fun vs H2 h=>?_⟩
 obtain⟨hn,F2,as2,ws,ce2,S2,rs,P2⟩:=h
 rw[append_nil]
 exact⟨hn,F2,as2,ws,ce2,S2.st,rs,by rw[hfe];exact PostF.of S2 P2⟩
theorem za9{pl:Sem Bool}(hc:L2.Cls X.K (G.cl c))(hm:L2.Meth X.K (G.cl c) m f)(Fk:FnOk X.prog X.w X.K X.mg X.base CX k f fd ps (spV G fe n df))(hr:Room k X.A)(hb:Binds X.K fd ps [])(hx:zb7 CX X E1)(he:PE X o (zau G E d))(hfe:fe E1=E:=by rfl)(ht:eval (.Call (.Attribute o m apos) [] [] pos) X.env=(do
   let ov <- eval o X.env
   standAt apos.atName
   let (f,first) <- holding [ov] (getMethod ov m pl)
   callWith pos f first (backTo pos (starEach [] X.env)) (backToKw pos (keywordEach [] X.env))):=by rfl) :
  PE X (.Call (.Attribute o m apos) [] [] pos) (zau G E (za3 c m n df d zan)):=by
 refine PE.imp (zmu he hc hm Fk hr hb .nil hx ht) fun σ H Q zz_=>el6 zz_ fun F as sl ce S P=>(zgP S P).mono fun x H1 h=>?_
 obtain⟨a,dx,fs,e1,e2,e3,h⟩:=h
 refine⟨a,dx,fs,e1,e2,e3,?_⟩
 obtain⟨F1,as1,sl1,ce1,S1,P1⟩:=h
 obtain⟨hn,F2,as2,ws,ce2,S2,rs,P2⟩:=P1 [] H1 F1 as1 .refl S1 .nil
 show spV G fe n df [x] H1 Q E1
 exact⟨hn,F2,as2,ws,ce2,S2.st,rs,by rw[hfe];exact PostF.of S2 P2⟩
theorem Store.other{F:Hp}{as:List Addr}{H:Hp}{ce:Ce}{q:Addr}{ho:HO}(S:Store G F as H ce)(hp:H q=none):Store G F as (upd H q ho) ce:=by
 refine⟨fun a u e=>?_,S.nd,S.len,fun k a c' h1 h2=>?_⟩
 ·rw[zaC (zay (S.sub _ _ e) hp)];exact S.sub _ _ e
 ·obtain⟨q1,q2⟩:=S.cell k a c' h1 h2
  obtain⟨u,hu⟩:=q2.tracked
  exact⟨q1,q2.le .refl (zaC (zay hu hp))⟩
theorem znr{F:Hp}{as:List Addr}{H:Hp}{σ:VS.St}{sl:Sl}{ce:Ce}{Q:VK}{ws:List W}{vs:List V}{x dx:Addr}(S:SR G F as H σ sl ce)(rs:Reps F as ws vs)(hx:H x=none)(hdx:H dx=none)(hne:dx≠x)(hl:ws.length+1=n)(P:Post G E Rep F as σ sl Q (zpI ce.length (df (.cel ce.length::ws) (ce++[.ins c []])))):spV G (fun _=>E) n df (.ref x::vs) (upd (upd H dx (.own x)) x (.ins (G.cl c) dx [])) (fun v H2=>v=.non/\Q (.ref x) H2) E:=by
 have hx':upd H dx (.own x) x=none:=by rw[zaC (fun z=>hne z.symm)];exact hx
 obtain⟨S2,l2⟩:=(S.st.other (ho:=.own x) hdx).alloc (o:=.ins (G.cl c) dx []) hx' (c:=.ins c []) (fun as' _=>⟨dx,[],zat,.nil⟩)
 have hr:Rep F (as++[x]) (.cel ce.length) (.ref x):=by
  simp only[Rep]
  exact⟨x,rfl,by rw[<- S.st.len];simp⟩
 refine⟨by rw[length_cons,rs.length];exact hl,F,as++[x],_,_,S2,.cons hr (rs.le l2),?_⟩
 revert P
 cases df (.cel ce.length::ws) (ce++[.ins c []]) with
 | none=>exact fun P=>P
 | some r=>cases r with
  | ex y ce'=>exact fun P H' F' as' cv od l S' hx=>P H' F' as' cv od (l2.trans l) S' hx
  | ok w ce' =>
   cases w<;>first|exact fun P=>(show False from P).elim|skip
   intro P v H' F' as' l S' rv
   simp only[Rep] at rv
   exact⟨rv,P (.ref x) H' F' as' (l2.trans l) (S.slots S' (l2.trans l)) (hr.le l)⟩
theorem zpJ(M:L2.Mk X.K (G.cl c) f)(Fk:FnOk X.prog X.w X.K X.mg X.base CX k f fd ps (spV G fe n df))(hr:Room (k+1) X.A)(hg:Gl X c)(hm:X.mg c=some (.ref (G.cl c)))(hb:Binds X.K fd ps [])(hx:zb7 CX X E1)(ha:PA X (e::es) (zha G E dr))(hfe:fe E1=E:=by rfl)(hdb:(c==("__debug__" : Str))=false:=by decide)(he:starEach (e::es) X.env=(false,eval e X.env)::starEach es X.env:=by rfl)(hpl:(backTo pos (starEach es X.env)).any (·.1)=false:=by rfl) :
  PE X (.Call (.Name c p) (e::es) [] pos) (zau G E (znq c n df dr)):=by
 refine PE.imp (zoO M Fk hr hg hm hb .nil hx ha hdb he hpl) fun σ H Q zz_=>el6 zz_ fun F as sl ce S P=>(step (RP:=Reps) S P).mono fun vs H1 zz_=>el8 zz_ fun ws F1 as1 ce1 l1 S1 rs P1=>?_
 intro y dy hy hdy hne
 split at P1
 ·rename_i hn
  rw[append_nil]
  have q:=znr S1 rs hy hdy hne hn P1
  obtain⟨h1,F2,as2,ws2,ce2,S2,rs2,P2⟩:=q
  exact⟨h1,F2,as2,ws2,ce2,S2,rs2,by rw[hfe];exact P2⟩
 ·exact(show False from P1).elim
end
section
variable {X:Cx} {K:PySem.W.Frag} {E:XK} {k n:Nat} {f:Addr} {fd:FuncData} {ps:List Str} {df:List W->M W} {x c m:Str} {p pos apos cpos epos:Pos} {e o:Expr} {es:List Expr} {d:Sl->M W} {dr:Sl->M (List W)} {h:ExceptHandler} {hd:Exn->DS} {ok:Exn->Bool}
theorem zns{D:Ends}{σ:VS.St}{H:Hp}{put:Option Nat}{th:Value->TS}{F:Hp}{as:List Addr}{sl:Sl}{ce:Ce}{g:Sl->M W}(hh:∀D σ H F as sl ce (x:Exn),SR (Gy K) F as H σ sl ce->ok x=true->PostS (Gy K) E D F as (hd x sl ce)->th (.ref (clOf K x.nm)) D σ H)(S:SR (Gy K) F as H σ sl ce)(P:PostS (Gy K) E D F as (zh3 g put ok hd sl ce)):Post (Gy K) (fun cls _ H'=>th cls D σ H') Rep F as σ sl (fun v H2=>D.nx (zsu put σ v) H2) (g sl ce):=by
 unfold zh3 at P
 cases e:g sl ce with
 | none=>rw[e] at P;exact P
 | some r=>cases r with
  | ok w ce' =>
   rw[e] at P
   intro b H' F' as' l S' rv
   cases put with
   | none=>exact P _ _ _ _ l S'
   | some i=>exact P _ _ _ _ l (S'.put rv i)
  | ex y ce' =>
   rw[e] at P
   dsimp only at P
   split at P
   ·rename_i hok
    intro H' F' as' cv od l S' hx
    obtain⟨rfl,rfl⟩:=hx
    exact hh D σ H' F' as' sl ce' y (S.slots S' l) hok (P.le l)
   ·exact(show False from P).elim
theorem znt{D:Ends}{σ:VS.St}{H:Hp}{put:Option Nat}{th:Value->TS}{F:Hp}{as:List Addr}{sl:Sl}{ce:Ce}(hh:∀D σ H F as sl ce (x:Exn),SR (Gy K) F as H σ sl ce->ok x=true->PostS (Gy K) E D F as (hd x sl ce)->th (.ref (clOf K x.nm)) D σ H)(S:SR (Gy K) F as H σ sl ce)(P:PostS (Gy K) E D F as (zh3 (za3 c m n df (zep d) (zep dr)) put ok hd sl ce)) :
  zau (Gy K) E0 d σ H fun x H1=>∃a dx fs,x=.ref a/\H1 a=some (.ins (clOf K c) dx fs)/\fs.lookup m=none/\zha (Gy K) E0 dr σ H1 fun vs H2=>spV (Gy K) (fun E=>E) n df (x::vs) H2 (fun v H2=>D.nx (zsu put σ v) H2) (fun cls _ H'=>th cls D σ H'):=by
 refine(zgP S (zns hh S P)).noX.mono fun x H1 h=>?_
 obtain⟨a,dx,fs,e1,e2,e3,h⟩:=h
 refine⟨a,dx,fs,e1,e2,e3,h.noX.mono fun vs H2 h=>?_⟩
 obtain⟨hn,F2,as2,ws,ce2,S2,rs,P2⟩:=h
 exact⟨hn,F2,as2,ws,ce2,S2.st,rs,PostF.of S2 P2⟩
end
end
section
section
variable {sl:Sl} {ce c1 c2 c3:Ce} {a b:DS} {Q:O->Prop} {d v:Sl->M W} {dr:Sl->M (List W)} {w u:W} {ws:List W} {k n:Nat} {c f m:Str} {fs:List (Str×W)} {df:List W->M W} {x:Exn}
theorem zbp{p:List (Str×W)}{j:Nat}(h:p.length<=j):(putA f w p).length<=j+1:=by
 induction p generalizing j with
 | nil=>simp[putA]
 | cons a r ih =>
  obtain⟨g,y⟩:=a
  rw[length_cons] at h
  simp only[putA]
  split
  ·rw[length_cons];omega
  ·rw[length_cons]
   have:=ih (j:=j-1) (by omega)
   omega
theorem zpK(g:ce[k]?=some (.ins c fs)):zgN ce c (.cel k)=some (k,fs):=by simp only[zgN,g,if_true]
theorem zbb(h:d sl ce=some (.ok (.cel k) c1))(g:c1[k]?=some (.ins c fs))(l:fs.lookup f=some w):zcX c f d sl ce=some (.ok w c1):=by
 simp only[zcX,bnd,h,look,zpK g,l,map_some]
theorem zos(hv:v sl ce=some (.ok w c1))(h:d sl c1=some (.ok (.cel k) c2))(g:c2[k]?=some (.ins c fs))(hl:fs.length<1000):zfr c f d v sl ce=some (.go .nx sl (c2.set k (.ins c (putA f w fs)))):=by
 simp only[zfr,lft,hv,h,zpK g,if_pos hl]
theorem znu(hv:v sl ce=some (.ok w c1))(h:d sl c1=some (.ok (.cel k) c2))(g:c2[k]?=some (.ins c fs))(hl:fs.length<1000)(q:Q (.go .nx sl (c2.set k (.ins c (putA f w fs))))):Run (zfr c f d v) sl ce Q:=⟨_,zos hv h g hl,q⟩
theorem zdU(hv:v sl ce=some (.ok w c1))(h:d sl c1=some (.ok (.cel k) c2))(g:c2[k]?=some (.ins c fs))(hl:fs.length<1000)(q:Run b sl (c2.set k (.ins c (putA f w fs))) Q):Run (zap (zfr c f d v) b) sl ce Q:=zcQ (zos hv h g hl) q
theorem zr3(h:d sl ce=some (.ok (.cel k) c1))(g:c1[k]?=some (.ins c fs))(l:fs.lookup m=none)(hr:dr sl c1=some (.ok ws c2))(hn:ws.length+1=n):za3 c m n df d dr sl ce=df (.cel k::ws) c2:=by
 simp only[za3,bnd,h,look,zpK g,l,if_true,map_some,hr,hn]
theorem zaI{r:Option (R W)}(h:d sl ce=some (.ok (.cel k) c1))(g:c1[k]?=some (.ins c fs))(l:fs.lookup m=none)(hr:dr sl c1=some (.ok ws c2))(hn:ws.length+1=n)(hf:df (.cel k::ws) c2=r):za3 c m n df d dr sl ce=r:=(zr3 h g l hr hn).trans hf
theorem zpL(hr:dr sl ce=some (.ok ws c1))(hn:ws.length+1=n)(hf:df (.cel c1.length::ws) (c1++[.ins c []])=some (.ok .non c2)):znq c n df dr sl ce=some (.ok (.cel c1.length) c2):=by
 simp only[znq,bnd,hr,if_pos hn,hf,zpI]
theorem zr4{q:Bool}(h:d sl ce=some (.ok (.bl q) c1)):zq4 d sl ce=some (.ok (.bl (!q)) c1):=by simp only[zq4,bnd,h,ret]
theorem znv{fin:Ce->Ce->W->Option (R W)}{body:DS}{r:R W}(sl:Sl)(e:ws.map some++List.replicate (n-ws.length) none=sl)(h:Run body sl ce fun o=>∃sl' c',o=.go .nx sl' c'/\fin ce c' .non=some r):dFn fin n body ws ce=some r:=by
 subst e
 obtain⟨o,e,sl',c',rfl,hf⟩:=h
 simp only[dFn,e,hf]
end
end
end VS
namespace L2
open PySem PySem.Spec PyProof.Rows
section
variable {X:Cx} {c:Expr} {a b:List Stmt} {tc:TT} {ta tb:XK->TS} {pos:Pos}
end
end L2
namespace VS
open PySem PySem.Spec PyProof.Rows L2
section
section
variable {X:Cx} {K:PySem.W.Frag} {E:XK} {k n:Nat} {f:Addr} {fd:FuncData} {ps:List Str} {df:List W->M W} {x y:Str} {p pos cpos epos pos':Pos} {e t:Expr} {es:List Expr} {dr:Sl->M (List W)} {h:ExceptHandler} {hd:Exn->DS} {ok:Exn->Bool} {i:Nat} {sa sb:List Stmt} {da db d:DS} {c:Sl->M Bool}
end
section
variable {sl sl':Sl} {ce c1 c2:Ce} {d b:DS} {Q:O->Prop} {ok:Exn->Bool} {hd:Exn->DS} {x:Exn}
end
end
end VS
namespace L2
open PySem PySem.Spec PyProof.Rows
open AutoSeq1 (wpAny_loadPart')
section
variable {prog:Program} {w:World} {A:Around} {E:Value->Shared->Prop} {s:Shared}
end
section
variable {prog:Program} {w:World} {A:Around} {E:Value->Shared->Prop} {s:Shared}
end
section
variable {X:Cx}
end
end L2
namespace VS
open PySem PySem.Spec PyProof.Rows L2
section
section
variable {G:Ga} {E:XK} {X:Cx} {dr:Sl->M (List W)} {p pos:Pos}
end
end
end VS
namespace L2
open PySem PySem.Spec PyProof.Rows PySem.W
section
variable {prog:Program} {w:World} {A:Around} {R:Result->Shared->Prop} {h:Heap} {g:Array GenState} {d:Drawn} {t:Nat} {os:OsState}
variable {nm q:Str} {C N:Addr} {bs bm bmB:List Value} {hdct:Bool} {sn:List Str} {sub:List Value} {ab:Bool} {col:Option Bool} {dd:Option Addr} {k0 k1 k2 k3 k5:Option Value} {B Bn newId nid initId inN:String} {bmN:List Value}
abbrev zgb(C T:Addr):Obj:={ cls:=.ref C,data:=.fields #[.ref T,.none,.none,.none,.bool false,.none] }
theorem znw{rest:List Value}{init:Value}(Fn:ExcBaseFacts Bn newId inN bmN)(hBn:bmB.contains (.type Bn)=true)(F:ExcBaseFacts B nid initId bmB)(T:OwnTail h bmB bm)(hC:h.get? C=some (excClassObj nm q C N bs bm hdct sn sub ab col dd k0 k1 k2 k3 k5 newId))(self:Looks (model prog w) h (isSubtype (.ref C) (.ref C)) true)(call:Looks (model prog w) h (specialOf (.ref C) "__call__") (some (.builtin "type.__call__")))(typ:Looks (model prog w) h (isInstance (.ref C) (.type "type")) true)(hi:Looks (model prog w) h (typeLookup (.ref C) "__init__") (some init))(hb:∀self,Looks (model prog w) h (bindSpecial init self) (init,[self]))(hrest:rest.length<=sizeLine)(hq:codeAny (model prog w) (A.under (.builtin "type.__call__" ⟨.ref C::rest,[]⟩)) (.call init ⟨.ref (h.objs.size+1)::rest,[]⟩) (InitBack (h.objs.size+1) R) ⟨(h.push { cls:=.type "tuple",data:=.seq rest.toArray }).push (zgb C h.objs.size),g,d,t,os⟩) :
  codeAny (model prog w) A (.call (.ref C) ⟨rest,[]⟩) R ⟨h,g,d,t,os⟩:=by
 refine codeAny_of_tree ?_
 show wpAny _ _ (callAny (.ref C) _) _ _ _
 refine nd_load hC ?_
 show wpAny _ _ (callAny.viaDunder (.ref C) _) _ _ _
 unfold callAny.viaDunder
 refine wpAny_bind (call.at ?_)
 dsimp only
 rw[tc_bind]
 refine wpAny_bind (wpAny_pure (wpAny_bind (wpAny_pure ?_)))
 refine wpAny_pure (a:=Fin.again (.call (.builtin "type.__call__") ⟨.ref C::rest,[]⟩)) (And.intro rfl ?_)
 refine codeAny_call_builtin_at (Code.quiet_builtin _ (by decide +kernel)) entry_typeCall (check_slot tc_kind tc_split typ (tc_args _ _ _) ?_)
 unfold Builtin.«type.__call__»
 have e4:(Value.ref C::bm).isEmpty=false:=rfl
 have hm:Looks (model prog w) h (mroOf (.ref C)) (Value.ref C::bm):=((Looks.ld (part:=none) hC).andThen .now).andThen .now
 repeat (first|simp only[e4,false_eq_true,if_false]|with_reducible refine wpAny_madeBy_exc hC ?_|with_reducible refine wpAny_call ?_|lk)
 refine codeAny_call_builtin_code (Code.quiet_builtin _ Fn.quiet) (wpAny_check_new_subU Fn hBn T hC ?_)
 refine codeAny_exc_new_subU Fn hBn F T hC ?_ hrest
 have k:∀b o,h.get? b=some o->((h.push { cls:=.type "tuple",data:=.seq rest.toArray }).push (zgb C h.objs.size)).get? b=some o:=fun b o e=>Heap.get?_push_of_some _ (Heap.get?_push_of_some _ e)
 have hx:((h.push { cls:=.type "tuple",data:=.seq rest.toArray }).push (zgb C h.objs.size)).get? (h.objs.size+1)=some (zgb C h.objs.size):=by heap_get
 have t1:Looks (model prog w) ((h.push { cls:=.type "tuple",data:=.seq rest.toArray }).push (zgb C h.objs.size)) (typeOf (.ref (h.objs.size+1))) (.ref C):=(Looks.ld hx).andThen .now
 have s1:=self.keeps k
 have i1:=hi.keeps k
 have b1:=(hb (.ref (h.objs.size+1))).keeps k
 unfold isInstance callSpecial? specialOf
 repeat (first|with_reducible refine wpAny_call ?_|lk)
 refine codeAny_mono hq fun r s' z=>?_
 rcases r with e|(v|_|_|_)<;>first|exact z|exact z.elim|skip
 obtain⟨rfl,z⟩:=z
 exact wpAny_pure (wpAny_pure z)
theorem znx{E:Value->Shared->Prop}(F:ExcBaseFacts B nid initId bmB)(T:OwnTail h bmB bm){e:Addr}{oe:Obj}{vs:Array Value}{rest:List Value}{Q:Value->Shared->Prop}(hC:h.get? C=some (excClassObj nm q C N bs bm hdct sn sub ab col dd k0 k1 k2 k3 k5 newId))(he:h.get? e=some oe)(hcls:oe.cls=.ref C){a0:Value}(hd:oe.data=.fields vs)(h0:vs[0]?=some a0)(hrest:rest.length<=sizeLine)(hq:Q .none ⟨(h.push { cls:=.type "tuple",data:=.seq rest.toArray }).update e (Obj.mapFields (·.setIfInBounds 0 (.ref h.objs.size))),g,d,t,os⟩) :
  wpAny (model prog w) A (PySem.call (.builtin initId) (.ref e::rest)) Q E ⟨h,g,d,t,os⟩:=by
 refine wpAny_call (codeAny_call_builtin F.init.plain F.initEntry (wpAny_check_init_subU F T hC he hcls ?_))
 wp_walk
 rw[hd]
 refine wpAny_pure ?_
 rw[h0]
 refine wpAny_pure ?_
 refine wpAny_bind (wpAny_setField (Heap.get?_push_of_some _ he) hd (Array.getElem?_eq_some_iff.mp h0).1 ?_)
 have fin:∀s',s'=(⟨(h.push { cls:=.type "tuple",data:=.seq rest.toArray }).update e (Obj.mapFields (·.setIfInBounds 0 (.ref h.objs.size))),g,d,t,os⟩:Shared)->Q .none s':=fun s' e=>by rw[e];exact hq
 cases a0 with
 | ref a1=>exact wpAny_letGo (wpAny_pure (fin _ rfl))
 | _=>exact wpAny_pure (wpAny_pure (fin _ rfl))
end
def zpM(K:PySem.W.Frag)(C:Addr):Bool:=match K.lookup C with
 | some ⟨.type "type",_,.cls cd,sl⟩=>(match cd.mro,sl.toList with
  | .ref C'::bm,[_,_,_,_,some (.builtin n),_]=>C'==C&&n == "ValueError.__new__" && !cd.hasDel&&tailIn K bmV bm&&nsOkIn K cd.ns
  | _,_=>false)
 | _=>false
theorem zeY{K:PySem.W.Frag}{h:Heap}{C:Addr}(q:zpM K C=true)(X:K.In h):∃bm N nm qn bs hdct sn sub ab col dd k0 k1 k2 k3 k5,
  h.get? C=some (excClassObj nm qn C N bs bm hdct sn sub ab col dd k0 k1 k2 k3 k5 "ValueError.__new__")/\OwnTail h bmV bm:=by
 unfold zpM at q
 split at q
 case h_2=>cases q
 rename_i dd cd sl ho
 split at q
 case h_2=>cases q
 rename_i C' bm k0 k1 k2 k3 n k5 hm hs
 simp only[and_eq_true,beq_iff_eq,not_eq_true'] at q
 obtain⟨⟨⟨⟨rfl,rfl⟩,hdel⟩,ht⟩,hok⟩:=q
 obtain⟨nm,bs,mro,ns,qn,hd,sn,sub,ab,col,del⟩:=cd
 dsimp only at hm hdel hok
 subst hm hdel
 have hsl:sl=#[k0,k1,k2,k3,some (.builtin "ValueError.__new__"),k5]:=by
  obtain⟨l⟩:=sl
  simp only at hs
  rw[hs]
 subst hsl
 exact⟨bm,ns,nm,qn,bs,hd,sn,sub,ab,col,dd,k0,k1,k2,k3,k5,X _ _ ho,PySem.W.tail_of_in X ht⟩
def XNew(a C:Addr)(h:Heap):Prop:=∃t sl,h.get? a=some ⟨.ref C,none,.fields #[.ref t,.none,.none,.none,.bool false,.none],sl⟩
def XDone(a C:Addr)(h:Heap):Prop:=∃D t sl,h.get? a=some ⟨.ref C,some D,.fields #[.ref t,.none,.none,.none,.bool false,.none],sl⟩
theorem XNew.ok{P:Program}{w:World}{H:Hp}{h:Heap}{a C:Addr}(x:XNew a C h):ObjOk P w H h a (.ext (XNew a C)):=by
 refine⟨x,?_,fun h1 h2 ⟨t,sl,e1⟩ k=>⟨t,sl,k _ e1⟩⟩
 obtain⟨t,sl,e⟩:=x
 exact⟨_,e⟩
theorem XDone.ok{P:Program}{w:World}{H:Hp}{h:Heap}{a C:Addr}(x:XDone a C h):ObjOk P w H h a (.ext (XDone a C)):=by
 refine⟨x,?_,fun h1 h2 ⟨D,t,sl,e1⟩ k=>⟨D,t,sl,k _ e1⟩⟩
 obtain⟨D,t,sl,e⟩:=x
 exact⟨_,e⟩
theorem zr5{H:Hp}{a:Addr}{o:HO}(h:H a=some o):upd H a o=H:=by
 funext b
 by_cases hb:b=a
 ·subst hb;rw[zat,h]
 ·rw[zaC hb]
section
variable {X:Cx}
theorem zlv{np ap pos:Pos}{e1 e2:Expr}{SA C:Addr}{x:Str}{t1:TE}{t2:St->Prop}{pl:Sem Bool}(hg:Gl X x)(hm:X.mg x=some (.ref SA))(hga:specialIn X.K (.ref SA) "__getattribute__" = some (some (.builtin "type.__getattribute__")))(hr:readsIn X.K SA (.type "type")=true)(hf:findCls X.K (.ref SA) (.type "type") "__init__" = some (.val (.builtin "ValueError.__init__")))(qC:zpM X.K C=true)(h1:PE X e1 t1)(h2:PX X e2 t2)(hd:(x==("__debug__" : Str))=false:=by decide)(ht:eval (.Call (.Attribute (.Name x np) "__init__" ap) [e1,e2] [] pos) X.env=(do
   let ov <- eval (.Name x np) X.env
   standAt ap.atName
   let (f,first) <- holding [ov] (getMethod ov "__init__" pl)
   callWith pos f first (backTo pos (starEach [e1,e2] X.env)) (backToKw pos (keywordEach [] X.env))):=by rfl)(he:starEach [e1,e2] X.env=[(false,eval e1 X.env),(false,eval e2 X.env)]:=by rfl) :
  PE X (.Call (.Attribute (.Name x np) "__init__" ap) [e1,e2] [] pos) (fun σ H Q=>t1 σ H fun v H1=>∃a,v=.ref a/\H1 a=some (.ext (XNew a C))/\t2 σ/\Q .non H1):=by
 intro pins s σ H Q I h
 refine PySem.W.methodCall_KW (pl:=pl) (zcn I hg hm ?_ hd) ht
 refine method_cls I.kIn hga (cls_value I.kIn hr hf (by decide +kernel) ?_)
 have I0:Inv X pins σ H { s with toks:=s.toks+1 }:=I.tok _
 show wpAny _ _ (callWith pos (.builtin "ValueError.__init__") [] (backTo pos (starEach [e1,e2] X.env)) []) _ _ _
 rw[he]
 refine Calls.callWith_builtin rfl (Calls.evalArgs_plain (Calls.spliced_cons (thn (h1 pins _ σ H _ I0 h) fun u s1 ⟨v,H1,I1,rv,a,ev,ha,ht2,hq⟩=>?_)))
 refine Calls.spliced_cons (thn (h2 pins s1 σ H1 I1 ht2) fun u2 s2 I2=>Calls.spliced_nil ?_)
 subst ev
 obtain rfl:u=Value.ref a:=rv
 obtain⟨bm,N,nm,qn,bs,hdct,sn,sub,ab,col,dd,k0,k1,k2,k3,k5,hC,T⟩:=zeY qC I2.kIn
 obtain⟨tt,osl,hx⟩:=(show ObjOk X.prog X.w H1 s2.heap a (.ext (XNew a C)) from I2.hok a _ ha).1
 obtain⟨hh,g,d,tk,os⟩:=s2
 refine znx (rest:=[u2]) (a0:=.ref tt) PySem.F.excBase_ValueError T hC hx rfl rfl rfl (by show 1<=sizeLine;decide) ?_
 have hx':=Heap.get?_push_of_some { cls:=.type "tuple",data:=.seq [u2].toArray } hx
 have hs:=Heap.get?_update_self (Obj.mapFields (·.setIfInBounds 0 (.ref hh.objs.size))) hx' rfl
 have I3:=I2.write (x:=a) (e:=a) (o:=.ext (XNew a C)) (t':=tk) (h':=(hh.push { cls:=.type "tuple",data:=.seq [u2].toArray }).update a (Obj.mapFields (·.setIfInBounds 0 (.ref hh.objs.size)))) (by rw[ha];trivial) (.inl rfl)
  (fun b u hb e=>(Heap.get?_update_other _ _ (Ne.symm hb)).trans (Heap.get?_push_of_some _ e)) ⟨_,hs⟩ (XNew.ok ⟨hh.objs.size,osl,hs⟩)
 rw[zr5 ha] at I3
 exact⟨.non,H1,I3,rfl,hq⟩
end
end L2
namespace L2
open PySem PySem.Spec PyProof.Rows PySem.W PySem.Builtin PySem.Builtin.ObjectAttr
theorem zpN(self:Value):refuseLoop self "__setattr__" bmV=pure ():=by kernel_rfl
theorem zpO{h:Heap}{bm:List Value}(T:OwnTail h bmV bm)(self:Value):refuseLoop self "__setattr__" bm=pure ():=by
 induction T with
 | base=>exact zpN self
 | own _ _ _ _ ih=>rw[refuseLoop_ref];exact ih
section
variable {prog:Program} {w:World} {A:Around} {E:Value->Shared->Prop} {K:PySem.W.Frag} {s:Shared} {a C:Addr}
theorem zpP{name:Str}{v:Value}{vs:Array Value}{sl:Array (Option Value)}{cd:ClassData}{bm:List Value}{Q:Unit->Shared->Prop}(X:K.In s.heap)(hx:s.heap.get? a=some ⟨.ref C,none,.fields vs,sl⟩)(hs:findIn K (.ref C) "__setattr__" = some (some (.builtin "object.__setattr__")))(hc:clsIn K C=some cd)(hm:cd.mro=.ref C::bm)(hd:cd.hasDict=true)(T:OwnTail s.heap bmV bm)(ht:takerIn K C name=some none)(h:∀h' tk D,(∀b u,b≠a->s.heap.get? b=some u->h'.get? b=some u)->h'.get? a=some ⟨.ref C,some D,.fields vs,sl⟩->Q () { s with heap:=h',toks:=tk }) :
  wpAny (model prog w) A (setAttr (.ref a) name v) Q E s:=by
 have J:InstAt s.heap a ⟨.ref C,none,.fields vs,sl⟩ C none:=⟨hx,rfl,rfl,trivial⟩
 refine PySem.W.set_plain X J hs ?_
 have SF:=PySem.F.store_object
 have sub:Looks (model prog w) s.heap (isInstance (.ref a) (.type "object")) true:=J.type.andThen (looks_mroIn X (by unfold mroIn;rw[hc,bind_some,hm,if_neg (by simp),contains_cons,T.hasType (show bmV.contains (.type "object")=true by decide)];simp))
 refine codeAny_call_builtin SF.slot.plain SF.entry (@check_slot (model prog w) _ _ { s with toks:=s.toks+1 } "object.__setattr__" "object" "__setattr__" (.ref a) [.str name s.toks,v] [] _ SF.kind SF.split sub (SF.args (.ref a) (.str name s.toks) v) ?_)
 obtain⟨attr,ha,hr⟩:=bind_eq_some_iff.mp ht
 have hmL:Looks (model prog w) s.heap (mroOf (.ref C)) cd.mro:=(looks_clsIn X hc).andThen .now
 have L3:Looks (model prog w) s.heap (storeTaker? attr) none:=by
  cases attr with
  | none=>exact .now
  | some a =>
   obtain⟨b,hb,he⟩:=map_eq_some_iff.mp hr
   refine(looks_takesIn X hb).andThen ?_
   cases b
   ·exact .now
   ·cases he
 rw[osa_eq,refuse_eq]
 refine wpAny_bind (wpAny_bind (J.type.here (s:={ s with toks:=s.toks+1 }) (wpAny_bind (hmL.here (s:={ s with toks:=s.toks+1 }) ?_))))
 rw[hm,refuseLoop_ref,zpO T]
 refine wpAny_pure (wpAny_bind (J.type.here (s:={ s with toks:=s.toks+1 }) (wpAny_bind ((looks_findIn X ha).here (s:={ s with toks:=s.toks+1 }) (wpAny_bind (L3.here (s:={ s with toks:=s.toks+1 }) ?_))))))
 refine wpAny_bind (wpAny_pure (wpAny_bind (wpAny_bind (wpAny_loadPart hx (wpAny_bind (PySem.W.Looks.here (s:={ s with toks:=s.toks+1 }) (PySem.W.looks_clsIn X hc) ?_))))))
 rw[hd]
 have hx₁:(s.heap.push { cls:=.type "dict",data:=.dict #[] }).get? a=some ⟨.ref C,none,.fields vs,sl⟩:=Heap.get?_push_of_some _ hx
 have hxs:a≠s.heap.objs.size:=ne_of_lt (Heap.lt_size hx)
 refine wpAny_bind (wpAny_alloc' ?_)
 refine wpAny_bind (wpAny_update' hx₁ ?_)
 refine wpAny_pure ?_
 have hgd:((s.heap.push { cls:=.type "dict",data:=.dict #[] }).update a fun o=>{ cls:=o.cls,dict:=some s.heap.objs.size,data:=o.data,slots:=o.slots }).get? s.heap.objs.size=some { cls:=.type "dict",data:=.dict #[] } :=
  (Heap.get?_update_ne _ _ _ _ hxs.symm).trans (Heap.get?_push_at rfl rfl)
 have hnd:((s.heap.push { cls:=.type "dict",data:=.dict #[] }).update a fun o=>{ cls:=o.cls,dict:=some s.heap.objs.size,data:=o.data,slots:=o.slots }).Ns s.heap.objs.size (fun _=>none) :=
  ⟨_,#[],_,hgd,rfl,fun e he=>absurd he (by simp),fun _=>rfl⟩
 show wpAny _ _ (storeInDict s.heap.objs.size (.str name s.toks) name v) _ _ _
 unfold storeInDict newKeyGuard
 refine wpAny_bind (wpAny_pure (wpAny_bind (wpAny_nsSet1 (Heap.Ns1.of_empty hnd) fun h' hn' hs=>?_)))
 obtain⟨oD,esD,epD,hoD,hdD,hcD⟩:=hn'.count (Within.cons name v Within.nil)
 refine wpAny_bind (wpAny_lookBehind hoD (by rw[hdD];exact pastItsLine_dict (le_trans hcD (by rw[length_cons,length_nil,sizeLine_eq];omega))) ?_)
 refine wpAny_pure (h h' _ s.heap.objs.size (fun b u hb e=>?_) ?_)
 ·exact(hs.2 b (ne_of_lt (Heap.lt_size e))).trans ((Heap.get?_update_ne _ _ _ _ hb).trans (Heap.get?_push_of_some _ e))
 ·exact(hs.2 a hxs).trans (Heap.get?_update_self _ hx₁ rfl)
end
section
variable {X:Cx} {o value:Expr} {f:Str} {pos pos':Pos} {ta tv:TE} {C:Addr} {cd:ClassData} {bm:List Value}
theorem zny(ha:PE X o ta)(hv:PE X value tv)(hs:swapsWith value (some (.Attribute o f pos')) pos.line X.env=pure false)(hsa:findIn X.K (.ref C) "__setattr__" = some (some (.builtin "object.__setattr__")))(qC:zpM X.K C=true)(hd:(clsIn X.K C).any (·.hasDict)=true)(ht:takerIn X.K C f=some none) :
  PS X (.Assign [.Attribute o f pos'] value pos) (fun D σ H=>tv σ H fun y H1=>ta σ H1 fun x H2=>∃a,x=.ref a/\H2 a=some (.ext (XNew a C))/\D.nx σ (upd H2 a (.ext (XDone a C)))):=by
 intro pins s σ H D I h
 refine plainObj_wpAny_Assign_Attribute (thn (hv pins s σ H _ I h) fun u s1 ⟨y,H1,I1,ry,q⟩=>thn (ha pins s1 σ H1 _ I1 q) fun ov s2 ⟨x,H2,I2,rx,a,ex,ea,q2⟩=>?_) hs
 subst ex
 obtain rfl:ov=Value.ref a:=rx
 obtain⟨bm,N,nm,qn,bs,hdct,sn,sub,ab,col,dd,k0,k1,k2,k3,k5,hC,T⟩:=zeY qC I2.kIn
 obtain⟨tt,osl,hx⟩:=(show ObjOk X.prog X.w H2 s2.heap a (.ext (XNew a C)) from I2.hok a _ ea).1
 obtain⟨cd,hc,hdc⟩:=PySem.W.any_some hd
 have hm:cd.mro=.ref C::bm:=by
  unfold clsIn at hc
  split at hc
  ·rename_i ho
   cases hc
   have:=I2.kIn _ _ ho
   rw[hC] at this
   cases this
   rfl
  ·cases hc
 refine zpP I2.kIn hx hsa hc hm hdc T ht fun h' tk D' hk hx'=>?_
 have I3:=I2.write (x:=a) (e:=a) (o:=.ext (XDone a C)) (t':=tk) (h':=h') (by rw[ea];trivial) (.inl rfl) hk ⟨_,hx'⟩ (XDone.ok ⟨D',tt,osl,hx'⟩)
 exact⟨σ,_,I3,q2⟩
end
section
variable {M:Model} {A:Around} {E:Value->Shared->Prop} {env:Env} {nm q:Str} {C N:Addr} {bs bm:List Value} {hdct:Bool} {sn:List Str} {sub:List Value} {ab:Bool} {col:Option Bool} {dd:Option Addr} {k0 k1 k2 k3 k5:Option Value} {newId:String}
theorem zfs{s:Shared}{x:Sem Value}{Q:Flow->Shared->Prop}(hbase:bm.contains (.type "BaseException")=true)(hh:A.handled=none)(h:wpAny M A x (fun v s₁=>∃e D t sl,v=.ref e/\s₁.heap.get? C=some (excClassObj nm q C N bs bm hdct sn sub ab col dd k0 k1 k2 k3 k5 newId)/\s₁.heap.get? e=some ⟨.ref C,D,.fields #[.ref t,.none,.none,.none,.bool false,.none],sl⟩/\E (.ref e) s₁) E s) :
  wpAny M A (raiseStmt env (some x) none) Q E s:=by
 have hcB:(Value.ref C::bm).contains (.type "BaseException")=true:=by rw[contains_cons,hbase,Bool.or_true]
 unfold raiseStmt
 refine wpAny_bind (wpAny_mono h (fun v s₁ h₁=>?_) fun _ _ x=>x)
 obtain⟨e,D,t,sl,rfl,hC,he,hE⟩:=h₁
 obtain⟨hp,g,d,tk,os⟩:=s₁
 repeat (first|with_reducible refine wpAny_loadPart_at he ?_|with_reducible refine wpAny_loadPart_at hC ?_|(with_reducible refine wpAny_isSubtype_exc hC ?_;rw[hcB])|wp_step)
 exact wpAny_raiseNew_none hh hE
end
section
variable {X:Cx} {pins:List (Addr×Obj)} {σ:St} {H:Hp} {s:Shared} {a:Addr} {φ:Heap->Prop}
theorem Inv.untrack(I:Inv X pins σ (upd H a (.ext φ)) s)(ha:H a=none):Inv X pins σ H s:=by
 have dn:∀{b:Addr} {o:HO},(∀ψ,o≠.ext ψ)->upd H a (.ext φ) b=some o->H b=some o:=fun {b o} hn e=>by
  by_cases hb:b=a
  ·subst hb;rw[zat] at e;cases e;exact absurd rfl (hn φ)
  ·rw[zaC hb] at e;exact e
 have dz:∀{b:Addr},upd H a (.ext φ) b=none->H b=none:=fun {b} e=>by
  by_cases hb:b=a
  ·subst hb;exact ha
  ·rw[zaC hb] at e;exact e
 refine⟨I.ok,I.os,I.bare,⟨I.base.keep,I.base.slot,fun b o e n hx=>dz (I.base.free b o e n hx),I.base.there,fun b xs e=>dn (fun ψ z=>by cases z) (I.base.tups b xs e),fun b o u e=>dn (fun ψ z=>by cases z) (I.base.frzs b o u e),fun b ps e=>?_⟩,I.loc,I.cell,dz I.free,fun x c e=>dz (I.freeC x c e),fun p hp=>?_,fun b o e=>?_,I.len⟩
 ·obtain⟨m,q⟩:=I.base.tbls b ps e
  exact⟨m,dn (fun ψ z=>by cases z) q⟩
 ·obtain⟨e,n,r⟩:=I.pin p hp
  exact⟨e,dz n,r⟩
 ·have hb:b≠a:=fun z=>by rw[z,ha] at e;cases e
  exact(I.hok b o (by rw[zaC hb];exact e)).stay (fun _ _ _ r=>r) (fun c q=>dn (fun ψ z=>by cases z) q) fun c xs q=>dn (fun ψ z=>by cases z) q
end
section
variable {X:Cx} {CX:CXT} {k:Nat} {f:Addr} {fd:FuncData} {ps:List Str} {sp:Sp}
structure XI (K:PySem.W.Frag) (C f:Addr):Prop where
 exc:zpM K C=true
 init:findIn K (.ref C) "__init__" = some (some (.ref f))
 fn:PySem.W.isFn K (.ref f)=true
 call:specialIn K (.ref C) "__call__" = some (some (.builtin "type.__call__"))
 typ:instIn K (.ref C) (.type "type")=some true
 self:mroIn K C (.ref C)=some true
 kp:PySem.W.keepIn K (.ref C)=true
theorem zpQ{E:XK}{C:Addr}{pins:List (Addr×Obj)}{σ:St}{H:Hp}{s:Shared}{us:List Value}{vs:List V}{Q:Value->Shared->Prop}(M:XI X.K C f)(F:FnOk X.prog X.w X.K X.mg X.base CX k f fd ps sp)(hr:Room (k+1) X.A)(hb:Binds X.K fd ps [])(hpx:zb7 CX X E)(I:Inv X pins σ H s)(r:Vals vs us)(hl:us.length<=sizeLine){R:Prop}(hq:sp (.ref (s.heap.objs.size+1)::vs) (upd H (s.heap.objs.size+1) (.ext (XNew (s.heap.objs.size+1) C))) (fun v H2=>v=.non/\H2=upd H (s.heap.objs.size+1) (.ext (XDone (s.heap.objs.size+1) C))/\R) E)(hR:R->∀s',Inv X pins σ (upd H (s.heap.objs.size+1) (.ext (XDone (s.heap.objs.size+1) C))) s'->Q (.ref (s.heap.objs.size+1)) s') :
  wpAny (model X.prog X.w) X.A (PySem.call (.ref C) us) Q X.xe s:=by
 obtain⟨bm,N,nm,qn,bs,hdct,sn,sub,ab,col,dd,k0,k1,k2,k3,k5,hC,T⟩:=zeY M.exc I.kIn
 have hn:H (s.heap.objs.size+1)=none:=I.hok.fresh (le_succ _)
 have I2:Inv X pins σ (upd H (s.heap.objs.size+1) (.ext (XNew (s.heap.objs.size+1) C))) { s with heap:=(s.heap.push { cls:=.type "tuple",data:=.seq us.toArray }).push (zgb C s.heap.objs.size) } :=
  I.laid (t':=s.toks) (fun b o e=>Heap.get?_push_of_some _ (Heap.get?_push_of_some _ e)) (le_succ _) (XNew.ok ⟨s.heap.objs.size,_,by heap_get⟩)
 have r2:Vals (V.ref (s.heap.objs.size+1)::vs) (Value.ref (s.heap.objs.size+1)::us):=.cons rfl r
 have hlen:(Value.ref (s.heap.objs.size+1)::us).length=ps.length:=by
  have e:=r2.length
  rw[F.len _ _ _ _ hq] at e
  exact e.symm
 obtain⟨hh,g,d,tk,os⟩:=s
 refine wpAny_call (znw (init:=.ref f) PySem.F.excBase_ValueError (by decide) PySem.F.excBase_ValueError T hC (looks_mroIn I.kIn M.self) (looks_specialIn I.kIn M.call) (looks_instIn I.kIn M.typ) (looks_findIn I.kIn M.init) (fun self=>PySem.W.bind_fn I.kIn self (beq_iff_eq.mp M.fn)) hl ?_)
 refine codeAny_mono (F.run _ X.stack _ _ ⟨Value.ref (hh.objs.size+1)::us,[]⟩ (Value.ref (hh.objs.size+1)::us) _ _ E (hr.make C us []) (I2.env0.make C us []) (by have:=hb _ (Value.ref (hh.objs.size+1)::us) I2.kIn (by simpa using hlen);simpa using this) r2 hq) fun r s' hq'=>?_
 cases r with
 | error e=>exact hpx pins σ _ _ e s' I2 hq'
 | ok fl =>
  cases fl with
  | ret u =>
   obtain⟨v,H',I3,rv,ev,eH,q3⟩:=I2.after hq'
   subst ev
   rw[eH] at I3
   exact⟨rv,hR q3 s' I3⟩
  | next=>exact False.elim hq'
  | brk=>exact False.elim hq'
  | cont=>exact False.elim hq'
theorem zlw{E:XK}{C:Addr}{x:Str}{np cpos pos:Pos}{e:Expr}{te:TE}(hx:Flies X E)(hex:X.ex=[])(M:XI X.K C f)(F:FnOk X.prog X.w X.K X.mg X.base CX k f fd ps sp)(hr:Room (k+1) X.A)(hb:Binds X.K fd ps [])(hpx:zb7 CX X E)(hg:Gl X x)(hm:X.mg x=some (.ref C))(hh:X.A.handled=none)(he:PE X e te)(hs:starEach [e] X.env=[(false,eval e X.env)]:=by rfl)(hd:(x==("__debug__" : Str))=false:=by decide) :
  PS X (.Raise (some (.Call (.Name x np) [e] [] cpos)) none pos) (fun _ σ H=>te σ H fun y H1=>∀a,H1 a=none->sp [.ref a,y] (upd H1 a (.ext (XNew a C))) (fun v H2=>v=.non/\H2=upd H1 a (.ext (XDone a C))/\E (.ref C) none H1) E):=by
 intro pins s σ H D I hq
 obtain⟨bm,N,nm,qn,bs,hdct,sn,sub,ab,col,dd,k0,k1,k2,k3,k5,hC,T⟩:=zeY M.exc I.ok.mod.kin
 have ev:wpAny (model X.prog X.w) X.A (eval (.Call (.Name x np) [e] [] cpos) X.env) (fun v s₁=>∃e D t sl,v=.ref e/\s₁.heap.get? C=some (excClassObj nm qn C N bs bm hdct sn sub ab col dd k0 k1 k2 k3 k5 "ValueError.__new__")/\s₁.heap.get? e=some ⟨.ref C,D,.fields #[.ref t,.none,.none,.none,.bool false,.none],sl⟩/\X.xe (.ref e) s₁) X.xe s:=by
  refine wpAny_Call_Name_kw (zcn I hg hm ?_ hd)
  refine PySem.W.callWith_K (h₀:=X.base) I.ok.mod.kin M.kp (thn (zee he zhf (by rw[hs];rfl) cpos pins s σ H (fun vs H1=>match vs with|[y]=>(∀a,H1 a=none->sp [.ref a,y] (upd H1 a (.ext (XNew a C))) (fun v H2=>v=.non/\H2=upd H1 a (.ext (XDone a C))/\E (.ref C) none H1) E)|_=>False) I hq) fun us s1 ⟨vs,H1,I1,r,q⟩=>⟨I1.kIn,?_⟩) (by rw[hs];rfl) rfl
  match vs,r,q with
  | [y],r,q =>
   have hl1:us.length=1:=r.length.symm
   have hC1:=I1.bk _ _ hC
   have hnw:Nw X pins (s1.heap.objs.size+1):=zis hex I1 (Heap.get?_none_of_le (le_succ _))
   have hH1:H1 (s1.heap.objs.size+1)=none:=I1.hok.fresh (le_succ _)
   refine zpQ (R:=E (.ref C) none H1) M F hr hb hpx I1 r (by rw[nil_append,hl1];decide) (q _ hH1) fun hE s' I3=>?_
   obtain⟨D,t,sl,e⟩:=(show ObjOk X.prog X.w _ s'.heap (s1.heap.objs.size+1) (.ext (XDone (s1.heap.objs.size+1) C)) from I3.hok _ _ zat).1
   exact⟨_,_,_,_,rfl,I3.bk _ _ hC,e,hx pins σ H1 s' _ (.ref C) (I3.untrack hH1) ⟨_,_,_,hnw,hH1,e,rfl,rfl,rfl,.inl rfl⟩ hE⟩
 rw[arm_exec_Raise]
 first
  | refine wpAny_bind (wpAny_standAt (zfs (T.hasType (show bmV.contains (.type "BaseException")=true by decide)) hh (wpAny_bind (wpAny_mono ev (fun v s₁ h₁=>wpAny_bind (wpAny_standAt (wpAny_pure h₁))) fun _ _ x=>x))))
  | (simp only[evalOpt,Option.map];refine wpAny_bind (wpAny_standAt (zfs (T.hasType (show bmV.contains (.type "BaseException")=true by decide)) hh (wpAny_bind (wpAny_mono ev (fun v s₁ h₁=>wpAny_bind (wpAny_standAt (wpAny_pure h₁))) fun _ _ x=>x)))))
  | (show wpAny _ _ (do standAt pos;raiseStmt X.env (some (do let v <- eval (.Call (.Name x np) [e] [] cpos) X.env;standAt pos;pure v)) none) _ _ s;refine wpAny_bind (wpAny_standAt (zfs (T.hasType (show bmV.contains (.type "BaseException")=true by decide)) hh (wpAny_bind (wpAny_mono ev (fun v s₁ h₁=>wpAny_bind (wpAny_standAt (wpAny_pure h₁))) fun _ _ x=>x)))))
end
end L2
namespace L2
open PySem PySem.Spec PyProof.Rows PySem.W
def spI(C:Addr):Sp:=fun vs H Q _=>∃a n,vs=[.ref a,.int n]/\n.natAbs<1000/\H a=some (.ext (XNew a C))/\Q .non (upd H a (.ext (XDone a C)))
end L2
namespace VS
open PySem PySem.Spec PyProof.Rows L2
section
variable {X:Cx} {K:PySem.W.Frag} {E:XK} {x y:Str} {np cpos pos p:Pos} {k i:Nat} {f:Addr} {fd:FuncData} {ps:List Str}
theorem zlx(hx:Flies X E)(hpx:zb7 (CXx X.prog X.w) X E)(hK:X.K=K)(M:XI X.K (clOf K x) f)(Fi:FnOk X.prog X.w X.K X.mg X.base (CXx X.prog X.w) k f fd ps (spI (clOf K x)))(hr:Room (k+1) X.A)(hb:Binds X.K fd ps [])(hm:X.mg x=some (.ref (clOf K x)))(hex:X.ex=[])(hg:Gl X x)(hh:X.A.handled=none)(hN:X.N[i]?=some y)(hv:Vis X.env.scope y)(hd2:(y==("__debug__" : Str))=false:=by decide)(hcd:(y==("__classdict__" : Str))=false:=by decide)(he:starEach [.Name y p] X.env=[(false,eval (.Name y p) X.env)]:=by rfl)(hd:(x==("__debug__" : Str))=false:=by decide) :
  PS X (.Raise (some (.Call (.Name x np) [.Name y p] [] cpos)) none pos) (toTS (Gy K) E (zbG x [i])):=by
 refine PS.imp (zlw (E:=E) (C:=clOf K x) hx hex M Fi hr hb hpx hg hm hh (zfR (pos:=p) hN hv hd2 hcd) he hd) fun D σ H zz_=>el6 zz_ fun F as sl ce S P=>?_
 unfold zbG at P
 split at P
 ·rename_i h
  have:=all_eq_true.mp h i (by simp)
  unfold sml at this
  split at this
  ·rename_i n e
   obtain⟨v,e1,e2⟩:=S.slot i _ e
   simp only[Rep] at e2
   subst e2
   exact⟨.int n,e1,fun a ha=>⟨a,n,rfl,of_decide_eq_true this,zat,rfl,zoz,P H F as (.ref (clOf K x)) none .refl S.st ⟨rfl,rfl⟩⟩⟩
  ·cases this
 ·exact(show False from P).elim
end
end VS
namespace L2
open PySem PySem.Spec PyProof.Rows PySem.W
section
variable {X:Cx}
theorem zpR{np ap pos p1 p2 p3 pe pos' pa:Pos}{e2:Expr}{SA C:Addr}{x u y f:Str}{t2:St->Prop}(hg:Gl X x)(hm:X.mg x=some (.ref SA))(hga:specialIn X.K (.ref SA) "__getattribute__" = some (some (.builtin "type.__getattribute__")))(hr:readsIn X.K SA (.type "type")=true)(hf:findCls X.K (.ref SA) (.type "type") "__init__" = some (.val (.builtin "ValueError.__init__")))(qC:zpM X.K C=true)(hsa:findIn X.K (.ref C) "__setattr__" = some (some (.builtin "object.__setattr__")))(hd:(clsIn X.K C).any (·.hasDict)=true)(ht:takerIn X.K C f=some none)(h2:PX X e2 t2)(hN0:X.N[0]?=some u:=by rfl)(hN1:X.N[1]?=some y:=by rfl)(hv0:Vis X.env.scope u:=by exact Or.inl rfl)(hv1:Vis X.env.scope y:=by exact Or.inl rfl)(d0:(u==("__debug__" : Str))=false:=by decide)(d1:(y==("__debug__" : Str))=false:=by decide)(c0:(u==("__classdict__" : Str))=false:=by decide)(c1:(y==("__classdict__" : Str))=false:=by decide){pl:Sem Bool}(hdx:(x==("__debug__" : Str))=false:=by decide)(hev:eval (.Call (.Attribute (.Name x np) "__init__" ap) [.Name u p1,e2] [] pos) X.env=(do
   let ov <- eval (.Name x np) X.env
   standAt ap.atName
   let (f,first) <- holding [ov] (getMethod ov "__init__" pl)
   callWith pos f first (backTo pos (starEach [.Name u p1,e2] X.env)) (backToKw pos (keywordEach [] X.env))):=by rfl)(hst:starEach [.Name u p1,e2] X.env=[(false,eval (.Name u p1) X.env),(false,eval e2 X.env)]:=by rfl)(hs0:swapsWith (.Call (.Attribute (.Name x np) "__init__" ap) [.Name u p1,e2] [] pos) none pe.line X.env=pure false:=by rfl)(hs:swapsWith (.Name y p3) (some (.Attribute (.Name u p2) f pos')) pa.line X.env=pure false:=by rfl) :
  PSs X [.Expr (.Call (.Attribute (.Name x np) "__init__" ap) [.Name u p1,e2] [] pos) pe,.Assign [.Attribute (.Name u p2) f pos'] (.Name y p3) pa]
   (fun D σ H=>∃a n,σ[0]?=some (some (.ref a))/\σ[1]?=some (some (.int n))/\H a=some (.ext (XNew a C))/\t2 σ/\D.nx σ (upd H a (.ext (XDone a C)))):=by
 refine VS.PSs.imp (ziQ (zki (zlv (C:=C) hg hm hga hr hf qC (zfR (pos:=p1) hN0 hv0 d0 c0) h2 hdx hev hst) hs0) (zkh (zny (C:=C) (zfR (pos:=p2) hN0 hv0 d0 c0) (zfR (pos:=p3) hN1 hv1 d1 c1) hs hsa qC hd ht))) fun D σ H z=>?_
 obtain⟨a,n,e0,e1,eH,q2,q⟩:=z
 exact⟨.ref a,e0,a,rfl,eH,q2,.int n,e1,.ref a,e0,a,rfl,eH,q⟩
end
structure XN (K:PySem.W.Frag) (C SA f:Addr) (fld:Str):Prop where
 xi:XI K C f
 hga:specialIn K (.ref SA) "__getattribute__" = some (some (.builtin "type.__getattribute__"))
 hr:readsIn K SA (.type "type")=true
 hf:findCls K (.ref SA) (.type "type") "__init__" = some (.val (.builtin "ValueError.__init__"))
 hsa:findIn K (.ref C) "__setattr__" = some (some (.builtin "object.__setattr__"))
 hd:(clsIn K C).any (·.hasDict)=true
 ht:takerIn K C fld=some none
def exI(K:PySem.W.Frag)(C SA:Addr)(fld:Str):Bool:=zpM K C&&specialIn K (.ref C) "__call__" == some (some (.builtin "type.__call__"))&&instIn K (.ref C) (.type "type")==some true&&mroIn K C (.ref C)==some true&&PySem.W.keepIn K (.ref C) &&
 specialIn K (.ref SA) "__getattribute__" == some (some (.builtin "type.__getattribute__"))&&readsIn K SA (.type "type")&&(match findCls K (.ref SA) (.type "type") "__init__" with|some (.val (.builtin n))=>n == "ValueError.__init__" | _=>false) &&
 findIn K (.ref C) "__setattr__" == some (some (.builtin "object.__setattr__"))&&(clsIn K C).any (·.hasDict)&&takerIn K C fld==some none
theorem ztM{K:PySem.W.Frag}{C SA f:Addr}{fld:Str}(q:exI K C SA fld=true)(hi:findIn K (.ref C) "__init__" = some (some (.ref f)))(fn:PySem.W.isFn K (.ref f)=true):XN K C SA f fld:=by
 unfold exI at q
 simp only[and_eq_true,beq_iff_eq] at q
 obtain⟨⟨⟨⟨⟨⟨⟨⟨⟨⟨q1,q2⟩,q3⟩,q4⟩,q5⟩,q6⟩,q7⟩,q8⟩,q9⟩,q10⟩,q11⟩:=q
 refine⟨⟨q1,hi,fn,q2,q3,q4,q5⟩,q6,q7,?_,q9,q10,q11⟩
 split at q8
 ·rename_i n e
  rw[e,beq_iff_eq.mp q8]
 ·cases q8
section
variable {X:Cx} {o:Expr} {m:Str} {apos pos:Pos} {ta:TE} {C:Addr} {k:Nat} {f:Addr} {fd:FuncData} {ps:List Str} {sp:Sp}
theorem zly{pl:Sem Bool}(he:PE X.nox o ta)(c:Cls X.K C)(hm:Meth X.K C m f)(F:FnOk X.prog X.w X.K X.mg X.base (CXx X.prog X.w) k f fd ps sp)(hr:Room k X.A)(hex:X.ex=[])(hb:Binds X.K fd ps [])(ht:eval (.Call (.Attribute o m apos) [] [] pos) X.env=(do
   let ov <- eval o X.env
   standAt apos.atName
   let (f,first) <- holding [ov] (getMethod ov m pl)
   callWith pos f first (backTo pos (starEach [] X.env)) (backToKw pos (keywordEach [] X.env))):=by rfl) :
  PCx X (.Call (.Attribute o m apos) [] [] pos) (fun E=>fun σ H Q=>ta σ H fun x H1=>∃a dx fs,x=.ref a/\H1 a=some (.ins C dx fs)/\fs.lookup m=none/\sp [x] H1 Q E):=by
 intro pins s σ H Q E I h
 refine PySem.W.methodCall_KW (pl:=pl) (wpAny_mono (he pins s σ H _ (I.wish _) h) (fun u s1 ⟨x,H1,I1,rx,a,dx,fs,ex,ea,l,q⟩=>?_) fun _ _ z=>z.elim) ht
 subst ex
 obtain rfl:u=Value.ref a:=rx
 have I1:=I1.unwish
 refine zed I1 ea c hm l ?_
 exact PySem.W.callWith_K0 (first:=[.ref a]) I1.kIn hm.kp (zpH (us:=[.ref a]) (vs:=[.ref a]) F hr hex hb I1 (.cons rfl .nil) q)
end
end L2
namespace VS
open PySem PySem.Spec PyProof.Rows L2
section
variable {X:Cx} {K:PySem.W.Frag} {E:XK} {k n:Nat} {f:Addr} {fd:FuncData} {ps:List Str} {df:List W->M W} {c m:Str} {pos apos cpos epos:Pos} {o:Expr} {d:Sl->M W} {h:ExceptHandler} {hd:Exn->DS} {ok:Exn->Bool}
theorem zlz{D:Ends}{σ:VS.St}{H:Hp}{put:Option Nat}{th:Value->TS}{F:Hp}{as:List Addr}{sl:Sl}{ce:Ce}(hh:∀D σ H F as sl ce (x:Exn),SR (Gy K) F as H σ sl ce->ok x=true->PostS (Gy K) E D F as (hd x sl ce)->th (.ref (clOf K x.nm)) D σ H)(S:SR (Gy K) F as H σ sl ce)(P:PostS (Gy K) E D F as (zh3 (za3 c m n df (zep d) (zep zan)) put ok hd sl ce)) :
  zau (Gy K) E0 d σ H fun x H1=>∃a dx fs,x=.ref a/\H1 a=some (.ins (clOf K c) dx fs)/\fs.lookup m=none/\spV (Gy K) (fun E=>E) n df [x] H1 (fun v H2=>D.nx (zsu put σ v) H2) (fun cls _ H'=>th cls D σ H'):=by
 refine(znt hh S P).mono fun x H1 h=>?_
 obtain⟨a,dx,fs,e1,e2,e3,h⟩:=h
 refine⟨a,dx,fs,e1,e2,e3,?_⟩
 obtain⟨F1,as1,sl1,ce1,S1,P1⟩:=h
 exact P1 [] H1 F1 as1 .refl S1 .nil
theorem zlA{pl:Sem Bool}(hst:X.stack=X.env::X.outer)(hf:X.env.frame=some X.env.locals)(hex:X.ex=[])(hc:L2.Cls X.K (clOf K c))(hm:L2.Meth X.K (clOf K c) m f)(Fk:FnOk X.prog X.w X.K X.mg X.base (CXx X.prog X.w) k f fd ps (spV (Gy K) (fun E=>E) n df))(hr:Room k X.A)(hb:Binds X.K fd ps [])(ho:PE X.nox o (zau (Gy K) E0 d))(hh:PHv K E X h ok hd)(ht:eval (.Call (.Attribute o m apos) [] [] cpos) X.env=(do
   let ov <- eval o X.env
   standAt apos.atName
   let (f,first) <- holding [ov] (getMethod ov m pl)
   callWith cpos f first (backTo cpos (starEach [] X.env)) (backToKw cpos (keywordEach [] X.env))):=by rfl)(hs:swapsWith (.Call (.Attribute o m apos) [] [] cpos) none epos.line X.env=pure false:=by rfl) :
  PS X (.Try [.Expr (.Call (.Attribute o m apos) [] [] cpos) epos] [h] [] [] pos) (toTS (Gy K) E (zh3 (za3 c m n df (zep d) (zep zan)) none ok hd)):=by
 obtain⟨th,hh1,hh2⟩:=hh
 exact PS.imp (zop hst hf hex (zpv (zly ho hc hm Fk hr hex hb ht) hs) hh1) fun D σ H zz_=>el6 zz_ fun F as sl ce S P=>zlz hh2 S P
end
end VS
namespace K19
open PySem PySem.Spec PyProof.Rows L2 VS
def XTB:XTb:=[("StoneError",true,["StoneError"]),("NoStand",true,["NoStand", "StoneError"]),("NoLay",true,["NoLay", "StoneError"]),("NoBreath",true,["NoBreath", "StoneError"]),("Again",false,["Again", "StoneError"]),("Over",true,["Over", "StoneError"]),("NoBack",true,["NoBack", "StoneError"])]
def d_aa(fu:Nat):List W->M W:=dFn finC 1
 (zbt (zqc (dBi zmU (zac (zae 0) (zac (dC (.ty "int")) zan))) (zq4 (dBi zmU (zac (zae 0) (zac (dC (.ty "bool")) zan))))))
def d_o(fu:Nat):List W->M W:=dFn finC 1
 (zbt (dOp zjL (dC (.int 3)) (zae 0)))
def zft(fu:Nat):DS :=
 (dIf (zeG (dB (zaO (zn7 true) (zae 6) (zae 3))) (dB (zaO (eqW false) (zaO ixW (zae 1) (zae 6)) (zaO ixW (zae 1) (zae 2))))) (zap (zka (zae 3) (zae 6) (dC (.bl true)))
 (dEx (dMt zdJ (zae 4) (zac (zae 6) zan)))) zaZ)
def zfu(fu:Nat):DS :=
 (zap (za6 5 (zmW zmX (zae 4)))
 (zcY (dIT (zaO ixW (zae 0) (zae 5))) (gN 6) (zft fu)))
def d_ca(fu:Nat):List W->M W:=dFn finO 7
 (zap (za6 3 (zhI (zae 2) (dC (.bl true))))
 (zap (za6 4 (zb9 (zac (zae 2) zan)))
 (zap (zcO (zkM (zae 4)) (zfu fu) fu)
 (zbt (dBi (za2 zgs) (zac (zae 3) zan))))))
def zgc(fu:Nat):DS :=
 (zka (zae 2) (zae 6) (dC (.bl true)))
def zgd(fu:Nat):DS :=
 (dIf (dB (zaO (zn7 true) (zae 4) (zae 2))) (zap (za6 5 (zaJ 3 (zdB (d_ca fu)) (zac (zae 0) (zac (zae 1) (zac (zae 4) zan)))))
 (zap (dEx (dMt zdJ (zae 3) (zac (zae 5) zan)))
 (zcY (dIL (zae 5)) (gN 6) (zgc fu)))) zaZ)
def d_ea(fu:Nat):List W->M W:=dFn finO 7
 (zap (za6 2 zgr)
 (zap (za6 3 (zb9 zan))
 (zap (zcY (zgu (zac (dBi zcq (zac (zae 0) zan)) zan)) (gN 4) (zgd fu))
 (zbt (zae 3)))))
def d_z(fu:Nat):List W->M W:=dFn finC 2
 (zap (dIf (zmM (zcE (dB (dBi zmU (zac (zae 1) (zac (dC (.ty "tuple")) zan))))) (dB (zaO (eqW true) (dBi zcq (zac (zae 1) zan)) (dBi zcq (zac (zae 0) zan))))) (zbt (dC (.bl false))) zaZ)
 (zbt (dBi zqd (zac (dLC zbs [] (dIT (zae 1)) zey (zep (zqc (zaJ 1 (d_aa fu) (zac (zae 0) zan)) (zhx (fun _=>fLe) (fun _=>fLe) (dC (.int 0)) (zae 0) (dC (.int 2)))))) zan))))
def d_ia(fu:Nat):List W->M W:=dFn finO 3
 (zbt (zaJ 3 (d_ca fu) (zac (zae 0) (zac (zae 1) (zac (zae 2) zan)))))
def d_ka(fu:Nat):List W->M W:=dFn finC 2
 (zbt (dLC zbs [1] (dIL (zaJ 2 (zdB (d_ea fu)) (zac (zae 0) (zac (zae 1) zan)))) (dB (zaO (eqW true) (zaO ixW (zae 1) (zaO ixW (zae 0) (dC (.int 0)))) (dC (.int 0)))) (zae 0)))
def zcS(fu:Nat):DS :=
 (zka (zae 2) (zae 4) (dC (.bl true)))
def zcT(fu:Nat):DS :=
 (zcY (dIT (zaO ixW (zae 0) (zae 3))) (gN 4) (zcS fu))
def d_d(fu:Nat):List W->M W:=dFn finO 5
 (zap (za6 2 zgr)
 (zap (zcY (dIL (zae 1)) (gN 3) (zcT fu))
 (zbt (dBi (za2 zgs) (zac (zae 2) zan)))))
def d_ga(fu:Nat):List W->M W:=dFn finO 3
 (zbt (dLC zgs [1] (dIL (zaJ 2 (zdB (d_d fu)) (zac (zae 0) (zac (zae 2) zan)))) (dB (zaO (eqW false) (zaO ixW (zae 1) (zae 0)) (dC (.int 0)))) (zae 0)))
def d_ba(fu:Nat):List W->M W:=dFn finC 2
 (zbt (dBi zqd (zac (dLC zbs [0,1] (dIL (zaJ 2 (d_ka fu) (zac (zae 0) (zac (zae 1) zan)))) zey (zep (dOp fGt (dBi zcq (zac (zaJ 3 (zdB (d_ga fu)) (zac (zae 1) (zac (zae 2) (zac (zae 0) zan)))) zan)) (dC (.int 0))))) zan)))
def zhS(fu:Nat):DS :=
 (zk1 (zae 2) (zgt (zae 3) (zae 4)))
def d_ha(fu:Nat):List W->M W:=dFn finC 5
 (zap (za6 3 (dBi (zek zgs) (zac (zae 0) zan)))
 (zap (zcY (dIL (zae 1)) (gN 4) (zhS fu))
 (zbt (dBi zbX (zac (zae 3) zan)))))
def zdV(fu:Nat):DS :=
 (dIf (zeG (dB (zaO (eqW false) (zaO ixW (zae 1) (zaO ixW (zae 4) (dC (.int 0)))) (zae 2))) (zcE (zkM (zaJ 3 (zdB (d_ga fu)) (zac (zae 0) (zac (zae 1) (zac (zae 4) zan))))))) (dEx (dMt zrg (zae 3) (zac (zae 4) zan))) zaZ)
def d_s(fu:Nat):List W->M W:=dFn finO 5
 (zap (za6 3 (zb9 zan))
 (zap (zcY (dIL (zaJ 2 (d_ka fu) (zac (zae 0) (zac (zae 1) zan)))) (gN 4) (zdV fu))
 (zbt (dBi (za2 zgs) (zac (zae 3) zan)))))
def d_ja(fu:Nat):List W->M W:=dFn finC 7
 (zap (dIf (dB (zaO (eqW true) (zaO ixW (zae 1) (zae 3)) (dC (.int 0)))) (zbG "NoLay" [3]) zaZ)
 (zap (za6 4 (zaJ 3 (d_ha fu) (zac (zae 1) (zac (zh2 (zac (zae 3) zan)) (zac (zae 2) zan)))))
 (zap (za6 5 (zaJ 3 (zdB (d_s fu)) (zac (zae 0) (zac (zae 4) (zac (zaJ 1 (d_o fu) (zac (zae 2) zan)) zan)))))
 (zap (za6 6 (zaJ 3 (d_ha fu) (zac (zae 4) (zac (zae 5) (zac (dC (.int 0)) zan)))))
 (zap (dIf (zcE (zkM (zaJ 3 (zdB (d_ga fu)) (zac (zae 0) (zac (zae 6) (zac (zaJ 3 (zdB (d_ia fu)) (zac (zae 0) (zac (zae 6) (zac (zae 3) zan)))) zan)))))) (zbG "NoBreath" [3]) zaZ)
 (zbt (zf1 (zac (zae 6) (zac (zae 5) zan)))))))))
def zge(fu:Nat):DS :=
 (zap (zh3 (zaJ 4 (d_ja fu) (zep (zac (zae 0) (zac (zae 1) (zac (zae 2) (zac (zae 5) zan)))))) (some 6) (fun x=>zcb XTB "NoLay" x||zcb XTB "NoBreath" x) (fun _=>zst zt2))
 (dEx (dMt zdJ (zae 4) (zac (zf1 (zac (zae 5) (zac (zaO ixW (zae 6) (dC (.int 0))) (zac (zaO ixW (zae 6) (dC (.int 1))) zan)))) zan))))
def d_fa(fu:Nat):List W->M W:=dFn finO 7
 (zap (za6 4 (zb9 zan))
 (zap (zcY (dIL (zae 3)) (gN 5) (zge fu))
 (zbt (zae 4))))
def zdt(fu:Nat):DS :=
 (zap (za6 3 (dOp zco (dOp zc2 (dOp zc2 (dOp zgn (zae 3) (zae 3)) (dOp zgn (dC (.int 48271)) (zae 3))) (zae 4)) (dC (.int 2147483647))))
 (dEx (dMt zdJ (zae 2) (zac (zae 3) zan))))
def d_k(fu:Nat):List W->M W:=dFn finC 5
 (zap (za6 2 (zb9 zan))
 (zap (za6 3 (dOp zc2 (dOp zco (zae 0) (dC (.int 2147483647))) (dC (.int 48271))))
 (zap (zcY (zgu (zac (dOp zc2 (zae 1) (dC (.int 1))) zan)) (gN 4) (zdt fu))
 (zbt (dSl zbs (zae 2) (zbY (dC (.int 1))) zbo)))))
def zdu(fu:Nat):DS :=
 (zap (dEx (dMt zdJ (zaO ixW (zae 2) (zae 3)) (zac (zae 4) zan)))
 (dEx (dMt zdJ (zaO ixW (zae 2) (zae 4)) (zac (zae 3) zan))))
def d_j(fu:Nat):List W->M W:=dFn finC 5
 (zap (za6 2 (dLC zbs [] (zgu (zac (zae 0) zan)) zey (zb9 zan)))
 (zap (zcY (dIL (zae 1)) (gT 2 (zex (gN 3) (zex (gN 4) zmQ))) (zdu fu))
 (zbt (dBi zbX (zac (dLC zbs [] (dIL (zae 2)) zey (dBi zbX (zac (dBi (za2 zbs) (zac (zae 0) zan)) zan))) zan)))))
def zdW(fu:Nat):DS :=
 (dIf (dB (dOp fLt (dOp zco (zaO ixW (zae 5) (dOp zc2 (dOp zgn (zae 6) (zae 2)) (zae 7))) (dC (.int 5))) (dOp zco (zaO ixW (zae 0) (dC (.int 1))) (dC (.int 4))))) (dEx (dMt zdJ (zae 3) (zac (zf1 (zac (zae 7) (zac (zae 6) zan))) zan))) zaZ)
def zdX(fu:Nat):DS :=
 (zcY (zgu (zac (zae 6) zan)) (gN 7) (zdW fu))
def d_t(fu:Nat):List W->M W:=dFn zra 8
 (zap (dIf (dB (dOp zf5 (dOp zco (zaO ixW (zae 0) (dC (.int 1))) (dC (.int 4))) (dC (.int 0)))) (zap (za6 1 (dOp zc2 (dC (.int 1)) (dOp zco (zaO ixW (zae 0) (dC (.int 0))) (dC (.int 4)))))
 (zap (za6 2 (dOp zgn (zae 1) (dOp zc2 (dC (.int 1)) (dOp zco (zaO ixW (zae 0) (dC (.int 2))) (dC (.int 4))))))
 (zap (dIf (dB (dOp zf5 (dOp zco (dOp zn3 (zaO ixW (zae 0) (dC (.int 2))) (dC (.int 4))) (dC (.int 9))) (dC (.int 0)))) (zap (za6 1 (dOp zc2 (dC (.int 3)) (dOp zco (zaO ixW (zae 0) (dC (.int 0))) (dC (.int 4)))))
 (za6 2 (dOp zgn (dC (.int 6)) (zae 1)))) zaZ)
 (zap (za6 3 (dLC zgs [1] (zgu (zac (dOp zjL (zae 2) (zae 1)) zan)) zey (zf1 (zac (zae 0) (zac (dOp zc2 (zae 0) (zae 1)) zan)))))
 (zap (za6 4 (dLC zbs [1] (zgu (zac (dOp zjL (zae 2) (dC (.int 1))) zan)) (dB (dOp fGt (dOp zco (dOp zc2 (zae 0) (dC (.int 1))) (zae 1)) (dC (.int 0)))) (zae 0)))
 (zbt (zf1 (zac (zae 2) (zac (zk0 zbs (zae 3) (dLC zbs [] (dIL (zae 4)) zey (zf1 (zac (zae 0) (zac (dOp zc2 (zae 0) (dC (.int 1))) zan))))) zan))))))))) zaZ)
 (zap (za6 2 (dOp zc2 (dC (.int 1)) (dOp zco (zaO ixW (zae 0) (dC (.int 0))) (zaO ixW (zh2 (zac (dC (.int 0)) (zac (dC (.int 7)) (zac (dC (.int 9)) (zac (dC (.int 5)) zan))))) (dOp zco (zaO ixW (zae 0) (dC (.int 1))) (dC (.int 4)))))))
 (zap (za6 3 (dLC zgs [] (zgu (zac (dOp zjL (zae 2) (dC (.int 1))) zan)) zey (zf1 (zac (zae 0) (zac (dOp zc2 (zae 0) (dC (.int 1))) zan)))))
 (zap (dIf (zeG (dB (dOp zf5 (dOp zco (zaO ixW (zae 0) (dC (.int 1))) (dC (.int 4))) (dC (.int 1)))) (zeG (dB (dOp fGt (zae 2) (dC (.int 2)))) (dB (dOp zf5 (dOp zco (zaO ixW (zae 0) (dC (.int 2))) (dC (.int 2))) (dC (.int 0)))))) (dEx (dMt zdJ (zae 3) (zac (zf1 (zac (dC (.int 0)) (zac (dOp zjL (zae 2) (dC (.int 1))) zan))) zan))) zaZ)
 (zap (dIf (dB (dOp fGt (dOp zco (zaO ixW (zae 0) (dC (.int 1))) (dC (.int 4))) (dC (.int 1)))) (zap (za6 5 (zaJ 2 (d_k fu) (zac (zaO ixW (zae 0) (dC (.int 2))) (zac (dOp zgn (zae 2) (zae 2)) zan))))
 (zap (za6 3 (zb9 zan))
 (zcY (zgu (zac (zae 2) zan)) (gN 6) (zdX fu)))) zaZ)
 (zbt (zf1 (zac (zae 2) (zac (zae 3) zan)))))))))
def zfv(fu:Nat):DS :=
 (dIf (zeG (dB (dOp zf5 (zaO ixW (zae 1) (zae 5)) (zaO ixW (zae 1) (zae 2)))) (dB (zaO (inW true) (zae 5) (zae 3)))) (dEx (dMt zdJ (zae 3) (zac (zae 5) zan))) zaZ)
def zfw(fu:Nat):DS :=
 (zap (zcY (dIT (zaO ixW (zae 0) (zaO ixW (zae 3) (zae 4)))) (gN 5) (zfv fu))
 (za6 4 (dOp zc2 (zae 4) (dC (.int 1)))))
def d_da(fu:Nat):List W->M W:=dFn finO 6
 (zap (za6 3 (zb9 (zac (zae 2) zan)))
 (zap (za6 4 (dC (.int 0)))
 (zap (zcO (dB (dOp fLt (zae 4) (dBi zcq (zac (zae 3) zan)))) (zfw fu) fu)
 (zbt (zae 3)))))
def zdb(fu:Nat):DS :=
 (dIf (dB (dOp zf5 (zaO ixW (zae 1) (zae 5)) (dC (.int 0)))) (zka (zae 3) (zae 5) (dC (.bl true))) zaZ)
def zdc(fu:Nat):DS :=
 (zcY (dIT (zaO ixW (zae 0) (zae 4))) (gN 5) (zdb fu))
def d_g(fu:Nat):List W->M W:=dFn finO 6
 (zap (za6 3 zgr)
 (zap (zcY (dIL (zae 2)) (gN 4) (zdc fu))
 (zbt (dBi (za2 zgs) (zac (dBi (zek zbs) (zac (zae 3) zan)) zan)))))
def zdY(fu:Nat):DS :=
 (zk1 (dC (.int 0)) (zgt (zae 10) (zae 9)))
def zdZ(fu:Nat):DS :=
 (zka (zae 4) (zae 9) (dC (.bl true)))
def zd0(fu:Nat):DS :=
 (zka (zae 5) (zae 9) (dC (.bl true)))
def zd1(fu:Nat):DS :=
 (dIf (dB (dOp zf5 (zaO ixW (zae 1) (zae 6)) (dC (.int 0)))) (zka (zae 5) (zae 6) (dC (.bl true))) (zap (za6 7 (zaJ 3 (zdB (d_da fu)) (zac (zae 0) (zac (zae 1) (zac (zae 6) zan)))))
 (zap (za6 8 (zaJ 3 (d_g fu) (zac (zae 0) (zac (zae 1) (zac (zae 7) zan)))))
 (zap (dEx (dMt zrY (zae 8) (zac (zae 3) zan)))
 (dIf (dB (dOp zf5 (zaO ixW (zae 1) (zae 6)) (zae 2))) (zcY (dIL (zae 8)) (gN 9) (zd0 fu)) (dIf (dB (zaO (eqW false) (zae 8) (zh2 zan))) (zcY (dIL (zae 7)) (gN 9) (zdZ fu)) zaZ))))))
def d_u(fu:Nat):List W->M W:=dFn finC 11
 (zap (dIf (dB (dOp zqe (zaO ixW (zae 1) (zae 3)) (dC (.int 0)))) (zbt (dC (.str "lay"))) zaZ)
 (zap (za6 4 zgr)
 (zap (za6 5 zgr)
 (zap (zcY (dIT (zaO ixW (zae 0) (zae 3))) (gN 6) (zd1 fu))
 (zap (dIf (zeG (dB (dOp zf5 (dBi zcq (zac (zae 5) zan)) (dC (.int 0)))) (dB (dOp zf5 (dBi zcq (zac (zae 4) zan)) (dC (.int 0))))) (zbt (dC (.str "breath"))) zaZ)
 (zap (za6 10 (dBi (zek zgs) (zac (zae 1) zan)))
 (zap (zcY (dID (zae 4)) (gN 9) (zdY fu))
 (zap (zk1 (zae 2) (zgt (zae 10) (zae 3)))
 (zbt (zf1 (zac (dBi zbX (zac (zae 10) zan)) (zac (dBi (za2 zbs) (zac (dBi (zek zbs) (zac (zae 4) zan)) zan)) zan))))))))))))
def zd2(fu:Nat):DS :=
 (zap (za6 6 (dOp zco (dOp zc2 (zaO ixW (zae 4) (dC (.int 0))) (dOp zgn (dC (.int 7)) (zae 5))) (dBi zcq (zac (zae 0) zan))))
 (zap (za6 7 (zaJ 4 (d_u fu) (zac (zae 0) (zac (zae 2) (zac (dOp zc2 (dC (.int 1)) (dOp zco (dOp zc2 (zaO ixW (zae 4) (dC (.int 1))) (zae 5)) (dC (.int 2)))) (zac (zae 6) zan))))))
 (dIf (dB (dBi zmU (zac (zae 7) (zac (dC (.ty "tuple")) zan)))) (za6 2 (zaO ixW (zae 7) (dC (.int 0)))) zaZ)))
def zd3(fu:Nat):DS :=
 (zap (za6 4 (zaJ 2 (d_k fu) (zac (zae 3) (zac (dC (.int 3)) zan))))
 (zcY (zgu (zac (dOp zc2 (dC (.int 1)) (dOp zco (zaO ixW (zae 4) (dC (.int 2))) (dC (.int 3)))) zan)) (gN 5) (zd2 fu)))
def d_m(fu:Nat):List W->M W:=dFn finC 8
 (zap (za6 2 (dBi zbX (zac (dLC zbs [] (dIT (zae 0)) zey (dC (.int 0))) zan)))
 (zap (zcY (dIL (zae 1)) (gN 3) (zd3 fu))
 (zbt (zae 2))))
def d_n(fu:Nat):List W->M W:=dFn finC 1
 (zbt (zaO ixW (zcX "Game" "past" (zae 0)) (dUn zmH (dC (.int 1)))))
def d_f(fu:Nat):List W->M W:=dFn finC 2
 (zbt (zq5 (dB (zaO (eqW false) (dOp zco (zae 1) (dC (.int 2))) (dC (.int 0)))) (zcX "Game" "first" (zae 0)) (zaJ 1 (d_o fu) (zac (zcX "Game" "first" (zae 0)) zan))))
def d_x(fu:Nat):List W->M W:=dFn finC 1
 (zbt (za3 "Game" "hand_at" 2 (d_f fu) (zae 0) (zac (dBi zcq (zac (zcX "Game" "done" (zae 0)) zan)) zan)))
def d_l(fu:Nat):List W->M W:=dFn finC 1
 (zbt (dBi (zek zbs) (zac (zcX "Game" "past" (zae 0)) zan)))
def d_p(fu:Nat):List W->M W:=dFn finC 1
 (zbt (dBi (zek zbs) (zac (zcX "Game" "done" (zae 0)) zan)))
def d_q(fu:Nat):List W->M W:=dFn finC 1
 (zap (dIf (dB (zaO (eqW false) (dSl zbs (zcX "Game" "done" (zae 0)) (zbY (dUn zmH (dC (.int 2)))) zbo) (zh2 (zac (dC .non) (zac (dC .non) zan))))) (zbt (dC (.str "passed"))) zaZ)
 (zap (dIf (dB (dOp fGe (dBi zcq (zac (zcX "Game" "done" (zae 0)) zan)) (dC (.int 300)))) (zbt (dC (.str "long"))) zaZ)
 (zbt (dC .non))))
def d_b(fu:Nat):List W->M W:=dFn finC 2
 (zbt (dOr (zaO (eqW false) (zcX "Game" "barring" (zae 0)) (dC (.str "stones"))) (zaO (eqW false) (za3 "Game" "hand_at" 2 (d_f fu) (zae 0) (zac (zae 1) zan)) (zaJ 1 (d_o fu) (zac (za3 "Game" "hand" 1 (d_x fu) (zae 0) zan) zan)))))
def zdd(fu:Nat):DS :=
 (dIf (zeG (dB (zaO (eqW false) (zaO ixW (zcX "Game" "past" (zae 0)) (zae 2)) (zae 1))) (dB (za3 "Game" "is_barring" 2 (d_b fu) (zae 0) (zac (zae 2) zan)))) (zbt (zae 2)) zaZ)
def d_h(fu:Nat):List W->M W:=dFn finC 3
 (zap (zcY (zgu (zac (dBi zcq (zac (zcX "Game" "past" (zae 0)) zan)) zan)) (gN 2) (zdd fu))
 (zbt (dC .non)))
def d_a(fu:Nat):List W->M W:=dFn finO 3
 (zap (dIf (dB (dUn zcD (za3 "Game" "ended" 1 (d_q fu) (zae 0) zan))) (zbt (zb9 zan)) zaZ)
 (zap (za6 1 (zaJ 4 (zdB (d_fa fu)) (zac (zcX "Game" "joined" (zae 0)) (zac (za3 "Game" "stand" 1 (d_n fu) (zae 0) zan) (zac (za3 "Game" "hand" 1 (d_x fu) (zae 0) zan) (zac (dBi (zjS zbs) (zac (dBi zcq (zac (zcX "Game" "joined" (zae 0)) zan)) zan)) zan))))))
 (zap (za6 2 (dLC zgs [0] (dIL (zae 1)) (zep (dB (dUn ztf (za3 "Game" "came_at" 2 (d_h fu) (zae 1) (zac (zaO ixW (zae 0) (dC (.int 1))) zan))))) (zaO ixW (zae 0) (dC (.int 0)))))
 (zap (dEx (dMt zdJ (zae 2) (zac (dC .non) zan)))
 (zbt (zae 2))))))
def d_v(fu:Nat):List W->M W:=dFn finC 2
 (zbt (dBi zr0 (zac (dLC zbs [0,1] (zgu (zac (dBi zcq (zac (zcX "Game" "done" (zae 0)) zan)) zan)) (zep (dB (zaO (eqW true) (za3 "Game" "hand_at" 2 (d_f fu) (zae 1) (zac (zae 0) zan)) (zae 2)))) (zaO ixW (zcX "Game" "takings" (zae 1)) (zae 0))) zan)))
def d_r(fu:Nat):List W->M W:=dFn finC 2
 (zap (za6 1 (zh2 (zac (za3 "Game" "stand" 1 (d_n fu) (zae 0) zan) (zac (za3 "Game" "hand" 1 (d_x fu) (zae 0) zan) (zac (za3 "Game" "stands" 1 (d_l fu) (zae 0) zan) (zac (za3 "Game" "deeds" 1 (d_p fu) (zae 0) zan) (zac (za3 "Game" "open_deeds" 1 (zdB (d_a fu)) (zae 0) zan) zan)))))))
 (zbt (zk0 zbs (zae 1) (zh2 (zac (za3 "Game" "lost" 2 (d_v fu) (zae 0) (zac (dC (.int 1)) zan)) (zac (za3 "Game" "lost" 2 (d_v fu) (zae 0) (zac (dC (.int 2)) zan)) (zac (za3 "Game" "ended" 1 (d_q fu) (zae 0) zan) zan)))))))
def d_w(fu:Nat):List W->M W:=dFn finC 1
 (zap (dIf (zcE (zkM (zcX "Game" "done" (zae 0)))) (zbG "NoBack" []) zaZ)
 (zap (dEx (zmW zmX (zcX "Game" "past" (zae 0))))
 (zap (dEx (zmW zmX (zcX "Game" "done" (zae 0))))
 (dEx (zmW zmX (zcX "Game" "takings" (zae 0)))))))
def d_i(fu:Nat):List W->M W:=dFn finC 3
 (zap (za6 1 (dC .non))
 (zap (zh3 (za3 "Game" "back" 1 (d_w fu) (zep (zae 0)) (zep zan)) none (zcb XTB "StoneError") (dAs 2 (za6 1 (zae 2))))
 (zap (dIf (zmM (zcE (dB (znl (fun ce w=>zrT XTB ce w "NoBack") (zae 1)))) (zcE (dB (znl (fun ce w=>zrU XTB ce w) (zae 1))))) (zbt (dC (.bl false))) zaZ)
 (zbt (zq4 (znl (fun ce w=>zrV XTB ce w ["Again", "NoBreath", "NoLay", "NoStand", "Over"]) (zae 1)))))))
def zcx(fu:Nat):DS :=
 (dIf (dB (dOp zf5 (dBi zcq (zac (zae 1) zan)) (dC (.int 1)))) (dIf (zmM (zcE (dB (zaJ 1 (d_i fu) (zac (zae 0) zan)))) (dB (zaO (eqD true) (zaJ 1 (d_r fu) (zac (zae 0) zan)) (zaO ixW (zae 1) (dC (.int 0)))))) (zbt (dC (.bl false))) zaZ) (zap (dIf (dB (dUn zcD (za3 "Game" "back" 1 (d_w fu) (zae 0) zan))) (zbt (dC (.bl false))) zaZ)
 (zap (dEx (zmW zmX (zae 1)))
 (dIf (dB (zaO (eqD true) (zaJ 1 (d_r fu) (zac (zae 0) zan)) (zaO ixW (zae 1) (dUn zmH (dC (.int 1)))))) (zbt (dC (.bl false))) zaZ))))
def d_c(fu:Nat):List W->M W:=dFn finC 4
 (zap (zcY (zgu (zac (zae 2) zan)) (gN 3) (zcx fu))
 (zbt (dC (.bl true))))
def d_e(fu:Nat):List W->M W:=dFn zra 5
 (zap (dIf (zcE (dB (zaJ 2 (d_z fu) (zac (zae 1) (zac (zae 3) zan))))) (zbG "NoStand" []) zaZ)
 (zap (dIf (zcE (dB (zaJ 2 (d_ba fu) (zac (zae 1) (zac (zae 3) zan))))) (zbG "NoStand" []) zaZ)
 (zap (zfr "Game" "joined" (zae 0) (zae 1))
 (zap (zfr "Game" "barring" (zae 0) (zae 2))
 (zap (zfr "Game" "first" (zae 0) (zae 4))
 (zap (zfr "Game" "past" (zae 0) (zb9 (zac (zae 3) zan)))
 (zap (zfr "Game" "done" (zae 0) (zb9 zan))
 (zfr "Game" "takings" (zae 0) (zb9 zan)))))))))
def d_y(fu:Nat):List W->M W:=dFn finC 6
 (zap (dIf (dB (dUn zcD (za3 "Game" "ended" 1 (d_q fu) (zae 0) zan))) (zbG "Over" []) zaZ)
 (zap (za6 2 (za3 "Game" "stand" 1 (d_n fu) (zae 0) zan))
 (zap (za6 3 (dC (.int 0)))
 (zap (dIf (dB (dUn zcD (zae 1))) (zap (za6 4 (zaJ 4 (d_ja fu) (zac (zcX "Game" "joined" (zae 0)) (zac (zae 2) (zac (za3 "Game" "hand" 1 (d_x fu) (zae 0) zan) (zac (zae 1) zan))))))
 (zap (za6 2 (zaO ixW (zae 4) (dC (.int 0))))
 (zap (za6 3 (dBi zcq (zac (zaO ixW (zae 4) (dC (.int 1))) zan)))
 (zap (za6 5 (za3 "Game" "came_at" 2 (d_h fu) (zae 0) (zac (zae 2) zan)))
 (dIf (dB (dUn zcD (zae 5))) (zbG "Again" [5]) zaZ))))) zaZ)
 (zap (dEx (dMt zdJ (zcX "Game" "past" (zae 0)) (zac (zae 2) zan)))
 (zap (dEx (dMt zdJ (zcX "Game" "done" (zae 0)) (zac (zae 1) zan)))
 (dEx (dMt zdJ (zcX "Game" "takings" (zae 0)) (zac (zae 3) zan)))))))))
def zot(fu:Nat):DS :=
 (dEx (za3 "Game" "deed" 2 (d_y fu) (zae 7) (zac (zae 13) zan)))
def zou(fu:Nat):DS :=
 (zap (za6 10 (zaO ixW (zaO ixW (zae 8) (dUn zmH (dC (.int 1)))) (dC (.int 4))))
 (dIf (zmM (dB (dOp zf5 (dOp zco (zae 9) (dC (.int 3))) (dC (.int 0)))) (dB (zaO (eqW false) (zae 10) (zh2 zan)))) (dIf (zcE (dB (zaJ 3 (d_c fu) (zac (zae 7) (zac (zae 8) (zac (dOp zc2 (dC (.int 1)) (dOp zco (dOp zn3 (zae 9) (dC (.int 3))) (dC (.int 4)))) zan)))))) (zbt (dC (.bl false))) zaZ) (dIf (dB (dUn zcD (za3 "Game" "deed" 2 (d_y fu) (zae 7) (zac (zaO ixW (zae 10) (dOp zco (dOp zn3 (zae 9) (dC (.int 3))) (dBi zcq (zac (zae 10) zan)))) zan)))) (zbt (dC (.bl false))) (dEx (dMt zdJ (zae 8) (zac (zaJ 1 (d_r fu) (zac (zae 7) zan)) zan))))))
def d_law(fu:Nat):List W->M W:=dFn finC 14
 (zap (za6 1 (zaJ 2 (d_k fu) (zac (zaO ixW (zk0 zbs (zae 0) (zh2 (zac (dC (.int 0)) zan))) (dC (.int 0))) (zac (dC (.int 50)) zan))))
 (zap (zk1 (zaJ 1 (zqf (d_t fu)) (zac (zae 1) zan)) (gT 2 (zex (gN 2) (zex (gN 3) zmQ))))
 (zap (za6 4 (zaJ 2 (d_j fu) (zac (zae 2) (zac (zae 3) zan))))
 (zap (za6 5 (zaJ 2 (d_m fu) (zac (zae 4) (zac (dSl zbs (zk0 zbs (dSl zbs (zae 0) (zbY (dC (.int 31))) (zbY (dC (.int 43)))) (dSl zbs (zae 1) (zbY (dC (.int 40))) zbo)) zbo (zbY (dOp zco (zaO ixW (zae 1) (dC (.int 6))) (dC (.int 12))))) zan))))
 (zap (za6 6 (zaO ixW (zh2 (zac (dC (.str "stones")) (zac (dC (.str "turns")) zan))) (dOp zco (zaO ixW (zae 1) (dC (.int 3))) (dC (.int 2)))))
 (zap (za6 7 (znq "Game" 5 (d_e fu) (zac (zae 4) (zac (zae 6) (zac (zae 5) (zac (dOp zc2 (dC (.int 1)) (dOp zco (zaO ixW (zae 1) (dC (.int 5))) (dC (.int 2)))) zan))))))
 (zap (za6 8 (zb9 (zac (zaJ 1 (d_r fu) (zac (zae 7) zan)) zan)))
 (zap (dIf (zcE (dB (zaJ 3 (d_c fu) (zac (zae 7) (zac (zae 8) (zac (dC (.int 1)) zan)))))) (zbt (dC (.bl false))) zaZ)
 (zap (zcY (dIL (dSl zbs (zk0 zbs (dSl zbs (zae 0) (zbY (dC (.int 1))) (zbY (dC (.int 31)))) (dSl zbs (zae 1) (zbY (dC (.int 8))) zbo)) zbo (zbY (dOp zco (zaO ixW (zae 1) (dC (.int 4))) (dC (.int 31)))))) (gN 9) (zou fu))
 (zap (za6 11 (za3 "Game" "deeds" 1 (d_p fu) (zae 7) zan))
 (zap (za6 12 (zaJ 1 (d_r fu) (zac (zae 7) zan)))
 (zap (dIf (zcE (dB (zaJ 3 (d_c fu) (zac (zae 7) (zac (zae 8) (zac (dOp zc2 (dBi zcq (zac (zae 11) zan)) (dC (.int 1))) zan)))))) (zbt (dC (.bl false))) zaZ)
 (zap (zcY (dIL (zae 11)) (gN 13) (zot fu))
 (zbt (zaO (eqD false) (zaJ 1 (d_r fu) (zac (zae 7) zan)) (zae 12))))))))))))))))
def top(i:Nat):Stmt:=PySem.Challenge.pw_stonebreath_k19_taken_back.main.body.getD i (.Pass ⟨0,0,0,0⟩)
def zd4(s:Stmt)(j:Nat):Stmt:=match s with
 | .ClassDef _ _ _ b _ _ _ _ _ _ _=>b.getD j (.Pass ⟨0,0,0,0⟩)
 | _=>.Pass ⟨0,0,0,0⟩
abbrev zb4:Stmt:=top 1
abbrev zbv:Stmt:=top 2
abbrev zb5:Stmt:=top 3
abbrev zcy:Stmt:=top 4
abbrev zbM:Stmt:=top 14
abbrev zeq:Stmt:=top 15
abbrev zfx:Stmt:=top 16
abbrev zcc:Stmt:=top 17
abbrev za4:Stmt:=top 18
abbrev zbN:Stmt:=top 19
abbrev zgf:Stmt:=top 21
abbrev zcz:Stmt:=top 22
abbrev zdn:Stmt:=top 23
abbrev zbw:Stmt:=top 24
abbrev zbk:Stmt:=top 29
abbrev za0:Stmt:=top 30
abbrev zaS:Stmt:=top 31
abbrev zb6:Stmt:=top 32
abbrev zbc:Stmt:=top 33
abbrev zbx:Stmt:=top 34
abbrev zbi:Stmt:=top 35
abbrev zby:Stmt:=top 36
abbrev zbd:Stmt:=top 37
abbrev zaW:Stmt:=top 38
abbrev zjV:Stmt:=top 39
abbrev za5:Stmt:=zd4 (top 27) 0
abbrev zbO:Stmt:=zd4 (top 27) 1
abbrev zbe:Stmt:=zd4 (top 27) 2
abbrev zaT:Stmt:=zd4 (top 27) 3
abbrev zbP:Stmt:=zd4 (top 27) 4
abbrev zbz:Stmt:=zd4 (top 27) 5
abbrev zbQ:Stmt:=zd4 (top 27) 6
abbrev zbf:Stmt:=zd4 (top 27) 7
abbrev zbl:Stmt:=zd4 (top 27) 8
abbrev zbA:Stmt:=zd4 (top 27) 9
abbrev zaN:Stmt:=zd4 (top 27) 10
abbrev zbq:Stmt:=zd4 (top 27) 11
abbrev zbB:Stmt:=zd4 (top 27) 12
theorem ziw:FnScope ["thing"] ["thing"] (zaf zb4):=⟨rfl,rfl,rfl,by decide +kernel,rfl,by decide +kernel,by decide +kernel⟩
theorem zgQ:FnScope ["hand"] ["hand"] (zaf zbv):=⟨rfl,rfl,rfl,by decide +kernel,rfl,by decide +kernel,by decide +kernel⟩
theorem sc_ca:FnScope ["board", "marks", "start", "found", "waiting", "point", "beside"] ["board", "marks", "start"] (zaf zb5):=⟨rfl,rfl,rfl,by decide +kernel,rfl,by decide +kernel,by decide +kernel⟩
theorem sc_ea:FnScope ["board", "marks", "met", "found", "start", "points", "point"] ["board", "marks"] (zaf zcy):=⟨rfl,rfl,rfl,by decide +kernel,rfl,by decide +kernel,by decide +kernel⟩
theorem zix:FnScope ["board", "thing"] ["board", "thing"] (zaf zbM):=⟨rfl,rfl,rfl,by decide +kernel,rfl,by decide +kernel,by decide +kernel⟩
theorem znz:FnScope ["board", "stand", "point"] ["board", "stand", "point"] (zaf zeq):=⟨rfl,rfl,rfl,by decide +kernel,rfl,by decide +kernel,by decide +kernel⟩
theorem zpS:FnScope ["board", "stand"] ["board", "stand"] (zaf zfx):=⟨rfl,rfl,rfl,by decide +kernel,rfl,by decide +kernel,by decide +kernel⟩
theorem sc_d:FnScope ["board", "points", "found", "point", "beside"] ["board", "points"] (zaf za4):=⟨rfl,rfl,rfl,by decide +kernel,rfl,by decide +kernel,by decide +kernel⟩
theorem zjW:FnScope ["board", "stand", "row"] ["board", "stand", "row"] (zaf zcc):=⟨rfl,rfl,rfl,by decide +kernel,rfl,by decide +kernel,by decide +kernel⟩
theorem ziy:FnScope ["board", "stand"] ["board", "stand"] (zaf zbN):=⟨rfl,rfl,rfl,by decide +kernel,rfl,by decide +kernel,by decide +kernel⟩
theorem sc_ha:FnScope ["stand", "points", "what", "changed", "point"] ["stand", "points", "what"] (zaf zdn):=⟨rfl,rfl,rfl,by decide +kernel,rfl,by decide +kernel,by decide +kernel⟩
theorem sc_s:FnScope ["board", "stand", "hand", "found", "row"] ["board", "stand", "hand"] (zaf zbw):=⟨rfl,rfl,rfl,by decide +kernel,rfl,by decide +kernel,by decide +kernel⟩
theorem sc_ja:FnScope ["board", "stand", "hand", "point", "full", "taken", "behind"] ["board", "stand", "hand", "point"] (zaf zgf):=⟨rfl,rfl,rfl,by decide +kernel,rfl,by decide +kernel,by decide +kernel⟩
theorem sc_fa:FnScope ["board", "stand", "hand", "points", "found", "point", "told"] ["board", "stand", "hand", "points"] (zaf zcz):=⟨rfl,rfl,rfl,by decide +kernel,rfl,by decide +kernel,by decide +kernel⟩
theorem sc_k:FnScope ["_law_cell", "_law_many", "_law_found", "_law_number", "_law_k"] ["_law_cell", "_law_many"] (zaf zbk):=⟨rfl,rfl,rfl,by decide +kernel,rfl,by decide +kernel,by decide +kernel⟩
theorem sc_j:FnScope ["_law_many", "_law_lines_here", "_law_joined_here", "_law_one", "_law_other"] ["_law_many", "_law_lines_here"] (zaf za0):=⟨rfl,rfl,rfl,by decide +kernel,rfl,by decide +kernel,by decide +kernel⟩
theorem sc_t:FnScope ["_law_xs", "_law_wide", "_law_many", "_law_lines_here", "_law_beside", "_law_ys", "_law_one", "_law_other"] ["_law_xs"] (zaf zaS):=⟨rfl,rfl,rfl,by decide +kernel,rfl,by decide +kernel,by decide +kernel⟩
theorem sc_da:FnScope ["_law_board", "_law_stand", "_law_point", "_law_found", "_law_at", "_law_other"] ["_law_board", "_law_stand", "_law_point"] (zaf zb6):=⟨rfl,rfl,rfl,by decide +kernel,rfl,by decide +kernel,by decide +kernel⟩
theorem sc_g:FnScope ["_law_board", "_law_stand", "_law_row_here", "_law_found", "_law_point", "_law_other"] ["_law_board", "_law_stand", "_law_row_here"] (zaf zbc):=⟨rfl,rfl,rfl,by decide +kernel,rfl,by decide +kernel,by decide +kernel⟩
theorem sc_u:FnScope ["_law_board", "_law_stand", "_law_hand", "_law_point", "_law_taken", "_law_breath", "_law_other", "_law_row_here", "_law_left", "_law_one", "_law_there"] ["_law_board", "_law_stand", "_law_hand", "_law_point"] (zaf zbx):=⟨rfl,rfl,rfl,by decide +kernel,rfl,by decide +kernel,by decide +kernel⟩
theorem sc_m:FnScope ["_law_board", "_law_cells", "_law_stand", "_law_cell", "_law_xs", "_law_k", "_law_point", "_law_found"] ["_law_board", "_law_cells"] (zaf zbi):=⟨rfl,rfl,rfl,by decide +kernel,rfl,by decide +kernel,by decide +kernel⟩
theorem zgR:FnScope ["self"] ["self"] (zaf zbz):=⟨rfl,rfl,rfl,by decide +kernel,rfl,by decide +kernel,by decide +kernel⟩
theorem zfy:FnScope ["self", "moment"] ["self", "moment"] (zaf zbf):=⟨rfl,rfl,rfl,by decide +kernel,rfl,by decide +kernel,by decide +kernel⟩
theorem zhT:FnScope ["self"] ["self"] (zaf zbQ):=⟨rfl,rfl,rfl,by decide +kernel,rfl,by decide +kernel,by decide +kernel⟩
theorem zfO:FnScope ["self"] ["self"] (zaf zbl):=⟨rfl,rfl,rfl,by decide +kernel,rfl,by decide +kernel,by decide +kernel⟩
theorem zgS:FnScope ["self"] ["self"] (zaf zbA):=⟨rfl,rfl,rfl,by decide +kernel,rfl,by decide +kernel,by decide +kernel⟩
theorem zgT:FnScope ["self"] ["self"] (zaf zbB):=⟨rfl,rfl,rfl,by decide +kernel,rfl,by decide +kernel,by decide +kernel⟩
theorem zd5:FnScope ["self", "moment"] ["self", "moment"] (zaf zaT):=⟨rfl,rfl,rfl,by decide +kernel,rfl,by decide +kernel,by decide +kernel⟩
theorem sc_h:FnScope ["self", "behind", "moment"] ["self", "behind"] (zaf zbe):=⟨rfl,rfl,rfl,by decide +kernel,rfl,by decide +kernel,by decide +kernel⟩
theorem sc_a:FnScope ["self", "lays", "found"] ["self"] (zaf zaN):=⟨rfl,rfl,rfl,by decide +kernel,rfl,by decide +kernel,by decide +kernel⟩
theorem zhU:FnScope ["self", "hand"] ["self", "hand"] (zaf zbq):=⟨rfl,rfl,rfl,by decide +kernel,rfl,by decide +kernel,by decide +kernel⟩
theorem sc_r:FnScope ["_law_game", "_law_found"] ["_law_game"] (zaf zby):=⟨rfl,rfl,rfl,by decide +kernel,rfl,by decide +kernel,by decide +kernel⟩
theorem zhV:FnScope ["self"] ["self"] (zaf zbP):=⟨rfl,rfl,rfl,by decide +kernel,rfl,by decide +kernel,by decide +kernel⟩
theorem sc_i:FnScope ["_law_game", "_law_caught", "error"] ["_law_game"] (zaf zbd):=⟨rfl,rfl,rfl,by decide +kernel,rfl,by decide +kernel,by decide +kernel⟩
theorem sc_c:FnScope ["_law_game", "_law_states", "_law_count", "_law_k"] ["_law_game", "_law_states", "_law_count"] (zaf zaW):=⟨rfl,rfl,rfl,by decide +kernel,rfl,by decide +kernel,by decide +kernel⟩
theorem zeJ:FnScope ["self", "board", "rule", "stand", "hand"] ["self", "board", "rule", "stand", "hand"] (zaf za5):=⟨rfl,rfl,rfl,by decide +kernel,rfl,by decide +kernel,by decide +kernel⟩
theorem sc_y:FnScope ["self", "what", "behind", "many", "told", "number"] ["self", "what"] (zaf zbO):=⟨rfl,rfl,rfl,by decide +kernel,rfl,by decide +kernel,by decide +kernel⟩
theorem sc_law:FnScope ["_law_script", "_law_xs", "_law_many", "_law_lines_here", "_law_board", "_law_stand", "_law_rule", "_law_game", "_law_states", "_law_cell", "_law_some", "_law_deeds", "_law_last", "_law_what"] ["_law_script"] (zaf zjV):=⟨rfl,rfl,rfl,by decide +kernel,rfl,by decide +kernel,by decide +kernel⟩
abbrev zaX:Stmt:=zd4 (top 10) 0
theorem zer:FnScope ["self", "number"] ["self", "number"] (zaf zaX):=⟨rfl,rfl,rfl,by decide +kernel,rfl,by decide +kernel,by decide +kernel⟩
set_option genInjectivity false in
set_option genSizeOfSpec false in
structure Adr where
 f_aa:Addr
 d_aa:FuncData
 f_o:Addr
 d_o:FuncData
 f_ca:Addr
 d_ca:FuncData
 f_ea:Addr
 d_ea:FuncData
 f_z:Addr
 d_z:FuncData
 f_ia:Addr
 d_ia:FuncData
 f_ka:Addr
 d_ka:FuncData
 f_ga:Addr
 d_ga:FuncData
 f_d:Addr
 d_d:FuncData
 f_ba:Addr
 d_ba:FuncData
 f_ja:Addr
 d_ja:FuncData
 f_fa:Addr
 d_fa:FuncData
 f_ha:Addr
 d_ha:FuncData
 f_s:Addr
 d_s:FuncData
 f_k:Addr
 d_k:FuncData
 f_j:Addr
 d_j:FuncData
 f_t:Addr
 d_t:FuncData
 f_da:Addr
 d_da:FuncData
 f_g:Addr
 d_g:FuncData
 f_u:Addr
 d_u:FuncData
 f_m:Addr
 d_m:FuncData
 f_r:Addr
 d_r:FuncData
 f_i:Addr
 d_i:FuncData
 f_c:Addr
 d_c:FuncData
 f_law:Addr
 d_law:FuncData
 f_e:Addr
 d_e:FuncData
 f_y:Addr
 d_y:FuncData
 f_h:Addr
 d_h:FuncData
 f_b:Addr
 d_b:FuncData
 f_w:Addr
 d_w:FuncData
 f_n:Addr
 d_n:FuncData
 f_x:Addr
 d_x:FuncData
 f_f:Addr
 d_f:FuncData
 f_l:Addr
 d_l:FuncData
 f_p:Addr
 d_p:FuncData
 f_a:Addr
 d_a:FuncData
 f_v:Addr
 d_v:FuncData
 f_q:Addr
 d_q:FuncData
 f_Again___init__:Addr
 d_Again___init__:FuncData
structure Txt (K:PySem.W.Frag) (mg:Str->Option Value) (A:Adr):Prop where
 g_aa:mg "is_whole" = some (.ref A.f_aa)
 F_aa:Fun K "is_whole" "is_whole" zb4 A.f_aa A.d_aa
 b_aa:Binds K A.d_aa ["thing"] []
 g_o:mg "other_hand" = some (.ref A.f_o)
 F_o:Fun K "other_hand" "other_hand" zbv A.f_o A.d_o
 b_o:Binds K A.d_o ["hand"] []
 g_ca:mg "patch_of" = some (.ref A.f_ca)
 F_ca:Fun K "patch_of" "patch_of" zb5 A.f_ca A.d_ca
 b_ca:Binds K A.d_ca ["board", "marks", "start"] []
 g_ea:mg "patches" = some (.ref A.f_ea)
 F_ea:Fun K "patches" "patches" zcy A.f_ea A.d_ea
 b_ea:Binds K A.d_ea ["board", "marks"] []
 g_z:mg "is_stand" = some (.ref A.f_z)
 F_z:Fun K "is_stand" "is_stand" zbM A.f_z A.d_z
 b_z:Binds K A.d_z ["board", "thing"] []
 g_ia:mg "patch" = some (.ref A.f_ia)
 F_ia:Fun K "patch" "patch" zeq A.f_ia A.d_ia
 b_ia:Binds K A.d_ia ["board", "stand", "point"] []
 g_ka:mg "rows" = some (.ref A.f_ka)
 F_ka:Fun K "rows" "rows" zfx A.f_ka A.d_ka
 b_ka:Binds K A.d_ka ["board", "stand"] []
 g_ga:mg "breaths" = some (.ref A.f_ga)
 F_ga:Fun K "breaths" "breaths" zcc A.f_ga A.d_ga
 b_ga:Binds K A.d_ga ["board", "stand", "row"] []
 g_d:mg "points_beside" = some (.ref A.f_d)
 F_d:Fun K "points_beside" "points_beside" za4 A.f_d A.d_d
 b_d:Binds K A.d_d ["board", "points"] []
 g_ba:mg "is_sound" = some (.ref A.f_ba)
 F_ba:Fun K "is_sound" "is_sound" zbN A.f_ba A.d_ba
 b_ba:Binds K A.d_ba ["board", "stand"] []
 g_ja:mg "laid" = some (.ref A.f_ja)
 F_ja:Fun K "laid" "laid" zgf A.f_ja A.d_ja
 b_ja:Binds K A.d_ja ["board", "stand", "hand", "point"] []
 g_fa:mg "lays_on" = some (.ref A.f_fa)
 F_fa:Fun K "lays_on" "lays_on" zcz A.f_fa A.d_fa
 b_fa:Binds K A.d_fa ["board", "stand", "hand", "points"] []
 g_ha:mg "filled" = some (.ref A.f_ha)
 F_ha:Fun K "filled" "filled" zdn A.f_ha A.d_ha
 b_ha:Binds K A.d_ha ["stand", "points", "what"] []
 g_s:mg "breathless" = some (.ref A.f_s)
 F_s:Fun K "breathless" "breathless" zbw A.f_s A.d_s
 b_s:Binds K A.d_s ["board", "stand", "hand"] []
 g_k:mg "_law_stream" = some (.ref A.f_k)
 F_k:Fun K "_law_stream" "_law_stream" zbk A.f_k A.d_k
 b_k:Binds K A.d_k ["_law_cell", "_law_many"] []
 g_j:mg "_law_joined" = some (.ref A.f_j)
 F_j:Fun K "_law_joined" "_law_joined" za0 A.f_j A.d_j
 b_j:Binds K A.d_j ["_law_many", "_law_lines_here"] []
 g_t:mg "_law_lines" = some (.ref A.f_t)
 F_t:Fun K "_law_lines" "_law_lines" zaS A.f_t A.d_t
 b_t:Binds K A.d_t ["_law_xs"] []
 g_da:mg "_law_row" = some (.ref A.f_da)
 F_da:Fun K "_law_row" "_law_row" zb6 A.f_da A.d_da
 b_da:Binds K A.d_da ["_law_board", "_law_stand", "_law_point"] []
 g_g:mg "_law_breaths" = some (.ref A.f_g)
 F_g:Fun K "_law_breaths" "_law_breaths" zbc A.f_g A.d_g
 b_g:Binds K A.d_g ["_law_board", "_law_stand", "_law_row_here"] []
 g_u:mg "_law_tried" = some (.ref A.f_u)
 F_u:Fun K "_law_tried" "_law_tried" zbx A.f_u A.d_u
 b_u:Binds K A.d_u ["_law_board", "_law_stand", "_law_hand", "_law_point"] []
 g_m:mg "_law_sound" = some (.ref A.f_m)
 F_m:Fun K "_law_sound" "_law_sound" zbi A.f_m A.d_m
 b_m:Binds K A.d_m ["_law_board", "_law_cells"] []
 g_r:mg "_law_state" = some (.ref A.f_r)
 F_r:Fun K "_law_state" "_law_state" zby A.f_r A.d_r
 b_r:Binds K A.d_r ["_law_game"] []
 g_i:mg "_law_no_back" = some (.ref A.f_i)
 F_i:Fun K "_law_no_back" "_law_no_back" zbd A.f_i A.d_i
 b_i:Binds K A.d_i ["_law_game"] []
 g_c:mg "_law_backwards" = some (.ref A.f_c)
 F_c:Fun K "_law_backwards" "_law_backwards" zaW A.f_c A.d_c
 b_c:Binds K A.d_c ["_law_game", "_law_states", "_law_count"] []
 g_law:mg "law" = some (.ref A.f_law)
 F_law:Fun K "law" "law" zjV A.f_law A.d_law
 b_law:Binds K A.d_law ["_law_script"] []
 mt_e:L2.Meth K (clOf K "Game") "__init__" A.f_e
 F_e:Fun K "__init__" "Game.__init__" za5 A.f_e A.d_e
 b_e:Binds K A.d_e ["self", "board", "rule", "stand", "hand"] []
 mt_y:L2.Meth K (clOf K "Game") "deed" A.f_y
 F_y:Fun K "deed" "Game.deed" zbO A.f_y A.d_y
 b_y:Binds K A.d_y ["self", "what"] []
 mt_h:L2.Meth K (clOf K "Game") "came_at" A.f_h
 F_h:Fun K "came_at" "Game.came_at" zbe A.f_h A.d_h
 b_h:Binds K A.d_h ["self", "behind"] []
 mt_b:L2.Meth K (clOf K "Game") "is_barring" A.f_b
 F_b:Fun K "is_barring" "Game.is_barring" zaT A.f_b A.d_b
 b_b:Binds K A.d_b ["self", "moment"] []
 mt_w:L2.Meth K (clOf K "Game") "back" A.f_w
 F_w:Fun K "back" "Game.back" zbP A.f_w A.d_w
 b_w:Binds K A.d_w ["self"] []
 mt_n:L2.Meth K (clOf K "Game") "stand" A.f_n
 F_n:Fun K "stand" "Game.stand" zbz A.f_n A.d_n
 b_n:Binds K A.d_n ["self"] []
 mt_x:L2.Meth K (clOf K "Game") "hand" A.f_x
 F_x:Fun K "hand" "Game.hand" zbQ A.f_x A.d_x
 b_x:Binds K A.d_x ["self"] []
 mt_f:L2.Meth K (clOf K "Game") "hand_at" A.f_f
 F_f:Fun K "hand_at" "Game.hand_at" zbf A.f_f A.d_f
 b_f:Binds K A.d_f ["self", "moment"] []
 mt_l:L2.Meth K (clOf K "Game") "stands" A.f_l
 F_l:Fun K "stands" "Game.stands" zbl A.f_l A.d_l
 b_l:Binds K A.d_l ["self"] []
 mt_p:L2.Meth K (clOf K "Game") "deeds" A.f_p
 F_p:Fun K "deeds" "Game.deeds" zbA A.f_p A.d_p
 b_p:Binds K A.d_p ["self"] []
 mt_a:L2.Meth K (clOf K "Game") "open_deeds" A.f_a
 F_a:Fun K "open_deeds" "Game.open_deeds" zaN A.f_a A.d_a
 b_a:Binds K A.d_a ["self"] []
 mt_v:L2.Meth K (clOf K "Game") "lost" A.f_v
 F_v:Fun K "lost" "Game.lost" zbq A.f_v A.d_v
 b_v:Binds K A.d_v ["self", "hand"] []
 mt_q:L2.Meth K (clOf K "Game") "ended" A.f_q
 F_q:Fun K "ended" "Game.ended" zbB A.f_q A.d_q
 b_q:Binds K A.d_q ["self"] []
 xn_Again:XN K (clOf K "Again") (clOf K "StoneError") A.f_Again___init__ "number"
 F_Again___init__:Fun K "__init__" "Again.__init__" zaX A.f_Again___init__ A.d_Again___init__
 b_Again___init__:Binds K A.d_Again___init__ ["self", "number"] []
 cls_Game:L2.Cls K (clOf K "Game")
 mk_Game:L2.Mk K (clOf K "Game") A.f_e
 gc_Game:mg "Game" = some (.ref (clOf K "Game"))
 na_Game_barring:L2.NoAttr K (clOf K "Game") "barring"
 na_Game_done:L2.NoAttr K (clOf K "Game") "done"
 na_Game_first:L2.NoAttr K (clOf K "Game") "first"
 na_Game_joined:L2.NoAttr K (clOf K "Game") "joined"
 na_Game_past:L2.NoAttr K (clOf K "Game") "past"
 na_Game_takings:L2.NoAttr K (clOf K "Game") "takings"
 c_MOST_DEEDS:∃t,mg "MOST_DEEDS" = some (.int 300 t)
 n_ValueError:mg "ValueError" = none
 n_all:mg "all" = none
 n_bool:mg "bool" = none
 n_int:mg "int" = none
 n_isinstance:mg "isinstance" = none
 n_len:mg "len" = none
 n_list:mg "list" = none
 n_range:mg "range" = none
 n_sorted:mg "sorted" = none
 n_sum:mg "sum" = none
 n_tuple:mg "tuple" = none
 xt:XT K mg XTB
 nl:noL K=true
section
seal L2.PSs L2.PS L2.PE L2.PT L2.PW L2.PA L2.PI L2.PG L2.PGs L2.PO L2.PIfs
variable {P:Program} {w:World} {K:PySem.W.Frag} {mg:Str->Option Value} {base:Heap} {A:Adr}
abbrev Gx(K:PySem.W.Frag):Ga:=Gy K
abbrev spD(K:PySem.W.Frag)(n:Nat)(d:List W->M W):Sp:=spV (Gx K) (fun E=>E) n d
theorem zes(T:Txt K mg A):FnOk P w K mg base (CXx P w) 1 A.f_Again___init__ A.d_Again___init__ ["self", "number"] (spI (clOf K "Again")):=by
 refine T.F_Again___init__.okX (k:=0) zer (fun vs H Q E h=>by obtain⟨a,n,rfl,_⟩:=h;rfl) (fun cdv Ar outer s H vs Q E hr h=>?_)
 obtain⟨a,n,rfl,hn,ha,q⟩:=h
 refine⟨_,zpR (x := "StoneError") (SA:=clOf K "StoneError") (C:=clOf K "Again") rfl (T.xt.at rfl) T.xn_Again.hga T.xn_Again.hr T.xn_Again.hf T.xn_Again.xi.exc T.xn_Again.hsa T.xn_Again.hd T.xn_Again.ht (ziu (zcl zhP (zcl (zlp 1) zit))),?_⟩
 exact⟨a,n,rfl,rfl,ha,⟨trivial,⟨n,rfl,hn⟩,trivial⟩,q⟩
set_option maxHeartbeats 0 in
theorem ziz(fu:Nat)(T:Txt K mg A):FnOk P w K mg base (CXx P w) 1 A.f_aa A.d_aa ["thing"] (spD K 1 (d_aa fu)):=by
 refine T.F_aa.okX (k:=0) ziw (fun vs H Q E h=>h.1) (fun cdv Ar outer s H vs Q E hr h=>?_)
 obtain⟨_,F,as,ws,ce,S,rs,Pf⟩:=h
 refine⟨toTS (Gx K) E _,(zah (zaz (zn5 (zaB (zsm K) (zmV K) rfl T.n_isinstance PyProof.Rows.boot_isinstance (zab (zaa 0) (zab (zmZ rfl T.n_int PyProof.Rows.boot_int) zag))) (zkU (zn6 (zaB (zsm K) (zmV K) rfl T.n_isinstance PyProof.Rows.boot_isinstance (zab (zaa 0) (zab (zmZ rfl T.n_bool PyProof.Rows.boot_bool) zag)))))))),?_⟩
 exact zaA (G:=Gx K) (E:=E) zbU ["thing"] S rs Pf
set_option maxHeartbeats 0 in
theorem zcJ(fu:Nat)(T:Txt K mg A):FnOk P w K mg base (CXx P w) 1 A.f_o A.d_o ["hand"] (spD K 1 (d_o fu)):=by
 refine T.F_o.okX (k:=0) zgQ (fun vs H Q E h=>h.1) (fun cdv Ar outer s H vs Q E hr h=>?_)
 obtain⟨_,F,as,ws,ce,S,rs,Pf⟩:=h
 refine⟨toTS (Gx K) E _,(zah (zaz (zhv zak (zaa 0)))),?_⟩
 exact zaA (G:=Gx K) (E:=E) zbU ["hand"] S rs Pf
set_option maxHeartbeats 0 in
theorem zfz(fu:Nat)(T:Txt K mg A):FnOk P w K mg base (CXx P w) 1 A.f_ca A.d_ca ["board", "marks", "start"] (spD K 3 (d_ca fu)):=by
 refine T.F_ca.okX (k:=0) sc_ca (fun vs H Q E h=>h.1) (fun cdv Ar outer s H vs Q E hr h=>?_)
 obtain⟨_,F,as,ws,ce,S,rs,Pf⟩:=h
 refine⟨toTS (Gx K) E _,(zad (zas (i:=3) sc_ca.nd rfl (Or.inl rfl) (zm0 (zaa 2) zcV))
   (zad (zas (i:=4) sc_ca.nd rfl (Or.inl rfl) (zbI (zab (zaa 2) zag)))
   (zad (zi6 fu PassesOwn.leaving (ziY (zaa 4)) (zad (zas (i:=5) sc_ca.nd rfl (Or.inl rfl) (zhH PySem.F.slot_list_pop PySem.F.type_list_pop zhn zk6 (zaa 4)))
   (zah (zba PassesOwn.leaving rfl (zpb (zaK (zaa 0) (zaa 5) (fun _ _=>rfl))) (zaM (i:=6) sc_ca.nd rfl (Or.inl rfl))
   (zah (za8 (PW.pt (zfb (zhy (hr.cmp 1) (zaa 6) (zaa 3) (by with_unfolding_all rfl)) (zeh (zhw (hr.cmp 8) (zaK (zaa 1) (zaa 6) (fun _ _=>rfl)) (zaK (zaa 1) (zaa 2) (fun _ _=>rfl)))))) (zad (zfd (hr.cmp 1) (zaa 3) (zaa 6) zcV)
   (zah (za1 (zdp PySem.F.slot_list_append PySem.F.type_list_append zaY zdK (zaa 4) (zab (zaa 6) zag))))) zaD))))))
   (zah (zaz (zaB (zjQ rfl rfl) (zjR K zmb) rfl T.n_sorted PyProof.Rows.boot_sorted (zab (zaa 3) zag))))))),?_⟩
 exact zaA (G:=Gx K) (E:=E) zfH ["board", "marks", "start", "found", "waiting", "point", "beside"] S rs Pf
set_option maxHeartbeats 0 in
theorem zjX(fu:Nat)(T:Txt K mg A):FnOk P w K mg base (CXx P w) 2 A.f_ea A.d_ea ["board", "marks"] (spD K 2 (d_ea fu)):=by
 have G_ca:=zfz (P:=P) (w:=w) (base:=base) fu T
 refine T.F_ea.okX (k:=1) sc_ea (fun vs H Q E h=>h.1) (fun cdv Ar outer s H vs Q E hr h=>?_)
 obtain⟨_,F,as,ws,ce,S,rs,Pf⟩:=h
 refine⟨toTS (Gx K) E _,(zad (zas (i:=2) sc_ea.nd rfl (Or.inl rfl) zfc)
   (zad (zas (i:=3) sc_ea.nd rfl (Or.inl rfl) (zbI zag))
   (zad (zba PassesOwn.leaving rfl (zeH rfl T.n_range (zab (zaB (zc5 rfl) (zc6 K) rfl T.n_len PySem.boot_len (zab (zaa 0) zag)) zag)) (zaM (i:=4) sc_ea.nd rfl (Or.inl rfl))
   (zah (za8 (zhy (hr.cmp 1) (zaa 4) (zaa 2) (by with_unfolding_all rfl)) (zad (zas (i:=5) sc_ea.nd rfl (Or.inl rfl) (zav (zc4 G_ca) (hr.mono (by decide)) rfl T.g_ca T.F_ca.kp T.b_ca (flies_cxOf.passes rfl) (zab (zaa 0) (zab (zaa 1) (zab (zaa 4) zag)))))
   (zad (za1 (zdp PySem.F.slot_list_append PySem.F.type_list_append zaY zdK (zaa 3) (zab (zaa 5) zag)))
   (zah (zba PassesOwn.leaving rfl (zhb (zaa 5)) (zaM (i:=6) sc_ea.nd rfl (Or.inl rfl))
   (zah (zfd (hr.cmp 1) (zaa 2) (zaa 6) zcV)))))) zaD)))
   (zah (zaz (zaa 3)))))),?_⟩
 exact zaA (G:=Gx K) (E:=E) zfH ["board", "marks", "met", "found", "start", "points", "point"] S rs Pf
set_option maxHeartbeats 0 in
theorem ziA(fu:Nat)(T:Txt K mg A):FnOk P w K mg base (CXx P w) 2 A.f_z A.d_z ["board", "thing"] (spD K 2 (d_z fu)):=by
 have G_aa:=ziz (P:=P) (w:=w) (base:=base) fu T
 refine T.F_z.okX (k:=1) zix (fun vs H Q E h=>h.1) (fun cdv Ar outer s H vs Q E hr h=>?_)
 obtain⟨_,F,as,ws,ce,S,rs,Pf⟩:=h
 refine⟨toTS (Gx K) E _,(zad (za8 (PW.pt (zmN (zcN (zc3 (zaB (zsm K) (zmV K) rfl T.n_isinstance PyProof.Rows.boot_isinstance (zab (zaa 1) (zab (zmZ rfl T.n_tuple PyProof.Rows.boot_tuple) zag))))) (zi3 (zmK (hr.cmp 8) (zaB (zc5 rfl) (zc6 K) rfl T.n_len PySem.boot_len (zab (zaa 1) zag)) (zaB (zc5 rfl) (zc6 K) rfl T.n_len PySem.boot_len (zab (zaa 0) zag)))))) (zah (zaz zcV)) zaD)
   (zah (zaz (zaB (zt0 K) (zre K) rfl T.n_all PyProof.Rows.boot_all (zab (zhD zdF (zcw (N:=["board", "thing"]) (psc:=zaf zbM) (js:=[]) (N':=["what"]) (by decide +kernel)) rfl rfl (zpb (zaa 1)) (fun _ _ _ _=>zch) (fun _ _ _ _=>(zoq (zn5 (zav G_aa (hr.mono (by decide)) rfl T.g_aa T.F_aa.kp T.b_aa zgK (zab (zaa 0) zag)) (zkU (zmO zqL zqL (zfa (f:=fLe) (zhu fun _ _=>rfl)) (zfa (f:=fLe) (zhu fun _ _=>rfl)) zak (zaa 0) zak)))))) zag))))),?_⟩
 exact zaA (G:=Gx K) (E:=E) zbU ["board", "thing"] S rs Pf
set_option maxHeartbeats 0 in
theorem znA(fu:Nat)(T:Txt K mg A):FnOk P w K mg base (CXx P w) 2 A.f_ia A.d_ia ["board", "stand", "point"] (spD K 3 (d_ia fu)):=by
 have G_ca:=zfz (P:=P) (w:=w) (base:=base) fu T
 refine T.F_ia.okX (k:=1) znz (fun vs H Q E h=>h.1) (fun cdv Ar outer s H vs Q E hr h=>?_)
 obtain⟨_,F,as,ws,ce,S,rs,Pf⟩:=h
 refine⟨toTS (Gx K) E _,(zah (zaz (zav G_ca (hr.mono (by decide)) rfl T.g_ca T.F_ca.kp T.b_ca (flies_cxOf.passes rfl) (zab (zaa 0) (zab (zaa 1) (zab (zaa 2) zag)))))),?_⟩
 exact zaA (G:=Gx K) (E:=E) zfH ["board", "stand", "point"] S rs Pf
set_option maxHeartbeats 0 in
theorem zlB(fu:Nat)(T:Txt K mg A):FnOk P w K mg base (CXx P w) 3 A.f_ka A.d_ka ["board", "stand"] (spD K 2 (d_ka fu)):=by
 have G_ea:=zjX (P:=P) (w:=w) (base:=base) fu T
 refine T.F_ka.okX (k:=2) zpS (fun vs H Q E h=>h.1) (fun cdv Ar outer s H vs Q E hr h=>?_)
 obtain⟨_,F,as,ws,ce,S,rs,Pf⟩:=h
 refine⟨toTS (Gx K) E _,(zah (zaz (zhD zdF (zcw (N:=["board", "stand"]) (psc:=zaf zfx) (js:=[1]) (N':=["points", "stand"]) (by decide +kernel)) rfl rfl (zhb (zav (zc4 G_ea) (hr.mono (by decide)) rfl T.g_ea T.F_ea.kp T.b_ea (flies_cxOf.passes rfl) (zab (zaa 0) (zab (zaa 1) zag)))) (fun _ _ _ _=>(zdI (zmK (hr.cmp 8) (zaK (zaa 1) (zaK (zaa 0) zak (fun _ _=>rfl)) (fun _ _=>rfl)) zak))) (fun _ _ _ _=>(zaa 0))))),?_⟩
 exact zaA (G:=Gx K) (E:=E) zbU ["board", "stand"] S rs Pf
set_option maxHeartbeats 0 in
theorem zeK(fu:Nat)(T:Txt K mg A):FnOk P w K mg base (CXx P w) 1 A.f_d A.d_d ["board", "points"] (spD K 2 (d_d fu)):=by
 refine T.F_d.okX (k:=0) sc_d (fun vs H Q E h=>h.1) (fun cdv Ar outer s H vs Q E hr h=>?_)
 obtain⟨_,F,as,ws,ce,S,rs,Pf⟩:=h
 refine⟨toTS (Gx K) E _,(zad (zas (i:=2) sc_d.nd rfl (Or.inl rfl) zfc)
   (zad (zba PassesOwn.leaving rfl (zhb (zaa 1)) (zaM (i:=3) sc_d.nd rfl (Or.inl rfl))
   (zah (zba PassesOwn.leaving rfl (zpb (zaK (zaa 0) (zaa 3) (fun _ _=>rfl))) (zaM (i:=4) sc_d.nd rfl (Or.inl rfl))
   (zah (zfd (hr.cmp 1) (zaa 2) (zaa 4) zcV)))))
   (zah (zaz (zaB (zjQ rfl rfl) (zjR K zmb) rfl T.n_sorted PyProof.Rows.boot_sorted (zab (zaa 2) zag)))))),?_⟩
 exact zaA (G:=Gx K) (E:=E) zfH ["board", "points", "found", "point", "beside"] S rs Pf
set_option maxHeartbeats 0 in
theorem zet(fu:Nat)(T:Txt K mg A):FnOk P w K mg base (CXx P w) 2 A.f_ga A.d_ga ["board", "stand", "row"] (spD K 3 (d_ga fu)):=by
 have G_d:=zeK (P:=P) (w:=w) (base:=base) fu T
 refine T.F_ga.okX (k:=1) zjW (fun vs H Q E h=>h.1) (fun cdv Ar outer s H vs Q E hr h=>?_)
 obtain⟨_,F,as,ws,ce,S,rs,Pf⟩:=h
 refine⟨toTS (Gx K) E _,(zah (zaz (zhD zmb (zcw (N:=["board", "stand", "row"]) (psc:=zaf zcc) (js:=[1]) (N':=["point", "stand"]) (by decide +kernel)) rfl rfl (zhb (zav (zc4 G_d) (hr.mono (by decide)) rfl T.g_d T.F_d.kp T.b_d (flies_cxOf.passes rfl) (zab (zaa 0) (zab (zaa 2) zag)))) (fun _ _ _ _=>(zdI (zhw (hr.cmp 8) (zaK (zaa 1) (zaa 0) (fun _ _=>rfl)) zak))) (fun _ _ _ _=>(zaa 0))))),?_⟩
 exact zaA (G:=Gx K) (E:=E) zfH ["board", "stand", "row"] S rs Pf
set_option maxHeartbeats 0 in
theorem ziB(fu:Nat)(T:Txt K mg A):FnOk P w K mg base (CXx P w) 4 A.f_ba A.d_ba ["board", "stand"] (spD K 2 (d_ba fu)):=by
 have G_ka:=zlB (P:=P) (w:=w) (base:=base) fu T
 have G_ga:=zet (P:=P) (w:=w) (base:=base) fu T
 refine T.F_ba.okX (k:=3) ziy (fun vs H Q E h=>h.1) (fun cdv Ar outer s H vs Q E hr h=>?_)
 obtain⟨_,F,as,ws,ce,S,rs,Pf⟩:=h
 refine⟨toTS (Gx K) E _,(zah (zaz (zaB (zt0 K) (zre K) rfl T.n_all PyProof.Rows.boot_all (zab (zhD zdF (zcw (N:=["board", "stand"]) (psc:=zaf zbN) (js:=[0,1]) (N':=["row", "board", "stand"]) (by decide +kernel)) rfl rfl (zhb (zav G_ka (hr.mono (by decide)) rfl T.g_ka T.F_ka.kp T.b_ka (flies_cxOf.passes rfl) (zab (zaa 0) (zab (zaa 1) zag)))) (fun _ _ _ _=>zch) (fun _ _ _ _=>(zoq (zte (zaB (zc5 rfl) (zc6 K) rfl T.n_len PySem.boot_len (zab (zav (zc4 G_ga) (hr.mono (by decide)) rfl T.g_ga T.F_ga.kp T.b_ga zgK (zab (zaa 1) (zab (zaa 2) (zab (zaa 0) zag)))) zag)) zak)))) zag)))),?_⟩
 exact zaA (G:=Gx K) (E:=E) zbU ["board", "stand"] S rs Pf
set_option maxHeartbeats 0 in
theorem zlC(fu:Nat)(T:Txt K mg A):FnOk P w K mg base (CXx P w) 1 A.f_ha A.d_ha ["stand", "points", "what"] (spD K 3 (d_ha fu)):=by
 refine T.F_ha.okX (k:=0) sc_ha (fun vs H Q E h=>h.1) (fun cdv Ar outer s H vs Q E hr h=>?_)
 obtain⟨_,F,as,ws,ce,S,rs,Pf⟩:=h
 refine⟨toTS (Gx K) E _,(zad (zas (i:=3) sc_ha.nd rfl (Or.inl rfl) (zbg (zf3 rfl rfl) (zf4 K zmb) rfl T.n_list PyProof.Rows.boot_list (zab (zaa 0) zag)))
   (zad (zba PassesOwn.leaving rfl (zhb (zaa 1)) (zaM (i:=4) sc_ha.nd rfl (Or.inl rfl))
   (zah (zi4 (zaa 2) (zih (E:=E0) (zaa 3) (zaa 4)))))
   (zah (zaz (zbg (zhp K) (zfg K) rfl T.n_tuple PyProof.Rows.boot_tuple (zab (zaa 3) zag)))))),?_⟩
 exact zaA (G:=Gx K) (E:=E) zbU ["stand", "points", "what", "changed", "point"] S rs Pf
set_option maxHeartbeats 0 in
theorem zgU(fu:Nat)(T:Txt K mg A):FnOk P w K mg base (CXx P w) 4 A.f_s A.d_s ["board", "stand", "hand"] (spD K 3 (d_s fu)):=by
 have G_ka:=zlB (P:=P) (w:=w) (base:=base) fu T
 have G_ga:=zet (P:=P) (w:=w) (base:=base) fu T
 refine T.F_s.okX (k:=3) sc_s (fun vs H Q E h=>h.1) (fun cdv Ar outer s H vs Q E hr h=>?_)
 obtain⟨_,F,as,ws,ce,S,rs,Pf⟩:=h
 refine⟨toTS (Gx K) E _,(zad (zas (i:=3) sc_s.nd rfl (Or.inl rfl) (zbI zag))
   (zad (zba PassesOwn.leaving rfl (zhb (zav G_ka (hr.mono (by decide)) rfl T.g_ka T.F_ka.kp T.b_ka (flies_cxOf.passes rfl) (zab (zaa 0) (zab (zaa 1) zag)))) (zaM (i:=4) sc_s.nd rfl (Or.inl rfl))
   (zah (za8 (PW.pt (zfb (zhw (hr.cmp 8) (zaK (zaa 1) (zaK (zaa 4) zak (fun _ _=>rfl)) (fun _ _=>rfl)) (zaa 2)) (zeh (zcN (ziY (zav (zc4 G_ga) (hr.mono (by decide)) rfl T.g_ga T.F_ga.kp T.b_ga (flies_cxOf.passes rfl) (zab (zaa 0) (zab (zaa 1) (zab (zaa 4) zag))))))))) (zah (za1 (zdp PySem.F.slot_list_extend PySem.F.type_list_extend zpf zto (zaa 3) (zab (zaa 4) zag)))) zaD)))
   (zah (zaz (zaB (zjQ rfl rfl) (zjR K zmb) rfl T.n_sorted PyProof.Rows.boot_sorted (zab (zaa 3) zag)))))),?_⟩
 exact zaA (G:=Gx K) (E:=E) zfH ["board", "stand", "hand", "found", "row"] S rs Pf
set_option maxHeartbeats 0 in
theorem zlD(fu:Nat)(T:Txt K mg A):FnOk P w K mg base (CXx P w) 5 A.f_ja A.d_ja ["board", "stand", "hand", "point"] (spD K 4 (d_ja fu)):=by
 have G_ha:=zlC (P:=P) (w:=w) (base:=base) fu T
 have G_s:=zgU (P:=P) (w:=w) (base:=base) fu T
 have G_o:=zcJ (P:=P) (w:=w) (base:=base) fu T
 have G_ga:=zet (P:=P) (w:=w) (base:=base) fu T
 have G_ia:=znA (P:=P) (w:=w) (base:=base) fu T
 refine T.F_ja.okX (k:=4) sc_ja (fun vs H Q E h=>h.1) (fun cdv Ar outer s H vs Q E hr h=>?_)
 obtain⟨_,F,as,ws,ce,S,rs,Pf⟩:=h
 refine⟨toTS (Gx K) E _,(zad (za8 (zmK (hr.cmp 8) (zaK (zaa 1) (zaa 3) (fun _ _=>rfl)) zak) (zah (zdl (l:=[3]) flies_cxOf rfl T.xt rfl rfl rfl hr.hd (ziu (zcl zhP (zcl (zlp 3) (zcl zhP zit)))) (fun _ h=>⟨trivial,h 3 (by decide),trivial,trivial⟩))) zaD)
   (zad (zas (i:=4) sc_ja.nd rfl (Or.inl rfl) (zav G_ha (hr.mono (by decide)) rfl T.g_ha T.F_ha.kp T.b_ha (flies_cxOf.passes rfl) (zab (zaa 1) (zab (zdE (zab (zaa 3) zag)) (zab (zaa 2) zag)))))
   (zad (zas (i:=5) sc_ja.nd rfl (Or.inl rfl) (zav (zc4 G_s) (hr.mono (by decide)) rfl T.g_s T.F_s.kp T.b_s (flies_cxOf.passes rfl) (zab (zaa 0) (zab (zaa 4) (zab (zav G_o (hr.mono (by decide)) rfl T.g_o T.F_o.kp T.b_o (flies_cxOf.passes rfl) (zab (zaa 2) zag)) zag)))))
   (zad (zas (i:=6) sc_ja.nd rfl (Or.inl rfl) (zav G_ha (hr.mono (by decide)) rfl T.g_ha T.F_ha.kp T.b_ha (flies_cxOf.passes rfl) (zab (zaa 4) (zab (zaa 5) (zab zak zag)))))
   (zad (za8 (zcN (ziY (zav (zc4 G_ga) (hr.mono (by decide)) rfl T.g_ga T.F_ga.kp T.b_ga (flies_cxOf.passes rfl) (zab (zaa 0) (zab (zaa 6) (zab (zav (zc4 G_ia) (hr.mono (by decide)) rfl T.g_ia T.F_ia.kp T.b_ia (flies_cxOf.passes rfl) (zab (zaa 0) (zab (zaa 6) (zab (zaa 3) zag)))) zag)))))) (zah (zdl (l:=[3]) flies_cxOf rfl T.xt rfl rfl rfl hr.hd (ziu (zcl zhP (zcl (zlp 3) (zcl zhP zit)))) (fun _ h=>⟨trivial,h 3 (by decide),trivial,trivial⟩))) zaD)
   (zah (zaz (zds (zab (zaa 6) (zab (zaa 5) zag)))))))))),?_⟩
 exact zaA (G:=Gx K) (E:=E) zbU ["board", "stand", "hand", "point", "full", "taken", "behind"] S rs Pf
set_option maxHeartbeats 0 in
theorem zjY(fu:Nat)(T:Txt K mg A):FnOk P w K mg base (CXx P w) 6 A.f_fa A.d_fa ["board", "stand", "hand", "points"] (spD K 4 (d_fa fu)):=by
 have G_ja:=zlD (P:=P) (w:=w) (base:=base) fu T
 refine T.F_fa.okX (k:=5) sc_fa (fun vs H Q E h=>h.1) (fun cdv Ar outer s H vs Q E hr h=>?_)
 obtain⟨_,F,as,ws,ce,S,rs,Pf⟩:=h
 refine⟨toTS (Gx K) E _,(zad (zas (i:=4) sc_fa.nd rfl (Or.inl rfl) (zbI zag))
   (zad (zba PassesOwn.leaving rfl (zhb (zaa 3)) (zaM (i:=5) sc_fa.nd rfl (Or.inl rfl))
   (zad (zpA (i:=6) rfl rfl rfl sc_fa.nd rfl (Or.inl rfl) G_ja (hr.mono (by decide)) rfl T.g_ja T.F_ja.kp T.b_ja (zab (zaa 0) (zab (zaa 1) (zab (zaa 2) (zab (zaa 5) zag)))) (zr2 rfl T.xt rfl rfl rfl rfl (fun _=>(zah zig))))
   (zah (za1 (zdp PySem.F.slot_list_append PySem.F.type_list_append zaY zdK (zaa 4) (zab (zds (zab (zaa 5) (zab (zaK (zaa 6) zak (fun _ _=>rfl)) (zab (zaK (zaa 6) zak (fun _ _=>rfl)) zag)))) zag))))))
   (zah (zaz (zaa 4))))),?_⟩
 exact zaA (G:=Gx K) (E:=E) zfH ["board", "stand", "hand", "points", "found", "point", "told"] S rs Pf
set_option maxHeartbeats 0 in
theorem zcu(fu:Nat)(T:Txt K mg A):FnOk P w K mg base (CXx P w) 1 A.f_k A.d_k ["_law_cell", "_law_many"] (spD K 2 (d_k fu)):=by
 refine T.F_k.okX (k:=0) sc_k (fun vs H Q E h=>h.1) (fun cdv Ar outer s H vs Q E hr h=>?_)
 obtain⟨_,F,as,ws,ce,S,rs,Pf⟩:=h
 refine⟨toTS (Gx K) E _,(zad (zas (i:=2) sc_k.nd rfl (Or.inl rfl) (zbI zag))
   (zad (zas (i:=3) sc_k.nd rfl (Or.inl rfl) (zbm (za7 (zaa 0) zak) zak))
   (zad (zba PassesOwn.leaving rfl (zeH rfl T.n_range (zab (zbm (zaa 1) zak) zag)) (zaM (i:=4) sc_k.nd rfl (Or.inl rfl))
   (zad (zas (i:=3) sc_k.nd rfl (Or.inl rfl) (za7 (zbm (zbm (ze8 (zaa 3) (zaa 3)) (ze8 zak (zaa 3))) (zaa 4)) zak))
   (zah (za1 (zdp PySem.F.slot_list_append PySem.F.type_list_append zaY zdK (zaa 2) (zab (zaa 3) zag))))))
   (zah (zaz (zhz zdF (zaa 2) (zcp zak) zei)))))),?_⟩
 exact zaA (G:=Gx K) (E:=E) zbU ["_law_cell", "_law_many", "_law_found", "_law_number", "_law_k"] S rs Pf
set_option maxHeartbeats 0 in
theorem zfP(fu:Nat)(T:Txt K mg A):FnOk P w K mg base (CXx P w) 1 A.f_j A.d_j ["_law_many", "_law_lines_here"] (spD K 2 (d_j fu)):=by
 refine T.F_j.okX (k:=0) sc_j (fun vs H Q E h=>h.1) (fun cdv Ar outer s H vs Q E hr h=>?_)
 obtain⟨_,F,as,ws,ce,S,rs,Pf⟩:=h
 refine⟨toTS (Gx K) E _,(zad (zk4 (k:=2) zdF (zcw (N:=["_law_many", "_law_lines_here", "_law_joined_here", "_law_one", "_law_other"]) (psc:=zaf za0) (js:=[]) (N':=["_law_k"]) (by decide +kernel)) rfl rfl (zeH rfl T.n_range (zab (zaa 0) zag)) (fun _ _ _ _=>zch) (fun _ _ _ _=>(zbI zag)) sc_j.nd rfl rfl (by with_unfolding_all rfl))
   (zad (zba PassesOwn.leaving rfl (zhb (zaa 1)) (zn8 rfl (zeS (zaM (i:=3) sc_j.nd rfl (Or.inl rfl)) (zeS (zaM (i:=4) sc_j.nd rfl (Or.inl rfl)) zk2)))
   (zad (za1 (zdp PySem.F.slot_list_append PySem.F.type_list_append zaY zdK (zaK (zaa 2) (zaa 3) (fun _ _=>rfl)) (zab (zaa 4) zag)))
   (zah (za1 (zdp PySem.F.slot_list_append PySem.F.type_list_append zaY zdK (zaK (zaa 2) (zaa 4) (fun _ _=>rfl)) (zab (zaa 3) zag))))))
   (zah (zaz (zbg (zhp K) (zfg K) rfl T.n_tuple PyProof.Rows.boot_tuple (zab (zhD zdF (zcw (N:=["_law_many", "_law_lines_here", "_law_joined_here", "_law_one", "_law_other"]) (psc:=zaf za0) (js:=[]) (N':=["_law_some"]) (by decide +kernel)) rfl rfl (zhb (zaa 2)) (fun _ _ _ _=>zch) (fun _ _ _ _=>(zbg (zhp K) (zfg K) rfl T.n_tuple PyProof.Rows.boot_tuple (zab (zaB (zjQ rfl rfl) (zjR K zdF) rfl T.n_sorted PyProof.Rows.boot_sorted (zab (zaa 0) zag)) zag)))) zag)))))),?_⟩
 exact zaA (G:=Gx K) (E:=E) zbU ["_law_many", "_law_lines_here", "_law_joined_here", "_law_one", "_law_other"] S rs Pf
set_option maxHeartbeats 0 in
theorem zgV(fu:Nat)(T:Txt K mg A):FnOk P w K mg base (CXx P w) 2 A.f_t A.d_t ["_law_xs"] (spD K 1 (d_t fu)):=by
 have G_k:=zcu (P:=P) (w:=w) (base:=base) fu T
 refine T.F_t.okX (k:=1) sc_t (fun vs H Q E h=>h.1) (fun cdv Ar outer s H vs Q E hr h=>?_)
 obtain⟨_,F,as,ws,ce,S,rs,Pf⟩:=h
 refine⟨toTS (Gx K) E _,(zad (za8 (zcP (za7 (zaK (zaa 0) zak (fun _ _=>rfl)) zak) zak) (zad (zas (i:=1) sc_t.nd rfl (Or.inr rfl) (zbm zak (za7 (zaK (zaa 0) zak (fun _ _=>rfl)) zak)))
   (zad (zas (i:=2) sc_t.nd rfl (Or.inl rfl) (ze8 (zaa 1) (zbm zak (za7 (zaK (zaa 0) zak (fun _ _=>rfl)) zak))))
   (zad (za8 (zcP (za7 (zkL (zaK (zaa 0) zak (fun _ _=>rfl)) zak) zak) zak) (zad (zas (i:=1) sc_t.nd rfl (Or.inr rfl) (zbm zak (za7 (zaK (zaa 0) zak (fun _ _=>rfl)) zak)))
   (zah (zas (i:=2) sc_t.nd rfl (Or.inl rfl) (ze8 zak (zaa 1))))) zaD)
   (zad (zk4 (k:=3) zmb (zcw (N:=["_law_xs", "_law_wide", "_law_many", "_law_lines_here", "_law_beside", "_law_ys", "_law_one", "_law_other"]) (psc:=zaf zaS) (js:=[1]) (N':=["_law_k", "_law_wide"]) (by decide +kernel)) rfl rfl (zeH rfl T.n_range (zab (zhv (zaa 2) (zaa 1)) zag)) (fun _ _ _ _=>zch) (fun _ _ _ _=>(zds (zab (zaa 0) (zab (zbm (zaa 0) (zaa 1)) zag)))) sc_t.nd rfl rfl (by with_unfolding_all rfl))
   (zad (zk4 (k:=4) zdF (zcw (N:=["_law_xs", "_law_wide", "_law_many", "_law_lines_here", "_law_beside", "_law_ys", "_law_one", "_law_other"]) (psc:=zaf zaS) (js:=[1]) (N':=["_law_k", "_law_wide"]) (by decide +kernel)) rfl rfl (zeH rfl T.n_range (zab (zhv (zaa 2) zak) zag)) (fun _ _ _ _=>(zdI (zo8 (za7 (zbm (zaa 0) zak) (zaa 1)) zak))) (fun _ _ _ _=>(zaa 0)) sc_t.nd rfl rfl (by with_unfolding_all rfl))
   (zah (zaz (zds (zab (zaa 2) (zab (zhA zdF (zaa 3) (zhD zdF (zcw (N:=["_law_xs", "_law_wide", "_law_many", "_law_lines_here", "_law_beside", "_law_ys", "_law_one", "_law_other"]) (psc:=zaf zaS) (js:=[]) (N':=["_law_k"]) (by decide +kernel)) rfl rfl (zhb (zaa 4)) (fun _ _ _ _=>zch) (fun _ _ _ _=>(zds (zab (zaa 0) (zab (zbm (zaa 0) zak) zag)))))) zag)))))))))) zaD)
   (zad (zas (i:=2) sc_t.nd rfl (Or.inl rfl) (zbm zak (za7 (zaK (zaa 0) zak (fun _ _=>rfl)) (zaK (zdE (zab zak (zab zak (zab zak (zab zak zag))))) (za7 (zaK (zaa 0) zak (fun _ _=>rfl)) zak) (fun _ _=>rfl)))))
   (zad (zk4 (k:=3) zmb (zcw (N:=["_law_xs", "_law_wide", "_law_many", "_law_lines_here", "_law_beside", "_law_ys", "_law_one", "_law_other"]) (psc:=zaf zaS) (js:=[]) (N':=["_law_k"]) (by decide +kernel)) rfl rfl (zeH rfl T.n_range (zab (zhv (zaa 2) zak) zag)) (fun _ _ _ _=>zch) (fun _ _ _ _=>(zds (zab (zaa 0) (zab (zbm (zaa 0) zak) zag)))) sc_t.nd rfl rfl (by with_unfolding_all rfl))
   (zad (za8 (PW.pt (zfb (zcP (za7 (zaK (zaa 0) zak (fun _ _=>rfl)) zak) zak) (zfb (zo8 (zaa 2) zak) (zeh (zcP (za7 (zaK (zaa 0) zak (fun _ _=>rfl)) zak) zak))))) (zah (za1 (zdp PySem.F.slot_list_append PySem.F.type_list_append zaY zdK (zaa 3) (zab (zds (zab zak (zab (zhv (zaa 2) zak) zag))) zag)))) zaD)
   (zad (za8 (zo8 (za7 (zaK (zaa 0) zak (fun _ _=>rfl)) zak) zak) (zad (zas (i:=5) sc_t.nd rfl (Or.inl rfl) (zav G_k (hr.mono (by decide)) rfl T.g_k T.F_k.kp T.b_k (flies_cxOf.passes rfl) (zab (zaK (zaa 0) zak (fun _ _=>rfl)) (zab (ze8 (zaa 2) (zaa 2)) zag))))
   (zad (zas (i:=3) sc_t.nd rfl (Or.inl rfl) (zbI zag))
   (zah (zba PassesOwn.leaving rfl (zeH rfl T.n_range (zab (zaa 2) zag)) (zaM (i:=6) sc_t.nd rfl (Or.inl rfl))
   (zah (zba PassesOwn.leaving rfl (zeH rfl T.n_range (zab (zaa 6) zag)) (zaM (i:=7) sc_t.nd rfl (Or.inl rfl))
   (zah (za8 (zq2 (za7 (zaK (zaa 5) (zbm (ze8 (zaa 6) (zaa 2)) (zaa 7)) (fun _ _=>rfl)) zak) (za7 (zaK (zaa 0) zak (fun _ _=>rfl)) zak)) (zah (za1 (zdp PySem.F.slot_list_append PySem.F.type_list_append zaY zdK (zaa 3) (zab (zds (zab (zaa 7) (zab (zaa 6) zag))) zag)))) zaD)))))))) zaD)
   (zah (zaz (zds (zab (zaa 2) (zab (zaa 3) zag)))))))))),?_⟩
 exact zaA (G:=Gx K) (E:=E) zrb ["_law_xs", "_law_wide", "_law_many", "_law_lines_here", "_law_beside", "_law_ys", "_law_one", "_law_other"] S rs Pf
set_option maxHeartbeats 0 in
theorem ziC(fu:Nat)(T:Txt K mg A):FnOk P w K mg base (CXx P w) 1 A.f_da A.d_da ["_law_board", "_law_stand", "_law_point"] (spD K 3 (d_da fu)):=by
 refine T.F_da.okX (k:=0) sc_da (fun vs H Q E h=>h.1) (fun cdv Ar outer s H vs Q E hr h=>?_)
 obtain⟨_,F,as,ws,ce,S,rs,Pf⟩:=h
 refine⟨toTS (Gx K) E _,(zad (zas (i:=3) sc_da.nd rfl (Or.inl rfl) (zbI (zab (zaa 2) zag)))
   (zad (zas (i:=4) sc_da.nd rfl (Or.inl rfl) zak)
   (zad (zi6 fu PassesOwn.leaving (zq2 (zaa 4) (zaB (zc5 rfl) (zc6 K) rfl T.n_len PySem.boot_len (zab (zaa 3) zag))) (zad (zba PassesOwn.leaving rfl (zpb (zaK (zaa 0) (zaK (zaa 3) (zaa 4) (fun _ _=>rfl)) (fun _ _=>rfl))) (zaM (i:=5) sc_da.nd rfl (Or.inl rfl))
   (zah (za8 (PW.pt (zfb (zcP (zaK (zaa 1) (zaa 5) (fun _ _=>rfl)) (zaK (zaa 1) (zaa 2) (fun _ _=>rfl))) (zeh (zmL (hr.cmp 9) (zaa 5) (zaa 3) (by with_unfolding_all rfl))))) (zah (za1 (zdp PySem.F.slot_list_append PySem.F.type_list_append zaY zdK (zaa 3) (zab (zaa 5) zag)))) zaD)))
   (zah (zas (i:=4) sc_da.nd rfl (Or.inl rfl) (zbm (zaa 4) zak)))))
   (zah (zaz (zaa 3)))))),?_⟩
 exact zaA (G:=Gx K) (E:=E) zfH ["_law_board", "_law_stand", "_law_point", "_law_found", "_law_at", "_law_other"] S rs Pf
set_option maxHeartbeats 0 in
theorem zfA(fu:Nat)(T:Txt K mg A):FnOk P w K mg base (CXx P w) 1 A.f_g A.d_g ["_law_board", "_law_stand", "_law_row_here"] (spD K 3 (d_g fu)):=by
 refine T.F_g.okX (k:=0) sc_g (fun vs H Q E h=>h.1) (fun cdv Ar outer s H vs Q E hr h=>?_)
 obtain⟨_,F,as,ws,ce,S,rs,Pf⟩:=h
 refine⟨toTS (Gx K) E _,(zad (zas (i:=3) sc_g.nd rfl (Or.inl rfl) zfc)
   (zad (zba PassesOwn.leaving rfl (zhb (zaa 2)) (zaM (i:=4) sc_g.nd rfl (Or.inl rfl))
   (zah (zba PassesOwn.leaving rfl (zpb (zaK (zaa 0) (zaa 4) (fun _ _=>rfl))) (zaM (i:=5) sc_g.nd rfl (Or.inl rfl))
   (zah (za8 (zcP (zaK (zaa 1) (zaa 5) (fun _ _=>rfl)) zak) (zah (zfd (hr.cmp 1) (zaa 3) (zaa 5) zcV)) zaD)))))
   (zah (zaz (zaB (zjQ rfl rfl) (zjR K zmb) rfl T.n_sorted PyProof.Rows.boot_sorted (zab (zbg (zf3 rfl rfl) (zf4 K zdF) rfl T.n_list PyProof.Rows.boot_list (zab (zaa 3) zag)) zag)))))),?_⟩
 exact zaA (G:=Gx K) (E:=E) zfH ["_law_board", "_law_stand", "_law_row_here", "_law_found", "_law_point", "_law_other"] S rs Pf
set_option maxHeartbeats 0 in
theorem zgW(fu:Nat)(T:Txt K mg A):FnOk P w K mg base (CXx P w) 2 A.f_u A.d_u ["_law_board", "_law_stand", "_law_hand", "_law_point"] (spD K 4 (d_u fu)):=by
 have G_da:=ziC (P:=P) (w:=w) (base:=base) fu T
 have G_g:=zfA (P:=P) (w:=w) (base:=base) fu T
 refine T.F_u.okX (k:=1) sc_u (fun vs H Q E h=>h.1) (fun cdv Ar outer s H vs Q E hr h=>?_)
 obtain⟨_,F,as,ws,ce,S,rs,Pf⟩:=h
 refine⟨toTS (Gx K) E _,(zad (za8 (zrk (zaK (zaa 1) (zaa 3) (fun _ _=>rfl)) zak) (zah (zaz ze7)) zaD)
   (zad (zas (i:=4) sc_u.nd rfl (Or.inl rfl) zfc)
   (zad (zas (i:=5) sc_u.nd rfl (Or.inl rfl) zfc)
   (zad (zba PassesOwn.leaving rfl (zpb (zaK (zaa 0) (zaa 3) (fun _ _=>rfl))) (zaM (i:=6) sc_u.nd rfl (Or.inl rfl))
   (zah (za8 (zcP (zaK (zaa 1) (zaa 6) (fun _ _=>rfl)) zak) (zah (zfd (hr.cmp 1) (zaa 5) (zaa 6) zcV)) (zad (zas (i:=7) sc_u.nd rfl (Or.inl rfl) (zav (zc4 G_da) (hr.mono (by decide)) rfl T.g_da T.F_da.kp T.b_da (flies_cxOf.passes rfl) (zab (zaa 0) (zab (zaa 1) (zab (zaa 6) zag)))))
   (zad (zas (i:=8) sc_u.nd rfl (Or.inl rfl) (zav G_g (hr.mono (by decide)) rfl T.g_g T.F_g.kp T.b_g (flies_cxOf.passes rfl) (zab (zaa 0) (zab (zaa 1) (zab (zaa 7) zag)))))
   (zad (za1 (zdp PySem.F.slot_list_remove PySem.F.type_list_remove zrX ztK (zaa 8) (zab (zaa 3) zag)))
   (zah (za8 (zcP (zaK (zaa 1) (zaa 6) (fun _ _=>rfl)) (zaa 2)) (zah (zba PassesOwn.leaving rfl (zhb (zaa 8)) (zaM (i:=9) sc_u.nd rfl (Or.inl rfl))
   (zah (zfd (hr.cmp 1) (zaa 5) (zaa 9) zcV)))) (zah (za8 (zhw (hr.cmp 8) (zaa 8) (zdE zag)) (zah (zba PassesOwn.leaving rfl (zhb (zaa 7)) (zaM (i:=9) sc_u.nd rfl (Or.inl rfl))
   (zah (zfd (hr.cmp 1) (zaa 4) (zaa 9) zcV)))) zaD))))))))))
   (zad (za8 (PW.pt (zfb (zcP (zaB (zc5 rfl) (zc6 K) rfl T.n_len PySem.boot_len (zab (zaa 5) zag)) zak) (zeh (zcP (zaB (zc5 rfl) (zc6 K) rfl T.n_len PySem.boot_len (zab (zaa 4) zag)) zak)))) (zah (zaz ze7)) zaD)
   (zad (zas (i:=10) sc_u.nd rfl (Or.inl rfl) (zbg (zf3 rfl rfl) (zf4 K zmb) rfl T.n_list PyProof.Rows.boot_list (zab (zaa 1) zag)))
   (zad (zba PassesOwn.leaving rfl (zuS (zaa 4)) (zaM (i:=9) sc_u.nd rfl (Or.inl rfl))
   (zah (zi4 zak (zih (E:=E0) (zaa 10) (zaa 9)))))
   (zad (zi4 (zaa 2) (zih (E:=E0) (zaa 10) (zaa 3)))
   (zah (zaz (zds (zab (zbg (zhp K) (zfg K) rfl T.n_tuple PyProof.Rows.boot_tuple (zab (zaa 10) zag)) (zab (zaB (zjQ rfl rfl) (zjR K zdF) rfl T.n_sorted PyProof.Rows.boot_sorted (zab (zbg (zf3 rfl rfl) (zf4 K zdF) rfl T.n_list PyProof.Rows.boot_list (zab (zaa 4) zag)) zag)) zag))))))))))))),?_⟩
 exact zaA (G:=Gx K) (E:=E) zbU ["_law_board", "_law_stand", "_law_hand", "_law_point", "_law_taken", "_law_breath", "_law_other", "_law_row_here", "_law_left", "_law_one", "_law_there"] S rs Pf
set_option maxHeartbeats 0 in
theorem zgX(fu:Nat)(T:Txt K mg A):FnOk P w K mg base (CXx P w) 3 A.f_m A.d_m ["_law_board", "_law_cells"] (spD K 2 (d_m fu)):=by
 have G_k:=zcu (P:=P) (w:=w) (base:=base) fu T
 have G_u:=zgW (P:=P) (w:=w) (base:=base) fu T
 refine T.F_m.okX (k:=2) sc_m (fun vs H Q E h=>h.1) (fun cdv Ar outer s H vs Q E hr h=>?_)
 obtain⟨_,F,as,ws,ce,S,rs,Pf⟩:=h
 refine⟨toTS (Gx K) E _,(zad (zas (i:=2) sc_m.nd rfl (Or.inl rfl) (zbg (zhp K) (zfg K) rfl T.n_tuple PyProof.Rows.boot_tuple (zab (zhD zdF (zcw (N:=["_law_board", "_law_cells", "_law_stand", "_law_cell", "_law_xs", "_law_k", "_law_point", "_law_found"]) (psc:=zaf zbi) (js:=[]) (N':=["_law_point"]) (by decide +kernel)) rfl rfl (zpb (zaa 0)) (fun _ _ _ _=>zch) (fun _ _ _ _=>zak)) zag)))
   (zad (zba PassesOwn.leaving rfl (zhb (zaa 1)) (zaM (i:=3) sc_m.nd rfl (Or.inl rfl))
   (zad (zas (i:=4) sc_m.nd rfl (Or.inl rfl) (zav G_k (hr.mono (by decide)) rfl T.g_k T.F_k.kp T.b_k (flies_cxOf.passes rfl) (zab (zaa 3) (zab zak zag))))
   (zah (zba PassesOwn.leaving rfl (zeH rfl T.n_range (zab (zbm zak (za7 (zaK (zaa 4) zak (fun _ _=>rfl)) zak)) zag)) (zaM (i:=5) sc_m.nd rfl (Or.inl rfl))
   (zad (zas (i:=6) sc_m.nd rfl (Or.inl rfl) (za7 (zbm (zaK (zaa 4) zak (fun _ _=>rfl)) (ze8 zak (zaa 5))) (zaB (zc5 rfl) (zc6 K) rfl T.n_len PySem.boot_len (zab (zaa 0) zag))))
   (zad (zas (i:=7) sc_m.nd rfl (Or.inl rfl) (zav G_u (hr.mono (by decide)) rfl T.g_u T.F_u.kp T.b_u (flies_cxOf.passes rfl) (zab (zaa 0) (zab (zaa 2) (zab (zbm zak (za7 (zbm (zaK (zaa 4) zak (fun _ _=>rfl)) (zaa 5)) zak)) (zab (zaa 6) zag))))))
   (zah (za8 (zc3 (zaB (zsm K) (zmV K) rfl T.n_isinstance PyProof.Rows.boot_isinstance (zab (zaa 7) (zab (zmZ rfl T.n_tuple PyProof.Rows.boot_tuple) zag)))) (zah (zas (i:=2) sc_m.nd rfl (Or.inl rfl) (zaK (zaa 7) zak (fun _ _=>rfl)))) zaD))))))))
   (zah (zaz (zaa 2))))),?_⟩
 exact zaA (G:=Gx K) (E:=E) zbU ["_law_board", "_law_cells", "_law_stand", "_law_cell", "_law_xs", "_law_k", "_law_point", "_law_found"] S rs Pf
set_option maxHeartbeats 0 in
theorem zcK(fu:Nat)(T:Txt K mg A):FnOk P w K mg base (CXx P w) 1 A.f_n A.d_n ["self"] (spD K 1 (d_n fu)):=by
 refine T.F_n.okX (k:=0) zgR (fun vs H Q E h=>h.1) (fun cdv Ar outer s H vs Q E hr h=>?_)
 obtain⟨_,F,as,ws,ce,S,rs,Pf⟩:=h
 refine⟨toTS (Gx K) E _,(zah (zaz (zaK (zbh T.cls_Game T.na_Game_past (zaa 0)) (ziX zak) (fun _ _=>rfl)))),?_⟩
 exact zaA (G:=Gx K) (E:=E) zbU ["self"] S rs Pf
set_option maxHeartbeats 0 in
theorem zcd(fu:Nat)(T:Txt K mg A):FnOk P w K mg base (CXx P w) 2 A.f_f A.d_f ["self", "moment"] (spD K 2 (d_f fu)):=by
 have G_o:=zcJ (P:=P) (w:=w) (base:=base) fu T
 refine T.F_f.okX (k:=1) zfy (fun vs H Q E h=>h.1) (fun cdv Ar outer s H vs Q E hr h=>?_)
 obtain⟨_,F,as,ws,ce,S,rs,Pf⟩:=h
 refine⟨toTS (Gx K) E _,(zah (zaz (zq6 (zhw (hr.cmp 8) (za7 (zaa 1) zak) zak) (zbh T.cls_Game T.na_Game_first (zaa 0)) (zav G_o (hr.mono (by decide)) rfl T.g_o T.F_o.kp T.b_o (flies_cxOf.passes rfl) (zab (zbh T.cls_Game T.na_Game_first (zaa 0)) zag))))),?_⟩
 exact zaA (G:=Gx K) (E:=E) zbU ["self", "moment"] S rs Pf
set_option maxHeartbeats 0 in
theorem zcm(fu:Nat)(T:Txt K mg A):FnOk P w K mg base (CXx P w) 3 A.f_x A.d_x ["self"] (spD K 1 (d_x fu)):=by
 have G_f:=zcd (P:=P) (w:=w) (base:=base) fu T
 refine T.F_x.okX (k:=2) zhT (fun vs H Q E h=>h.1) (fun cdv Ar outer s H vs Q E hr h=>?_)
 obtain⟨_,F,as,ws,ce,S,rs,Pf⟩:=h
 refine⟨toTS (Gx K) E _,(zah (zaz (zct T.cls_Game T.mt_f G_f (hr.mono (by decide)) T.b_f (flies_cxOf.passes rfl) (zaa 0) (zab (zaB (zc5 rfl) (zc6 K) rfl T.n_len PySem.boot_len (zab (zbh T.cls_Game T.na_Game_done (zaa 0)) zag)) zag)))),?_⟩
 exact zaA (G:=Gx K) (E:=E) zbU ["self"] S rs Pf
set_option maxHeartbeats 0 in
theorem zfQ(fu:Nat)(T:Txt K mg A):FnOk P w K mg base (CXx P w) 1 A.f_l A.d_l ["self"] (spD K 1 (d_l fu)):=by
 refine T.F_l.okX (k:=0) zfO (fun vs H Q E h=>h.1) (fun cdv Ar outer s H vs Q E hr h=>?_)
 obtain⟨_,F,as,ws,ce,S,rs,Pf⟩:=h
 refine⟨toTS (Gx K) E _,(zah (zaz (zbg (zf3 rfl rfl) (zf4 K zdF) rfl T.n_list PyProof.Rows.boot_list (zab (zbh T.cls_Game T.na_Game_past (zaa 0)) zag)))),?_⟩
 exact zaA (G:=Gx K) (E:=E) zbU ["self"] S rs Pf
set_option maxHeartbeats 0 in
theorem zd6(fu:Nat)(T:Txt K mg A):FnOk P w K mg base (CXx P w) 1 A.f_p A.d_p ["self"] (spD K 1 (d_p fu)):=by
 refine T.F_p.okX (k:=0) zgS (fun vs H Q E h=>h.1) (fun cdv Ar outer s H vs Q E hr h=>?_)
 obtain⟨_,F,as,ws,ce,S,rs,Pf⟩:=h
 refine⟨toTS (Gx K) E _,(zah (zaz (zbg (zf3 rfl rfl) (zf4 K zdF) rfl T.n_list PyProof.Rows.boot_list (zab (zbh T.cls_Game T.na_Game_done (zaa 0)) zag)))),?_⟩
 exact zaA (G:=Gx K) (E:=E) zbU ["self"] S rs Pf
set_option maxHeartbeats 0 in
theorem zcL(fu:Nat)(T:Txt K mg A):FnOk P w K mg base (CXx P w) 1 A.f_q A.d_q ["self"] (spD K 1 (d_q fu)):=by
 refine T.F_q.okX (k:=0) zgT (fun vs H Q E h=>h.1) (fun cdv Ar outer s H vs Q E hr h=>?_)
 obtain⟨_,F,as,ws,ce,S,rs,Pf⟩:=h
 refine⟨toTS (Gx K) E _,(zad (za8 (zhw (hr.cmp 8) (zhz zdF (zbh T.cls_Game T.na_Game_done (zaa 0)) (zcp (ziX zak)) zei) (zdE (zab zf0 (zab zf0 zag)))) (zah (zaz ze7)) zaD)
   (zad (za8 (zth (zaB (zc5 rfl) (zc6 K) rfl T.n_len PySem.boot_len (zab (zbh T.cls_Game T.na_Game_done (zaa 0)) zag)) (zmY rfl T.c_MOST_DEEDS)) (zah (zaz ze7)) zaD)
   (zah (zaz zf0)))),?_⟩
 exact zaA (G:=Gx K) (E:=E) zbU ["self"] S rs Pf
set_option maxHeartbeats 0 in
theorem zd7(fu:Nat)(T:Txt K mg A):FnOk P w K mg base (CXx P w) 4 A.f_b A.d_b ["self", "moment"] (spD K 2 (d_b fu)):=by
 have G_f:=zcd (P:=P) (w:=w) (base:=base) fu T
 have G_o:=zcJ (P:=P) (w:=w) (base:=base) fu T
 have G_x:=zcm (P:=P) (w:=w) (base:=base) fu T
 refine T.F_b.okX (k:=3) zd5 (fun vs H Q E h=>h.1) (fun cdv Ar outer s H vs Q E hr h=>?_)
 obtain⟨_,F,as,ws,ce,S,rs,Pf⟩:=h
 refine⟨toTS (Gx K) E _,(zah (zaz (zti (zq1 (hr.cmp 8) (zbh T.cls_Game T.na_Game_barring (zaa 0)) ze7) (zkU (zq1 (hr.cmp 8) (zct T.cls_Game T.mt_f G_f (hr.mono (by decide)) T.b_f (flies_cxOf.passes rfl) (zaa 0) (zab (zaa 1) zag)) (zav G_o (hr.mono (by decide)) rfl T.g_o T.F_o.kp T.b_o (flies_cxOf.passes rfl) (zab (za9 T.cls_Game T.mt_x G_x (hr.mono (by decide)) T.b_x (flies_cxOf.passes rfl) (zaa 0)) zag))))))),?_⟩
 exact zaA (G:=Gx K) (E:=E) zbU ["self", "moment"] S rs Pf
set_option maxHeartbeats 0 in
theorem zde(fu:Nat)(T:Txt K mg A):FnOk P w K mg base (CXx P w) 5 A.f_h A.d_h ["self", "behind"] (spD K 2 (d_h fu)):=by
 have G_b:=zd7 (P:=P) (w:=w) (base:=base) fu T
 refine T.F_h.okX (k:=4) sc_h (fun vs H Q E h=>h.1) (fun cdv Ar outer s H vs Q E hr h=>?_)
 obtain⟨_,F,as,ws,ce,S,rs,Pf⟩:=h
 refine⟨toTS (Gx K) E _,(zad (zba PassesOwn.leaving rfl (zeH rfl T.n_range (zab (zaB (zc5 rfl) (zc6 K) rfl T.n_len PySem.boot_len (zab (zbh T.cls_Game T.na_Game_past (zaa 0)) zag)) zag)) (zaM (i:=2) sc_h.nd rfl (Or.inl rfl))
   (zah (za8 (PW.pt (zfb (zhw (hr.cmp 8) (zaK (zbh T.cls_Game T.na_Game_past (zaa 0)) (zaa 2) (fun _ _=>rfl)) (zaa 1)) (zeh (zc3 (zct T.cls_Game T.mt_b G_b (hr.mono (by decide)) T.b_b (flies_cxOf.passes rfl) (zaa 0) (zab (zaa 2) zag)))))) (zah (zaz (zaa 2))) zaD)))
   (zah (zaz zf0))),?_⟩
 exact zaA (G:=Gx K) (E:=E) zbU ["self", "behind", "moment"] S rs Pf
set_option maxHeartbeats 0 in
theorem zd8(fu:Nat)(T:Txt K mg A):FnOk P w K mg base (CXx P w) 7 A.f_a A.d_a ["self"] (spD K 1 (d_a fu)):=by
 have G_fa:=zjY (P:=P) (w:=w) (base:=base) fu T
 have G_q:=zcL (P:=P) (w:=w) (base:=base) fu T
 have G_n:=zcK (P:=P) (w:=w) (base:=base) fu T
 have G_x:=zcm (P:=P) (w:=w) (base:=base) fu T
 have G_h:=zde (P:=P) (w:=w) (base:=base) fu T
 refine T.F_a.okX (k:=6) sc_a (fun vs H Q E h=>h.1) (fun cdv Ar outer s H vs Q E hr h=>?_)
 obtain⟨_,F,as,ws,ce,S,rs,Pf⟩:=h
 refine⟨toTS (Gx K) E _,(zad (za8 (zeg (za9 T.cls_Game T.mt_q G_q (hr.mono (by decide)) T.b_q (flies_cxOf.passes rfl) (zaa 0))) (zah (zaz (zbI zag))) zaD)
   (zad (zas (i:=1) sc_a.nd rfl (Or.inl rfl) (zav (zc4 G_fa) (hr.mono (by decide)) rfl T.g_fa T.F_fa.kp T.b_fa (flies_cxOf.passes rfl) (zab (zbh T.cls_Game T.na_Game_joined (zaa 0)) (zab (za9 T.cls_Game T.mt_n G_n (hr.mono (by decide)) T.b_n (flies_cxOf.passes rfl) (zaa 0)) (zab (za9 T.cls_Game T.mt_x G_x (hr.mono (by decide)) T.b_x (flies_cxOf.passes rfl) (zaa 0)) (zab (zpe zdF rfl rfl T.n_list rfl T.n_range (zab (zaB (zc5 rfl) (zc6 K) rfl T.n_len PySem.boot_len (zab (zbh T.cls_Game T.na_Game_joined (zaa 0)) zag)) zag)) zag))))))
   (zad (zk4 (k:=2) zmb (zcw (N:=["self", "lays", "found"]) (psc:=zaf zaN) (js:=[0]) (N':=["lay", "self"]) (by decide +kernel)) rfl rfl (zhb (zaa 1)) (fun _ _ _ _=>(zdI (zor (zq3 (zct T.cls_Game T.mt_h G_h (hr.mono (by decide)) T.b_h zgK (zaa 1) (zab (zaK (zaa 0) zak (fun _ _=>rfl)) zag)))))) (fun _ _ _ _=>(zaK (zaa 0) zak (fun _ _=>rfl))) sc_a.nd rfl rfl (by with_unfolding_all rfl))
   (zad (za1 (zdp PySem.F.slot_list_append PySem.F.type_list_append zaY zdK (zaa 2) (zab zf0 zag)))
   (zah (zaz (zaa 2))))))),?_⟩
 exact zaA (G:=Gx K) (E:=E) zfH ["self", "lays", "found"] S rs Pf
set_option maxHeartbeats 0 in
theorem zhW(fu:Nat)(T:Txt K mg A):FnOk P w K mg base (CXx P w) 3 A.f_v A.d_v ["self", "hand"] (spD K 2 (d_v fu)):=by
 have G_f:=zcd (P:=P) (w:=w) (base:=base) fu T
 refine T.F_v.okX (k:=2) zhU (fun vs H Q E h=>h.1) (fun cdv Ar outer s H vs Q E hr h=>?_)
 obtain⟨_,F,as,ws,ce,S,rs,Pf⟩:=h
 refine⟨toTS (Gx K) E _,(zah (zaz (zaB znp (ztL K) rfl T.n_sum PyProof.Rows.boot_sum (zab (zhD zdF (zcw (N:=["self", "hand"]) (psc:=zaf zbq) (js:=[0,1]) (N':=["moment", "self", "hand"]) (by decide +kernel)) rfl rfl (zeH rfl T.n_range (zab (zaB (zc5 rfl) (zc6 K) rfl T.n_len PySem.boot_len (zab (zbh T.cls_Game T.na_Game_done (zaa 0)) zag)) zag)) (fun _ _ _ _=>(zdI (zor (zmK (hr.cmp 8) (zct T.cls_Game T.mt_f G_f (hr.mono (by decide)) T.b_f zgK (zaa 1) (zab (zaa 0) zag)) (zaa 2))))) (fun _ _ _ _=>(zaK (zbh T.cls_Game T.na_Game_takings (zaa 1)) (zaa 0) (fun _ _=>rfl)))) zag)))),?_⟩
 exact zaA (G:=Gx K) (E:=E) zbU ["self", "hand"] S rs Pf
set_option maxHeartbeats 0 in
theorem zd9(fu:Nat)(T:Txt K mg A):FnOk P w K mg base (CXx P w) 8 A.f_r A.d_r ["_law_game"] (spD K 1 (d_r fu)):=by
 have G_n:=zcK (P:=P) (w:=w) (base:=base) fu T
 have G_x:=zcm (P:=P) (w:=w) (base:=base) fu T
 have G_l:=zfQ (P:=P) (w:=w) (base:=base) fu T
 have G_p:=zd6 (P:=P) (w:=w) (base:=base) fu T
 have G_a:=zd8 (P:=P) (w:=w) (base:=base) fu T
 have G_v:=zhW (P:=P) (w:=w) (base:=base) fu T
 have G_q:=zcL (P:=P) (w:=w) (base:=base) fu T
 refine T.F_r.okX (k:=7) sc_r (fun vs H Q E h=>h.1) (fun cdv Ar outer s H vs Q E hr h=>?_)
 obtain⟨_,F,as,ws,ce,S,rs,Pf⟩:=h
 refine⟨toTS (Gx K) E _,(zad (zas (i:=1) sc_r.nd rfl (Or.inl rfl) (zdE (zab (za9 T.cls_Game T.mt_n G_n (hr.mono (by decide)) T.b_n (flies_cxOf.passes rfl) (zaa 0)) (zab (za9 T.cls_Game T.mt_x G_x (hr.mono (by decide)) T.b_x (flies_cxOf.passes rfl) (zaa 0)) (zab (za9 T.cls_Game T.mt_l G_l (hr.mono (by decide)) T.b_l (flies_cxOf.passes rfl) (zaa 0)) (zab (za9 T.cls_Game T.mt_p G_p (hr.mono (by decide)) T.b_p (flies_cxOf.passes rfl) (zaa 0)) (zab (za9 T.cls_Game T.mt_a (zc4 G_a) (hr.mono (by decide)) T.b_a (flies_cxOf.passes rfl) (zaa 0)) zag)))))))
   (zah (zaz (zhA zdF (zaa 1) (zdE (zab (zct T.cls_Game T.mt_v G_v (hr.mono (by decide)) T.b_v (flies_cxOf.passes rfl) (zaa 0) (zab zak zag)) (zab (zct T.cls_Game T.mt_v G_v (hr.mono (by decide)) T.b_v (flies_cxOf.passes rfl) (zaa 0) (zab zak zag)) (zab (za9 T.cls_Game T.mt_q G_q (hr.mono (by decide)) T.b_q (flies_cxOf.passes rfl) (zaa 0)) zag)))))))),?_⟩
 exact zaA (G:=Gx K) (E:=E) zbU ["_law_game", "_law_found"] S rs Pf
set_option maxHeartbeats 0 in
theorem zeF(fu:Nat)(T:Txt K mg A):FnOk P w K mg base (CXx P w) 1 A.f_w A.d_w ["self"] (spD K 1 (d_w fu)):=by
 refine T.F_w.okX (k:=0) zhV (fun vs H Q E h=>h.1) (fun cdv Ar outer s H vs Q E hr h=>?_)
 obtain⟨_,F,as,ws,ce,S,rs,Pf⟩:=h
 refine⟨toTS (Gx K) E _,(zad (za8 (zcN (ziY (zbh T.cls_Game T.na_Game_done (zaa 0)))) (zah (zdl (l:=[]) flies_cxOf rfl T.xt rfl rfl rfl hr.hd zjj (fun _ _=>trivial))) zaD)
   (zad (za1 (zhH PySem.F.slot_list_pop PySem.F.type_list_pop zhn zk6 (zbh T.cls_Game T.na_Game_past (zaa 0))))
   (zad (za1 (zhH PySem.F.slot_list_pop PySem.F.type_list_pop zhn zk6 (zbh T.cls_Game T.na_Game_done (zaa 0))))
   (zah (za1 (zhH PySem.F.slot_list_pop PySem.F.type_list_pop zhn zk6 (zbh T.cls_Game T.na_Game_takings (zaa 0)))))))),?_⟩
 exact zaA (G:=Gx K) (E:=E) zbU ["self"] S rs Pf
set_option maxHeartbeats 0 in
theorem zfB(fu:Nat)(T:Txt K mg A):FnOk P w K mg base (CXx P w) 2 A.f_i A.d_i ["_law_game"] (spD K 1 (d_i fu)):=by
 have G_w:=zeF (P:=P) (w:=w) (base:=base) fu T
 refine T.F_i.okX (k:=1) sc_i (fun vs H Q E h=>h.1) (fun cdv Ar outer s H vs Q E hr h=>?_)
 obtain⟨_,F,as,ws,ce,S,rs,Pf⟩:=h
 refine⟨toTS (Gx K) E _,(zad (zas (i:=1) sc_i.nd rfl (Or.inl rfl) zf0)
   (zad (zlA rfl rfl rfl T.cls_Game T.mt_w G_w (hr.mono (by decide)) T.b_w (zaa 0) (ztJ (i:=2) rfl T.xt rfl sc_i.nd rfl rfl rfl (fun _=>(zah (zas (i:=1) sc_i.nd rfl (Or.inl rfl) (zaa 2))))))
   (zad (za8 (PW.pt (zmN (zcN (zc3 (zpB rfl T.xt rfl (zaa 1) rfl T.n_isinstance rfl))) (zi3 (zcN (zc3 (zpC rfl T.xt (zaa 1) rfl T.n_isinstance rfl T.n_ValueError)))))) (zah (zaz zcV)) zaD)
   (zah (zaz (zn6 (zpE rfl T.xt rfl (by decide) (zaa 1) (zdT (T.xt.at rfl) rfl (zdT (T.xt.at rfl) rfl (zdT (T.xt.at rfl) rfl (zdT (T.xt.at rfl) rfl (zdT (T.xt.at rfl) rfl zpD))))) rfl T.n_isinstance))))))),?_⟩
 exact zaA (G:=Gx K) (E:=E) zbU ["_law_game", "_law_caught", "error"] S rs Pf
set_option maxHeartbeats 0 in
theorem zeu(fu:Nat)(T:Txt K mg A):FnOk P w K mg base (CXx P w) 9 A.f_c A.d_c ["_law_game", "_law_states", "_law_count"] (spD K 3 (d_c fu)):=by
 have G_w:=zeF (P:=P) (w:=w) (base:=base) fu T
 have G_r:=zd9 (P:=P) (w:=w) (base:=base) fu T
 have G_i:=zfB (P:=P) (w:=w) (base:=base) fu T
 refine T.F_c.okX (k:=8) sc_c (fun vs H Q E h=>h.1) (fun cdv Ar outer s H vs Q E hr h=>?_)
 obtain⟨_,F,as,ws,ce,S,rs,Pf⟩:=h
 refine⟨toTS (Gx K) E _,(zad (zba PassesOwn.leaving rfl (zeH rfl T.n_range (zab (zaa 2) zag)) (zaM (i:=3) sc_c.nd rfl (Or.inl rfl))
   (zah (za8 (zcP (zaB (zc5 rfl) (zc6 K) rfl T.n_len PySem.boot_len (zab (zaa 1) zag)) zak) (zah (za8 (PW.pt (zmN (zcN (zc3 (zav G_i (hr.mono (by decide)) rfl T.g_i T.F_i.kp T.b_i (flies_cxOf.passes rfl) (zab (zaa 0) zag)))) (zi3 (zon (hr.cmp 8) (zav G_r (hr.mono (by decide)) rfl T.g_r T.F_r.kp T.b_r (flies_cxOf.passes rfl) (zab (zaa 0) zag)) (zaK (zaa 1) zak (fun _ _=>rfl)))))) (zah (zaz zcV)) zaD)) (zad (za8 (zeg (za9 T.cls_Game T.mt_w G_w (hr.mono (by decide)) T.b_w (flies_cxOf.passes rfl) (zaa 0))) (zah (zaz zcV)) zaD)
   (zad (za1 (zhH PySem.F.slot_list_pop PySem.F.type_list_pop zhn zk6 (zaa 1)))
   (zah (za8 (zon (hr.cmp 8) (zav G_r (hr.mono (by decide)) rfl T.g_r T.F_r.kp T.b_r (flies_cxOf.passes rfl) (zab (zaa 0) zag)) (zaK (zaa 1) (ziX zak) (fun _ _=>rfl))) (zah (zaz zcV)) zaD)))))))
   (zah (zaz zcV))),?_⟩
 exact zaA (G:=Gx K) (E:=E) zbU ["_law_game", "_law_states", "_law_count", "_law_k"] S rs Pf
set_option maxHeartbeats 0 in
theorem zeL(fu:Nat)(T:Txt K mg A):FnOk P w K mg base (CXx P w) 5 A.f_e A.d_e ["self", "board", "rule", "stand", "hand"] (spD K 5 (d_e fu)):=by
 have G_z:=ziA (P:=P) (w:=w) (base:=base) fu T
 have G_ba:=ziB (P:=P) (w:=w) (base:=base) fu T
 refine T.F_e.okX (k:=4) zeJ (fun vs H Q E h=>h.1) (fun cdv Ar outer s H vs Q E hr h=>?_)
 obtain⟨_,F,as,ws,ce,S,rs,Pf⟩:=h
 refine⟨toTS (Gx K) E _,(zad (za8 (zcN (zc3 (zav G_z (hr.mono (by decide)) rfl T.g_z T.F_z.kp T.b_z (flies_cxOf.passes rfl) (zab (zaa 1) (zab (zaa 3) zag))))) (zah (zdl (l:=[]) flies_cxOf rfl T.xt rfl rfl rfl hr.hd zjj (fun _ _=>trivial))) zaD)
   (zad (za8 (zcN (zc3 (zav G_ba (hr.mono (by decide)) rfl T.g_ba T.F_ba.kp T.b_ba (flies_cxOf.passes rfl) (zab (zaa 1) (zab (zaa 3) zag))))) (zah (zdl (l:=[]) flies_cxOf rfl T.xt rfl rfl rfl hr.hd zjj (fun _ _=>trivial))) zaD)
   (zad (zga T.cls_Game T.na_Game_joined (zaa 0) (zaa 1))
   (zad (zga T.cls_Game T.na_Game_barring (zaa 0) (zaa 2))
   (zad (zga T.cls_Game T.na_Game_first (zaa 0) (zaa 4))
   (zad (zga T.cls_Game T.na_Game_past (zaa 0) (zbI (zab (zaa 3) zag)))
   (zad (zga T.cls_Game T.na_Game_done (zaa 0) (zbI zag))
   (zah (zga T.cls_Game T.na_Game_takings (zaa 0) (zbI zag)))))))))),?_⟩
 exact zaA (G:=Gx K) (E:=E) zrb ["self", "board", "rule", "stand", "hand"] S rs Pf
set_option maxHeartbeats 0 in
theorem zhX(fu:Nat)(T:Txt K mg A):FnOk P w K mg base (CXx P w) 6 A.f_y A.d_y ["self", "what"] (spD K 2 (d_y fu)):=by
 have G_n:=zcK (P:=P) (w:=w) (base:=base) fu T
 have G_q:=zcL (P:=P) (w:=w) (base:=base) fu T
 have G_ja:=zlD (P:=P) (w:=w) (base:=base) fu T
 have G_h:=zde (P:=P) (w:=w) (base:=base) fu T
 have G_x:=zcm (P:=P) (w:=w) (base:=base) fu T
 have G_Again___init__:=zes (P:=P) (w:=w) (base:=base) T
 refine T.F_y.okX (k:=5) sc_y (fun vs H Q E h=>h.1) (fun cdv Ar outer s H vs Q E hr h=>?_)
 obtain⟨_,F,as,ws,ce,S,rs,Pf⟩:=h
 refine⟨toTS (Gx K) E _,(zad (za8 (zeg (za9 T.cls_Game T.mt_q G_q (hr.mono (by decide)) T.b_q (flies_cxOf.passes rfl) (zaa 0))) (zah (zdl (l:=[]) flies_cxOf rfl T.xt rfl rfl rfl hr.hd zjj (fun _ _=>trivial))) zaD)
   (zad (zas (i:=2) sc_y.nd rfl (Or.inl rfl) (za9 T.cls_Game T.mt_n G_n (hr.mono (by decide)) T.b_n (flies_cxOf.passes rfl) (zaa 0)))
   (zad (zas (i:=3) sc_y.nd rfl (Or.inl rfl) zak)
   (zad (za8 (zeg (zaa 1)) (zad (zas (i:=4) sc_y.nd rfl (Or.inl rfl) (zav G_ja (hr.mono (by decide)) rfl T.g_ja T.F_ja.kp T.b_ja (flies_cxOf.passes rfl) (zab (zbh T.cls_Game T.na_Game_joined (zaa 0)) (zab (zaa 2) (zab (za9 T.cls_Game T.mt_x G_x (hr.mono (by decide)) T.b_x (flies_cxOf.passes rfl) (zaa 0)) (zab (zaa 1) zag))))))
   (zad (zas (i:=2) sc_y.nd rfl (Or.inl rfl) (zaK (zaa 4) zak (fun _ _=>rfl)))
   (zad (zas (i:=3) sc_y.nd rfl (Or.inl rfl) (zaB (zc5 rfl) (zc6 K) rfl T.n_len PySem.boot_len (zab (zaK (zaa 4) zak (fun _ _=>rfl)) zag)))
   (zad (zas (i:=5) sc_y.nd rfl (Or.inl rfl) (zct T.cls_Game T.mt_h G_h (hr.mono (by decide)) T.b_h (flies_cxOf.passes rfl) (zaa 0) (zab (zaa 2) zag)))
   (zah (za8 (zeg (zaa 5)) (zah (zlx flies_cxOf (flies_cxOf.passes rfl) rfl T.xn_Again.xi G_Again___init__ (hr.mono (by decide)) T.b_Again___init__ (T.xt.at rfl) rfl rfl hr.hd (i:=5) rfl (Or.inl rfl))) zaD)))))) zaD)
   (zad (za1 (zdp PySem.F.slot_list_append PySem.F.type_list_append zaY zdK (zbh T.cls_Game T.na_Game_past (zaa 0)) (zab (zaa 2) zag)))
   (zad (za1 (zdp PySem.F.slot_list_append PySem.F.type_list_append zaY zdK (zbh T.cls_Game T.na_Game_done (zaa 0)) (zab (zaa 1) zag)))
   (zah (za1 (zdp PySem.F.slot_list_append PySem.F.type_list_append zaY zdK (zbh T.cls_Game T.na_Game_takings (zaa 0)) (zab (zaa 3) zag)))))))))),?_⟩
 exact zaA (G:=Gx K) (E:=E) zbU ["self", "what", "behind", "many", "told", "number"] S rs Pf
set_option maxHeartbeats 0 in
theorem zr6(fu:Nat)(T:Txt K mg A):FnOk P w K mg base (CXx P w) 10 A.f_law A.d_law ["_law_script"] (spD K 1 (d_law fu)):=by
 have G_k:=zcu (P:=P) (w:=w) (base:=base) fu T
 have G_t:=zgV (P:=P) (w:=w) (base:=base) fu T
 have G_j:=zfP (P:=P) (w:=w) (base:=base) fu T
 have G_m:=zgX (P:=P) (w:=w) (base:=base) fu T
 have G_e:=zeL (P:=P) (w:=w) (base:=base) fu T
 have G_p:=zd6 (P:=P) (w:=w) (base:=base) fu T
 have G_r:=zd9 (P:=P) (w:=w) (base:=base) fu T
 have G_c:=zeu (P:=P) (w:=w) (base:=base) fu T
 have G_y:=zhX (P:=P) (w:=w) (base:=base) fu T
 refine T.F_law.okX (k:=9) sc_law (fun vs H Q E h=>h.1) (fun cdv Ar outer s H vs Q E hr h=>?_)
 obtain⟨_,F,as,ws,ce,S,rs,Pf⟩:=h
 refine⟨toTS (Gx K) E _,(zad (zas (i:=1) sc_law.nd rfl (Or.inl rfl) (zav G_k (hr.mono (by decide)) rfl T.g_k T.F_k.kp T.b_k (flies_cxOf.passes rfl) (zab (zaK (zhA zdF (zaa 0) (zdE (zab zak zag))) zak (fun _ _=>rfl)) (zab zak zag))))
   (zad (zi4 (zav (zpu G_t) (hr.mono (by decide)) rfl T.g_t T.F_t.kp T.b_t (flies_cxOf.passes rfl) (zab (zaa 1) zag)) (zn8 rfl (zeS (zaM (i:=2) sc_law.nd rfl (Or.inl rfl)) (zeS (zaM (i:=3) sc_law.nd rfl (Or.inl rfl)) zk2))))
   (zad (zas (i:=4) sc_law.nd rfl (Or.inl rfl) (zav G_j (hr.mono (by decide)) rfl T.g_j T.F_j.kp T.b_j (flies_cxOf.passes rfl) (zab (zaa 2) (zab (zaa 3) zag))))
   (zad (zas (i:=5) sc_law.nd rfl (Or.inl rfl) (zav G_m (hr.mono (by decide)) rfl T.g_m T.F_m.kp T.b_m (flies_cxOf.passes rfl) (zab (zaa 4) (zab (zhz zdF (zhA zdF (zhz zdF (zaa 0) (zcp zak) (zcp zak)) (zhz zdF (zaa 1) (zcp zak) zei)) zei (zcp (za7 (zaK (zaa 1) zak (fun _ _=>rfl)) zak))) zag))))
   (zad (zas (i:=6) sc_law.nd rfl (Or.inl rfl) (zaK (zdE (zab ze7 (zab ze7 zag))) (za7 (zaK (zaa 1) zak (fun _ _=>rfl)) zak) (fun _ _=>rfl)))
   (zad (zas (i:=7) sc_law.nd rfl (Or.inl rfl) (zpJ T.mk_Game G_e (hr.mono (by decide)) rfl T.gc_Game T.b_e (flies_cxOf.passes rfl) (zab (zaa 4) (zab (zaa 6) (zab (zaa 5) (zab (zbm zak (za7 (zaK (zaa 1) zak (fun _ _=>rfl)) zak)) zag))))))
   (zad (zas (i:=8) sc_law.nd rfl (Or.inl rfl) (zbI (zab (zav G_r (hr.mono (by decide)) rfl T.g_r T.F_r.kp T.b_r (flies_cxOf.passes rfl) (zab (zaa 7) zag)) zag)))
   (zad (za8 (zcN (zc3 (zav G_c (hr.mono (by decide)) rfl T.g_c T.F_c.kp T.b_c (flies_cxOf.passes rfl) (zab (zaa 7) (zab (zaa 8) (zab zak zag)))))) (zah (zaz zcV)) zaD)
   (zad (zba PassesOwn.leaving rfl (zhb (zhz zdF (zhA zdF (zhz zdF (zaa 0) (zcp zak) (zcp zak)) (zhz zdF (zaa 1) (zcp zak) zei)) zei (zcp (za7 (zaK (zaa 1) zak (fun _ _=>rfl)) zak)))) (zaM (i:=9) sc_law.nd rfl (Or.inl rfl))
   (zad (zas (i:=10) sc_law.nd rfl (Or.inl rfl) (zaK (zaK (zaa 8) (ziX zak) (fun _ _=>rfl)) zak (fun _ _=>rfl)))
   (zah (za8 (PW.pt (zmN (zcP (za7 (zaa 9) zak) zak) (zi3 (zhw (hr.cmp 8) (zaa 10) (zdE zag))))) (zah (za8 (zcN (zc3 (zav G_c (hr.mono (by decide)) rfl T.g_c T.F_c.kp T.b_c (flies_cxOf.passes rfl) (zab (zaa 7) (zab (zaa 8) (zab (zbm zak (za7 (zkL (zaa 9) zak) zak)) zag)))))) (zah (zaz zcV)) zaD)) (zah (za8 (zeg (zct T.cls_Game T.mt_y G_y (hr.mono (by decide)) T.b_y (flies_cxOf.passes rfl) (zaa 7) (zab (zaK (zaa 10) (za7 (zkL (zaa 9) zak) (zaB (zc5 rfl) (zc6 K) rfl T.n_len PySem.boot_len (zab (zaa 10) zag))) (fun _ _=>rfl)) zag))) (zah (zaz zcV)) (zah (za1 (zdp PySem.F.slot_list_append PySem.F.type_list_append zaY zdK (zaa 8) (zab (zav G_r (hr.mono (by decide)) rfl T.g_r T.F_r.kp T.b_r (flies_cxOf.passes rfl) (zab (zaa 7) zag)) zag))))))))))
   (zad (zas (i:=11) sc_law.nd rfl (Or.inl rfl) (za9 T.cls_Game T.mt_p G_p (hr.mono (by decide)) T.b_p (flies_cxOf.passes rfl) (zaa 7)))
   (zad (zas (i:=12) sc_law.nd rfl (Or.inl rfl) (zav G_r (hr.mono (by decide)) rfl T.g_r T.F_r.kp T.b_r (flies_cxOf.passes rfl) (zab (zaa 7) zag)))
   (zad (za8 (zcN (zc3 (zav G_c (hr.mono (by decide)) rfl T.g_c T.F_c.kp T.b_c (flies_cxOf.passes rfl) (zab (zaa 7) (zab (zaa 8) (zab (zbm (zaB (zc5 rfl) (zc6 K) rfl T.n_len PySem.boot_len (zab (zaa 11) zag)) zak) zag)))))) (zah (zaz zcV)) zaD)
   (zad (zba PassesOwn.leaving rfl (zhb (zaa 11)) (zaM (i:=13) sc_law.nd rfl (Or.inl rfl))
   (zah (za1 (zct T.cls_Game T.mt_y G_y (hr.mono (by decide)) T.b_y (flies_cxOf.passes rfl) (zaa 7) (zab (zaa 13) zag)))))
   (zah (zaz (zrN (hr.cmp 8) (zav G_r (hr.mono (by decide)) rfl T.g_r T.F_r.kp T.b_r (flies_cxOf.passes rfl) (zab (zaa 7) zag)) (zaa 12))))))))))))))))),?_⟩
 exact zaA (G:=Gx K) (E:=E) zbU ["_law_script", "_law_xs", "_law_many", "_law_lines_here", "_law_board", "_law_stand", "_law_rule", "_law_game", "_law_states", "_law_cell", "_law_some", "_law_deeds", "_law_last", "_law_what"] S rs Pf
end
set_option maxHeartbeats 0 in
theorem all_mk{K:PySem.W.Frag}{h:Heap}{mg:Str->Option Value}{fa:Addr}(X:K.In h)(G:h.Ns mainGlobals mg)(hfa:mg "law" = some (.ref fa)){f0:Addr}{od0 an0:Option Addr}{sl0:Array (Option Value)}{oc0 kV0 dc0 pm0 cd0 ct0:Value}{f1:Addr}{od1 an1:Option Addr}{sl1:Array (Option Value)}{oc1 kV1 dc1 pm1 cd1 ct1:Value}{f2:Addr}{od2 an2:Option Addr}{sl2:Array (Option Value)}{oc2 kV2 dc2 pm2 cd2 ct2:Value}{f3:Addr}{od3 an3:Option Addr}{sl3:Array (Option Value)}{oc3 kV3 dc3 pm3 cd3 ct3:Value}{f4:Addr}{od4 an4:Option Addr}{sl4:Array (Option Value)}{oc4 kV4 dc4 pm4 cd4 ct4:Value}{f5:Addr}{od5 an5:Option Addr}{sl5:Array (Option Value)}{oc5 kV5 dc5 pm5 cd5 ct5:Value}{f6:Addr}{od6 an6:Option Addr}{sl6:Array (Option Value)}{oc6 kV6 dc6 pm6 cd6 ct6:Value}{f7:Addr}{od7 an7:Option Addr}{sl7:Array (Option Value)}{oc7 kV7 dc7 pm7 cd7 ct7:Value}{f8:Addr}{od8 an8:Option Addr}{sl8:Array (Option Value)}{oc8 kV8 dc8 pm8 cd8 ct8:Value}{f9:Addr}{od9 an9:Option Addr}{sl9:Array (Option Value)}{oc9 kV9 dc9 pm9 cd9 ct9:Value}{f10:Addr}{od10 an10:Option Addr}{sl10:Array (Option Value)}{oc10 kV10 dc10 pm10 cd10 ct10:Value}{f11:Addr}{od11 an11:Option Addr}{sl11:Array (Option Value)}{oc11 kV11 dc11 pm11 cd11 ct11:Value}{f12:Addr}{od12 an12:Option Addr}{sl12:Array (Option Value)}{oc12 kV12 dc12 pm12 cd12 ct12:Value}{f13:Addr}{od13 an13:Option Addr}{sl13:Array (Option Value)}{oc13 kV13 dc13 pm13 cd13 ct13:Value}{f14:Addr}{od14 an14:Option Addr}{sl14:Array (Option Value)}{oc14 kV14 dc14 pm14 cd14 ct14:Value}{f15:Addr}{od15 an15:Option Addr}{sl15:Array (Option Value)}{oc15 kV15 dc15 pm15 cd15 ct15:Value}{f16:Addr}{od16 an16:Option Addr}{sl16:Array (Option Value)}{oc16 kV16 dc16 pm16 cd16 ct16:Value}{f17:Addr}{od17 an17:Option Addr}{sl17:Array (Option Value)}{oc17 kV17 dc17 pm17 cd17 ct17:Value}{f18:Addr}{od18 an18:Option Addr}{sl18:Array (Option Value)}{oc18 kV18 dc18 pm18 cd18 ct18:Value}{f19:Addr}{od19 an19:Option Addr}{sl19:Array (Option Value)}{oc19 kV19 dc19 pm19 cd19 ct19:Value}{f20:Addr}{od20 an20:Option Addr}{sl20:Array (Option Value)}{oc20 kV20 dc20 pm20 cd20 ct20:Value}{f21:Addr}{od21 an21:Option Addr}{sl21:Array (Option Value)}{oc21 kV21 dc21 pm21 cd21 ct21:Value}{f22:Addr}{od22 an22:Option Addr}{sl22:Array (Option Value)}{oc22 kV22 dc22 pm22 cd22 ct22:Value}{f23:Addr}{od23 an23:Option Addr}{sl23:Array (Option Value)}{oc23 kV23 dc23 pm23 cd23 ct23:Value}{f24:Addr}{od24 an24:Option Addr}{sl24:Array (Option Value)}{oc24 kV24 dc24 pm24 cd24 ct24:Value}{f25:Addr}{od25 an25:Option Addr}{sl25:Array (Option Value)}{oc25 kV25 dc25 pm25 cd25 ct25:Value}{f26:Addr}{od26 an26:Option Addr}{sl26:Array (Option Value)}{oc26 kV26 dc26 pm26 cd26 ct26:Value}{f27:Addr}{od27 an27:Option Addr}{sl27:Array (Option Value)}{oc27 kV27 dc27 pm27 cd27 ct27:Value}{f28:Addr}{od28 an28:Option Addr}{sl28:Array (Option Value)}{oc28 kV28 dc28 pm28 cd28 ct28:Value}{f29:Addr}{od29 an29:Option Addr}{sl29:Array (Option Value)}{oc29 kV29 dc29 pm29 cd29 ct29:Value}{f30:Addr}{od30 an30:Option Addr}{sl30:Array (Option Value)}{oc30 kV30 dc30 pm30 cd30 ct30:Value}{f31:Addr}{od31 an31:Option Addr}{sl31:Array (Option Value)}{oc31 kV31 dc31 pm31 cd31 ct31:Value}{f32:Addr}{od32 an32:Option Addr}{sl32:Array (Option Value)}{oc32 kV32 dc32 pm32 cd32 ct32:Value}{f33:Addr}{od33 an33:Option Addr}{sl33:Array (Option Value)}{oc33 kV33 dc33 pm33 cd33 ct33:Value}{f34:Addr}{od34 an34:Option Addr}{sl34:Array (Option Value)}{oc34 kV34 dc34 pm34 cd34 ct34:Value}{f35:Addr}{od35 an35:Option Addr}{sl35:Array (Option Value)}{oc35 kV35 dc35 pm35 cd35 ct35:Value}{f36:Addr}{od36 an36:Option Addr}{sl36:Array (Option Value)}{oc36 kV36 dc36 pm36 cd36 ct36:Value}{f37:Addr}{od37 an37:Option Addr}{sl37:Array (Option Value)}{oc37 kV37 dc37 pm37 cd37 ct37:Value}{C_Game:Addr}(ac_Game:PySem.W.nsIn K mainGlobals "Game" = some (some (.ref C_Game)))(pg_Game:PySem.W.plainGet K C_Game Str.empty=true)(hd_Game:PySem.W.hasDictIn K C_Game=true)(po_Game:PySem.W.plainOver K C_Game=true)(sa_Game:PySem.W.findIn K (.ref C_Game) "__setattr__" = some (some (.builtin "object.__setattr__")))(mi_Game:PySem.W.makesIn K C_Game=true)(kc_Game:PySem.W.keepIn K (.ref C_Game)=true)(na_Game_barring:PySem.W.findIn K (.ref C_Game) "barring" = some none)(na_Game_done:PySem.W.findIn K (.ref C_Game) "done" = some none)(na_Game_first:PySem.W.findIn K (.ref C_Game) "first" = some none)(na_Game_joined:PySem.W.findIn K (.ref C_Game) "joined" = some none)(na_Game_past:PySem.W.findIn K (.ref C_Game) "past" = some none)(na_Game_takings:PySem.W.findIn K (.ref C_Game) "takings" = some none)(a0:PySem.W.nsIn K mainGlobals "is_whole" = some (some (.ref f0)))(l0:K.lookup f0=some ⟨oc0,od0,.func (PySem.W.fnOf "is_whole" "is_whole" (zar zb4) (zaq zb4) (zaf zb4) .none kV0 dc0 pm0 an0 cd0 ct0),sl0⟩)(c0:PySem.W.codeIn K cd0 "is_whole" = true)(k0:PySem.W.keepIn K (.ref f0)=true)(a1:PySem.W.nsIn K mainGlobals "other_hand" = some (some (.ref f1)))(l1:K.lookup f1=some ⟨oc1,od1,.func (PySem.W.fnOf "other_hand" "other_hand" (zar zbv) (zaq zbv) (zaf zbv) .none kV1 dc1 pm1 an1 cd1 ct1),sl1⟩)(c1:PySem.W.codeIn K cd1 "other_hand" = true)(k1:PySem.W.keepIn K (.ref f1)=true)(a2:PySem.W.nsIn K mainGlobals "patch_of" = some (some (.ref f2)))(l2:K.lookup f2=some ⟨oc2,od2,.func (PySem.W.fnOf "patch_of" "patch_of" (zar zb5) (zaq zb5) (zaf zb5) .none kV2 dc2 pm2 an2 cd2 ct2),sl2⟩)(c2:PySem.W.codeIn K cd2 "patch_of" = true)(k2:PySem.W.keepIn K (.ref f2)=true)(a3:PySem.W.nsIn K mainGlobals "patches" = some (some (.ref f3)))(l3:K.lookup f3=some ⟨oc3,od3,.func (PySem.W.fnOf "patches" "patches" (zar zcy) (zaq zcy) (zaf zcy) .none kV3 dc3 pm3 an3 cd3 ct3),sl3⟩)(c3:PySem.W.codeIn K cd3 "patches" = true)(k3:PySem.W.keepIn K (.ref f3)=true)(a4:PySem.W.nsIn K mainGlobals "is_stand" = some (some (.ref f4)))(l4:K.lookup f4=some ⟨oc4,od4,.func (PySem.W.fnOf "is_stand" "is_stand" (zar zbM) (zaq zbM) (zaf zbM) .none kV4 dc4 pm4 an4 cd4 ct4),sl4⟩)(c4:PySem.W.codeIn K cd4 "is_stand" = true)(k4:PySem.W.keepIn K (.ref f4)=true)(a5:PySem.W.nsIn K mainGlobals "patch" = some (some (.ref f5)))(l5:K.lookup f5=some ⟨oc5,od5,.func (PySem.W.fnOf "patch" "patch" (zar zeq) (zaq zeq) (zaf zeq) .none kV5 dc5 pm5 an5 cd5 ct5),sl5⟩)(c5:PySem.W.codeIn K cd5 "patch" = true)(k5:PySem.W.keepIn K (.ref f5)=true)(a6:PySem.W.nsIn K mainGlobals "rows" = some (some (.ref f6)))(l6:K.lookup f6=some ⟨oc6,od6,.func (PySem.W.fnOf "rows" "rows" (zar zfx) (zaq zfx) (zaf zfx) .none kV6 dc6 pm6 an6 cd6 ct6),sl6⟩)(c6:PySem.W.codeIn K cd6 "rows" = true)(k6:PySem.W.keepIn K (.ref f6)=true)(a7:PySem.W.nsIn K mainGlobals "breaths" = some (some (.ref f7)))(l7:K.lookup f7=some ⟨oc7,od7,.func (PySem.W.fnOf "breaths" "breaths" (zar zcc) (zaq zcc) (zaf zcc) .none kV7 dc7 pm7 an7 cd7 ct7),sl7⟩)(c7:PySem.W.codeIn K cd7 "breaths" = true)(k7:PySem.W.keepIn K (.ref f7)=true)(a8:PySem.W.nsIn K mainGlobals "points_beside" = some (some (.ref f8)))(l8:K.lookup f8=some ⟨oc8,od8,.func (PySem.W.fnOf "points_beside" "points_beside" (zar za4) (zaq za4) (zaf za4) .none kV8 dc8 pm8 an8 cd8 ct8),sl8⟩)(c8:PySem.W.codeIn K cd8 "points_beside" = true)(k8:PySem.W.keepIn K (.ref f8)=true)(a9:PySem.W.nsIn K mainGlobals "is_sound" = some (some (.ref f9)))(l9:K.lookup f9=some ⟨oc9,od9,.func (PySem.W.fnOf "is_sound" "is_sound" (zar zbN) (zaq zbN) (zaf zbN) .none kV9 dc9 pm9 an9 cd9 ct9),sl9⟩)(c9:PySem.W.codeIn K cd9 "is_sound" = true)(k9:PySem.W.keepIn K (.ref f9)=true)(a10:PySem.W.nsIn K mainGlobals "laid" = some (some (.ref f10)))(l10:K.lookup f10=some ⟨oc10,od10,.func (PySem.W.fnOf "laid" "laid" (zar zgf) (zaq zgf) (zaf zgf) .none kV10 dc10 pm10 an10 cd10 ct10),sl10⟩)(c10:PySem.W.codeIn K cd10 "laid" = true)(k10:PySem.W.keepIn K (.ref f10)=true)(a11:PySem.W.nsIn K mainGlobals "lays_on" = some (some (.ref f11)))(l11:K.lookup f11=some ⟨oc11,od11,.func (PySem.W.fnOf "lays_on" "lays_on" (zar zcz) (zaq zcz) (zaf zcz) .none kV11 dc11 pm11 an11 cd11 ct11),sl11⟩)(c11:PySem.W.codeIn K cd11 "lays_on" = true)(k11:PySem.W.keepIn K (.ref f11)=true)(a12:PySem.W.nsIn K mainGlobals "filled" = some (some (.ref f12)))(l12:K.lookup f12=some ⟨oc12,od12,.func (PySem.W.fnOf "filled" "filled" (zar zdn) (zaq zdn) (zaf zdn) .none kV12 dc12 pm12 an12 cd12 ct12),sl12⟩)(c12:PySem.W.codeIn K cd12 "filled" = true)(k12:PySem.W.keepIn K (.ref f12)=true)(a13:PySem.W.nsIn K mainGlobals "breathless" = some (some (.ref f13)))(l13:K.lookup f13=some ⟨oc13,od13,.func (PySem.W.fnOf "breathless" "breathless" (zar zbw) (zaq zbw) (zaf zbw) .none kV13 dc13 pm13 an13 cd13 ct13),sl13⟩)(c13:PySem.W.codeIn K cd13 "breathless" = true)(k13:PySem.W.keepIn K (.ref f13)=true)(a14:PySem.W.nsIn K mainGlobals "_law_stream" = some (some (.ref f14)))(l14:K.lookup f14=some ⟨oc14,od14,.func (PySem.W.fnOf "_law_stream" "_law_stream" (zar zbk) (zaq zbk) (zaf zbk) .none kV14 dc14 pm14 an14 cd14 ct14),sl14⟩)(c14:PySem.W.codeIn K cd14 "_law_stream" = true)(k14:PySem.W.keepIn K (.ref f14)=true)(a15:PySem.W.nsIn K mainGlobals "_law_joined" = some (some (.ref f15)))(l15:K.lookup f15=some ⟨oc15,od15,.func (PySem.W.fnOf "_law_joined" "_law_joined" (zar za0) (zaq za0) (zaf za0) .none kV15 dc15 pm15 an15 cd15 ct15),sl15⟩)(c15:PySem.W.codeIn K cd15 "_law_joined" = true)(k15:PySem.W.keepIn K (.ref f15)=true)(a16:PySem.W.nsIn K mainGlobals "_law_lines" = some (some (.ref f16)))(l16:K.lookup f16=some ⟨oc16,od16,.func (PySem.W.fnOf "_law_lines" "_law_lines" (zar zaS) (zaq zaS) (zaf zaS) .none kV16 dc16 pm16 an16 cd16 ct16),sl16⟩)(c16:PySem.W.codeIn K cd16 "_law_lines" = true)(k16:PySem.W.keepIn K (.ref f16)=true)(a17:PySem.W.nsIn K mainGlobals "_law_row" = some (some (.ref f17)))(l17:K.lookup f17=some ⟨oc17,od17,.func (PySem.W.fnOf "_law_row" "_law_row" (zar zb6) (zaq zb6) (zaf zb6) .none kV17 dc17 pm17 an17 cd17 ct17),sl17⟩)(c17:PySem.W.codeIn K cd17 "_law_row" = true)(k17:PySem.W.keepIn K (.ref f17)=true)(a18:PySem.W.nsIn K mainGlobals "_law_breaths" = some (some (.ref f18)))(l18:K.lookup f18=some ⟨oc18,od18,.func (PySem.W.fnOf "_law_breaths" "_law_breaths" (zar zbc) (zaq zbc) (zaf zbc) .none kV18 dc18 pm18 an18 cd18 ct18),sl18⟩)(c18:PySem.W.codeIn K cd18 "_law_breaths" = true)(k18:PySem.W.keepIn K (.ref f18)=true)(a19:PySem.W.nsIn K mainGlobals "_law_tried" = some (some (.ref f19)))(l19:K.lookup f19=some ⟨oc19,od19,.func (PySem.W.fnOf "_law_tried" "_law_tried" (zar zbx) (zaq zbx) (zaf zbx) .none kV19 dc19 pm19 an19 cd19 ct19),sl19⟩)(c19:PySem.W.codeIn K cd19 "_law_tried" = true)(k19:PySem.W.keepIn K (.ref f19)=true)(a20:PySem.W.nsIn K mainGlobals "_law_sound" = some (some (.ref f20)))(l20:K.lookup f20=some ⟨oc20,od20,.func (PySem.W.fnOf "_law_sound" "_law_sound" (zar zbi) (zaq zbi) (zaf zbi) .none kV20 dc20 pm20 an20 cd20 ct20),sl20⟩)(c20:PySem.W.codeIn K cd20 "_law_sound" = true)(k20:PySem.W.keepIn K (.ref f20)=true)(a21:PySem.W.nsIn K mainGlobals "_law_state" = some (some (.ref f21)))(l21:K.lookup f21=some ⟨oc21,od21,.func (PySem.W.fnOf "_law_state" "_law_state" (zar zby) (zaq zby) (zaf zby) .none kV21 dc21 pm21 an21 cd21 ct21),sl21⟩)(c21:PySem.W.codeIn K cd21 "_law_state" = true)(k21:PySem.W.keepIn K (.ref f21)=true)(a22:PySem.W.nsIn K mainGlobals "_law_no_back" = some (some (.ref f22)))(l22:K.lookup f22=some ⟨oc22,od22,.func (PySem.W.fnOf "_law_no_back" "_law_no_back" (zar zbd) (zaq zbd) (zaf zbd) .none kV22 dc22 pm22 an22 cd22 ct22),sl22⟩)(c22:PySem.W.codeIn K cd22 "_law_no_back" = true)(k22:PySem.W.keepIn K (.ref f22)=true)(a23:PySem.W.nsIn K mainGlobals "_law_backwards" = some (some (.ref f23)))(l23:K.lookup f23=some ⟨oc23,od23,.func (PySem.W.fnOf "_law_backwards" "_law_backwards" (zar zaW) (zaq zaW) (zaf zaW) .none kV23 dc23 pm23 an23 cd23 ct23),sl23⟩)(c23:PySem.W.codeIn K cd23 "_law_backwards" = true)(k23:PySem.W.keepIn K (.ref f23)=true)(a24:PySem.W.nsIn K mainGlobals "law" = some (some (.ref f24)))(l24:K.lookup f24=some ⟨oc24,od24,.func (PySem.W.fnOf "law" "law" (zar zjV) (zaq zjV) (zaf zjV) .none kV24 dc24 pm24 an24 cd24 ct24),sl24⟩)(c24:PySem.W.codeIn K cd24 "law" = true)(k24:PySem.W.keepIn K (.ref f24)=true)(a25:PySem.W.findIn K (.ref C_Game) "__init__" = some (some (.ref f25)))(fn25:PySem.W.isFn K (.ref f25)=true)(l25:K.lookup f25=some ⟨oc25,od25,.func (PySem.W.fnOf "__init__" "Game.__init__" (zar za5) (zaq za5) (zaf za5) .none kV25 dc25 pm25 an25 cd25 ct25),sl25⟩)(c25:PySem.W.codeIn K cd25 "Game.__init__" = true)(k25:PySem.W.keepIn K (.ref f25)=true)(a26:PySem.W.findIn K (.ref C_Game) "deed" = some (some (.ref f26)))(fn26:PySem.W.isFn K (.ref f26)=true)(l26:K.lookup f26=some ⟨oc26,od26,.func (PySem.W.fnOf "deed" "Game.deed" (zar zbO) (zaq zbO) (zaf zbO) .none kV26 dc26 pm26 an26 cd26 ct26),sl26⟩)(c26:PySem.W.codeIn K cd26 "Game.deed" = true)(k26:PySem.W.keepIn K (.ref f26)=true)(a27:PySem.W.findIn K (.ref C_Game) "came_at" = some (some (.ref f27)))(fn27:PySem.W.isFn K (.ref f27)=true)(l27:K.lookup f27=some ⟨oc27,od27,.func (PySem.W.fnOf "came_at" "Game.came_at" (zar zbe) (zaq zbe) (zaf zbe) .none kV27 dc27 pm27 an27 cd27 ct27),sl27⟩)(c27:PySem.W.codeIn K cd27 "Game.came_at" = true)(k27:PySem.W.keepIn K (.ref f27)=true)(a28:PySem.W.findIn K (.ref C_Game) "is_barring" = some (some (.ref f28)))(fn28:PySem.W.isFn K (.ref f28)=true)(l28:K.lookup f28=some ⟨oc28,od28,.func (PySem.W.fnOf "is_barring" "Game.is_barring" (zar zaT) (zaq zaT) (zaf zaT) .none kV28 dc28 pm28 an28 cd28 ct28),sl28⟩)(c28:PySem.W.codeIn K cd28 "Game.is_barring" = true)(k28:PySem.W.keepIn K (.ref f28)=true)(a29:PySem.W.findIn K (.ref C_Game) "back" = some (some (.ref f29)))(fn29:PySem.W.isFn K (.ref f29)=true)(l29:K.lookup f29=some ⟨oc29,od29,.func (PySem.W.fnOf "back" "Game.back" (zar zbP) (zaq zbP) (zaf zbP) .none kV29 dc29 pm29 an29 cd29 ct29),sl29⟩)(c29:PySem.W.codeIn K cd29 "Game.back" = true)(k29:PySem.W.keepIn K (.ref f29)=true)(a30:PySem.W.findIn K (.ref C_Game) "stand" = some (some (.ref f30)))(fn30:PySem.W.isFn K (.ref f30)=true)(l30:K.lookup f30=some ⟨oc30,od30,.func (PySem.W.fnOf "stand" "Game.stand" (zar zbz) (zaq zbz) (zaf zbz) .none kV30 dc30 pm30 an30 cd30 ct30),sl30⟩)(c30:PySem.W.codeIn K cd30 "Game.stand" = true)(k30:PySem.W.keepIn K (.ref f30)=true)(a31:PySem.W.findIn K (.ref C_Game) "hand" = some (some (.ref f31)))(fn31:PySem.W.isFn K (.ref f31)=true)(l31:K.lookup f31=some ⟨oc31,od31,.func (PySem.W.fnOf "hand" "Game.hand" (zar zbQ) (zaq zbQ) (zaf zbQ) .none kV31 dc31 pm31 an31 cd31 ct31),sl31⟩)(c31:PySem.W.codeIn K cd31 "Game.hand" = true)(k31:PySem.W.keepIn K (.ref f31)=true)(a32:PySem.W.findIn K (.ref C_Game) "hand_at" = some (some (.ref f32)))(fn32:PySem.W.isFn K (.ref f32)=true)(l32:K.lookup f32=some ⟨oc32,od32,.func (PySem.W.fnOf "hand_at" "Game.hand_at" (zar zbf) (zaq zbf) (zaf zbf) .none kV32 dc32 pm32 an32 cd32 ct32),sl32⟩)(c32:PySem.W.codeIn K cd32 "Game.hand_at" = true)(k32:PySem.W.keepIn K (.ref f32)=true)(a33:PySem.W.findIn K (.ref C_Game) "stands" = some (some (.ref f33)))(fn33:PySem.W.isFn K (.ref f33)=true)(l33:K.lookup f33=some ⟨oc33,od33,.func (PySem.W.fnOf "stands" "Game.stands" (zar zbl) (zaq zbl) (zaf zbl) .none kV33 dc33 pm33 an33 cd33 ct33),sl33⟩)(c33:PySem.W.codeIn K cd33 "Game.stands" = true)(k33:PySem.W.keepIn K (.ref f33)=true)(a34:PySem.W.findIn K (.ref C_Game) "deeds" = some (some (.ref f34)))(fn34:PySem.W.isFn K (.ref f34)=true)(l34:K.lookup f34=some ⟨oc34,od34,.func (PySem.W.fnOf "deeds" "Game.deeds" (zar zbA) (zaq zbA) (zaf zbA) .none kV34 dc34 pm34 an34 cd34 ct34),sl34⟩)(c34:PySem.W.codeIn K cd34 "Game.deeds" = true)(k34:PySem.W.keepIn K (.ref f34)=true)(a35:PySem.W.findIn K (.ref C_Game) "open_deeds" = some (some (.ref f35)))(fn35:PySem.W.isFn K (.ref f35)=true)(l35:K.lookup f35=some ⟨oc35,od35,.func (PySem.W.fnOf "open_deeds" "Game.open_deeds" (zar zaN) (zaq zaN) (zaf zaN) .none kV35 dc35 pm35 an35 cd35 ct35),sl35⟩)(c35:PySem.W.codeIn K cd35 "Game.open_deeds" = true)(k35:PySem.W.keepIn K (.ref f35)=true)(a36:PySem.W.findIn K (.ref C_Game) "lost" = some (some (.ref f36)))(fn36:PySem.W.isFn K (.ref f36)=true)(l36:K.lookup f36=some ⟨oc36,od36,.func (PySem.W.fnOf "lost" "Game.lost" (zar zbq) (zaq zbq) (zaf zbq) .none kV36 dc36 pm36 an36 cd36 ct36),sl36⟩)(c36:PySem.W.codeIn K cd36 "Game.lost" = true)(k36:PySem.W.keepIn K (.ref f36)=true)(a37:PySem.W.findIn K (.ref C_Game) "ended" = some (some (.ref f37)))(fn37:PySem.W.isFn K (.ref f37)=true)(l37:K.lookup f37=some ⟨oc37,od37,.func (PySem.W.fnOf "ended" "Game.ended" (zar zbB) (zaq zbB) (zaf zbB) .none kV37 dc37 pm37 an37 cd37 ct37),sl37⟩)(c37:PySem.W.codeIn K cd37 "Game.ended" = true)(k37:PySem.W.keepIn K (.ref f37)=true){fX0:Addr}{odX0 anX0:Option Addr}{slX0:Array (Option Value)}{ocX0 kVX0 dcX0 pmX0 cdX0 ctX0:Value}{C_Again:Addr}(ac_Again:PySem.W.nsIn K mainGlobals "Again" = some (some (.ref C_Again)))(ex_Again:exI K (clOf K "Again") (clOf K "StoneError") "number" = true)(aX0:PySem.W.findIn K (.ref C_Again) "__init__" = some (some (.ref fX0)))(fnX0:PySem.W.isFn K (.ref fX0)=true)(lX0:K.lookup fX0=some ⟨ocX0,odX0,.func (PySem.W.fnOf "__init__" "Again.__init__" (zar zaX) (zaq zaX) (zaf zaX) .none kVX0 dcX0 pmX0 anX0 cdX0 ctX0),slX0⟩)(cX0:PySem.W.codeIn K cdX0 "Again.__init__" = true)(kX0:PySem.W.keepIn K (.ref fX0)=true){t0:Tok}(q0:PySem.W.nsIn K mainGlobals "MOST_DEEDS" = some (some (.int 300 t0)))(z_ValueError:PySem.W.nsIn K mainGlobals "ValueError" = some none)(z_all:PySem.W.nsIn K mainGlobals "all" = some none)(z_bool:PySem.W.nsIn K mainGlobals "bool" = some none)(z_int:PySem.W.nsIn K mainGlobals "int" = some none)(z_isinstance:PySem.W.nsIn K mainGlobals "isinstance" = some none)(z_len:PySem.W.nsIn K mainGlobals "len" = some none)(z_list:PySem.W.nsIn K mainGlobals "list" = some none)(z_range:PySem.W.nsIn K mainGlobals "range" = some none)(z_sorted:PySem.W.nsIn K mainGlobals "sorted" = some none)(z_sum:PySem.W.nsIn K mainGlobals "sum" = some none)(z_tuple:PySem.W.nsIn K mainGlobals "tuple" = some none)(xt:ztG K XTB=true)(nl:noL K=true)
  : ∃A:Adr,Txt K mg A/\fa=A.f_law/\∀(s:Shared) (v:Value),BindsTo s A.d_law ⟨[v],[]⟩ [("_law_script",v)]:=by
 have e:=hfa.symm.trans (PySem.W.mg_of X G a24)
 cases e
 have ec_Game:C_Game=clOf K "Game" := by unfold VS.clOf;rw[ac_Game]
 subst ec_Game
 have F0:=zaL (st:=zb4) l0 c0 k0
 have b0:=F0.binds (ps:=["thing"]) fun _ _ _ _ _ _ us hl=>VS.us1 (fun _=>rfl) us hl
 have F1:=zaL (st:=zbv) l1 c1 k1
 have b1:=F1.binds (ps:=["hand"]) fun _ _ _ _ _ _ us hl=>VS.us1 (fun _=>rfl) us hl
 have F2:=zaL (st:=zb5) l2 c2 k2
 have b2:=F2.binds (ps:=["board", "marks", "start"]) fun _ _ _ _ _ _ us hl=>VS.us3 (fun _ _ _=>rfl) us hl
 have F3:=zaL (st:=zcy) l3 c3 k3
 have b3:=F3.binds (ps:=["board", "marks"]) fun _ _ _ _ _ _ us hl=>VS.us2 (fun _ _=>rfl) us hl
 have F4:=zaL (st:=zbM) l4 c4 k4
 have b4:=F4.binds (ps:=["board", "thing"]) fun _ _ _ _ _ _ us hl=>VS.us2 (fun _ _=>rfl) us hl
 have F5:=zaL (st:=zeq) l5 c5 k5
 have b5:=F5.binds (ps:=["board", "stand", "point"]) fun _ _ _ _ _ _ us hl=>VS.us3 (fun _ _ _=>rfl) us hl
 have F6:=zaL (st:=zfx) l6 c6 k6
 have b6:=F6.binds (ps:=["board", "stand"]) fun _ _ _ _ _ _ us hl=>VS.us2 (fun _ _=>rfl) us hl
 have F7:=zaL (st:=zcc) l7 c7 k7
 have b7:=F7.binds (ps:=["board", "stand", "row"]) fun _ _ _ _ _ _ us hl=>VS.us3 (fun _ _ _=>rfl) us hl
 have F8:=zaL (st:=za4) l8 c8 k8
 have b8:=F8.binds (ps:=["board", "points"]) fun _ _ _ _ _ _ us hl=>VS.us2 (fun _ _=>rfl) us hl
 have F9:=zaL (st:=zbN) l9 c9 k9
 have b9:=F9.binds (ps:=["board", "stand"]) fun _ _ _ _ _ _ us hl=>VS.us2 (fun _ _=>rfl) us hl
 have F10:=zaL (st:=zgf) l10 c10 k10
 have b10:=F10.binds (ps:=["board", "stand", "hand", "point"]) fun _ _ _ _ _ _ us hl=>VS.us4 (fun _ _ _ _=>rfl) us hl
 have F11:=zaL (st:=zcz) l11 c11 k11
 have b11:=F11.binds (ps:=["board", "stand", "hand", "points"]) fun _ _ _ _ _ _ us hl=>VS.us4 (fun _ _ _ _=>rfl) us hl
 have F12:=zaL (st:=zdn) l12 c12 k12
 have b12:=F12.binds (ps:=["stand", "points", "what"]) fun _ _ _ _ _ _ us hl=>VS.us3 (fun _ _ _=>rfl) us hl
 have F13:=zaL (st:=zbw) l13 c13 k13
 have b13:=F13.binds (ps:=["board", "stand", "hand"]) fun _ _ _ _ _ _ us hl=>VS.us3 (fun _ _ _=>rfl) us hl
 have F14:=zaL (st:=zbk) l14 c14 k14
 have b14:=F14.binds (ps:=["_law_cell", "_law_many"]) fun _ _ _ _ _ _ us hl=>VS.us2 (fun _ _=>rfl) us hl
 have F15:=zaL (st:=za0) l15 c15 k15
 have b15:=F15.binds (ps:=["_law_many", "_law_lines_here"]) fun _ _ _ _ _ _ us hl=>VS.us2 (fun _ _=>rfl) us hl
 have F16:=zaL (st:=zaS) l16 c16 k16
 have b16:=F16.binds (ps:=["_law_xs"]) fun _ _ _ _ _ _ us hl=>VS.us1 (fun _=>rfl) us hl
 have F17:=zaL (st:=zb6) l17 c17 k17
 have b17:=F17.binds (ps:=["_law_board", "_law_stand", "_law_point"]) fun _ _ _ _ _ _ us hl=>VS.us3 (fun _ _ _=>rfl) us hl
 have F18:=zaL (st:=zbc) l18 c18 k18
 have b18:=F18.binds (ps:=["_law_board", "_law_stand", "_law_row_here"]) fun _ _ _ _ _ _ us hl=>VS.us3 (fun _ _ _=>rfl) us hl
 have F19:=zaL (st:=zbx) l19 c19 k19
 have b19:=F19.binds (ps:=["_law_board", "_law_stand", "_law_hand", "_law_point"]) fun _ _ _ _ _ _ us hl=>VS.us4 (fun _ _ _ _=>rfl) us hl
 have F20:=zaL (st:=zbi) l20 c20 k20
 have b20:=F20.binds (ps:=["_law_board", "_law_cells"]) fun _ _ _ _ _ _ us hl=>VS.us2 (fun _ _=>rfl) us hl
 have F21:=zaL (st:=zby) l21 c21 k21
 have b21:=F21.binds (ps:=["_law_game"]) fun _ _ _ _ _ _ us hl=>VS.us1 (fun _=>rfl) us hl
 have F22:=zaL (st:=zbd) l22 c22 k22
 have b22:=F22.binds (ps:=["_law_game"]) fun _ _ _ _ _ _ us hl=>VS.us1 (fun _=>rfl) us hl
 have F23:=zaL (st:=zaW) l23 c23 k23
 have b23:=F23.binds (ps:=["_law_game", "_law_states", "_law_count"]) fun _ _ _ _ _ _ us hl=>VS.us3 (fun _ _ _=>rfl) us hl
 have F24:=zaL (st:=zjV) l24 c24 k24
 have b24:=F24.binds (ps:=["_law_script"]) fun _ _ _ _ _ _ us hl=>VS.us1 (fun _=>rfl) us hl
 have F25:=zaL (st:=za5) l25 c25 k25
 have b25:=F25.binds (ps:=["self", "board", "rule", "stand", "hand"]) fun _ _ _ _ _ _ us hl=>VS.us5 (fun _ _ _ _ _=>rfl) us hl
 have F26:=zaL (st:=zbO) l26 c26 k26
 have b26:=F26.binds (ps:=["self", "what"]) fun _ _ _ _ _ _ us hl=>VS.us2 (fun _ _=>rfl) us hl
 have F27:=zaL (st:=zbe) l27 c27 k27
 have b27:=F27.binds (ps:=["self", "behind"]) fun _ _ _ _ _ _ us hl=>VS.us2 (fun _ _=>rfl) us hl
 have F28:=zaL (st:=zaT) l28 c28 k28
 have b28:=F28.binds (ps:=["self", "moment"]) fun _ _ _ _ _ _ us hl=>VS.us2 (fun _ _=>rfl) us hl
 have F29:=zaL (st:=zbP) l29 c29 k29
 have b29:=F29.binds (ps:=["self"]) fun _ _ _ _ _ _ us hl=>VS.us1 (fun _=>rfl) us hl
 have F30:=zaL (st:=zbz) l30 c30 k30
 have b30:=F30.binds (ps:=["self"]) fun _ _ _ _ _ _ us hl=>VS.us1 (fun _=>rfl) us hl
 have F31:=zaL (st:=zbQ) l31 c31 k31
 have b31:=F31.binds (ps:=["self"]) fun _ _ _ _ _ _ us hl=>VS.us1 (fun _=>rfl) us hl
 have F32:=zaL (st:=zbf) l32 c32 k32
 have b32:=F32.binds (ps:=["self", "moment"]) fun _ _ _ _ _ _ us hl=>VS.us2 (fun _ _=>rfl) us hl
 have F33:=zaL (st:=zbl) l33 c33 k33
 have b33:=F33.binds (ps:=["self"]) fun _ _ _ _ _ _ us hl=>VS.us1 (fun _=>rfl) us hl
 have F34:=zaL (st:=zbA) l34 c34 k34
 have b34:=F34.binds (ps:=["self"]) fun _ _ _ _ _ _ us hl=>VS.us1 (fun _=>rfl) us hl
 have F35:=zaL (st:=zaN) l35 c35 k35
 have b35:=F35.binds (ps:=["self"]) fun _ _ _ _ _ _ us hl=>VS.us1 (fun _=>rfl) us hl
 have F36:=zaL (st:=zbq) l36 c36 k36
 have b36:=F36.binds (ps:=["self", "hand"]) fun _ _ _ _ _ _ us hl=>VS.us2 (fun _ _=>rfl) us hl
 have F37:=zaL (st:=zbB) l37 c37 k37
 have b37:=F37.binds (ps:=["self"]) fun _ _ _ _ _ _ us hl=>VS.us1 (fun _=>rfl) us hl
 have ec_Again:C_Again=clOf K "Again" := by unfold VS.clOf;rw[ac_Again]
 subst ec_Again
 have FX0:=zaL (st:=zaX) lX0 cX0 kX0
 have bX0:=FX0.binds (ps:=["self", "number"]) fun _ _ _ _ _ _ us hl=>VS.us2 (fun _ _=>rfl) us hl
 refine⟨⟨_,_,_,_,_,_,_,_,_,_,_,_,_,_,_,_,_,_,_,_,_,_,_,_,_,_,_,_,_,_,_,_,_,_,_,_,_,_,_,_,_,_,_,_,_,_,_,_,_,_,_,_,_,_,_,_,_,_,_,_,_,_,_,_,_,_,_,_,_,_,_,_,_,_,_,_,_,_⟩,⟨PySem.W.mg_of X G a0,F0,b0,PySem.W.mg_of X G a1,F1,b1,PySem.W.mg_of X G a2,F2,b2,PySem.W.mg_of X G a3,F3,b3,PySem.W.mg_of X G a4,F4,b4,PySem.W.mg_of X G a5,F5,b5,PySem.W.mg_of X G a6,F6,b6,PySem.W.mg_of X G a7,F7,b7,PySem.W.mg_of X G a8,F8,b8,PySem.W.mg_of X G a9,F9,b9,PySem.W.mg_of X G a10,F10,b10,PySem.W.mg_of X G a11,F11,b11,PySem.W.mg_of X G a12,F12,b12,PySem.W.mg_of X G a13,F13,b13,PySem.W.mg_of X G a14,F14,b14,PySem.W.mg_of X G a15,F15,b15,PySem.W.mg_of X G a16,F16,b16,PySem.W.mg_of X G a17,F17,b17,PySem.W.mg_of X G a18,F18,b18,PySem.W.mg_of X G a19,F19,b19,PySem.W.mg_of X G a20,F20,b20,PySem.W.mg_of X G a21,F21,b21,PySem.W.mg_of X G a22,F22,b22,PySem.W.mg_of X G a23,F23,b23,PySem.W.mg_of X G a24,F24,b24,⟨a25,fn25,k25⟩,F25,b25,⟨a26,fn26,k26⟩,F26,b26,⟨a27,fn27,k27⟩,F27,b27,⟨a28,fn28,k28⟩,F28,b28,⟨a29,fn29,k29⟩,F29,b29,⟨a30,fn30,k30⟩,F30,b30,⟨a31,fn31,k31⟩,F31,b31,⟨a32,fn32,k32⟩,F32,b32,⟨a33,fn33,k33⟩,F33,b33,⟨a34,fn34,k34⟩,F34,b34,⟨a35,fn35,k35⟩,F35,b35,⟨a36,fn36,k36⟩,F36,b36,⟨a37,fn37,k37⟩,F37,b37,ztM ex_Again aX0 fnX0,FX0,bX0,⟨pg_Game,hd_Game,po_Game,sa_Game⟩,⟨mi_Game,a25,fn25,kc_Game⟩,PySem.W.mg_of X G ac_Game,na_Game_barring,na_Game_done,na_Game_first,na_Game_joined,na_Game_past,na_Game_takings,⟨_,PySem.W.mg_of X G q0⟩,PySem.W.mg_none_of X G z_ValueError,PySem.W.mg_none_of X G z_all,PySem.W.mg_none_of X G z_bool,PySem.W.mg_none_of X G z_int,PySem.W.mg_none_of X G z_isinstance,PySem.W.mg_none_of X G z_len,PySem.W.mg_none_of X G z_list,PySem.W.mg_none_of X G z_range,PySem.W.mg_none_of X G z_sorted,PySem.W.mg_none_of X G z_sum,PySem.W.mg_none_of X G z_tuple,ztH X G xt,nl⟩,rfl,fun s v=>.of_eq rfl⟩
end K19
namespace K19
open L2 VS
def FU:Nat:=1000
theorem zQn{sl sl':Sl}{ce:Ce}{i:Nat}{w:Option W}{b:DS}{Q:O->Prop}(q:Run b sl' ce Q)(h:SetAt sl i w sl':=by repeat (first|exact SetAt.zero|apply SetAt.succ)):Run b (sl.set i w) ce Q:=zal h q
local macro_rules|`(tactic| trivial)=>`(tactic| repeat' (first
 | with_reducible (refine zal (by repeat (first|exact SetAt.zero|apply SetAt.succ)) ?_)
 | with_reducible (refine id (α:=_=some (R.ok _ _)) ?_;assumption)
 | (with_reducible apply zai);rfl
 | with_reducible exact zbH
 | with_reducible apply zaR
 | with_reducible apply zfq
 | with_reducible apply zcG
 | with_reducible apply zc0
 | with_reducible apply zaG
 | with_reducible apply zaj
 | with_reducible exact zam
 | with_reducible apply zbC
 | with_reducible apply zin
 | with_reducible apply zi9
 | with_reducible apply zbJ
 | with_reducible exact ev_yes
 | with_reducible apply zrC
 | with_reducible apply zlf
 | with_reducible apply zlg
 | with_reducible exact eqI0
 | with_reducible exact eqE0
 | with_reducible exact eqE1
 | with_reducible exact eqEN0
 | with_reducible exact eqEN1
 | with_reducible exact zun
 | with_reducible exact inS0
 | with_reducible exact inS1
 | with_reducible exact inSL0
 | with_reducible exact inSL1
 | with_reducible exact inL0
 | with_reducible exact inL1
 | with_reducible (apply inC0;assumption)
 | with_reducible (apply zu2;assumption)
 | with_reducible (apply dinC0;assumption)
 | with_reducible (apply ztC;assumption)
 | ((with_reducible apply zrH);trivial;done)
 | with_reducible apply ztB
 | with_reducible apply zum
 | with_reducible apply zsr
 | with_reducible apply lcF
 | with_reducible apply ztA
 | with_reducible apply lcC
 | with_reducible apply zeI
 | with_reducible apply zfm
 | with_reducible apply zf8
 | with_reducible apply zm8
 | with_reducible apply zpn
 | with_reducible apply SrcFix.is
 | with_reducible (refine id (α:=LstOf _ _ _) ?_;first|assumption|exact .fr _|exact .cl (by assumption))
 | with_reducible apply zfk
 | with_reducible apply zhM
 | with_reducible apply zca
 | with_reducible apply zdO
 | with_reducible apply zeD
 | with_reducible apply zna
 | with_reducible exact lf_isB0
 | with_reducible exact lf_isB1
 | with_reducible exact eqB0
 | with_reducible exact eqB1
 | with_reducible exact isiB
 | with_reducible exact zlk
 | with_reducible (apply zio;assumption)
 | with_reducible exact zgD
 | with_reducible apply zcW
 | with_reducible apply zhL
 | with_reducible apply zoj
 | with_reducible apply zrE
 | with_reducible apply zik
 | with_reducible apply zaw
 | with_reducible apply zeC
 | with_reducible apply zbn
 | with_reducible apply zbE
 | with_reducible apply zao
 | with_reducible apply zdN
 | with_reducible apply zpj
 | with_reducible apply zaP
 | with_reducible apply zbF
 | with_reducible apply zaH
 | with_reducible apply zc7
 | with_reducible (refine id (α:=_=_) ?_;assumption)
 | (refine id (α:=(_:Nat)<_) ?_;first|assumption|omega)
 | (refine id (α:=(_:Nat)<=_) ?_;first|assumption|omega|decide|(simp only[length_cons,length_nil];decide))
 | with_reducible (apply zrF;first|assumption|omega)
 | with_reducible (apply zcR;first|assumption|omega)
 | with_reducible (apply zok;first|assumption|omega)
 | with_reducible (apply zol;assumption;first|assumption|omega)
 | with_reducible (apply zcj;assumption)
 | with_reducible (apply zfl;assumption;first|assumption|omega)
 | with_reducible (apply lf_sortCF;assumption;first|assumption|omega)
 | with_reducible (apply tupCN;assumption;first|assumption|omega)
 | with_reducible (apply tupCB;assumption;first|assumption|omega)
 | with_reducible (apply zpq;assumption;first|assumption|omega)
 | with_reducible (apply tupLN;first|assumption|omega)
 | with_reducible (apply zrJ;first|assumption|omega)
 | with_reducible (apply zrK;first|assumption|omega)
 | ((with_reducible apply zpp);rfl;rfl;first|assumption|exact mul_small (.inr (by omega))|exact mul_small (.inl (by omega)))
 | with_reducible (apply lf_listL;first|assumption|omega)
 | with_reducible (apply lf_sortS;first|assumption|omega)
 | with_reducible exact eqLL0
 | with_reducible exact eqLL1
 | with_reducible (apply eqLC1;assumption)
 | with_reducible (apply eqSC1;assumption)
 | with_reducible exact zlh
 | with_reducible exact lf_lenS
 | with_reducible exact zpl
 | with_reducible (apply zpk;assumption)
 | intro _
 | ((with_reducible apply zcI)<;>rfl)
 | ((with_reducible apply zgG)<;>rfl)
 | ((with_reducible apply zli)<;>rfl)
 | ((with_reducible apply lf_fLe)<;>rfl)
 | ((with_reducible apply zlj)<;>rfl)
 | ((with_reducible apply lf_fGe)<;>rfl)
 | ((with_reducible apply zem)<;>rfl)
 | ((with_reducible apply zpo)<;>rfl)
 | ((with_reducible apply lf_fNeg);rfl)
 | ((with_reducible apply zrI);rfl)
 | with_reducible exact isiN
 | with_reducible exact isiNB
 | with_reducible exact isiI
 | with_reducible exact isiIB
 | ((with_reducible apply lf_min)<;>rfl)
 | ((with_reducible apply lf_max)<;>rfl)
 | ((with_reducible apply zfo);rfl;rfl;omega)
 | ((with_reducible apply zgH);rfl;rfl;omega)
 | (refine id (α:=(_:Nat)=_) ?_;rfl)
 | with_reducible rfl))
def rC(r:List Nat):C:=.lst (r.map nW)
def upR(rows:List (List Nat))(p q:Nat):List (List Nat):=rows.set p (rows.getD p []++[q])
def zr7(rows:List (List Nat))(p q:Nat):List (List Nat):=upR (upR rows p q) q p
theorem ziD(rows:List (List Nat))(p q:Nat):(upR rows p q).length=rows.length:=by simp[upR]
theorem zjk(rows:List (List Nat))(p q:Nat):(zr7 rows p q).length=rows.length:=by simp[zr7,ziD]
theorem zgY{rows:List (List Nat)}{p:Nat}(hp:p<rows.length)(q i:Nat):(upR rows p q).getD i []=if i=p then rows.getD p []++[q] else rows.getD i []:=by
 unfold upR
 simp only[getD_eq_getElem?_getD]
 by_cases h:i=p
 ·subst h;simp[hp]
 ·rw[getElem?_set_ne (Ne.symm h)];simp[h]
structure Rows (n:Nat) (rows:List (List Nat)):Prop where
 len:rows.length=n
 bd:∀i j,j∈rows.getD i []->j<n
 sym:∀i j,j∈rows.getD i []->i∈rows.getD j []
section
variable {ce:Ce} {n mS:Nat} {rows:List (List Nat)} {gs:Ce}
abbrev zmf(ce:Ce)(n:Nat):W:=.lst ((List.range n).map fun i=>W.cel (ce.length+i))
abbrev bC(ce:Ce)(rows:List (List Nat))(gs:Ce):Ce:=ce++(rows.map rC++gs)
theorem zov{p:Nat}(hp:p<rows.length):(bC ce rows gs)[ce.length+p]?=some (rC (rows.getD p [])):=by
 rw[zsq,getElem?_append_left (by simpa using hp),getElem?_map,getD_eq_getElem?_getD]
 simp[hp]
theorem zr8{p q:Nat}(hp:p<rows.length):(bC ce rows gs).set (ce.length+p) (.lst ((rows.getD p []).map nW++[nW q]))=bC ce (upR rows p q) gs:=by
 rw[zt4,set_append_left _ _ (by simpa using hp)]
 show _=ce++((rows.set p (rows.getD p []++[q])).map rC++gs)
 rw[map_set]
 have e:C.lst ((rows.getD p []).map nW++[nW q])=rC (rows.getD p []++[q]):=by simp only[rC,map_append,map_cons,map_nil]
 rw[e]
theorem zr9(c:Ce){p:Nat}(hp:p<n):ixW c (zmf ce n) (nW p)=some (W.cel (ce.length+p)):=by
 rw[zgA (xs:=(List.range n).map fun i=>W.cel (ce.length+i)) rfl,getElem?_map]
 simp[hp]
theorem ap1{sl:Sl}{a b p q:Nat}(h4:sl[mS]?=some (some (zmf ce n)))(ha:sl[a]?=some (some (nW p)))(hb:sl[b]?=some (some (nW q)))(hr:rows.length=n)(hp:p<n)(hz:(rows.getD p []).length<PySem.sizeLine) :
  dEx (dMt zdJ (zaO ixW (zae mS) (zae a)) (zac (zae b) zan)) sl (bC ce rows gs)=some (.go .nx sl (bC ce (upR rows p q) gs)):=by
 have hp':p<rows.length:=by omega
 have g:=zov (ce:=ce) (gs:=gs) hp'
 have e1:zaO ixW (zae mS) (zae a) sl (bC ce rows gs)=some (.ok (W.cel (ce.length+p)) (bC ce rows gs)):=by
  simp only[zro,zm2,zi7,h4,ha,zod,zr9 _ hp,map_some]
 have e2:zac (zae b) zan sl (bC ce rows gs)=some (.ok [nW q] (bC ce rows gs)):=by
  simp only[zk8,zm2,zi7,hb,zoe,zrn]
 have lq:zme (bC ce rows gs) (W.cel (ce.length+p))=some ():=by
  unfold zme
  rw[zcj (xs:=(rows.getD p []).map nW) g]
  rfl
 have ap:zdJ (W.cel (ce.length+p)) [nW q] (bC ce rows gs)=some (.ok .non (bC ce (upR rows p q) gs)):=by
  rw[zm3 (zeB (xs:=(rows.getD p []).map nW) g) (by rw[length_map];exact hz),zr8 hp']
 generalize bC ce rows gs=c1 at *
 generalize bC ce (upR rows p q) gs=c2 at *
 simp only[ztu,ztz,zm2,ztq,zod,e1,e2,lq,ap,map_some]
theorem ap2{sl:Sl}{a b p q:Nat}(h4:sl[mS]?=some (some (zmf ce n)))(ha:sl[a]?=some (some (nW p)))(hb:sl[b]?=some (some (nW q)))(hr:rows.length=n)(hp:p<n)(hq:q<n)(hz:∀i,(rows.getD i []).length<1000) :
  zap (dEx (dMt zdJ (zaO ixW (zae mS) (zae a)) (zac (zae b) zan))) (dEx (dMt zdJ (zaO ixW (zae mS) (zae b)) (zac (zae a) zan))) sl (bC ce rows gs)=some (.go .nx sl (bC ce (zr7 rows p q) gs)):=by
 have z:(1001:Nat)<PySem.sizeLine:=by decide
 rw[zk7 (ap1 h4 ha hb hr hp (by have:=hz p;omega))]
 refine ap1 h4 hb ha (by rw[ziD];exact hr) hq ?_
 rw[zgY (by omega)]
 split
 ·have:=hz p;rw[length_append,length_singleton];omega
 ·have:=hz q;omega
theorem zjZ{p:Nat}(hp:p<rows.length)(h:(rows.getD p []).length<=60)(cs:Sl):dBi zbX (zac (dBi (za2 zbs) (zac (zae 0) zan)) zan) (some (W.cel (ce.length+p))::cs) (bC ce rows gs)=some (.ok (wT (zcZ (rows.getD p []))) (bC ce rows gs)):=by
 have g:=zov (ce:=ce) (gs:=gs) hp
 have hz:(61:Nat)<PySem.sizeLine:=by decide
 have l1:(srt (toI (rows.getD p []))).length=(rows.getD p []).length:=by rw[(zbT _).length_eq,zb3]
 have so:za2 zbs [W.cel (ce.length+p)] (bC ce rows gs)=some (.ok (.lst ((zcZ (rows.getD p [])).map nW)) (bC ce rows gs)):=by
  simp only[za2,zcj (xs:=(rows.getD p []).map nW) g,zeV,zb3]
  rw[if_pos (by omega),zk9 _ (by rw[length_map,l1];omega),zdM]
 have tu:zbX [.lst ((zcZ (rows.getD p [])).map nW)] (bC ce rows gs)=some (.ok (wT (zcZ (rows.getD p []))) (bC ce rows gs)):=by
  have e:((zcZ (rows.getD p [])).map nW).length=(rows.getD p []).length:=by rw[<- zdM,length_map,l1]
  show ztj _ _=_
  rw[zrp _ (by rw[e];omega)]
  rfl
 generalize bC ce rows gs=c1 at *
 simp only[ztv,zm2,zk8,zi7,getElem?_cons_zero,zoe,zrn,so,tu]
theorem zhY(hr:rows.length=n)(h36:n<=36)(h:∀i,(rows.getD i []).length<=60){sl:Sl}(h4:sl[mS]?=some (some (zmf ce n))) :
  dLC zbs [] (dIL (zae mS)) zey (dBi zbX (zac (dBi (za2 zbs) (zac (zae 0) zan)) zan)) sl (bC ce rows gs)=some (.ok (.lst (((List.range n).map fun i=>zcZ (rows.getD i [])).map wT)) (bC ce rows gs)):=by
 have hz:=sl36
 have hi:dIL (zae mS) sl (bC ce rows gs)=some (.ok (.lst ((List.range n).map fun i=>W.cel (ce.length+i))) (bC ce rows gs)):=by
  show bnd (zae mS sl) (fun w=>look fun ce=>zii ce w) (bC ce rows gs)=_
  rw[zci (a:=zmf ce n) (ce':=bC ce rows gs) (by simp only[zi7,h4])]
  rfl
 obtain⟨zs,e,pz⟩:=zrv (mk:=zbs) (js:=[]) (s:=.lst ((List.range n).map fun i=>W.cel (ce.length+i))) (e:=dBi zbX (zac (dBi (za2 zbs) (zac (zae 0) zan)) zan)) hi trivial (fun x y=>∃i,i<n/\x=W.cel (ce.length+i)/\y=wT (zcZ (rows.getD i []))) (fun x hx=>by
  simp only[Src.items,mem_map,mem_range] at hx
  obtain⟨i,hi,rfl⟩:=hx
  exact⟨_,⟨i,hi,rfl,rfl⟩,zjZ (by omega) (h i) _⟩) (by simp only[Src.items,length_map,length_range];omega)
 rw[e]
 obtain⟨hl,hn⟩:=VS.Paired.nth pz
 simp only[Src.items,length_map,length_range] at hl
 have ez:zs=((List.range n).map fun i=>zcZ (rows.getD i [])).map wT:=by
  apply ext_getElem?
  intro i
  by_cases hi:i<n
  ·have h1:((List.range n).map fun i=>W.cel (ce.length+i))[i]?=some (W.cel (ce.length+i)):=by simp[hi]
   have h2:zs[i]?=some (zs[i]'(by omega)):=getElem?_eq_getElem _
   obtain⟨j,_,q1,q2⟩:=hn i _ _ h1 h2
   have hij:i=j:=by
    injection q1 with q1
    omega
   subst hij
   rw[h2,q2]
   simp[hi]
  ·rw[getElem?_eq_none (by omega),getElem?_eq_none (by simp;omega)]
 rw[zk9 _ (by rw[<- hl];omega),ez]
theorem znB{di:Sl->M Src}{sl:Sl}(hi:di sl ce=some (.ok (.rng 0 n) ce))(h36:n<=36):dLC zbs [] di zey (zb9 zan) sl ce=some (.ok (zmf ce n) (bC ce (List.replicate n []) [])):=by
 have hz:=sl36
 show bnd (di sl) (fun s=>bnd (lcL s (zdH [] sl) zey (zb9 zan) s.items []) zbs) ce=_
 have al:=zhK (s:=.rng 0 n) (cs:=zdH [] sl) (fun _=>trivial) (Src.rng 0 n).items [] ce (by rw[zfj];simp;omega)
 rw[zci hi,zci al,zfj,zk9 _ (by simp;omega)]
 simp[bC,rC,zmf]
end
theorem ziE{fin:Ce->Ce->W->Option (R W)}{n:Nat}{body:DS}{ws:List W}{ce:Ce}{P:W->Ce->Prop}(sl:Sl)(e:ws.map some++List.replicate (n-ws.length) none=sl)(h:Run body sl ce (Rt fun v ce'=>∃w c',fin ce ce' v=some (.ok w c')/\P w c')):∃w c',dFn fin n body ws ce=some (.ok w c')/\P w c':=by
 subst e
 obtain⟨o,e,q⟩:=h
 cases o with
 | ex x c=>exact q.elim
 | go f sl c=>cases f with
  | rt w =>
   obtain⟨w',c',h1,h2⟩:=q
   exact⟨w',c',zoi e h1,h2⟩
  | nx=>exact q.elim
  | bk=>exact q.elim
  | ct=>exact q.elim
theorem ziF{d r:List Nat}{p n:Nat}(e:d++p::r=List.range n):d=List.range p:=by
 have hl:d.length<n:=by have:=congrArg List.length e;simp at this;omega
 have h1:(List.range n)[d.length]?=some p:=by rw[<- e];simp
 rw[getElem?_range hl] at h1
 cases h1
 have h2:(List.range n).take d.length=d:=by rw[<- e];simp
 rw[<- h2,take_range,min_eq_left (le_of_lt hl)]
 simp
structure LsOk (n:Nat) (ls:List (Nat×Nat)):Prop where
 nd:ls.Nodup
 lt:∀p∈ls,p.1<p.2/\p.2<n
theorem zgZ{sl:Sl}{ce c1 c2:Ce}{a b:Sl->M W}{x y:W}{xs ys:List W}(ha:a sl ce=some (.ok x c1))(hb:b sl c1=some (.ok y c2))(hx:zcg c2 x=some xs)(hy:zcg c2 y=some ys)(hz:xs.length+ys.length<=PySem.sizeLine) :
  zk0 zbs a b sl ce=some (.ok (.lst (xs++ys)) c2):=by
 simp only[zk0,bnd,ha,hb,ztk,hx,hy,if_pos hz]
 exact zcs (by rw[length_append];exact hz)
theorem nodup_map_inj{α β:Type}{f:α->β}{l:List α}(h:l.Nodup)(inj:∀x y,f x=f y->x=y):(l.map f).Nodup:=List.Pairwise.map f (fun a b hab e=>hab (inj a b e)) h
def adj(ls:List (Nat×Nat))(i:Nat):List Nat:=ls.filterMap fun p=>if p.1=i then some p.2 else if p.2=i then some p.1 else none
theorem zg0{ls:List (Nat×Nat)}{n:Nat}(h:LsOk n ls){i j:Nat}:j∈adj ls i↔(i,j)∈ls\/(j,i)∈ls:=by
 unfold adj
 rw[mem_filterMap]
 constructor
 ·rintro⟨⟨a,b⟩,hp,e⟩
  simp only at e
  split at e
  ·cases e;rename_i h1;subst h1;exact .inl hp
  ·split at e
   ·cases e;simp_all
   ·cases e
 ·rintro(hp|hp)
  ·exact⟨(i,j),hp,by simp⟩
  ·have:=(h.lt _ hp).1
   simp only at this
   refine⟨(j,i),hp,?_⟩
   simp only
   rw[if_neg (by omega)]
   simp
theorem zlE{ls:List (Nat×Nat)}{n:Nat}(h:LsOk n ls)(i:Nat):(adj ls i).Nodup:=by
 unfold adj
 refine List.Pairwise.filterMap _ ?_ (List.Pairwise.and_mem.mp h.nd)
 rintro⟨a,b⟩ ⟨c,d⟩ ⟨h1,h2,hne⟩ x hx y hy e
 subst e
 have l1:=(h.lt _ h1).1
 have l2:=(h.lt _ h2).1
 simp only at hx hy l1 l2
 apply hne
 split at hx<;>split at hy
 ·cases hx;cases hy;simp_all
 ·split at hy
  ·cases hx;cases hy;simp_all;omega
  ·cases hy
 ·split at hx
  ·cases hx;cases hy;simp_all;omega
  ·cases hx
 ·split at hx
  ·split at hy
   ·cases hx;cases hy;simp_all
   ·cases hy
  ·cases hx
theorem zhZ{ls:List (Nat×Nat)}{n:Nat}(h:LsOk n ls){i j:Nat}(hj:j∈adj ls i):j<n/\i<n:=by
 rcases(zg0 h).mp hj with hp|hp<;>(have:=h.lt _ hp;simp only at this;omega)
def ziG(n:Nat)(ls:List (Nat×Nat)):List (List Nat):=(List.range n).map fun i=>zcZ (adj ls i)
theorem zeZ(n:Nat)(ls:List (Nat×Nat))(i:Nat):(ziG n ls).getD i []=if i<n then zcZ (adj ls i) else []:=by
 unfold ziG
 rw[getD_eq_getElem?_getD,getElem?_map]
 by_cases h:i<n
 ·simp[h]
 ·rw[getElem?_eq_none (by simp;omega)];simp[h]
structure Brd (b:List (List Nat)):Prop where
 bd:Bd b
 sym:Sym b
 h36:b.length<=36
 pos:0<b.length
 row:∀i,(b.getD i []).length<=36
 srt:∀i,zcZ (b.getD i [])=b.getD i []
theorem zj0{l m:List Nat}(h:l.Perm m):zcZ l=zcZ m:=by unfold zcZ;rw[zlb h]
theorem zlF(l:List Nat):(zcZ l).Perm l:=by
 have h:(zcZ l).Perm ((toI l).map Int.toNat):=(zbT (toI l)).map _
 have e:(toI l).map Int.toNat=l:=by
  unfold toI
  rw[map_map]
  conv=>rhs;rw[<- map_id l]
  apply map_congr_left
  intro x _
  simp
 rwa [e] at h
theorem zlG(l:List Nat):zcZ (zcZ l)=zcZ l:=zj0 (zlF l)
theorem zpT{n:Nat}{ls:List (Nat×Nat)}(h:LsOk n ls)(h0:0<n)(h36:n<=36):Brd (ziG n ls):=by
 have hl:(ziG n ls).length=n:=by simp[ziG]
 refine⟨fun r hr x hx=>?_,fun i j hj=>?_,by omega,by omega,fun i=>?_,fun i=>?_⟩
 ·obtain⟨i,hi,rfl⟩:=mem_map.mp hr
  rw[hl]
  exact(zhZ h ((zeW _ _).mp hx)).1
 ·rw[zeZ] at hj ⊢
  split at hj
  ·have hj:=(zeW _ _).mp hj
   rw[if_pos (zhZ h hj).1]
   exact(zeW _ _).mpr ((zg0 h).mpr ((zg0 h).mp hj).symm)
  ·simp at hj
 ·rw[zeZ]
  split
  ·rw[zdj]
   exact le_trans (zaF (zlE h i) fun x hx=>(zhZ h hx).1) h36
  ·simp
 ·rw[zeZ]
  split
  ·exact zlG _
  ·exact length_eq_zero_iff.mp (zdj [])
theorem zpU(d:List (Nat×Nat))(p q i:Nat)(hpq:p≠q):adj (d++[(p,q)]) i=adj d i++((if i=p then [q] else [])++(if i=q then [p] else [])):=by
 unfold adj
 rw[filterMap_append]
 congr 1
 by_cases h1:i=p
 ·subst h1
  have:¬i=q:=hpq
  simp[this]
 ·by_cases h2:i=q
  ·subst h2
   simp[h1,hpq]
  ·have h1':¬p=i:=fun e=>h1 e.symm
   have h2':¬q=i:=fun e=>h2 e.symm
   simp[h1,h2,h1',h2']
theorem znC(n:Nat)(d:List (Nat×Nat)){p q:Nat}(hp:p<n)(hq:q<n)(hpq:p≠q):zr7 ((List.range n).map (adj d)) p q=(List.range n).map (adj (d++[(p,q)])):=by
 have gd:∀(e:List (Nat×Nat)) (i:Nat),i<n->((List.range n).map (adj e)).getD i []=adj e i:=fun e i hi=>by simp[getD_eq_getElem?_getD,hi]
 apply ext_getElem?
 intro i
 by_cases hi:i<n
 ·have e1:∀(l:List (List Nat)),l.length=n->l[i]?=some (l.getD i []):=fun l hl=>by
   rw[getD_eq_getElem?_getD,getElem?_eq_getElem (by omega)];rfl
  rw[e1 _ (by rw[zjk];simp),e1 _ (by simp),gd _ i hi,zpU d p q i hpq]
  unfold zr7
  rw[zgY (by rw[ziD];simpa using hq),zgY (by simpa using hp),zgY (by simpa using hp),gd _ _ hp,gd _ _ hq,gd _ _ hi]
  congr 1
  by_cases h1:i=q
  ·subst h1
   rw[if_pos rfl,if_neg (Ne.symm hpq),if_pos rfl,if_neg (Ne.symm hpq)]
   simp
  ·rw[if_neg h1,if_neg h1]
   by_cases h2:i=p
   ·subst h2;simp
   ·simp[h2]
 ·rw[getElem?_eq_none (by rw[zjk];simp;omega),getElem?_eq_none (by simp;omega)]
theorem zsa{sl:Sl}{ce c1:Ce}{a:Sl->M W}{x:W}{xs:List W}{n:Nat}{i:Int}(ha:a sl ce=some (.ok x c1))(hx:zcg c1 x=some xs)(ei:i=(n:Int))(h:n<=xs.length)(hz:xs.length<=PySem.sizeLine):dSl zbs a (zbY (dC (.int i))) zbo sl ce=some (.ok (.lst (xs.drop n)) c1):=by
 subst ei
 have e1:HT.sIx xs.length 0 (some (n:Int))=n:=by rw[HT.sIx_nat];omega
 have e2:HT.sIx xs.length xs.length none=xs.length:=rfl
 have hb':zbY (dC (.int (n:Int))) sl c1=some (.ok (some (n:Int)) c1):=zeo zbH
 simp only[dSl,bnd,ha,zbo,ret,hb',slW,hx,zmP,e1,e2]
 rw[take_of_length_le (by rw[length_drop];omega)]
 refine zcs ?_
 rw[length_drop];omega
theorem zg1{sl:Sl}{ce c1 c2 c3:Ce}{a:Sl->M W}{x:W}{xs:List W}{dl dh:Sl->M (Option Int)}{lo hi:Option Int}(ha:a sl ce=some (.ok x c1))(hl:dl sl c1=some (.ok lo c2))(hh:dh sl c2=some (.ok hi c3))(hx:zcg c3 x=some xs)(hz:xs.length<=PySem.sizeLine):dSl zbs a dl dh sl ce=some (.ok (.lst (zmP xs lo hi)) c3):=by
 simp only[dSl,bnd,ha,hl,hh,slW,hx]
 refine zcs ?_
 unfold zmP
 rw[length_take,length_drop];omega
theorem zg2(xs:List Int)(lo hi:Option Int):∃ys:List Int,zmP (xs.map W.int) lo hi=ys.map W.int/\ys.length<=xs.length/\∀y∈ys,y∈xs:=by
 unfold zmP
 rw[<- map_drop,<- map_take]
 exact⟨_,rfl,by rw[length_take,length_drop];omega,fun y hy=>mem_of_mem_drop (mem_of_mem_take hy)⟩
section
variable {ce:Ce}
theorem zfC(fu:Nat)(c:Int){m:Nat}(hm:m<=999):∃xs:List Int,d_k fu [.int c,nW m] ce=some (.ok (sW xs) ce)/\xs.length=m/\∀x∈xs,0<=x/\x<2147483647:=by
 have hz:1100<PySem.sizeLine:=by decide
 suffices hs:∃w c',d_k fu [.int c,nW m] ce=some (.ok w c')/\∃xs:List Int,w=sW xs/\c'=ce/\xs.length=m/\∀x∈xs,0<=x/\x<2147483647 by
  obtain⟨w,c',e,xs,rfl,rfl,h⟩:=hs
  exact⟨xs,e,h⟩
 have f1:zc2 (nW m) (.int 1)=some (nW (m+1)):=zcI (i:=m) (j:=1) rfl rfl
 have m1000:m+1<=1000:=by omega
 unfold d_k
 refine ziE [some (.int c),some (nW m),none,none,none] rfl ?_
 refine zao (zca zam (zero_le _)) ?_
 refine zQn ?_
 have O0:=(Own.start ce).alloc (C.lst [])
 generalize hk:ce.length=k2 at O0 ⊢
 generalize ce++[C.lst []]=c0 at O0 ⊢
 refine zao (w:=.int (c % 2147483647+48271)) (ce':=c0) (by trivial) ?_
 refine zQn ?_
 refine zbj (zs:=List.range (m+1)) (en:=nW) (zeI (by trivial) m1000)
  (fun d sl c'=>∃xs:List Int,∃u:Int,∃x4,sl=[some (.int c),some (nW m),some (.cel k2),some (.int u),x4]/\Own ce c' [(k2,C.lst (xs.map W.int))]/\0<=u/\u<4294967296/\xs.length=d.length/\∀x∈xs,0<=x/\x<2147483647)
  ⟨[],_,_,rfl,O0,by omega,by omega,rfl,by simp⟩ ?_ ?_
 ·rintro d j r sl c' e hj ⟨xs,u,x4,rfl,O,u0,u1,hl,hx⟩
  have hj:=mem_range.mp hj
  have hdl:d.length<=1000:=by have:=congrArg List.length e;simp at this;omega
  have g2:=O.g0
  have hm2:(xs.map W.int).length<PySem.sizeLine:=by rw[length_map];omega
  have mu:CMul u u:=.inl (by omega)
  have mu2:CMul 48271 u:=.inl (by omega)
  unfold zdt
  trivial
  refine⟨xs++[(u*u+48271*u+(j:Int)) % 2147483647],_,_,rfl,by rw[map_append];exact O.set0 _,by omega,by omega,by simp[hl],fun x hx'=>?_⟩
  rcases mem_append.mp hx' with h|h
  ·exact hx x h
  ·rw[mem_singleton] at h;subst h;omega
 ·rintro sl c' ⟨xs,u,x4,rfl,O,u0,u1,hl,hx⟩
  rw[length_range] at hl
  refine zaw (zsa (xs:=xs.map W.int) (n:=1) (zai rfl) (zcj O.g0) rfl (by rw[length_map];omega) (by rw[length_map];omega)) ?_
  rw[<- map_drop]
  subst hk
  refine⟨_,_,O.finC (by simp only[Bel];exact belInts _ _),xs.drop 1,rfl,rfl,by rw[length_drop];omega,fun x hx'=>hx x (mem_of_mem_drop hx')⟩
theorem zlH(fu:Nat){n:Nat}{ls:List (Nat×Nat)}(n0:0<n)(h36:n<=36)(L:LsOk n ls):d_j fu [nW n,.lst (ls.map pW)] ce=some (.ok (wB (ziG n ls)) ce):=by
 have hz:=sl36
 unfold d_j
 refine zbK [some (nW n),some (.lst (ls.map pW)),none,none,none] rfl ?_
 refine zao (znB (ce:=ce) (n:=n) (zlg (by trivial) (by omega)) (by omega)) ?_
 refine zQn ?_
 refine zne (zs:=ls) (fa:=fun p=>nW p.1) (fb:=fun p=>nW p.2) (c1:=bC ce (List.replicate n []) []) (zfm (by trivial))
  (fun d sl c=>∃x3 x4,sl=[some (nW n),some (.lst (ls.map pW)),some (zmf ce n),x3,x4]/\c=bC ce ((List.range n).map (adj d)) [])
  ⟨_,_,rfl,by
   congr 2
   apply ext_getElem?
   intro i
   by_cases hi:i<n
   ·simp[hi,adj]
   ·rw[getElem?_eq_none (by simp;omega),getElem?_eq_none (by simp;omega)]⟩ ?_ ?_
 ·rintro d ⟨p,q⟩ r sl c e hp ⟨x3,x4,rfl,rfl⟩
  have lt:=L.lt _ hp
  simp only at lt
  have Ld:LsOk n d:=by
   rw[<- e] at L
   exact⟨(nodup_append.mp L.nd).1,fun x hx=>L.lt x (mem_append_left _ hx)⟩
  have hz2:∀i,(((List.range n).map (adj d)).getD i []).length<1000:=fun i=>by
   by_cases hi:i<n
   ·have:((List.range n).map (adj d)).getD i []=adj d i:=by simp[getD_eq_getElem?_getD,hi]
    rw[this]
    have:=zaF (zlE Ld i) fun x hx=>(zhZ Ld hx).1
    omega
   ·rw[getD_eq_getElem?_getD,getElem?_eq_none (by simp;omega)];simp
  unfold zdu
  refine zrB (ap2 (ce:=ce) (n:=n) (mS:=2) (rows:=(List.range n).map (adj d)) (gs:=[]) (sl:=[some (nW n),some (.lst (ls.map pW)),some (zmf ce n),some (nW p),some (nW q)]) (a:=3) (b:=4) (p:=p) (q:=q) rfl rfl rfl (by simp) (by omega) (by omega) hz2) ?_
  exact⟨_,_,rfl,by rw[znC n d (by omega) (by omega) (by omega)]⟩
 ·rintro sl c ⟨x3,x4,rfl,rfl⟩
  have hb60:∀i,(((List.range n).map (adj ls)).getD i []).length<=60:=fun i=>by
   by_cases hi:i<n
   ·have:((List.range n).map (adj ls)).getD i []=adj ls i:=by simp[getD_eq_getElem?_getD,hi]
    rw[this]
    have:=zaF (zlE L i) fun x hx=>(zhZ L hx).1
    omega
   ·rw[getD_eq_getElem?_getD,getElem?_eq_none (by simp;omega)];simp
  have er:=zhY (ce:=ce) (gs:=[]) (mS:=2) (rows:=(List.range n).map (adj ls)) (n:=n) (by simp) (by omega) hb60 (sl:=[some (nW n),some (.lst (ls.map pW)),some (zmf ce n),x3,x4]) rfl
  have eb:((List.range n).map fun i=>zcZ (((List.range n).map (adj ls)).getD i []))=ziG n ls:=by
   unfold ziG
   apply map_congr_left
   intro i hi
   have hi:=mem_range.mp hi
   simp[getD_eq_getElem?_getD,hi]
  rw[eb] at er
  have hlb:(ziG n ls).length<=PySem.sizeLine:=by simp[ziG];omega
  refine zaw (zbC (zaj er zam) (zrJ hlb)) ?_
  have Oe:Own ce (bC ce ((List.range n).map (adj ls)) []) []:=⟨⟨_,rfl⟩,by simp,by simp,by simp⟩
  exact Oe.finC (zrA _ _)
end
theorem zcU{ns:List Int}{p:Nat}(h:p<ns.length)(c:Ce){i:Int}(ei:i=(p:Int)):ixW c (sW ns) (.int i)=some (.int (ns.getD p 0)):=by
 subst ei
 show ixW c (.lst (ns.map W.int)) (nW p)=_
 rw[zgA (xs:=ns.map W.int) rfl,getElem?_map,getD_eq_getElem?_getD,getElem?_eq_getElem h];rfl
theorem ziH{ns:List Int}{p:Nat}(h:p<ns.length):ns.getD p 0∈ns:=by
 rw[getD_eq_getElem?_getD,getElem?_eq_getElem h];exact getElem_mem h
section
variable {ce:Ce}
set_option maxHeartbeats 0 in
theorem znD(fu:Nat){xs:List Int}(hx3:3<=xs.length)(hx:∀x∈xs,0<=x/\x<2147483647) :
  ∃many ls,zqf (d_t fu) [sW xs] ce=some (.ok (.tup [nW many,.lst (ls.map pW)]) ce)/\0<many/\many<=36/\LsOk many ls:=by
 have hz:2000<PySem.sizeLine:=by decide
 have z2:2<=PySem.sizeLine:=by decide
 have z4:4<=PySem.sizeLine:=by decide
 suffices h:∃w c,d_t fu [sW xs] ce=some (.ok w c)/\∃many ls l,Own ce c l/\zfK ce.length c 6 w=some (.tup [nW many,.lst (ls.map pW)])/\0<many/\many<=36/\LsOk many ls by
  obtain⟨w,c,e,many,ls,l,O,ht,r⟩:=h
  exact⟨many,ls,Own.frzD' e O (Chg.refl ce) ht,r⟩
 have i0:=fun c=>zcU (ns:=xs) (p:=0) (by omega) c (i:=0) rfl
 have i1:=fun c=>zcU (ns:=xs) (p:=1) (by omega) c (i:=1) rfl
 have i2:=fun c=>zcU (ns:=xs) (p:=2) (by omega) c (i:=2) rfl
 have b0:=hx _ (ziH (ns:=xs) (p:=0) (by omega))
 have b1:=hx _ (ziH (ns:=xs) (p:=1) (by omega))
 have b2:=hx _ (ziH (ns:=xs) (p:=2) (by omega))
 generalize xs.getD 0 0=a0 at i0 b0
 generalize xs.getD 1 0=a1 at i1 b1
 generalize xs.getD 2 0=a2 at i2 b2
 have i0c:=i0 ce
 have i1c:=i1 ce
 have i2c:=i2 ce
 unfold d_t
 refine ziE [some (sW xs),none,none,none,none,none,none,none] rfl ?_
 refine zaP (p:=decide (a1 % 4=0)) (ce':=ce) (by trivial) (fun q=>?_) (fun q=>?_)
 ·-- a grid
  obtain⟨wd0,hwd0⟩:∃wd:Nat,1+a0 % 4=wd:=⟨(1+a0 % 4).toNat,by omega⟩
  obtain⟨n0,hn0⟩:∃n:Nat,(wd0:Int)*(1+a2 % 4)=n:=⟨wd0*(1+a2 % 4).toNat,by rw[natCast_mul];congr 1;omega⟩
  have mu0:CMul (wd0:Int) (1+a2 % 4):=.inl (by omega)
  have f0:zc2 (.int 1) (.int (a0 % 4))=some (nW wd0):=by rw[zcI rfl rfl,hwd0];rfl
  have f1:zgn (nW wd0) (.int (1+a2 % 4))=some (nW n0):=by
   show zgn (.int wd0) (.int (1+a2 % 4))=some (.int n0)
   rw[zhJ mu0,hn0]
  refine zbF ?_
  refine zao (w:=nW wd0) (ce':=ce) (by trivial) ?_
  refine zQn ?_
  refine zbF ?_
  refine zao (w:=nW n0) (ce':=ce) (by trivial) ?_
  refine zQn ?_
  refine zbF ?_
  have last:∀(wd hg n:Nat),0<wd->0<hg->wd*hg=n->n<=36->∀(tail:DS),Run (zap (zap (za6 3 (dLC zgs [1] (zgu (zac (dOp zjL (zae 2) (zae 1)) zan)) zey (zf1 (zac (zae 0) (zac (dOp zc2 (zae 0) (zae 1)) zan)))))
    (zap (za6 4 (dLC zbs [1] (zgu (zac (dOp zjL (zae 2) (dC (.int 1))) zan)) (dB (dOp fGt (dOp zco (dOp zc2 (zae 0) (dC (.int 1))) (zae 1)) (dC (.int 0)))) (zae 0)))
    (zbt (zf1 (zac (zae 2) (zac (zk0 zbs (zae 3) (dLC zbs [] (dIL (zae 4)) zey (zf1 (zac (zae 0) (zac (dOp zc2 (zae 0) (dC (.int 1))) zan))))) zan)))))) tail)
    [some (sW xs),some (nW wd),some (nW n),none,none,none,none,none] ce
    (Rt fun v ce'=>∃w c',zra ce ce' v=some (.ok w c')/\∃many ls l,Own ce c' l/\zfK ce.length c' 6 w=some (.tup [nW many,.lst (ls.map pW)])/\0<many/\many<=36/\LsOk many ls):=by
   intro wd hg n w1 h1 hn n36 tail
   have n0:0<n:=by rw[<- hn];exact mul_pos w1 h1
   have wn:wd<=n:=by rw[<- hn];exact le_mul_of_pos_right wd h1
   have sb:zjL (nW n) (nW wd)=some (nW (n-wd)):=by
    refine(zgG (x:=nW n) (y:=nW wd) (i:=n) (j:=wd) rfl rfl).trans ?_
    have:((n:Int)-(wd:Int))=((n-wd:Nat):Int):=by omega
    rw[this];rfl
   have sb1:zjL (nW n) (.int 1)=some (nW (n-1)):=by
    refine(zgG (x:=nW n) (y:=.int 1) (i:=n) (j:=1) rfl rfl).trans ?_
    have:((n:Int)-1)=((n-1:Nat):Int):=by omega
    rw[this];rfl
   have md:∀p:Nat,zco (.int ((p:Int)+1)) (nW wd)=some (.int (((p:Int)+1) % (wd:Int))):=fun p=>zfo (i:=(p:Int)+1) (j:=wd) rfl rfl (by omega)
   have nz:(List.range (n-wd)).length<=PySem.sizeLine:=by rw[length_range];omega
   have nz2:(List.range (n-1)).length<=PySem.sizeLine:=by rw[length_range];omega
   have r1:n-wd<=1000:=by omega
   have r2:n-1<=1000:=by omega
   refine zbF ?_
   refine zao (ztA (zs:=List.range (n-wd)) (en:=nW) (g:=fun p=>pW (p,p+wd)) (zeI (by trivial) r1).is nz (fun p hp=>?_)) ?_
   ·have e:pW (p,p+wd)=.tup [nW p,.int ((p:Int)+wd)]:=by simp[pW,nW]
    rw[e]
    trivial
   refine zQn ?_
   have O1:=(Own.start ce).alloc (C.lst ((List.range (n-wd)).map fun p=>pW (p,p+wd)))
   generalize ce.length=k3 at O1 ⊢
   generalize hc1:ce++[C.lst ((List.range (n-wd)).map fun p=>pW (p,p+wd))]=c1 at O1 ⊢
   have g3:=zcj O1.g0
   let t:Nat->Bool:=fun p=>decide ((0:Int)<((p:Int)+1) % (wd:Int))
   refine zbF ?_
   refine zao (w:=wL ((List.range (n-1)).filter t)) (ce':=c1) (ztB (zs:=List.range (n-1)) (en:=nW) (t:=t) (zeI (by trivial) r2).is nz2 (fun p hp=>?_)) ?_
   ·have:=md p
    trivial
   refine zQn ?_
   have hl1:((List.range (n-1)).filter t).length<=36:=by have:=length_filter_le t (List.range (n-1));rw[length_range] at this;omega
   refine zc7 ?_
   refine zaw (zeD (ws:=[nW n,.lst (((List.range (n-wd)).map fun p=>pW (p,p+wd))++((List.range (n-1)).filter t).map fun p=>pW (p,p+1))]) (c1:=c1) (zaj (by trivial) (zaj (zgZ (by trivial) (zsr (zs:=(List.range (n-1)).filter t) (en:=nW) (g:=fun p=>pW (p,p+1)) (zpn (by trivial) (.fr _)) (by omega) (fun p hp=>?_)) g3 rfl ?_) zam)) z2) ?_
   ·have e:pW (p,p+1)=.tup [nW p,.int ((p:Int)+1)]:=by simp[pW,nW]
    rw[e]
    trivial
   ·rw[length_map,length_map,length_range];omega
   ·refine⟨_,_,rfl,n,((List.range (n-wd)).map fun p=>(p,p+wd))++(((List.range (n-1)).filter t).map fun p=>(p,p+1)),_,O1,?_,n0,n36,?_⟩
    ·have e:((List.range (n-wd)).map fun p=>pW (p,p+wd))++(((List.range (n-1)).filter t).map fun p=>pW (p,p+1))=(((List.range (n-wd)).map fun p=>(p,p+wd))++(((List.range (n-1)).filter t).map fun p=>(p,p+1))).map pW:=by rw[map_append,map_map,map_map];rfl
     rw[e]
     simp only[zfK,zdq,zir,zgJ,map_some]
    ·constructor
     ·rw[nodup_append]
      refine⟨nodup_map_inj nodup_range (fun x y h=>by simpa using congrArg Prod.fst h),nodup_map_inj (List.Pairwise.filter _ nodup_range) (fun x y h=>by simpa using congrArg Prod.fst h),?_⟩
      intro a ha c hc e
      subst e
      obtain⟨x,hx,e⟩:=mem_map.mp ha
      obtain⟨y,hy,rfl⟩:=mem_map.mp hc
      have hy':=of_decide_eq_true (mem_filter.mp hy).2
      injection e with e1 e2
      subst e1
      have:wd=1:=by omega
      subst this
      omega
     ·intro p hp
      rcases mem_append.mp hp with hp|hp
      ·obtain⟨x,hx,rfl⟩:=mem_map.mp hp
       have hx:=mem_range.mp hx
       exact⟨by show x<x+wd;omega,by show x+wd<n;omega⟩
      ·obtain⟨x,hx,rfl⟩:=mem_map.mp hp
       have hx:=mem_range.mp (mem_filter.mp hx).1
       exact⟨by show x<x+1;omega,by show x+1<n;omega⟩
  have dv:zn3 (.int a2) (.int 4)=some (.int (a2 / 4)):=zgH (i:=a2) (j:=4) rfl rfl (by omega)
  refine zaP (p:=decide (a2 / 4 % 9=0)) (ce':=ce) (by trivial) (fun _=>?_) (fun _=>?_)
  ·obtain⟨wd,hwd⟩:∃wd:Nat,3+a0 % 4=wd:=⟨(3+a0 % 4).toNat,by omega⟩
   have f2:zc2 (.int 3) (.int (a0 % 4))=some (nW wd):=by rw[zcI rfl rfl,hwd];rfl
   have f3:zgn (.int 6) (nW wd)=some (nW (wd*6)):=by
    show zgn (.int 6) (.int wd)=some (.int ((wd*6:Nat):Int))
    rw[zhJ (.inl (by omega))]
    congr 2
    omega
   refine zbF ?_
   refine zao (w:=nW wd) (ce':=ce) (by trivial) ?_
   refine zQn ?_
   refine zao (w:=nW (wd*6)) (ce':=ce) (by trivial) ?_
   refine zQn ?_
   exact last wd 6 _ (by omega) (by omega) rfl (by omega) _
  ·refine zaH ?_
   obtain⟨hg,hhg⟩:∃hg:Nat,1+a2 % 4=hg:=⟨(1+a2 % 4).toNat,by omega⟩
   have en:wd0*hg=n0:=by
    rw[hhg,<- natCast_mul] at hn0
    exact Int.ofNat.inj hn0
   have:n0<=36:=by
    rw[<- en]
    exact le_trans (mul_le_mul (by omega:wd0<=4) (by omega:hg<=4)) (by omega)
   exact last wd0 hg _ (by omega) (by omega) en this _
 ·-- a row,a ring,drawn lines
  refine zaH ?_
  have q':=of_decide_eq_false q
  obtain⟨way,hway⟩:∃way:Nat,a1 % 4=way:=⟨(a1 % 4).toNat,by omega⟩
  have hway4:way<4:=by omega
  have m0:zco (.int a1) (.int 4)=some (nW way):=by rw[zfo (i:=a1) (j:=4) rfl rfl (by omega),hway];rfl
  obtain⟨md,hmd,hmd1,hmd2⟩:∃md:Nat,ixW ce (.lst [.int 0,.int 7,.int 9,.int 5]) (nW way)=some (nW md)/\0<md/\md<=9:=by
   have:way=1\/way=2\/way=3:=by omega
   rcases this with rfl|rfl|rfl
   ·exact⟨7,rfl,by omega,by omega⟩
   ·exact⟨9,rfl,by omega,by omega⟩
   ·exact⟨5,rfl,by omega,by omega⟩
  obtain⟨r,hr,er⟩:=zgB a0 (n:=md) hmd1
  have m1:zco (.int a0) (nW md)=some (nW r):=zi8 hmd1 er
  obtain⟨n,hn⟩:∃n:Nat,1+r=n:=⟨_,rfl⟩
  have f1:zc2 (.int 1) (nW r)=some (nW n):=by
   refine(zcI (x:=.int 1) (y:=nW r) (i:=1) (j:=r) rfl rfl).trans ?_
   have:(1:Int)+(r:Int)=((n:Nat):Int):=by omega
   rw[this];rfl
  have n9:0<n/\n<=9:=by omega
  refine zao (w:=nW n) (ce':=ce) (zcG (by trivial) (zcG (by trivial) (zaR (x:=.lst [.int 0,.int 7,.int 9,.int 5]) (y:=nW way) (zdO (ws:=[.int 0,.int 7,.int 9,.int 5]) (by trivial) z4) (by trivial) hmd) m1) f1) ?_
  refine zQn ?_
  have sb1:zjL (nW n) (.int 1)=some (nW (n-1)):=by
   refine(zgG (x:=nW n) (y:=.int 1) (i:=n) (j:=1) rfl rfl).trans ?_
   have:((n:Int)-1)=((n-1:Nat):Int):=by omega
   rw[this];rfl
  have nz2:(List.range (n-1)).length<=PySem.sizeLine:=by rw[length_range];omega
  have r2:n-1<=1000:=by omega
  refine zao (ztA (zs:=List.range (n-1)) (en:=nW) (g:=fun p=>pW (p,p+1)) (zeI (by trivial) r2).is nz2 (fun p hp=>?_)) ?_
  ·have e:pW (p,p+1)=.tup [nW p,.int ((p:Int)+1)]:=by simp[pW,nW]
   rw[e]
   trivial
  refine zQn ?_
  have el:(List.range (n-1)).map (fun p=>pW (p,p+1))=((List.range (n-1)).map fun p=>(p,p+1)).map pW:=by rw[map_map];rfl
  rw[el]
  have L0:LsOk n ((List.range (n-1)).map fun p=>(p,p+1)):=⟨nodup_map_inj nodup_range (fun x y h=>by simpa using congrArg Prod.fst h),fun p hp=>by
   obtain⟨x,hx,rfl⟩:=mem_map.mp hp
   have hx:=mem_range.mp hx
   exact⟨by show x<x+1;omega,by show x+1<n;omega⟩⟩
  have ll0:((List.range (n-1)).map fun p=>(p,p+1)).length<=36:=by rw[length_map,length_range];omega
  have hno:2<n->(0,n-1)∉(List.range (n-1)).map fun p=>(p,p+1):=fun h2 hm=>by
   obtain⟨x,_,e⟩:=mem_map.mp hm
   injection e with e1 e2
   omega
  generalize (List.range (n-1)).map (fun p=>(p,p+1))=ls0 at L0 ll0 hno ⊢
  have O1:=(Own.start ce).alloc (C.lst (ls0.map pW))
  generalize hk3:ce.length=k3 at O1 ⊢
  generalize ce++[C.lst (ls0.map pW)]=c1 at O1 ⊢
  have fin:∀(ls:List (Nat×Nat)) (c:Ce) (l:List (Nat×C)) (k:Nat) (x5 x6 x7:Option W),LsOk n ls->Own ce c ((k,C.lst (ls.map pW))::l)->Run (zbt (zf1 (zac (zae 2) (zac (zae 3) zan)))) [some (sW xs),none,some (nW n),some (.cel k),none,x5,x6,x7] c
    (Rt fun v ce'=>∃w c',zra ce ce' v=some (.ok w c')/\∃many ls l,Own ce c' l/\zfK k3 c' 6 w=some (.tup [nW many,.lst (ls.map pW)])/\0<many/\many<=36/\LsOk many ls):=by
   intro ls c l k x5 x6 x7 L O
   refine zaw (zeD (ws:=[nW n,.cel k]) (c1:=c) (by trivial) z2) ?_
   refine⟨_,_,rfl,n,ls,_,O,?_,n9.1,by omega,L⟩
   have hk:¬k<k3:=by have:=O.ge _ mem_cons_self;rw[<- hk3];omega
   have g:=O.g0
   simp only[zfK,zdq,zir,if_neg hk,g,zgJ,map_some]
  have i1c1:=i1 c1
  have i2c1:=i2 c1
  have m2:zco (.int a2) (.int 2)=some (.int (a2 % 2)):=zfo (i:=a2) (j:=2) rfl rfl (by omega)
  have gt2:fGt (nW n) (.int 2)=some (.bl (decide (2<(n:Int)))):=zlj (i:=n) (j:=2) rfl rfl
  have hm3:(ls0.map pW).length<PySem.sizeLine:=by rw[length_map];omega
  have way1:zf5 (nW way) (.int 1)=some (.bl (decide ((way:Int)=1))):=zem (i:=way) (j:=1) rfl rfl
  have wgt:∀c:Ce,dB (dOp fGt (dOp zco (zaO ixW (zae 0) (dC (.int 1))) (dC (.int 4))) (dC (.int 1))) [some (sW xs),none,some (nW n),some (.cel k3),none,none,none,none] c=some (.ok (decide (1<(way:Int))) c):=fun c=>by
   have i1':=i1 c
   have w2:fGt (nW way) (.int 1)=some (.bl (decide (1<(way:Int)))):=zlj (i:=way) (j:=1) rfl rfl
   trivial
  refine zaP (p:=decide ((way:Int)=1)&&(decide (2<(n:Int))&&decide (a2 % 2=0))) (ce':=c1) (by trivial) (fun q2=>?_) (fun q2=>?_)
  ·simp only[and_eq_true,decide_eq_true_eq] at q2
   have hn2:2<n:=by omega
   refine zdN (w:=.non) (ce':=c1.set k3 (C.lst (ls0.map pW++[pW (0,n-1)]))) (zfk (ws:=[pW (0,n-1)]) (by trivial) (zcj O1.g0) (zaj (zeD (ws:=[.int 0,nW (n-1)]) (by trivial) z2) zam) (by rw[zm3 (zeB O1.g0) hm3])) ?_
   have O2:=O1.set0 (C.lst (ls0.map pW++[pW (0,n-1)]))
   have e2:ls0.map pW++[pW (0,n-1)]=(ls0++[(0,n-1)]).map pW:=by simp
   rw[e2] at O2 ⊢
   generalize c1.set k3 (C.lst ((ls0++[(0,n-1)]).map pW))=c2 at O2 ⊢
   refine zaP (p:=decide (1<(way:Int))) (ce':=c2) (wgt c2) (fun q3=>absurd (of_decide_eq_true q3) (by omega)) (fun _=>?_)
   refine zaH ?_
   refine fin _ c2 _ k3 _ _ _ ⟨?_,fun p hp=>?_⟩ O2
   ·rw[nodup_append]
    exact⟨L0.nd,by simp,fun a ha b hb=>by rw[mem_singleton] at hb;subst hb;intro e;subst e;exact hno hn2 ha⟩
   ·rcases mem_append.mp hp with hp|hp
    ·exact L0.lt p hp
    ·rw[mem_singleton] at hp;subst hp;exact⟨by show 0<n-1;omega,by show n-1<n;omega⟩
  ·refine zaH ?_
   refine zaP (p:=decide (1<(way:Int))) (ce':=c1) (wgt c1) (fun q3=>?_) (fun _=>?_)
   ·obtain⟨nn,hnn⟩:∃nn:Nat,n*n=nn:=⟨_,rfl⟩
    have nn81:nn<=81:=by rw[<- hnn];exact mul_le_mul n9.2 n9.2
    have fm:zgn (nW n) (nW n)=some (nW nn):=by
     show zgn (.int n) (.int n)=some (.int (nn:Int))
     rw[zhJ (.inl (by omega)),<- hnn,natCast_mul]
    obtain⟨ys,e5,hyl,hy⟩:=zfC (ce:=c1) fu a2 (m:=nn) (by omega)
    refine zbF ?_
    refine zao (w:=sW ys) (ce':=c1) (zaG (ws:=[.int a2,nW nn]) (by trivial) rfl e5) ?_
    refine zQn ?_
    refine zbF ?_
    refine zao (zca zam (zero_le _)) ?_
    refine zQn ?_
    have O2:=(O1.alloc (C.lst [])).perm (.swap _ _ _) |>.drop
    have O2:=O1.drop.alloc (C.lst [])
    generalize c1.length=k4 at O2 ⊢
    generalize c1++[C.lst []]=c2 at O2 ⊢
    have n1000:n<=1000:=by omega
    refine zbj (zs:=List.range n) (en:=nW) (zeI (by trivial) n1000)
     (fun d sl c=>∃ls x6 x7,sl=[some (sW xs),none,some (nW n),some (.cel k4),none,some (sW ys),x6,x7]/\Own ce c [(k4,C.lst (ls.map pW))]/\ls.Nodup/\ls.length<=40*d.length/\∀p∈ls,p.1<p.2/\p.2<d.length)
     ⟨[],_,_,rfl,O2,by simp,by simp,by simp⟩ ?_ ?_
    ·rintro d p r' sl c e hp ⟨ls,x6,x7,rfl,O,nd,hl,lt⟩
     have hp':p<n:=mem_range.mp hp
     have hd:=ziF e
     have hdl:d.length=p:=by rw[hd,length_range]
     have p1000:p<=1000:=by omega
     unfold zdX
     refine zcH (zs:=List.range p) (en:=nW) (zeI (by trivial) p1000)
      (fun d' sl c=>∃ls x7,sl=[some (sW xs),none,some (nW n),some (.cel k4),none,some (sW ys),some (nW p),x7]/\Own ce c [(k4,C.lst (ls.map pW))]/\ls.Nodup/\ls.length<=40*p+d'.length/\∀q∈ls,q.1<q.2/\(q.2<p\/(q.2=p/\q.1<d'.length)))
      ⟨ls,x7,rfl,O,nd,by simpa[hdl] using hl,fun q hq=>⟨(lt q hq).1,.inl (by have:=(lt q hq).2;omega)⟩⟩ ?_ ?_
     ·rintro d' q r'' sl c e' hq ⟨ls,x7,rfl,O,nd,hl,lt⟩
      have hq':q<p:=mem_range.mp hq
      have hd':=ziF e'
      have hdl':d'.length=q:=by rw[hd',length_range]
      have g5:=O.g0
      have hm:(ls.map pW).length<PySem.sizeLine:=by rw[length_map];omega
      obtain⟨ix,hix⟩:∃ix:Nat,p*n+q=ix:=⟨_,rfl⟩
      have hixl:ix<ys.length:=by
       rw[hyl,<- hnn,<- hix]
       have:(p+1)*n<=n*n:=mul_le_mul_right n hp'
       rw[add_mul] at this
       omega
      have fm2:zgn (nW p) (nW n)=some (nW (p*n)):=by
       show zgn (.int p) (.int n)=some (.int ((p*n:Nat):Int))
       rw[zhJ (.inl (by omega)),natCast_mul]
      have fa:zc2 (nW (p*n)) (nW q)=some (nW ix):=by
       refine(zcI (x:=nW (p*n)) (y:=nW q) (i:=((p*n:Nat):Int)) (j:=q) rfl rfl).trans ?_
       have:((p*n:Nat):Int)+(q:Int)=((ix:Nat):Int):=by omega
       rw[this];rfl
      have iy:ixW c (sW ys) (nW ix)=some (.int (ys.getD ix 0)):=zcU hixl c (i:=(ix:Int)) rfl
      have i1':=i1 c
      unfold zdW
      refine zQn ?_
      have lw:fLt (.int (ys.getD ix 0 % 5)) (nW way)=some (.bl (decide (ys.getD ix 0 % 5<(way:Int)))):=zli (i:=ys.getD ix 0 % 5) (j:=way) rfl rfl
      have m5:zco (.int (ys.getD ix 0)) (.int 5)=some (.int (ys.getD ix 0 % 5)):=zfo (i:=ys.getD ix 0) (j:=5) rfl rfl (by omega)
      refine zbE (p:=decide (ys.getD ix 0 % 5<(way:Int))) (ce':=c) (by trivial) (fun _=>?_) (fun _=>?_)
      ·refine zeC (w:=.non) (ce':=c.set k4 (C.lst (ls.map pW++[pW (q,p)]))) (zfk (ws:=[pW (q,p)]) (by trivial) (zcj O.g0) (zaj (zeD (ws:=[nW q,nW p]) (by trivial) z2) zam) (by rw[zm3 (zeB O.g0) hm])) ?_
       refine⟨ls++[(q,p)],_,rfl,?_,?_,?_,fun x hx=>?_⟩
       ·rw[map_append];exact O.set0 _
       ·rw[nodup_append]
        refine⟨nd,by simp,fun a ha b hb=>?_⟩
        rw[mem_singleton] at hb
        subst hb
        intro e;subst e
        have:=(lt _ ha).2
        simp only at this
        omega
       ·simp only[length_append,length_cons,length_nil];omega
       ·rcases mem_append.mp hx with hx|hx
        ·refine⟨(lt x hx).1,?_⟩
         rcases(lt x hx).2 with h|h
         ·exact .inl h
         ·exact .inr ⟨h.1,by rw[length_append,length_cons,length_nil];omega⟩
        ·rw[mem_singleton] at hx
         subst hx
         exact⟨hq',.inr ⟨rfl,by show q<_;rw[length_append,length_cons,length_nil];omega⟩⟩
      ·refine zbn ?_
       refine⟨ls,_,rfl,O,nd,by simp only[length_append,length_cons,length_nil];omega,fun x hx=>⟨(lt x hx).1,?_⟩⟩
       rcases(lt x hx).2 with h|h
       ·exact .inl h
       ·exact .inr ⟨h.1,by rw[length_append,length_cons,length_nil];omega⟩
     ·rintro sl c ⟨ls,x7,rfl,O,nd,hl,lt⟩
      rw[length_range] at hl
      refine⟨ls,_,_,rfl,O,nd,by simp only[length_append,length_cons,length_nil];omega,fun x hx=>⟨(lt x hx).1,?_⟩⟩
      simp only[length_append,length_cons,length_nil]
      rcases(lt x hx).2 with h|h
      ·omega
      ·omega
    ·rintro sl c ⟨ls,x6,x7,rfl,O,nd,hl,lt⟩
     exact fin ls c [] k4 _ _ _ ⟨nd,fun p hp=>by have:=lt p hp;rw[length_range] at this;exact this⟩ O
   ·refine zaH ?_
    exact fin ls0 c1 [] k3 _ _ _ L0 O1
end
section
variable {b:List (List Nat)} {mk:W} {vl:Nat->Int} {s:Nat} {ce:Ce}
def Mk(b:List (List Nat))(mk:W)(vl:Nat->Int):Prop:=∀(ce:Ce) (x y:Nat),x<b.length->y<b.length->∃wx wy,ixW ce mk (nW x)=some wx/\ixW ce mk (nW y)=some wy/\eqW false ce wx wy=some (.bl (decide (vl x=vl y)))
theorem zur{is:List Int}(h:is.length=b.length):Mk b (wS is) (fun x=>is.getD x 0):=fun ce x y hx hy=>⟨_,_,zcR (by omega),zcR (by omega),eqI0⟩
theorem zfD(fu:Nat)(hfu:200<=fu)(hm:Mk b mk vl)(hb:Bd b)(h36:b.length<=36)(hs:s<b.length) :
  d_ca fu [wB b,mk,nW s] ce=some (.ok (.cel ce.length) (ce++[.lst ((cpt b vl s).map nW)])):=by
 have hz:=sl36
 unfold d_ca
 refine zbK [some (wB b),some mk,some (nW s),none,none,none,none] rfl ?_
 trivial
 have O0:=((Own.start ce).alloc (C.dct (kvs [s]))).alloc (C.lst ([s].map nW))
 refine(?_:Run _ _ ((ce++[C.dct (kvs [s])])++[C.lst ([s].map nW)]) _)
 generalize h4:(ce++[C.dct (kvs [s])]).length=k4 at O0
 have h4':∀x:Key×W,(ce++[C.dct [x]]).length=k4:=fun x=>by rw[<- h4];simp
 rw[h4']
 generalize h3:ce.length=k3 at O0 ⊢
 generalize (ce++[C.dct (kvs [s])])++[C.lst ([s].map nW)]=c0 at O0 ⊢
 refine zhN (σ:=List Nat×List Nat) (fun st sl c=>∃x5 x6,sl=[some (wB b),some mk,some (nW s),some (.cel k3),some (.cel k4),x5,x6]/\Own ce c [(k4,C.lst (st.2.map nW)),(k3,C.dct (kvs st.1))]/\st.1.Nodup/\s∈st.1/\(∀x∈st.1,x<b.length)/\(∀x∈st.2,x∈st.1)/\st.2.length<=st.1.length/\(∀x∈st.1,Reach b (okV vl s) s x)/\∀x∈st.1,x∉st.2->∀y∈b.getD x [],okV vl s y->y∈st.1)
  (fun st=>st.2.length+2*(36-st.1.length)) ([s],[s]) ⟨_,_,rfl,O0,by simp,by simp,by simpa using hs,by simp,by simp,by simpa using Reach.refl,by simp⟩ (by show [s].length+2*(36-[s].length)<fu;simp;omega) ?_
 rintro⟨F,Wt⟩ sl c ⟨x5,x6,rfl,O,nd,hsF,lt,sub,hW,re,cl⟩
 have g4:=O.g0
 have g3:=O.g1
 dsimp only at g4 g3 O nd hsF lt sub hW re cl
 have hF36:F.length<=36:=le_trans (zaF nd lt) h36
 refine⟨!(Wt.map nW).isEmpty,by trivial,fun q=>?_,fun q=>?_⟩
 ·rcases eq_nil_or_concat Wt with rfl|⟨W0,p,hWt⟩
  ·simp at q
  ·rw[concat_eq_append] at hWt
   subst hWt
   have hpF:p∈F:=sub p (by simp)
   have hp:=lt p hpF
   have pp:=zhO (ys:=W0.map nW) (y:=nW p) g4 (by simp)
   have O1:=O.set0 (C.lst (W0.map nW))
   generalize c.set k4 (C.lst (W0.map nW))=c1 at O1 pp
   unfold zfu
   trivial
   refine zcH (zs:=b.getD p []) (en:=nW) (zf8 (by trivial)) (fun d sl c=>∃new x6,sl=[some (wB b),some mk,some (nW s),some (.cel k3),some (.cel k4),some (nW p),x6]/\Own ce c [(k4,C.lst ((W0++new).map nW)),(k3,C.dct (kvs (F++new)))]/\(F++new).Nodup/\(∀x∈new,x∈b.getD p []/\okV vl s x)/\∀x∈d,okV vl s x->x∈F++new)
    ⟨[],x6,rfl,by simpa using O1,by simpa using nd,by simp,by simp⟩ ?_ ?_
   ·rintro d y r sl c e hy ⟨new,x6,rfl,O,nd2,hnew,hd⟩
    have g4:=O.g0
    have g3:=O.g1
    have gd:=zfh g3
    have hy':=hb.get hy
    obtain⟨wx,wy,i1,i2,q1⟩:=hm c y s hy' hs
    have lt2:∀x∈F++new,x<b.length:=fun x hx=>by
     rcases mem_append.mp hx with hx|hx
     ·exact lt x hx
     ·exact hb.get (hnew x hx).1
    have hl2:=zaF nd2 lt2
    have hk:(kvs (F++new)).length<PySem.sizeLine:=by rw[zbu];omega
    have hw:((W0++new).map nW).length<PySem.sizeLine:=by
     rw[length_map,length_append]
     rw[length_append] at hl2
     simp only[length_append,length_cons,length_nil] at hW
     omega
    unfold zft
    refine zbE (p:=!decide (y∈F++new)&&decide (vl y=vl s)) (ce':=c) (by trivial) (fun q=>?_) (fun q=>?_)
    ·simp only[and_eq_true,not_eq_true',decide_eq_false_iff_not,decide_eq_true_eq] at q
     have O2:=O.set1 (C.dct (zjP (kvs (F++new)) (.inl (y:Int)) (.bl true)))
     rw[zij _ _ q.1] at O2
     have g4:=O2.g0
     have e1:C.dct (kvs (F++new++[y]))=C.dct (zjP (kvs (F++new)) (.inl (y:Int)) (.bl true)):=by rw[zij _ _ q.1]
     rw[e1] at g4
     trivial
     refine⟨new++[y],_,rfl,?_,?_,fun x hx=>?_,fun x hx o=>?_⟩
     ·have e2:(W0++(new++[y])).map nW=(W0++new).map nW++[nW y]:=by simp
      rw[<- e1,e2,<- append_assoc]
      exact O2.set0 _
     ·rw[<- append_assoc,nodup_append]
      exact⟨nd2,by simp,fun a ha c hc=>by rw[mem_singleton] at hc;subst hc;intro e;subst e;exact q.1 ha⟩
     ·rcases mem_append.mp hx with hx|hx
      ·exact hnew x hx
      ·rw[mem_singleton] at hx;subst hx;exact⟨hy,q.2⟩
     ·rw[<- append_assoc]
      rcases mem_append.mp hx with hx|hx
      ·exact mem_append_left _ (hd x hx o)
      ·rw[mem_singleton] at hx;subst hx;simp
    ·trivial
     refine⟨new,_,rfl,O,nd2,hnew,fun x hx o=>?_⟩
     rcases mem_append.mp hx with hx|hx
     ·exact hd x hx o
     ·rw[mem_singleton] at hx
      subst hx
      have o':vl x=vl s:=o
      simp only[o',decide_true,Bool.and_true,not_eq_false',decide_eq_true_eq] at q
      exact q
   ·rintro sl c ⟨new,x6,rfl,O,nd2,hnew,hd⟩
    have lt2:∀x∈F++new,x<b.length:=fun x hx=>by
     rcases mem_append.mp hx with hx|hx
     ·exact lt x hx
     ·exact hb.get (hnew x hx).1
    have hl2:=zaF nd2 lt2
    simp only[length_append] at hl2
    simp only[length_append,length_cons,length_nil] at hW
    refine⟨(F++new,W0++new),?_,_,_,rfl,O,nd2,mem_append_left _ hsF,lt2,fun x hx=>?_,?_,fun x hx=>?_,fun x hx hn y hy o=>?_⟩
    ·show(W0++new).length+2*(36-(F++new).length)<(W0++[p]).length+2*(36-F.length)
     simp only[length_append,length_cons,length_nil]
     omega
    ·rcases mem_append.mp hx with hx|hx
     ·exact mem_append_left _ (sub x (by simp[hx]))
     ·exact mem_append_right _ hx
    ·show(W0++new).length<=(F++new).length
     simp only[length_append]
     omega
    ·rcases mem_append.mp hx with hx|hx
     ·exact re x hx
     ·exact(re p hpF).step (hnew x hx).1 (hnew x hx).2
    ·rcases mem_append.mp hx with hx|hx
     ·by_cases hxp:x=p
      ·subst hxp;exact hd y hy o
      ·exact mem_append_left _ (cl x hx (fun q=>by rcases mem_append.mp q with q|q;exact hn (mem_append_left _ q);exact hxp (by simpa using q)) y hy o)
     ·exact absurd (mem_append_right _ hx) hn
 ·have hW0:Wt=[]:=by simpa using q
  subst hW0
  have comp:Comp b (okV vl s) s F:=⟨nd,hsF,lt,fun x hx y hy o=>cl x hx (by simp) y hy o,re⟩
  trivial
  ·rw[zja g3 (by omega),zdx (by rw[length_map,zdj];omega)]
  ·rw[zpt comp]
   subst h3
   exact(O.alloc _).finO (by simp only[zez];exact bels_nW _ _)
theorem zsb(fu:Nat)(hfu:200<=fu)(hm:Mk b mk vl)(hb:Bd b)(h36:b.length<=36)(hs:s<b.length):zdB (d_ca fu) [wB b,mk,nW s] ce=some (.ok (wL (cpt b vl s)) ce) :=
 zcr (zfD fu hfu hm hb h36 hs) (bels_nW _ _)
end
section
variable {b:List (List Nat)} {mk:W} {vl:Nat->Int} {s:Nat} {ce:Ce}
theorem zj1(fu:Nat)(hfu:200<=fu)(hm:Mk b mk vl)(hb:Bd b)(sym:Sym b)(h36:b.length<=36) :
  d_ea fu [wB b,mk] ce=some (.ok (.cel ce.length) (ce++[.lst ((ptc b vl).map wL)])):=by
 have hz:=sl36
 unfold d_ea
 refine zbK [some (wB b),some mk,none,none,none,none,none] rfl ?_
 trivial
 have O0:=((Own.start ce).alloc (C.dct (kvs []))).alloc (C.lst [])
 refine(?_:Run _ _ ((ce++[C.dct (kvs [])])++[C.lst []]) _)
 generalize h3:(ce++[C.dct []]).length=k3
 have h3':(ce++[C.dct (kvs [])]).length=k3:=h3
 rw[h3'] at O0
 generalize h2:ce.length=k2 at O0 ⊢
 generalize (ce++[C.dct (kvs [])])++[C.lst []]=c0 at O0 ⊢
 have hl':b.length<=1000:=by omega
 refine zbj (zs:=List.range b.length) (en:=nW) (zeI (by trivial) hl')
  (fun d sl c=>∃S x4 x5 x6,sl=[some (wB b),some mk,some (.cel k2),some (.cel k3),x4,x5,x6]/\Own ce c [(k3,C.lst (((d.filter (zbZ b vl)).map (cpt b vl)).map wL)),(k2,C.dct (kvs S))]/\S.Nodup/\(∀x∈S,x<b.length)/\∀x,x∈S↔∃y∈d,x∈cpt b vl y)
  ⟨[],_,_,_,rfl,O0,by simp,by simp,by simp⟩ ?_ ?_
 ·rintro d p r sl c e hp ⟨S,x4,x5,x6,rfl,O,nd,lt,mem⟩
  have hp':p<b.length:=mem_range.mp hp
  have hd:=ziF e
  have g3:=O.g0
  have g2:=O.g1
  have key:p∈S↔¬zbZ b vl p=true:=by
   rw[mem]
   constructor
   ·rintro⟨y,hy,hpy⟩ hl
    rw[hd] at hy
    have hy':=mem_range.mp hy
    unfold zbZ at hl
    rw[all_eq_true] at hl
    have:=of_decide_eq_true (hl y (zje hb sym (by omega) hpy))
    omega
   ·intro hl
    unfold zbZ at hl
    rw[all_eq_true] at hl
    obtain⟨y,hy⟩:=Classical.not_forall.mp hl
    obtain⟨hy,hn⟩:=Classical.not_imp.mp hy
    have hn':¬p<=y:=fun q=>hn (decide_eq_true q)
    exact⟨y,by rw[hd];exact mem_range.mpr (by omega),zje hb sym hp' hy⟩
  unfold zgd
  have hdl:d.length<b.length:=by have:=congrArg List.length e;simp at this;omega
  have hm3:(((d.filter (zbZ b vl)).map (cpt b vl)).map wL).length<PySem.sizeLine:=by simp only[length_map];have:=length_filter_le (zbZ b vl) d;omega
  have e1:=fun c=>zsb (ce:=c) fu hfu hm hb h36 hp'
  have e1c:=e1 c
  trivial
  ·rename_i q
   have q':p∉S:=by simpa using q
   have hl:zbZ b vl p=true:=Classical.byContradiction fun h=>q' (key.mpr h)
   have O1:=O.set0 (C.lst (((d.filter (zbZ b vl)).map (cpt b vl)).map wL++[wL (cpt b vl p)]))
   generalize c.set k3 (C.lst (((d.filter (zbZ b vl)).map (cpt b vl)).map wL++[wL (cpt b vl p)]))=c1 at O1 ⊢
   have ef:((d++[p]).filter (zbZ b vl)).map (cpt b vl)=(d.filter (zbZ b vl)).map (cpt b vl)++[cpt b vl p]:=by rw[filter_append,filter_cons_of_pos hl];simp
   refine zcH (zs:=cpt b vl p) (en:=nW) (zfm (by trivial)) (fun d' sl c=>∃S' x6,sl=[some (wB b),some mk,some (.cel k2),some (.cel k3),some (nW p),some (wL (cpt b vl p)),x6]/\Own ce c [(k3,C.lst ((((d++[p]).filter (zbZ b vl)).map (cpt b vl)).map wL)),(k2,C.dct (kvs S'))]/\S'.Nodup/\(∀x∈S',x<b.length)/\∀x,x∈S'↔x∈S\/x∈d')
    ⟨S,x6,rfl,by rw[ef,map_append];exact O1,nd,lt,by simp⟩ ?_ ?_
   ·rintro d' y r' sl c e' hy ⟨S',x6,rfl,O,nd',lt',mem'⟩
    have gd:=zfh O.g1
    have hS:=zaF nd' lt'
    have hk:(kvs S').length<PySem.sizeLine:=by rw[zbu];omega
    unfold zgc
    trivial
    refine⟨ins S' y,_,rfl,by rw[zel];exact O.set1 _,zf7 nd',fun x hx=>?_,fun x=>?_⟩
    ·rcases ins_mem.mp hx with hx|rfl
     ·exact lt' x hx
     ·exact cpt_lt hy
    ·rw[ins_mem,mem',mem_append,mem_singleton,or_assoc]
   ·rintro sl c ⟨S',x6,rfl,O,nd',lt',mem'⟩
    refine⟨S',_,_,_,rfl,O,nd',lt',fun x=>?_⟩
    rw[mem',mem]
    constructor
    ·rintro(⟨y,hy,h⟩|h)
     ·exact⟨y,mem_append_left _ hy,h⟩
     ·exact⟨p,by simp,h⟩
    ·rintro⟨y,hy,h⟩
     rcases mem_append.mp hy with hy|hy
     ·exact .inl ⟨y,hy,h⟩
     ·rw[mem_singleton] at hy;subst hy;exact .inr h
  ·rename_i q
   have q':p∈S:=by simpa using q
   have hl:¬zbZ b vl p=true:=key.mp q'
   refine⟨S,_,_,_,rfl,?_,nd,lt,fun x=>?_⟩
   ·rw[filter_append,filter_cons_of_neg hl,filter_nil,append_nil];exact O
   ·rw[mem]
    constructor
    ·rintro⟨y,hy,h⟩
     exact⟨y,mem_append_left _ hy,h⟩
    ·rintro⟨y,hy,h⟩
     rcases mem_append.mp hy with hy|hy
     ·exact⟨y,hy,h⟩
     ·rw[mem_singleton] at hy
      subst hy
      obtain⟨z,hz,hyz⟩:=(mem y).mp q'
      have hz':z<b.length:=by rw[hd] at hz;have:=mem_range.mp hz;omega
      exact⟨z,hz,by rw[<- zdQ hb sym hz' hyz];exact h⟩
 ·rintro sl c ⟨S,x4,x5,x6,rfl,O,nd,lt,mem⟩
  trivial
  subst h2
  exact O.finO (by simp only[zez];exact zgI _ _)
theorem zsc(fu:Nat)(hfu:200<=fu)(hm:Mk b mk vl)(hb:Bd b)(sym:Sym b)(h36:b.length<=36):zdB (d_ea fu) [wB b,mk] ce=some (.ok (.lst ((ptc b vl).map wL)) ce) :=
 zcr (zj1 fu hfu hm hb sym h36) (zgI _ _)
end
def zbR(b:List (List Nat))(row:List Nat):List Nat:=(List.range b.length).filter fun y=>row.any fun p=>decide (y∈b.getD p [])
section
variable {b:List (List Nat)} {b0 ce:Ce} {row:List Nat}
theorem zeM(fu:Nat)(hb:Bd b)(h36:b.length<=36){w1:W}(hw:LstOf ce w1 (row.map nW))(hr:∀p∈row,p<b.length) :
  d_d fu [wB b,w1] ce=some (.ok (.cel ce.length) (ce++[.lst ((zbR b row).map nW)])):=by
 unfold d_d
 have hz:=sl36
 refine zfU ?_
 simp only[map_cons,map_nil,cons_append,nil_append,length_cons,length_nil,List.replicate,Nat.reduceAdd,Nat.reduceSub]
 trivial
 have O0:=(Own.start ce).alloc (C.dct [])
 obtain⟨s,hs,hsi,_⟩:=hw.src
 have hst:∀{c1:Ce} {l:List (Nat×C)},Own ce c1 l->s.Stays c1:=by
  intro c1 l h
  obtain⟨t,rfl⟩:=h.cut
  cases hw with
  | fr=>simp only[zii] at hs;cases hs;exact True.intro
  | cl g =>
   simp only[zii,g] at hs
   cases hs
   show(ce++t)[_]?=_
   rw[getElem?_append_left (List.getElem?_eq_some_iff.mp g).1]
   exact g
 have hs':∀{c1:Ce} {l:List (Nat×C)},Own ce c1 l->zii c1 w1=some s:=by
  intro c1 l h
  obtain⟨t,rfl⟩:=h.cut
  cases hw with
  | fr=>exact hs
  | cl g =>
   simp only[zii,g] at hs ⊢
   rw[getElem?_append_left (List.getElem?_eq_some_iff.mp g).1,g]
   exact hs
 refine zim (xs:=row) (en:=nW) (src:=s) (ce0:=ce++[C.dct []]) (by trivial;exact hs' O0) hsi
  (fun d sl c=>∃F x3 x4,sl=[some (wB b),some w1,some (.cel ce.length),x3,x4]/\Own ce c [(ce.length,C.dct (kvs F))]/\F.Nodup/\(∀x∈F,x<b.length)/\∀x,x∈F↔∃p∈d,x∈b.getD p [])
  ⟨[],none,none,rfl,O0,by simp,by simp,by simp⟩ ?_ (fun sl c h=>by obtain⟨_,_,_,_,O,_⟩:=h;exact hst O) ?_
 ·rintro d p r sl c e hp ⟨F,x3,x4,rfl,O,nd,lt,mem⟩
  refine⟨hst O,?_⟩
  have hp':=hr p hp
  unfold zcT
  refine zcH (zs:=b.getD p []) (en:=nW) (zf8 (by trivial))
   (fun d' sl c=>∃F x4,sl=[some (wB b),some w1,some (.cel ce.length),some (nW p),x4]/\Own ce c [(ce.length,C.dct (kvs F))]/\F.Nodup/\(∀x∈F,x<b.length)/\∀x,x∈F↔(∃p∈d,x∈b.getD p [])\/x∈d')
   ⟨F,x4,rfl,O,nd,lt,by simpa using mem⟩ ?_ ?_
  ·rintro d' y r' sl c e' hy ⟨F,x4,rfl,O,nd,lt,mem⟩
   unfold zcS
   have g:=zfh O.g0
   have hl:(kvs F).length<PySem.sizeLine:=by rw[zbu];have:=zaF nd lt;omega
   trivial
   refine⟨ins F y,some (nW y),rfl,?_,zf7 nd,fun x hx=>?_,fun x=>?_⟩
   ·rw[zel];exact O.set0 _
   ·rcases ins_mem.mp hx with hx|rfl
    ·exact lt x hx
    ·exact hb.get hy
   ·rw[ins_mem,mem,mem_append,mem_singleton,or_assoc]
  ·rintro sl c ⟨F,x4,rfl,O,nd,lt,mem⟩
   refine⟨F,some (nW p),x4,rfl,O,nd,lt,fun x=>?_⟩
   rw[mem]
   constructor
   ·rintro(⟨q,hq,h⟩|h)
    ·exact⟨q,mem_append_left _ hq,h⟩
    ·exact⟨p,by simp,h⟩
   ·rintro⟨q,hq,h⟩
    rcases mem_append.mp hq with hq|hq
    ·exact .inl ⟨q,hq,h⟩
    ·rw[mem_singleton] at hq;subst hq;exact .inr h
 ·rintro sl c ⟨F,x3,x4,rfl,O,nd,lt,mem⟩
  have hl:=zaF nd lt
  have es:zcZ F=zbR b row:=by
   rw[zdP nd lt]
   unfold zbR
   apply filter_congr
   intro x _
   rw[Bool.eq_iff_iff]
   simp[mem]
  trivial
  ·rw[zja O.g0 (by omega),zdx (by rw[es,length_map];unfold zbR;have:=length_filter_le (fun y=>row.any fun p=>decide (y∈b.getD p [])) (List.range b.length);rw[length_range] at this;omega)]
  ·rw[es]
   exact((O.alloc _).finO (by simp only[zez];exact bels_nW _ _))
end
def brs(b:List (List Nat))(is:List Int)(row:List Nat):List Nat:=(zbR b row).filter fun p=>decide (is.getD p 0=0)
section
variable {b:List (List Nat)} {ce:Ce} {row:List Nat} {is:List Int}
theorem zj2{y:Nat}(h:y∈zbR b row):y<b.length:=mem_range.mp (mem_filter.mp h).1
theorem ziI:(zbR b row).length<=b.length:=by
 have:=length_filter_le (fun y=>row.any fun p=>decide (y∈b.getD p [])) (List.range b.length)
 rw[length_range] at this
 exact this
theorem zsd(fu:Nat)(hb:Bd b)(h36:b.length<=36){w1:W}(hw:LstOf ce w1 (row.map nW))(hr:∀p∈row,p<b.length):zdB (d_d fu) [wB b,w1] ce=some (.ok (wL (zbR b row)) ce) :=
 zcr (zeM fu hb h36 hw hr) (bels_nW _ _)
theorem zgg(fu:Nat)(hb:Bd b)(h36:b.length<=36)(hl:is.length=b.length){w1:W}(hw:LstOf ce w1 (row.map nW))(hr:∀p∈row,p<b.length) :
  d_ga fu [wB b,wS is,w1] ce=some (.ok (.cel ce.length) (ce++[.lst ((brs b is row).map nW)])):=by
 unfold d_ga
 have hz:=sl36
 have e1:=zsd fu hb h36 hw hr
 have h2:=ziI (b:=b) (row:=row)
 refine zbK [some (wB b),some (wS is),some w1] rfl ?_
 refine zaw (zum (zs:=zbR b row) (en:=nW) (t:=fun p=>decide (is.getD p 0=0)) (by trivial) (by omega) (fun p hp=>?_)) ?_
 ·have:=zj2 hp
  have hp':p<is.length:=by omega
  trivial
 ·exact(((Own.start ce).alloc _).finO (by simp only[zez];exact bels_nW _ _))
end
open Classical in
def vT(T:List Nat):Nat->Int:=fun x=>if x∈T then 0 else 1
theorem zse{T:List Nat}{x:Nat}(h:x∈T):vT T x=0:=if_pos h
theorem zlI{T:List Nat}{s y:Nat}(hs:s∈T):okV (vT T) s y↔y∈T:=by
 unfold okV
 rw[zse hs]
 constructor
 ·intro h
  by_cases hy:y∈T
  ·exact hy
  ·unfold vT at h;rw[if_neg hy] at h;omega
 ·exact zse
def thr(is H:List Int):List Nat:=(List.range is.length).filter fun p=>decide (is.getD p 0∈H)
def lpt(b:List (List Nat))(T:List Nat):List (List Nat):=(T.filter (zbZ b (vT T))).map (cpt b (vT T))
theorem zcM(is:List Int)(p q:Nat)(v:Int):(is.set p v).getD q 0=if p=q/\p<is.length then v else is.getD q 0:=by
 simp only[getD_eq_getElem?_getD,getElem?_set]
 by_cases h:p=q
 ·subst h
  by_cases h2:p<is.length
  ·simp[h2]
  ·simp[h2]
 ·simp[h]
abbrev vS(is:List Int):Nat->Int:=fun x=>is.getD x 0
abbrev vH(is:List Int)(h:Int):Nat->Int:=fun x=>if is.getD x 0=h then 1 else 0
theorem zce{b:List (List Nat)}{ok ok':Nat->Prop}{s:Nat}(h:∀x y,Reach b ok s x->Reach b ok' s x->y∈b.getD x []->ok y->ok' y){x:Nat}(r:Reach b ok s x):Reach b ok' s x:=by
 induction r with
 | refl=>exact .refl
 | step r hy o ih=>exact ih.step hy (h _ _ r ih hy o)
open Classical in
theorem zlJ{b:List (List Nat)}{vl vl':Nat->Int}{s:Nat}(e:∀y,Reach b (okV vl s) s y↔Reach b (okV vl' s) s y):cpt b vl s=cpt b vl' s:=by
 unfold cpt
 apply filter_congr
 intro y _
 rw[Bool.eq_iff_iff,decide_eq_true_eq,decide_eq_true_eq]
 exact e y
theorem znE{b:List (List Nat)}{vl:Nat->Int}(hb:Bd b)(sym:Sym b){s t q:Nat}(hs:s<b.length)(ht:t<b.length)(h1:q∈cpt b vl s)(h2:q∈cpt b vl t):cpt b vl s=cpt b vl t:=by
 rw[<- zdQ hb sym hs h1,<- zdQ hb sym ht h2]
def zmg(b:List (List Nat))(is:List Int)(h:Int):Prop:=∀s,s<b.length->is.getD s 0=h->∃x y,Reach b (okV (vS is) s) s x/\y∈b.getD x []/\is.getD y 0=0
theorem zbr{b:List (List Nat)}{is:List Int}{r:List Nat}(hb:Bd b){y:Nat}:y∈brs b is r↔(∃x∈r,y∈b.getD x [])/\is.getD y 0=0:=by
 unfold brs zbR
 rw[mem_filter,mem_filter,mem_range,any_eq_true,decide_eq_true_eq]
 constructor
 ·rintro⟨⟨_,x,hx,q⟩,h0⟩
  exact⟨⟨x,hx,of_decide_eq_true q⟩,h0⟩
 ·rintro⟨⟨x,hx,q⟩,h0⟩
  exact⟨⟨hb.get q,x,hx,decide_eq_true q⟩,h0⟩
theorem zlK{b:List (List Nat)}{is:List Int}{r:List Nat}(hb:Bd b):brs b is r=[]↔∀x∈r,∀y∈b.getD x [],is.getD y 0≠0:=by
 rw[eq_nil_iff_forall_not_mem]
 constructor
 ·intro h x hx y hy h0
  exact h y ((zbr hb).mpr ⟨⟨x,hx,hy⟩,h0⟩)
 ·intro h y hy
  obtain⟨⟨x,hx,hy⟩,h0⟩:=(zbr hb).mp hy
  exact h x hx y hy h0
structure Swp (b:List (List Nat)) (is:List Int) (h:Int) (d:List (List Nat)) (is':List Int) (D:List (List Nat)):Prop where
 len:is'.length=is.length
 sub:∀r∈D,r∈d
 zp:∀r∈D,∀q∈r,is'.getD q 0=0
 was:∀q,is'.getD q 0=is.getD q 0\/(is'.getD q 0=0/\∃r∈D,q∈r)
 fre:∀r∈d,r∈D\/∃x∈r,∃y∈b.getD x [],is'.getD y 0=0
 no:∀r∈D,∀x∈r,∀y∈b.getD x [],is.getD y 0≠0
theorem thr_mem{is:List Int}{h:Int}{p:Nat}:p∈thr is [h]↔p<is.length/\is.getD p 0=h:=by
 unfold thr
 rw[mem_filter,mem_range,decide_eq_true_eq,mem_singleton]
theorem zlL{b:List (List Nat)}{T:List Nat}(hb:Bd b)(sym:Sym b)(hT:∀x∈T,x<b.length){s:Nat}(hs:s∈T):cpt b (vT T) s∈lpt b T:=by
 obtain⟨m,h1,h2,h3⟩:=zfp (vl:=vT T) hb sym (hT s hs)
 have hm:m∈T:=(zlI hs).mp (cpt_val hb (hT s hs) h1)
 exact mem_map.mpr ⟨m,mem_filter.mpr ⟨hm,h2⟩,h3⟩
theorem zlM{b:List (List Nat)}{T:List Nat}{c:List Nat}(h:c∈lpt b T):∃s∈T,c=cpt b (vT T) s:=by
 obtain⟨s,hs,rfl⟩:=mem_map.mp h
 exact⟨s,(mem_filter.mp hs).1,rfl⟩
theorem ziJ{b:List (List Nat)}{is:List Int}(hb:Bd b)(hl:is.length=b.length){s:Nat}(hs:s<b.length):cpt b (vT (thr is [is.getD s 0])) s=cpt b (vS is) s:=by
 have hT:s∈thr is [is.getD s 0]:=thr_mem.mpr ⟨by omega,rfl⟩
 refine zlJ fun y=>⟨fun r=>zce (fun x y _ _ _ o=>?_) r,fun r=>zce (fun x y _ _ hy o=>?_) r⟩
 ·exact(thr_mem.mp ((zlI hT).mp o)).2
 ·exact(zlI hT).mpr (thr_mem.mpr ⟨by rw[hl];exact hb.get hy,o⟩)
section
variable {b:List (List Nat)} {is is':List Int} {h o:Int} {D:List (List Nat)}
theorem Swp.hand{d:List (List Nat)}(S:Swp b is h d is' D)(hb:Bd b)(hl:is.length=b.length)(hd:∀r∈d,r∈lpt b (thr is [h])){r:List Nat}(hr:r∈D){q:Nat}(hq:q∈r):is.getD q 0=h/\r=cpt b (vS is) q\/¬Sym b:=by
 by_cases sym:Sym b
 ·left
  obtain⟨s,hs,rfl⟩:=zlM (hd r (S.sub r hr))
  have hs':=thr_mem.mp hs
  have hsb:s<b.length:=by omega
  have e:=hs'.2
  subst e
  rw[ziJ hb hl hsb] at hq ⊢
  exact⟨cpt_val hb hsb hq,(zdQ hb sym hsb hq).symm⟩
 ·exact .inr sym
theorem Swp.hand'{d:List (List Nat)}(S:Swp b is h d is' D)(hb:Bd b)(sym:Sym b)(hl:is.length=b.length)(hd:∀r∈d,r∈lpt b (thr is [h])){r:List Nat}(hr:r∈D){q:Nat}(hq:q∈r):is.getD q 0=h/\r=cpt b (vS is) q:=(S.hand hb hl hd hr hq).resolve_right (fun n=>n sym)
theorem Swp.snd(S:Swp b is h (lpt b (thr is [h])) is' D)(hb:Bd b)(sym:Sym b)(hl:is.length=b.length)(h0:h≠0):zmg b is' h:=by
 intro s hs e
 have es:is.getD s 0=h:=by
  rcases S.was s with q|q
  ·rw[<- q];exact e
  ·exact absurd (e.symm.trans q.1) h0
 have hr:cpt b (vS is) s∈lpt b (thr is [h]):=by
  have:=zlL (T:=thr is [is.getD s 0]) hb sym (fun x hx=>by have:=(thr_mem.mp hx).1;omega) (thr_mem.mpr ⟨by omega,rfl⟩:s∈_)
  rwa [ziJ hb hl hs,es] at this
 have nD:cpt b (vS is) s∉D:=fun hD=>h0 (by rw[<- e];exact S.zp _ hD s (zb0 hb hs))
 rcases S.fre _ hr with q|⟨x,hx,y,hy,hy0⟩
 ·exact absurd q nD
 ·refine⟨x,y,?_,hy,hy0⟩
  refine zce (fun u z ru _ hz oz=>?_) ((zbL hb hs).mp hx)
  have hzr:z∈cpt b (vS is) s:=(zbL hb hs).mpr (ru.step hz oz)
  show is'.getD z 0=is'.getD s 0
  rw[e]
  rcases S.was z with q|⟨_,r,hrD,hzr2⟩
  ·rw[q];exact oz.trans es
  ·obtain⟨_,er⟩:=S.hand' hb sym hl (fun r hr=>hr) hrD hzr2
   rw[er,zdQ hb sym hs hzr] at hrD
   exact absurd hrD nD
structure Pap (b:List (List Nat)) (is:List Int) (h:Int) (R C:List (List Nat)):Prop where
 row:∀r∈R,∃s,s<b.length/\is.getD s 0=h/\r=cpt b (vS is) s
 cl:∀c∈C,∃s,s<b.length/\is.getD s 0≠h/\c=cpt b (vH is h) s
 firm:∀r∈R,∃c1∈C,∃c2∈C,c1≠c2/\(∀p∈c1,is.getD p 0=0->p∈brs b is r)/\∀p∈c2,is.getD p 0=0->p∈brs b is r
 wall:∀c∈C,∀x∈c,∀y∈b.getD x [],is.getD y 0=h->∃r∈R,y∈r
structure LaidOk (b:List (List Nat)) (is:List Int) (h o:Int) (p:Nat) (is':List Int) (D:List (List Nat)):Prop where
 hl:is.length=b.length
 hp:p<b.length
 p0:is.getD p 0=0
 sw:Swp b (is.set p o) h (lpt b (thr (is.set p o) [h])) is' D
 br:∃x y,Reach b (okV (vS is') p) p x/\y∈b.getD x []/\is'.getD y 0=0
structure Hands (h o:Int):Prop where
 h0:h≠0
 o0:o≠0
 ho:o≠h
theorem LaidOk.set1{p:Nat}(L:LaidOk b is h o p is' D)(q:Nat):(is.set p o).getD q 0=if q=p then o else is.getD q 0:=by
 rw[zcM]
 by_cases e:q=p
 ·subst e;rw[if_pos ⟨rfl,by rw[L.hl];exact L.hp⟩,if_pos rfl]
 ·rw[if_neg (fun x=>e x.1.symm),if_neg e]
theorem LaidOk.val{p:Nat}(L:LaidOk b is h o p is' D)(hb:Bd b)(sym:Sym b)(H:Hands h o)(q:Nat):is'.getD q 0=(if q=p then o else is.getD q 0)\/(is'.getD q 0=0/\is.getD q 0=h/\q≠p/\∃r∈D,q∈r):=by
 rcases L.sw.was q with e|⟨e,r,hr,hq⟩
 ·left;rw[e,L.set1]
 ·obtain⟨e1,_⟩:=L.sw.hand' hb sym (by rw[length_set];exact L.hl) (fun r hr=>hr) hr hq
  rw[L.set1] at e1
  by_cases hqp:q=p
  ·rw[if_pos hqp] at e1;exact absurd e1 H.ho
  ·rw[if_neg hqp] at e1;exact .inr ⟨e,e1,hqp,r,hr,hq⟩
theorem LaidOk.isO{p:Nat}(L:LaidOk b is h o p is' D)(hb:Bd b)(sym:Sym b)(H:Hands h o){q:Nat}(e:is.getD q 0=o):is'.getD q 0=o:=by
 rcases L.val hb sym H q with v|v
 ·rw[v];split
  ·rfl
  ·exact e
 ·exact absurd (e.symm.trans v.2.1) H.ho
theorem LaidOk.isP{p:Nat}(L:LaidOk b is h o p is' D)(hb:Bd b)(sym:Sym b)(H:Hands h o):is'.getD p 0=o:=by
 rcases L.val hb sym H p with v|v
 ·rw[v,if_pos rfl]
 ·exact absurd rfl v.2.2.1
theorem LaidOk.is0{p:Nat}(L:LaidOk b is h o p is' D)(hb:Bd b)(sym:Sym b)(H:Hands h o){q:Nat}(e:is.getD q 0=0)(hq:q≠p):is'.getD q 0=0:=by
 rcases L.val hb sym H q with v|v
 ·rw[v,if_neg hq];exact e
 ·exact v.1
theorem LaidOk.snd{p:Nat}(L:LaidOk b is h o p is' D)(hb:Bd b)(sym:Sym b)(H:Hands h o)(N:zmg b is o):zmg b is' o:=by
 intro s hs e
 have eP:=L.isP hb sym H
 by_cases hsp:Reach b (okV (vS is') s) s p
 ·obtain⟨x,y,r,hy,h0⟩:=L.br
  refine⟨x,y,hsp.trans ?_,hy,h0⟩
  have:okV (vS is') s=okV (vS is') p:=zom (vl:=vS is') (x:=s) (s:=p) (e.trans eP.symm)
  rw[this];exact r
 ·have hne:s≠p:=fun q=>hsp (by subst q;exact .refl)
  have es:is.getD s 0=o:=by
   rcases L.val hb sym H s with v|v
   ·rw[if_neg hne] at v;exact v.symm.trans e
   ·exact absurd (e.symm.trans v.1) H.o0
  obtain⟨x,y,r,hy,h0⟩:=N s hs es
  have r':Reach b (okV (vS is') s) s x:=zce (fun u z _ _ _ oz=>by
   show is'.getD z 0=is'.getD s 0
   rw[e];exact L.isO hb sym H (oz.trans es)) r
  refine⟨x,y,r',hy,L.is0 hb sym H h0 fun q=>hsp ?_⟩
  subst q
  exact r'.step hy (eP.trans e.symm)
end
theorem zg3{n:Nat}{t:Nat->Bool}{x:Nat}:x∈(List.range n).filter t↔x<n/\t x=true:=by rw[mem_filter,mem_range]
def lD(b:List (List Nat))(is:List Int)(o:Int)(p:Nat):List (List Nat):=(lpt b (thr (is.set p o) [3-o])).filter fun r=>decide (brs b (is.set p o) r=[])
def lT(b:List (List Nat))(is:List Int)(o:Int)(p:Nat):List Nat:=(List.range b.length).filter fun q=>(lD b is o p).any fun r=>decide (q∈r)
def lS(b:List (List Nat))(is:List Int)(o:Int)(p:Nat):List Int:=(List.range is.length).map fun q=>if q=p then o else if q∈lT b is o p then 0 else is.getD q 0
structure LyA (b:List (List Nat)) (is:List Int) (o:Int) (p:Nat):Prop where
 bd:Bd b
 sym:Sym b
 nl:∀i,i∉b.getD i []
 hl:is.length=b.length
 hp:p<b.length
 p0:is.getD p 0=0
 H:Hands (3-o) o
 v:∀q,q<b.length->is.getD q 0=0\/is.getD q 0=3-o\/is.getD q 0=o
 nh:zmg b is (3-o)
 no:zmg b is o
section
variable {b:List (List Nat)} {is:List Int} {o:Int} {p:Nat}
theorem zfE:(lS b is o p).length=is.length:=by simp[lS]
theorem LyA.s1(A:LyA b is o p)(q:Nat):(is.set p o).getD q 0=if q=p then o else is.getD q 0:=by
 rw[zcM]
 by_cases e:q=p
 ·subst e;rw[if_pos ⟨rfl,by rw[A.hl];exact A.hp⟩,if_pos rfl]
 ·rw[if_neg (fun x=>e x.1.symm),if_neg e]
theorem LyA.l1(A:LyA b is o p):(is.set p o).length=b.length:=by rw[length_set];exact A.hl
theorem LyA.get(A:LyA b is o p){q:Nat}(hq:q<b.length):(lS b is o p).getD q 0=if q=p then o else if q∈lT b is o p then 0 else is.getD q 0:=by
 unfold lS
 rw[getD_eq_getElem?_getD,getElem?_map,getElem?_range (by rw[A.hl];exact hq)]
 rfl
theorem LyA.far(A:LyA b is o p){q:Nat}(hq:¬q<b.length):(lS b is o p).getD q 0=0/\is.getD q 0=0:=by
 have h1:=A.hl
 constructor
 ·rw[getD_eq_getElem?_getD,getElem?_eq_none (by rw[zfE];omega)];rfl
 ·rw[getD_eq_getElem?_getD,getElem?_eq_none (by omega)];rfl
theorem LyA.dead(A:LyA b is o p){r:List Nat}:r∈lD b is o p↔∃s,s<b.length/\is.getD s 0=3-o/\r=cpt b (vS is) s/\∀x∈r,∀y∈b.getD x [],is.getD y 0=0->y=p:=by
 have hT:∀{s},s∈thr (is.set p o) [3-o]↔s<b.length/\is.getD s 0=3-o:=fun {s}=>by
  rw[thr_mem,A.l1,A.s1]
  constructor
  ·rintro⟨h1,h2⟩
   by_cases e:s=p
   ·rw[if_pos e] at h2;exact absurd h2 A.H.ho
   ·rw[if_neg e] at h2;exact⟨h1,h2⟩
  ·rintro⟨h1,h2⟩
   have e:s≠p:=fun e=>by subst e;exact A.H.h0 (h2.symm.trans A.p0)
   exact⟨h1,by rw[if_neg e];exact h2⟩
 have hc:∀{s},s<b.length->is.getD s 0=3-o->cpt b (vT (thr (is.set p o) [3-o])) s=cpt b (vS is) s:=fun {s} hs es=>by
  have hsT:=hT.mpr ⟨hs,es⟩
  refine zlJ fun y=>⟨fun r=>zce (fun u z _ _ hz oz=>?_) r,fun r=>zce (fun u z _ _ hz oz=>?_) r⟩
  ·exact(hT.mp ((zlI hsT).mp oz)).2.trans es.symm
  ·exact(zlI hsT).mpr (hT.mpr ⟨A.bd.get hz,Eq.trans oz es⟩)
 have hb1:∀{r:List Nat},brs b (is.set p o) r=[]↔∀x∈r,∀y∈b.getD x [],is.getD y 0=0->y=p:=fun {r}=>by
  rw[zlK A.bd]
  constructor
  ·intro h x hx y hy y0
   apply Classical.byContradiction
   intro hne
   exact h x hx y hy (by rw[A.s1,if_neg hne];exact y0)
  ·intro h x hx y hy
   rw[A.s1]
   by_cases e:y=p
   ·rw[if_pos e];exact A.H.o0
   ·rw[if_neg e];exact fun y0=>e (h x hx y hy y0)
 unfold lD
 rw[mem_filter,decide_eq_true_eq,hb1]
 constructor
 ·rintro⟨h1,h2⟩
  obtain⟨s,hs,rfl⟩:=zlM h1
  obtain⟨q1,q2⟩:=hT.mp hs
  rw[hc q1 q2] at h2 ⊢
  exact⟨s,q1,q2,rfl,h2⟩
 ·rintro⟨s,q1,q2,rfl,h2⟩
  refine⟨?_,h2⟩
  have:=zlL (T:=thr (is.set p o) [3-o]) A.bd A.sym (fun x hx=>(hT.mp hx).1) (hT.mpr ⟨q1,q2⟩)
  rwa [hc q1 q2] at this
theorem LyA.tk(A:LyA b is o p){q:Nat}:q∈lT b is o p↔∃r∈lD b is o p,q∈r:=by
 unfold lT
 rw[zg3,any_eq_true]
 constructor
 ·rintro⟨_,r,hr,hq⟩;exact⟨r,hr,of_decide_eq_true hq⟩
 ·rintro⟨r,hr,hq⟩
  obtain⟨s,hs,_,rfl,_⟩:=A.dead.mp hr
  exact⟨cpt_lt hq,_,hr,decide_eq_true hq⟩
theorem LyA.tkh(A:LyA b is o p){q:Nat}(h:q∈lT b is o p):q<b.length/\is.getD q 0=3-o/\q≠p:=by
 obtain⟨r,hr,hq⟩:=A.tk.mp h
 obtain⟨s,hs,es,rfl,_⟩:=A.dead.mp hr
 have e:is.getD q 0=3-o:=(cpt_val A.bd hs hq).trans es
 exact⟨cpt_lt hq,e,fun e'=>by subst e';exact A.H.h0 (e.symm.trans A.p0)⟩
theorem LyA.near(A:LyA b is o p){q:Nat}:q∈lT b is o p↔∃y∈b.getD p [],is.getD y 0=3-o/\(brs b is (cpt b (vS is) y)).erase p=[]/\q∈cpt b (vS is) y:=by
 have nd:∀r,(brs b is r).Nodup:=fun r=>List.Pairwise.filter _ (List.Pairwise.filter _ nodup_range)
 have er:∀y,y<b.length->((brs b is (cpt b (vS is) y)).erase p=[]↔∀x∈cpt b (vS is) y,∀z∈b.getD x [],is.getD z 0=0->z=p):=fun y hy=>by
  rw[eq_nil_iff_forall_not_mem]
  constructor
  ·intro h x hx z hz z0
   apply Classical.byContradiction
   intro hne
   exact h z (((nd _).mem_erase_iff).mpr ⟨hne,(zbr A.bd).mpr ⟨⟨x,hx,hz⟩,z0⟩⟩)
  ·intro h z hz
   obtain⟨h1,h2⟩:=((nd _).mem_erase_iff).mp hz
   obtain⟨⟨x,hx,hz⟩,z0⟩:=(zbr A.bd).mp h2
   exact h1 (h x hx z hz z0)
 rw[A.tk]
 constructor
 ·rintro⟨r,hr,hq⟩
  obtain⟨s,hs,es,rfl,hd⟩:=A.dead.mp hr
  obtain⟨u,w,ru,hw,w0⟩:=A.nh s hs es
  have hu:u∈cpt b (vS is) s:=(zbL A.bd hs).mpr ru
  have e:=hd u hu w hw w0
  subst e
  have hub:=cpt_lt hu
  refine⟨u,A.sym _ _ hw,(cpt_val A.bd hs hu).trans es,?_,?_⟩
  ·rw[er u hub,zdQ A.bd A.sym hs hu];exact hd
  ·rw[zdQ A.bd A.sym hs hu];exact hq
 ·rintro⟨y,hy,ey,h1,hq⟩
  have hyb:=A.bd.get hy
  exact⟨_,A.dead.mpr ⟨y,hyb,ey,rfl,(er y hyb).mp h1⟩,hq⟩
theorem LyA.swp(A:LyA b is o p):Swp b (is.set p o) (3-o) (lpt b (thr (is.set p o) [3-o])) (lS b is o p) (lD b is o p):=by
 have low:∀y,(is.set p o).getD y 0=0->(lS b is o p).getD y 0=0:=fun y h0=>by
  by_cases hy:y<b.length
  ·rw[A.s1] at h0
   rw[A.get hy]
   by_cases e:y=p
   ·rw[if_pos e] at h0;exact absurd h0 A.H.o0
   ·rw[if_neg e] at h0 ⊢
    split
    ·rfl
    ·exact h0
  ·exact(A.far hy).1
 refine⟨by rw[zfE,length_set],fun r hr=>(mem_filter.mp hr).1,fun r hr q hq=>?_,fun q=>?_,fun r hr=>?_,fun r hr=>?_⟩
 ·have ht:=A.tk.mpr ⟨r,hr,hq⟩
  obtain⟨h1,_,h3⟩:=A.tkh ht
  rw[A.get h1,if_neg h3,if_pos ht]
 ·by_cases hq:q<b.length
  ·rw[A.get hq,A.s1]
   by_cases e:q=p
   ·rw[if_pos e,if_pos e];exact .inl rfl
   ·rw[if_neg e,if_neg e]
    by_cases ht:q∈lT b is o p
    ·rw[if_pos ht];exact .inr ⟨rfl,A.tk.mp ht⟩
    ·rw[if_neg ht];exact .inl rfl
  ·left
   rw[(A.far hq).1,A.s1,if_neg (fun e=>hq (by rw[e];exact A.hp)),(A.far hq).2]
 ·by_cases e:brs b (is.set p o) r=[]
  ·exact .inl (mem_filter.mpr ⟨hr,decide_eq_true e⟩)
  ·obtain⟨y,hy⟩:=exists_mem_of_ne_nil _ e
   obtain⟨⟨x,hx,hy⟩,h0⟩:=(zbr A.bd).mp hy
   exact .inr ⟨x,hx,y,hy,low y h0⟩
 ·exact(zlK A.bd).mp (of_decide_eq_true (mem_filter.mp hr).2)
def Frb(b:List (List Nat))(is:List Int)(o:Int)(p:Nat):Prop:=brs b (lS b is o p) (cpt b (vS (lS b is o p)) p)≠[]
theorem LyA.laid(A:LyA b is o p)(h:Frb b is o p):LaidOk b is (3-o) o p (lS b is o p) (lD b is o p):=by
 refine⟨A.hl,A.hp,A.p0,A.swp,?_⟩
 obtain⟨y,hy⟩:=exists_mem_of_ne_nil _ h
 obtain⟨⟨x,hx,hy⟩,h0⟩:=(zbr A.bd).mp hy
 exact⟨x,y,(zbL A.bd A.hp).mp hx,hy,h0⟩
theorem LyA.atP(A:LyA b is o p):(lS b is o p).getD p 0=o:=by rw[A.get A.hp,if_pos rfl]
theorem LyA.brth(A:LyA b is o p):Frb b is o p↔((∃y∈b.getD p [],is.getD y 0=0)\/∃y∈b.getD p [],is.getD y 0=o/\(brs b is (cpt b (vS is) y)).erase p≠[])\/lT b is o p≠[]:=by
 have nd:∀r,(brs b is r).Nodup:=fun r=>List.Pairwise.filter _ (List.Pairwise.filter _ nodup_range)
 have free:∀y,y<b.length->is.getD y 0=0->y≠p->(lS b is o p).getD y 0=0:=fun y hy y0 hne=>by
  rw[A.get hy,if_neg hne];split
  ·rfl
  ·exact y0
 have own:∀y,y<b.length->is.getD y 0=o->(lS b is o p).getD y 0=o:=fun y hy e=>by
  rw[A.get hy];split
  ·rfl
  ·rw[if_neg (fun h=>A.H.ho (e.symm.trans (A.tkh h).2.1))];exact e
 have selfP:=zb0 (vl:=vS (lS b is o p)) A.bd A.hp
 constructor
 ·intro h
  by_cases ht:lT b is o p=[]
  ·left
   obtain⟨w,hw⟩:=exists_mem_of_ne_nil _ h
   obtain⟨⟨u,hu,hv⟩,w0⟩:=(zbr A.bd).mp hw
   have hwb:=A.bd.get hv
   have e1:∀q,q<b.length->(lS b is o p).getD q 0=if q=p then o else is.getD q 0:=fun q hq=>by rw[A.get hq,ht];simp
   rw[e1 w hwb] at w0
   have hwp:w≠p:=fun e=>by rw[if_pos e] at w0;exact A.H.o0 w0
   rw[if_neg hwp] at w0
   have key:∀u,Reach b (okV (vS (lS b is o p)) p) p u->u=p\/∃y∈b.getD p [],is.getD y 0=o/\Reach b (okV (vS is) y) y u:=by
    intro u r
    induction r with
    | refl=>exact .inl rfl
    | @step x z r hz oz ih =>
     by_cases ezp:z=p
     ·exact .inl ezp
     ·right
      have hzb:=A.bd.get hz
      have oz':(lS b is o p).getD z 0=o:=Eq.trans oz A.atP
      rw[e1 z hzb,if_neg ezp] at oz'
      rcases ih with rfl|⟨y,hy,ey,ry⟩
      ·exact⟨z,hz,oz',.refl⟩
      ·exact⟨y,hy,ey,ry.step hz (oz'.trans ey.symm)⟩
   rcases key u ((zbL A.bd A.hp).mp hu) with rfl|⟨y,hy,ey,ry⟩
   ·exact .inl ⟨w,hv,w0⟩
   ·refine .inr ⟨y,hy,ey,fun e=>?_⟩
    have:w∈(brs b is (cpt b (vS is) y)).erase p:=((nd _).mem_erase_iff).mpr ⟨hwp,(zbr A.bd).mpr ⟨⟨u,(zbL A.bd (A.bd.get hy)).mpr ry,hv⟩,w0⟩⟩
    rw[e] at this
    simp at this
  ·exact .inr ht
 ·rintro((⟨y,hy,y0⟩|⟨y,hy,ey,hne⟩)|ht)
  ·have hyb:=A.bd.get hy
   have hyp:y≠p:=fun e=>A.nl p (by rw[e] at hy;exact hy)
   exact ne_nil_of_mem ((zbr A.bd).mpr ⟨⟨p,selfP,hy⟩,free y hyb y0 hyp⟩)
  ·obtain⟨w,hw⟩:=exists_mem_of_ne_nil _ hne
   obtain⟨hwp,hw⟩:=((nd _).mem_erase_iff).mp hw
   obtain⟨⟨u,hu,hw⟩,w0⟩:=(zbr A.bd).mp hw
   have hyb:=A.bd.get hy
   have r1:Reach b (okV (vS (lS b is o p)) p) p y:=Reach.refl.step hy ((own y hyb ey).trans A.atP.symm)
   have r2:Reach b (okV (vS (lS b is o p)) p) y u:=zce (fun x z _ _ hz oz=>(own z (A.bd.get hz) (Eq.trans oz ey)).trans A.atP.symm) ((zbL A.bd hyb).mp hu)
   exact ne_nil_of_mem ((zbr A.bd).mpr ⟨⟨u,(zbL A.bd A.hp).mpr (r1.trans r2),hw⟩,free w (A.bd.get hw) w0 hwp⟩)
  ·obtain⟨q,hq⟩:=exists_mem_of_ne_nil _ ht
   obtain⟨y,hy,ey,h1,_⟩:=A.near.mp hq
   have hyb:=A.bd.get hy
   have ty:y∈lT b is o p:=A.near.mpr ⟨y,hy,ey,h1,zb0 A.bd hyb⟩
   refine ne_nil_of_mem ((zbr A.bd).mpr ⟨⟨p,selfP,hy⟩,?_⟩)
   rw[A.get hyb,if_neg (A.tkh ty).2.2,if_pos ty]
theorem LyA.snd(A:LyA b is o p)(h:Frb b is o p):zmg b (lS b is o p) o/\zmg b (lS b is o p) (3-o) :=
 ⟨(A.laid h).snd A.bd A.sym A.H A.no,A.swp.snd A.bd A.sym A.l1 A.H.h0⟩
theorem LyA.vals(A:LyA b is o p):∀q,q<b.length->(lS b is o p).getD q 0=0\/(lS b is o p).getD q 0=3-o\/(lS b is o p).getD q 0=o:=fun q hq=>by
 rw[A.get hq]
 split
 ·exact .inr (.inr rfl)
 ·split
  ·exact .inl rfl
  ·exact A.v q hq
end
theorem zlN{b:List (List Nat)}{is:List Int}{r r':List Nat}(h:∀x,x∈r↔x∈r'):brs b is r=brs b is r':=by
 unfold brs zbR
 congr 1
 apply filter_congr
 intro y _
 rw[Bool.eq_iff_iff,any_eq_true,any_eq_true]
 exact⟨fun⟨x,hx,q⟩=>⟨x,(h x).mp hx,q⟩,fun⟨x,hx,q⟩=>⟨x,(h x).mpr hx,q⟩⟩
theorem zlO{ce:Ce}{k:Nat}{F:List Nat}(g:ce[k]?=some (.dct (kvs F))):zcq [.cel k] ce=some (.ok (nW F.length) ce):=by
 have l:zeR ce (.cel k)=none:=by simp only[zeR,zcg,g]
 simp only[zcq,l,zog g,zbu];rfl
section
variable {b:List (List Nat)} {is:List Int} {ce:Ce} {row:List Nat}
theorem zpV(fu:Nat)(hfu:200<=fu)(B:Brd b)(hl:is.length=b.length){s:Nat}(hs:s<b.length):∃F,d_da fu [wB b,wS is,nW s] ce=some (.ok (.cel ce.length) (ce++[.lst (F.map nW)]))/\Comp b (okV (vS is) s) s F:=by
 have hz:=sl36
 have h36:=B.h36
 have hb:=B.bd
 suffices h:∃w c,d_da fu [wB b,wS is,nW s] ce=some (.ok w c)/\∃F,w=.cel ce.length/\c=ce++[.lst (F.map nW)]/\Comp b (okV (vS is) s) s F by
  obtain⟨w,c,e,F,rfl,rfl,q⟩:=h
  exact⟨F,e,q⟩
 unfold d_da
 refine ziE [some (wB b),some (wS is),some (nW s),none,none,none] rfl ?_
 refine zao (zca (ws:=[nW s]) (by trivial) (by show 1<=PySem.sizeLine;omega)) ?_
 refine zQn ?_
 have O0:=(Own.start ce).alloc (C.lst ([s].map nW))
 refine(?_:Run _ _ (ce++[C.lst ([s].map nW)]) _)
 generalize hk:ce.length=k3 at O0 ⊢
 generalize ce++[C.lst ([s].map nW)]=c0 at O0 ⊢
 refine zao (w:=nW 0) (ce':=c0) zbH ?_
 refine zQn ?_
 refine zhN (σ:=List Nat×Nat) (fun st sl c=>∃x5,sl=[some (wB b),some (wS is),some (nW s),some (.cel k3),some (nW st.2),x5]/\Own ce c [(k3,C.lst (st.1.map nW))]/\st.1.Nodup/\s∈st.1/\(∀x∈st.1,x<b.length)/\st.2<=st.1.length/\(∀x∈st.1,Reach b (okV (vS is) s) s x)/\∀x∈st.1.take st.2,∀y∈b.getD x [],okV (vS is) s y->y∈st.1)
  (fun st=>36-st.2) ([s],0) ⟨_,rfl,O0,by simp,by simp,by simpa using hs,by simp,by simpa using Reach.refl,by simp⟩ (by show 36-0<fu;omega) ?_
 rintro⟨F,at'⟩ sl c ⟨x5,rfl,O,nd,hsF,lt,hat,re,cl⟩
 dsimp only at O nd hsF lt hat re cl
 have g3:=O.g0
 have hF36:F.length<=36:=le_trans (zaF nd lt) h36
 have cmp:fLt (nW at') (nW F.length)=some (.bl (decide ((at':Int)<(F.length:Int)))):=zli (i:=at') (j:=F.length) rfl rfl
 refine⟨decide ((at':Int)<(F.length:Int)),by trivial,fun q=>?_,fun q=>?_⟩
 ·have hlt:at'<F.length:=by have:=of_decide_eq_true q;omega
  have hpF:F.getD at' 0∈F:=by rw[getD_eq_getElem?_getD,getElem?_eq_getElem hlt];exact getElem_mem hlt
  have ix:=zol (p:=at') g3 hlt
  have etk:F.take (at'+1)=F.take at'++[F.getD at' 0]:=by
   rw[take_add_one,getElem?_eq_getElem hlt,getD_eq_getElem?_getD,getElem?_eq_getElem hlt];rfl
  generalize F.getD at' 0=p at hpF ix etk
  have hp:=lt p hpF
  unfold zfw
  refine zbj (zs:=b.getD p []) (en:=nW) (c1:=c) (zf8 (by trivial))
   (fun d sl c=>∃new x5,sl=[some (wB b),some (wS is),some (nW s),some (.cel k3),some (nW at'),x5]/\Own ce c [(k3,C.lst ((F++new).map nW))]/\(F++new).Nodup/\(∀x∈new,x∈b.getD p []/\okV (vS is) s x)/\∀x∈d,okV (vS is) s x->x∈F++new)
   ⟨[],x5,rfl,by simpa using O,by simpa using nd,by simp,by simp⟩ ?_ ?_
  ·rintro d y r sl c e hy ⟨new,x5,rfl,O,nd2,hnew,hd⟩
   have g3:=O.g0
   have hy':=hb.get hy
   have lt2:∀x∈F++new,x<b.length:=fun x hx=>by
    rcases mem_append.mp hx with hx|hx
    ·exact lt x hx
    ·exact hb.get (hnew x hx).1
   have hl2:=zaF nd2 lt2
   have hw:((F++new).map nW).length<PySem.sizeLine:=by rw[length_map];omega
   have j1:=zcR (ce:=c) (is:=is) (p:=y) (by omega)
   have j2:=zcR (ce:=c) (is:=is) (p:=s) (by omega)
   unfold zfv
   refine zQn ?_
   refine zbE (p:=decide (is.getD y 0=is.getD s 0)&&!decide (y∈F++new)) (ce':=c) (by trivial) (fun q=>?_) (fun q=>?_)
   ·simp only[and_eq_true,not_eq_true',decide_eq_false_iff_not,decide_eq_true_eq] at q
    trivial
    refine⟨new++[y],_,rfl,?_,?_,fun x hx=>?_,fun x hx o=>?_⟩
    ·have e2:(F++(new++[y])).map nW=(F++new).map nW++[nW y]:=by simp
     rw[e2]
     exact O.set0 _
    ·rw[<- append_assoc,nodup_append]
     exact⟨nd2,by simp,fun a ha c hc=>by rw[mem_singleton] at hc;subst hc;intro e;subst e;exact q.2 ha⟩
    ·rcases mem_append.mp hx with hx|hx
     ·exact hnew x hx
     ·rw[mem_singleton] at hx;subst hx;exact⟨hy,q.1⟩
    ·rw[<- append_assoc]
     rcases mem_append.mp hx with hx|hx
     ·exact mem_append_left _ (hd x hx o)
     ·rw[mem_singleton] at hx;subst hx;simp
   ·refine zbn ?_
    refine⟨new,_,rfl,O,nd2,hnew,fun x hx o=>?_⟩
    rcases mem_append.mp hx with hx|hx
    ·exact hd x hx o
    ·rw[mem_singleton] at hx
     subst hx
     have o':is.getD x 0=is.getD s 0:=o
     rw[decide_eq_true o',Bool.true_and,not_eq_false',decide_eq_true_eq] at q
     exact q
  ·rintro sl c ⟨new,x5,rfl,O,nd2,hnew,hd⟩
   have lt2:∀x∈F++new,x<b.length:=fun x hx=>by
    rcases mem_append.mp hx with hx|hx
    ·exact lt x hx
    ·exact hb.get (hnew x hx).1
   have fa:zc2 (nW at') (.int 1)=some (nW (at'+1)):=zcI (i:=at') (j:=1) rfl rfl
   refine zik (w:=nW (at'+1)) (ce':=c) (by trivial) ?_
   refine⟨(F++new,at'+1),(by show 36-(at'+1)<36-at';omega),x5,rfl,O,nd2,mem_append_left _ hsF,lt2,by show at'+1<=(F++new).length;rw[length_append];omega,fun x hx=>?_,fun x hx y hy o=>?_⟩
   ·rcases mem_append.mp hx with hx|hx
    ·exact re x hx
    ·exact(re p hpF).step (hnew x hx).1 (hnew x hx).2
   ·rw[take_append_of_le_length (by omega),etk] at hx
    rcases mem_append.mp hx with hx|hx
    ·exact mem_append_left _ (cl x hx y hy o)
    ·rw[mem_singleton] at hx;subst hx;exact hd y hy o
 ·have q':=of_decide_eq_false q
  have eat:at'=F.length:=by omega
  subst eat
  rw[take_length] at cl
  refine zaw (w:=.cel k3) (ce':=c) (by trivial) ?_
  subst hk
  exact⟨_,_,O.finO (by simp only[zez];exact bels_nW _ _),F,rfl,rfl,⟨nd,hsF,lt,cl,re⟩⟩
theorem znF(fu:Nat)(hfu:200<=fu)(B:Brd b)(hl:is.length=b.length){s:Nat}(hs:s<b.length):∃F,zdB (d_da fu) [wB b,wS is,nW s] ce=some (.ok (wL F) ce)/\Comp b (okV (vS is) s) s F:=by
 obtain⟨F,e,h⟩:=zpV (ce:=ce) fu hfu B hl hs
 exact⟨F,zcr e (bels_nW _ _),h⟩
theorem zsf(fu:Nat)(B:Brd b)(hl:is.length=b.length)(hr:∀p∈row,p<b.length):d_g fu [wB b,wS is,wL row] ce=some (.ok (.cel ce.length) (ce++[.lst ((brs b is row).map nW)])):=by
 have hz:=sl36
 have h36:=B.h36
 have hb:=B.bd
 unfold d_g
 refine zbK [some (wB b),some (wS is),some (wL row),none,none,none] rfl ?_
 refine zao zgD ?_
 refine zQn ?_
 have O0:=(Own.start ce).alloc (C.dct (kvs []))
 refine(?_:Run _ _ (ce++[C.dct (kvs [])]) _)
 generalize hk:ce.length=k3 at O0 ⊢
 generalize ce++[C.dct (kvs [])]=c0 at O0 ⊢
 refine zbj (zs:=row) (en:=nW) (zfm (by trivial))
  (fun d sl c=>∃F x4 x5,sl=[some (wB b),some (wS is),some (wL row),some (.cel k3),x4,x5]/\Own ce c [(k3,C.dct (kvs F))]/\F.Nodup/\(∀x∈F,x<b.length)/\∀x,x∈F↔(∃p∈d,x∈b.getD p [])/\is.getD x 0=0)
  ⟨[],none,none,rfl,O0,by simp,by simp,by simp⟩ ?_ ?_
 ·rintro d p r sl c e hp ⟨F,x4,x5,rfl,O,nd,lt,mem⟩
  have hp':=hr p hp
  unfold zdc
  refine zQn ?_
  refine zcH (zs:=b.getD p []) (en:=nW) (zf8 (by trivial))
   (fun d' sl c=>∃F x5,sl=[some (wB b),some (wS is),some (wL row),some (.cel k3),some (nW p),x5]/\Own ce c [(k3,C.dct (kvs F))]/\F.Nodup/\(∀x∈F,x<b.length)/\∀x,x∈F↔((∃p∈d,x∈b.getD p [])\/x∈d')/\is.getD x 0=0)
   ⟨F,x5,rfl,O,nd,lt,by simpa using mem⟩ ?_ ?_
  ·rintro d' y r' sl c e' hy ⟨F,x5,rfl,O,nd,lt,mem⟩
   have g:=zfh O.g0
   have hl':(kvs F).length<PySem.sizeLine:=by rw[zbu];have:=zaF nd lt;omega
   have hy':=hb.get hy
   have j1:=zcR (ce:=c) (is:=is) (p:=y) (by omega)
   unfold zdb
   refine zQn ?_
   refine zbE (p:=decide (is.getD y 0=0)) (ce':=c) (by trivial) (fun q=>?_) (fun q=>?_)
   ·have q':=of_decide_eq_true q
    trivial
    refine⟨ins F y,some (nW y),rfl,?_,zf7 nd,fun x hx=>?_,fun x=>?_⟩
    ·rw[zel];exact O.set0 _
    ·rcases ins_mem.mp hx with hx|rfl
     ·exact lt x hx
     ·exact hy'
    ·rw[ins_mem,mem,mem_append,mem_singleton]
     constructor
     ·rintro(⟨h1,h2⟩|rfl)
      ·exact⟨h1.imp id .inl,h2⟩
      ·exact⟨.inr (.inr rfl),q'⟩
     ·rintro⟨h1|h1|rfl,h2⟩
      ·exact .inl ⟨.inl h1,h2⟩
      ·exact .inl ⟨.inr h1,h2⟩
      ·exact .inr rfl
   ·have q':=of_decide_eq_false q
    refine zbn ?_
    refine⟨F,some (nW y),rfl,O,nd,lt,fun x=>?_⟩
    rw[mem,mem_append,mem_singleton]
    constructor
    ·rintro⟨h1,h2⟩;exact⟨h1.imp id .inl,h2⟩
    ·rintro⟨h1|h1|rfl,h2⟩
     ·exact⟨.inl h1,h2⟩
     ·exact⟨.inr h1,h2⟩
     ·exact absurd h2 q'
  ·rintro sl c ⟨F,x5,rfl,O,nd,lt,mem⟩
   refine⟨F,some (nW p),x5,rfl,O,nd,lt,fun x=>?_⟩
   rw[mem]
   refine and_congr_left fun _=>?_
   constructor
   ·rintro(⟨q,hq,h⟩|h)
    ·exact⟨q,mem_append_left _ hq,h⟩
    ·exact⟨p,by simp,h⟩
   ·rintro⟨q,hq,h⟩
    rcases mem_append.mp hq with hq|hq
    ·exact .inl ⟨q,hq,h⟩
    ·rw[mem_singleton] at hq;subst hq;exact .inr h
 ·rintro sl c ⟨F,x4,x5,rfl,O,nd,lt,mem⟩
  have hl':=zaF nd lt
  have es:zcZ F=brs b is row:=by
   rw[zdP nd lt]
   unfold brs zbR
   rw[filter_filter]
   apply filter_congr
   intro x _
   rw[Bool.eq_iff_iff]
   simp only[decide_eq_true_eq,mem,and_eq_true,any_eq_true]
   exact and_comm
  refine zaw (w:=.cel c.length) (ce':=c++[.lst ((brs b is row).map nW)]) (zbC (zaj (zbC (zaj (by trivial) zam) ((zjb (.cl O.g0)).trans (zcs (by rw[length_map];omega)))) zam) ?_) ?_
  ·show za2 zgs [wL F] c=_
   rw[zjd (by omega),es]
   exact zdx (by rw[length_map,<- es,zdj];omega)
  ·subst hk
   exact(O.alloc _).finO (by simp only[zez];exact bels_nW _ _)
end
structure StdOk (b:List (List Nat)) (is:List Int):Prop where
 hl:is.length=b.length
 v:∀q,q<b.length->0<=is.getD q 0/\is.getD q 0<=2
 s1:zmg b is 1
 s2:zmg b is 2
structure BrdN (b:List (List Nat)):Prop where
 B:Brd b
 nl:∀i,i∉b.getD i []
section
variable {b:List (List Nat)} {is:List Int} {o:Int} {p:Nat} {ce:Ce}
theorem StdOk.ly(S:StdOk b is)(N:BrdN b)(ho:o=1\/o=2)(hp:p<b.length)(p0:is.getD p 0=0):LyA b is o p:=by
 refine⟨N.B.bd,N.B.sym,N.nl,S.hl,hp,p0,⟨by omega,by omega,by omega⟩,fun q hq=>by have:=S.v q hq;omega,?_,?_⟩
 ·rcases ho with rfl|rfl
  ·exact S.s2
  ·exact S.s1
 ·rcases ho with rfl|rfl
  ·exact S.s1
  ·exact S.s2
theorem LyA.std(A:LyA b is o p)(ho:o=1\/o=2)(h:Frb b is o p):StdOk b (lS b is o p):=by
 obtain⟨n1,n2⟩:=A.snd h
 refine⟨by rw[zfE];exact A.hl,fun q hq=>by have:=A.vals q hq;omega,?_,?_⟩
 ·rcases ho with rfl|rfl
  ·exact n1
  ·exact n2
 ·rcases ho with rfl|rfl
  ·exact n2
  ·exact n1
theorem zlP{F:List Nat}{n y:Nat}(h:∀x∈F,x<n)(hy:y<n):∀x∈ins F y,x<n:=fun x hx=>by
 rcases ins_mem.mp hx with hx|rfl
 ·exact h x hx
 ·exact hy
open Classical in
def zow(b:List (List Nat))(is:List Int)(o:Int)(p:Nat):W:=if is.getD p 0=0 then (if Frb b is o p then .tup [wS (lS b is o p),wL (lT b is o p)] else .str "breath") else .str "lay"
theorem zg4{l m:List Int}(hl:l.length=m.length)(h:∀q,q<l.length->l.getD q 0=m.getD q 0):l=m:=by
 apply ext_getElem hl
 intro i h1 h2
 have:=h i h1
 rw[getD_eq_getElem?_getD,getD_eq_getElem?_getD,getElem?_eq_getElem h1,getElem?_eq_getElem h2] at this
 exact this
theorem ztN{sl:Sl}{a:Sl->M W}{k:Nat}{F:List Nat}{c1:Ce}(h:a sl ce=some (.ok (.cel k) c1))(g:c1[k]?=some (.dct (kvs F))):SrcFix (dID a) sl ce (c1.set k (.fzd (kvs F))) (F.map nW):=by
 refine⟨.dky ((kvs F).map fun p=>kW p.1),by simp only[dID,bnd,h,g],?_,fun _=>trivial⟩
 simp only[Src.items,kvs,map_map]
 rfl
set_option maxHeartbeats 0 in
theorem znG(fu:Nat)(hfu:200<=fu)(N:BrdN b)(S:StdOk b is)(ho:o=1\/o=2)(hp:p<b.length):d_u fu [wB b,wS is,.int o,nW p] ce=some (.ok (zow b is o p) ce):=by
 have hz:=sl36
 have B:=N.B
 have h36:=B.h36
 have hb:=B.bd
 have hl:=S.hl
 have jp:=fun c=>zcR (ce:=c) (is:=is) (p:=p) (by omega)
 have jpc:=jp ce
 unfold d_u
 refine zbK [some (wB b),some (wS is),some (.int o),some (nW p),none,none,none,none,none,none,none] rfl ?_
 refine zaP (p:=!decide (is.getD p 0=0)) (ce':=ce) (by trivial) (fun q=>?_) (fun q=>?_)
 ·have q':¬is.getD p 0=0:=by simpa using q
  refine zc7 (zaw (w:=.str "lay") (ce':=ce) zbH ?_)
  refine zen ?_
  unfold zow
  rw[if_neg q']
  exact zaE (by simp only[Bel])
 have p0:is.getD p 0=0:=by simpa using q
 have A:=S.ly N ho hp p0
 refine zaH ?_
 refine zao zgD ?_
 refine zQn ?_
 refine(?_:Run _ _ (ce++[C.dct (kvs [])]) _)
 have O0:=(Own.start ce).alloc (C.dct (kvs []))
 generalize hk4:ce.length=k4 at O0 ⊢
 generalize ce++[C.dct (kvs [])]=c0 at O0 ⊢
 refine zao zgD ?_
 refine zQn ?_
 refine(?_:Run _ _ (c0++[C.dct (kvs [])]) _)
 have O1:=O0.alloc (C.dct (kvs []))
 generalize c0.length=k5 at O1 ⊢
 generalize c0++[C.dct (kvs [])]=c1 at O1 ⊢
 refine zbj (zs:=b.getD p []) (en:=nW) (zf8 (by trivial))
  (fun d sl c=>∃F4 F5 x6 x7 x8 x9,sl=[some (wB b),some (wS is),some (.int o),some (nW p),some (.cel k4),some (.cel k5),x6,x7,x8,x9,none]/\Own ce c [(k5,C.dct (kvs F5)),(k4,C.dct (kvs F4))]/\F4.Nodup/\F5.Nodup/\(∀x∈F4,x<b.length)/\(∀x∈F5,x<b.length)
   /\ (∀x,x∈F4↔∃y∈d,is.getD y 0=3-o/\(brs b is (cpt b (vS is) y)).erase p=[]/\x∈cpt b (vS is) y)
   /\ ∀x,x∈F5↔(x∈d/\is.getD x 0=0)\/∃y∈d,is.getD y 0=o/\x∈(brs b is (cpt b (vS is) y)).erase p)
  ⟨[],[],_,_,_,_,rfl,O1,by simp,by simp,by simp,by simp,by simp,by simp⟩ ?_ ?_
 ·rintro d y r sl c e hy ⟨F4,F5,x6,x7,x8,x9,rfl,O,nd4,nd5,lt4,lt5,m4,m5⟩
  have hyb:=hb.get hy
  have vy:=S.v y hyb
  have jy:=fun c=>zcR (ce:=c) (is:=is) (p:=y) (by omega)
  have jyc:=jy c
  have g5:=O.g0
  have gd5:=zfh O.g0
  have hs5:(kvs F5).length<PySem.sizeLine:=by rw[zbu];have:=zaF nd5 lt5;omega
  unfold zd1
  refine zQn ?_
  refine zbE (p:=decide (is.getD y 0=0)) (ce':=c) (by trivial) (fun q=>?_) (fun q=>?_)
  ·have y0:=of_decide_eq_true q
   trivial
   refine⟨F4,ins F5 y,_,_,_,_,rfl,by rw[zel];exact O.set0 _,nd4,zf7 nd5,lt4,zlP lt5 hyb,fun x=>?_,fun x=>?_⟩
   ·rw[m4]
    constructor
    ·rintro⟨z,hz,h⟩;exact⟨z,mem_append_left _ hz,h⟩
    ·rintro⟨z,hz,h⟩
     rcases mem_append.mp hz with hz|hz
     ·exact⟨z,hz,h⟩
     ·rw[mem_singleton] at hz;subst hz;exact absurd (h.1.symm.trans y0) (by omega)
   ·rw[ins_mem,m5]
    constructor
    ·rintro((⟨h1,h2⟩|⟨z,hz,h⟩)|rfl)
     ·exact .inl ⟨mem_append_left _ h1,h2⟩
     ·exact .inr ⟨z,mem_append_left _ hz,h⟩
     ·exact .inl ⟨by simp,y0⟩
    ·rintro(⟨h1,h2⟩|⟨z,hz,h⟩)
     ·rcases mem_append.mp h1 with h1|h1
      ·exact .inl (.inl ⟨h1,h2⟩)
      ·rw[mem_singleton] at h1;exact .inr h1
     ·rcases mem_append.mp hz with hz|hz
      ·exact .inl (.inr ⟨z,hz,h⟩)
      ·rw[mem_singleton] at hz;subst hz;exact absurd (h.1.symm.trans y0) (by omega)
  ·have y0:=of_decide_eq_false q
   obtain⟨Fy,e7,cm⟩:=znF (ce:=c) fu hfu B hl hyb
   have mF:∀x,x∈Fy↔x∈cpt b (vS is) y:=fun x=>(cm.mem x).trans (zbL hb hyb).symm
   have eB:brs b is Fy=brs b is (cpt b (vS is) y):=zlN mF
   have e8:=zsf (ce:=c) (is:=is) fu B hl cm.lt
   rw[eB] at e8
   have hpb:p∈brs b is (cpt b (vS is) y):=(zbr hb).mpr ⟨⟨y,zb0 hb hyb,A.sym _ _ hy⟩,p0⟩
   have hlen:(brs b is (cpt b (vS is) y)).length<=36:=by
    have h1:(brs b is (cpt b (vS is) y)).Nodup:=List.Pairwise.filter _ (List.Pairwise.filter _ nodup_range)
    have h2:∀x∈brs b is (cpt b (vS is) y),x<b.length:=fun x hx=>by
     obtain⟨⟨u,_,h⟩,_⟩:=(zbr hb).mp hx
     exact hb.get h
    exact le_trans (zaF h1 h2) h36
   have hbl:∀x∈(brs b is (cpt b (vS is) y)).erase p,x<b.length:=fun x hx=>by
    obtain⟨⟨u,_,h⟩,_⟩:=(zbr hb).mp (mem_of_mem_erase hx)
    exact hb.get h
   refine zao (w:=wL Fy) (ce':=c) (by trivial) ?_
   refine zQn ?_
   refine zao (w:=.cel c.length) (ce':=c++[.lst ((brs b is (cpt b (vS is) y)).map nW)]) (by trivial) ?_
   refine zQn ?_
   have O2:=O.alloc (C.lst ((brs b is (cpt b (vS is) y)).map nW))
   generalize c.length=k8 at O2 ⊢
   generalize c++[C.lst ((brs b is (cpt b (vS is) y)).map nW)]=c2 at O2 ⊢
   refine zdN (w:=.non) (ce':=c2.set k8 (.lst (((brs b is (cpt b (vS is) y)).erase p).map nW))) (zfk (ws:=[nW p]) (by trivial) (zcj O2.g0) (by trivial) (zrZ O2.g0 hpb)) ?_
   have O3:=O2.set0 (C.lst (((brs b is (cpt b (vS is) y)).erase p).map nW))
   generalize c2.set k8 (C.lst (((brs b is (cpt b (vS is) y)).erase p).map nW))=c3 at O3 ⊢
   have jy3:=jy c3
   refine zbE (p:=decide (is.getD y 0=o)) (ce':=c3) (by trivial) (fun q2=>?_) (fun q2=>?_)
   ·have yo:=of_decide_eq_true q2
    refine zm9 (zs:=(brs b is (cpt b (vS is) y)).erase p) (en:=nW) (k:=k8) (by trivial) O3.g0
     (fun d' sl c=>∃F5' x9,sl=[some (wB b),some (wS is),some (.int o),some (nW p),some (.cel k4),some (.cel k5),some (nW y),some (wL Fy),some (.cel k8),x9,none]/\Own ce c [(k8,C.lst (((brs b is (cpt b (vS is) y)).erase p).map nW)),(k5,C.dct (kvs F5')),(k4,C.dct (kvs F4))]/\F5'.Nodup/\(∀x∈F5',x<b.length)/\∀x,x∈F5'↔x∈F5\/x∈d')
     ⟨F5,_,rfl,O3,nd5,lt5,by simp⟩ (fun d sl c h=>by obtain⟨_,_,_,O,_⟩:=h;exact O.g0) ?_ ?_
    ·rintro d' u r' sl c e' hu ⟨F5',x9,rfl,O,nd',lt',mem'⟩
     have gd:=zfh O.g1
     have hs:(kvs F5').length<PySem.sizeLine:=by rw[zbu];have:=zaF nd' lt';omega
     unfold zd0
     trivial
     refine⟨ins F5' u,_,rfl,by rw[zel];exact O.set1 _,zf7 nd',zlP lt' (hbl u hu),fun x=>?_⟩
     rw[ins_mem,mem',mem_append,mem_singleton,or_assoc]
    ·rintro sl c ⟨F5',x9,rfl,O,nd',lt',mem'⟩
     refine⟨F4,F5',_,_,_,_,rfl,O.drop,nd4,nd',lt4,lt',fun x=>?_,fun x=>?_⟩
     ·rw[m4]
      constructor
      ·rintro⟨z,hz,h⟩;exact⟨z,mem_append_left _ hz,h⟩
      ·rintro⟨z,hz,h⟩
       rcases mem_append.mp hz with hz|hz
       ·exact⟨z,hz,h⟩
       ·rw[mem_singleton] at hz;subst hz;exact absurd (h.1.symm.trans yo) (by omega)
     ·rw[mem',m5]
      constructor
      ·rintro((⟨h1,h2⟩|⟨z,hz,h⟩)|h)
       ·exact .inl ⟨mem_append_left _ h1,h2⟩
       ·exact .inr ⟨z,mem_append_left _ hz,h⟩
       ·exact .inr ⟨y,by simp,yo,h⟩
      ·rintro(⟨h1,h2⟩|⟨z,hz,h⟩)
       ·rcases mem_append.mp h1 with h1|h1
        ·exact .inl (.inl ⟨h1,h2⟩)
        ·rw[mem_singleton] at h1;subst h1;exact absurd h2 y0
       ·rcases mem_append.mp hz with hz|hz
        ·exact .inl (.inr ⟨z,hz,h⟩)
        ·rw[mem_singleton] at hz;subst hz;exact .inr h.2
   ·have yo:=of_decide_eq_false q2
    have yh:is.getD y 0=3-o:=by omega
    have m5':∀x,((x∈d++[y]/\is.getD x 0=0)\/∃z∈d++[y],is.getD z 0=o/\x∈(brs b is (cpt b (vS is) z)).erase p)↔x∈F5:=fun x=>by
     rw[m5]
     constructor
     ·rintro(⟨h1,h2⟩|⟨z,hz,h⟩)
      ·rcases mem_append.mp h1 with h1|h1
       ·exact .inl ⟨h1,h2⟩
       ·rw[mem_singleton] at h1;subst h1;exact absurd h2 y0
      ·rcases mem_append.mp hz with hz|hz
       ·exact .inr ⟨z,hz,h⟩
       ·rw[mem_singleton] at hz;subst hz;exact absurd h.1 yo
     ·rintro(⟨h1,h2⟩|⟨z,hz,h⟩)
      ·exact .inl ⟨mem_append_left _ h1,h2⟩
      ·exact .inr ⟨z,mem_append_left _ hz,h⟩
    have eqn:eqW false c3 (.cel k8) (.lst [])=some (.bl (decide ((brs b is (cpt b (vS is) y)).erase p=[]))):=(LstOf.cl O3.g0).eqN (m:=[]) (.fr _) false
    refine zbE (p:=decide ((brs b is (cpt b (vS is) y)).erase p=[])) (ce':=c3) (by trivial) (fun q3=>?_) (fun q3=>?_)
    ·have e3:=of_decide_eq_true q3
     refine zcH (zs:=Fy) (en:=nW) (zfm (by trivial))
      (fun d' sl c=>∃F4' x9,sl=[some (wB b),some (wS is),some (.int o),some (nW p),some (.cel k4),some (.cel k5),some (nW y),some (wL Fy),some (.cel k8),x9,none]/\Own ce c [(k8,C.lst (((brs b is (cpt b (vS is) y)).erase p).map nW)),(k5,C.dct (kvs F5)),(k4,C.dct (kvs F4'))]/\F4'.Nodup/\(∀x∈F4',x<b.length)/\∀x,x∈F4'↔x∈F4\/x∈d')
      ⟨F4,_,rfl,O3,nd4,lt4,by simp⟩ ?_ ?_
     ·rintro d' u r' sl c e' hu ⟨F4',x9,rfl,O,nd',lt',mem'⟩
      have gd:=zfh O.g2
      have hs:(kvs F4').length<PySem.sizeLine:=by rw[zbu];have:=zaF nd' lt';omega
      unfold zdZ
      trivial
      refine⟨ins F4' u,_,rfl,by rw[zel];exact O.set2 _,zf7 nd',zlP lt' (cm.lt u hu),fun x=>?_⟩
      rw[ins_mem,mem',mem_append,mem_singleton,or_assoc]
     ·rintro sl c ⟨F4',x9,rfl,O,nd',lt',mem'⟩
      refine⟨F4',F5,_,_,_,_,rfl,O.drop,nd',nd5,lt',lt5,fun x=>?_,fun x=>(m5' x).symm⟩
      rw[mem',m4,mF]
      constructor
      ·rintro(⟨z,hz,h⟩|h)
       ·exact⟨z,mem_append_left _ hz,h⟩
       ·exact⟨y,by simp,yh,e3,h⟩
      ·rintro⟨z,hz,h⟩
       rcases mem_append.mp hz with hz|hz
       ·exact .inl ⟨z,hz,h⟩
       ·rw[mem_singleton] at hz;subst hz;exact .inr h.2.2
    ·have e3:=of_decide_eq_false q3
     refine zbn ?_
     refine⟨F4,F5,_,_,_,_,rfl,O3.drop,nd4,nd5,lt4,lt5,fun x=>?_,fun x=>(m5' x).symm⟩
     rw[m4]
     constructor
     ·rintro⟨z,hz,h⟩;exact⟨z,mem_append_left _ hz,h⟩
     ·rintro⟨z,hz,h⟩
      rcases mem_append.mp hz with hz|hz
      ·exact⟨z,hz,h⟩
      ·rw[mem_singleton] at hz;subst hz;exact absurd h.2.1 e3
 ·rintro sl c ⟨F4,F5,x6,x7,x8,x9,rfl,O,nd4,nd5,lt4,lt5,m4,m5⟩
  have eT:∀x,x∈F4↔x∈lT b is o p:=fun x=>(m4 x).trans A.near.symm
  have l5:=zlO O.g0
  have l4:=zlO O.g1
  have eFr:Frb b is o p↔¬(F5.length=0/\F4.length=0):=by
   rw[A.brth]
   constructor
   ·rintro((⟨y,hy,y0⟩|⟨y,hy,ey,hne⟩)|h) ⟨h5,h4⟩
    ·have:y∈F5:=(m5 y).mpr (.inl ⟨hy,y0⟩)
     rw[length_eq_zero_iff.mp h5] at this;simp at this
    ·obtain⟨x,hx⟩:=exists_mem_of_ne_nil _ hne
     have:x∈F5:=(m5 x).mpr (.inr ⟨y,hy,ey,hx⟩)
     rw[length_eq_zero_iff.mp h5] at this;simp at this
    ·obtain⟨x,hx⟩:=exists_mem_of_ne_nil _ h
     have:=(eT x).mpr hx
     rw[length_eq_zero_iff.mp h4] at this;simp at this
   ·intro h
    by_cases h4:F4=[]
    ·have h5:F5≠[]:=fun e=>h ⟨by rw[e];rfl,by rw[h4];rfl⟩
     obtain⟨x,hx⟩:=exists_mem_of_ne_nil _ h5
     left
     rcases(m5 x).mp hx with ⟨h1,h2⟩|⟨y,hy,ey,hx⟩
     ·exact .inl ⟨x,h1,h2⟩
     ·exact .inr ⟨y,hy,ey,ne_nil_of_mem hx⟩
    ·obtain⟨x,hx⟩:=exists_mem_of_ne_nil _ h4
     exact .inr (ne_nil_of_mem ((eT x).mp hx))
  have q5:zf5 (nW F5.length) (.int 0)=some (.bl (decide ((F5.length:Int)=0))):=zem (i:=F5.length) (j:=0) rfl rfl
  have q4:zf5 (nW F4.length) (.int 0)=some (.bl (decide ((F4.length:Int)=0))):=zem (i:=F4.length) (j:=0) rfl rfl
  refine zaP (p:=decide ((F5.length:Int)=0)&&decide ((F4.length:Int)=0)) (ce':=c) (by trivial) (fun q=>?_) (fun q=>?_)
  ·simp only[and_eq_true,decide_eq_true_eq] at q
   refine zc7 (zaw (w:=.str "breath") (ce':=c) zbH ?_)
   refine zen ?_
   unfold zow
   rw[if_pos p0,if_neg (fun h=>eFr.mp h (by omega))]
   subst hk4
   exact O.finC (by simp only[Bel])
  ·have fr:Frb b is o p:=eFr.mpr fun h=>by
    rw[decide_eq_true (by omega),decide_eq_true (by omega)] at q;cases q
   refine zaH ?_
   have hlz:is.length<=PySem.sizeLine:=by omega
   refine zao (w:=.cel c.length) (ce':=c++[.lst (is.map W.int)]) (zbC (zaj (by trivial) zam) (by rw[zgF (xs:=is.map W.int) rfl,zdx (by rw[length_map];exact hlz)])) ?_
   refine zQn ?_
   have O2:=O.alloc (C.lst (is.map W.int))
   generalize c.length=k10 at O2 ⊢
   generalize c++[C.lst (is.map W.int)]=c2 at O2 ⊢
   have O3:=O2.set2 (C.fzd (kvs F4))
   refine zbj (zs:=F4) (en:=nW) (c1:=c2.set k4 (.fzd (kvs F4))) (ztN (by trivial) O2.g2)
    (fun d sl c=>∃is' x9,sl=[some (wB b),some (wS is),some (.int o),some (nW p),some (.cel k4),some (.cel k5),x6,x7,x8,x9,some (.cel k10)]/\Own ce c [(k10,C.lst (is'.map W.int)),(k5,C.dct (kvs F5)),(k4,C.fzd (kvs F4))]/\is'.length=b.length/\(∀q∈d,is'.getD q 0=0)/\∀q,q∉d->is'.getD q 0=is.getD q 0)
    ⟨is,_,rfl,O3,hl,by simp,fun _ _=>rfl⟩ ?_ ?_
   ·rintro d u r sl c e hu ⟨is',x9,rfl,O,l',z1,z2⟩
    have hul:u<is'.length:=by rw[l'];exact lt4 u hu
    unfold zdY
    refine zQn ?_
    refine zji (w:=.int 0) (k:=k10) (ij:=u) (j:=u) (by trivial) (by trivial) (by trivial) O.g0 (ziq (by rw[length_map];exact hul)) ?_
    refine⟨is'.set u 0,_,rfl,by rw[map_set];exact O.set0 _,by rw[length_set];exact l',fun q hq=>?_,fun q hq=>?_⟩
    ·rw[zcM]
     split
     ·rfl
     ·rename_i hn
      rcases mem_append.mp hq with hq|hq
      ·exact z1 q hq
      ·rw[mem_singleton] at hq;exact absurd ⟨hq.symm,hul⟩ hn
    ·rw[zcM,if_neg (fun x=>hq (by rw[<- x.1];simp))]
     exact z2 q fun x=>hq (mem_append_left _ x)
   ·rintro sl c ⟨is',x9,rfl,O,l',z1,z2⟩
    have hpl:p<is'.length:=by omega
    refine znc (w:=.int o) (k:=k10) (ij:=p) (j:=p) (by trivial) (by trivial) (by trivial) O.g0 (ziq (by rw[length_map];exact hpl)) ?_
    have es:(is'.map W.int).set p (.int o)=(is'.set p o).map W.int:=by rw[map_set]
    have eL:is'.set p o=lS b is o p:=by
     refine zg4 (by rw[length_set,zfE,l',hl]) fun q hq=>?_
     rw[length_set,l'] at hq
     rw[A.get hq,zcM]
     by_cases e:q=p
     ·subst e;rw[if_pos ⟨rfl,hpl⟩,if_pos rfl]
     ·rw[if_neg (fun x=>e x.1.symm),if_neg e]
      by_cases ht:q∈lT b is o p
      ·rw[if_pos ht];exact z1 q ((eT q).mpr ht)
      ·rw[if_neg ht];exact z2 q fun h=>ht ((eT q).mp h)
    rw[es,eL]
    have O4:=O.set0 (C.lst ((lS b is o p).map W.int))
    generalize c.set k10 (C.lst ((lS b is o p).map W.int))=c4 at O4 ⊢
    have lz:(lS b is o p).length<=PySem.sizeLine:=by rw[zfE];omega
    have h4l:=zaF nd4 lt4
    have e4:zcZ F4=lT b is o p:=by
     rw[zdP nd4 lt4]
     unfold lT
     apply filter_congr
     intro x hx
     rw[Bool.eq_iff_iff,decide_eq_true_eq,eT,any_eq_true,A.tk]
     exact⟨fun⟨r,h1,h2⟩=>⟨r,h1,decide_eq_true h2⟩,fun⟨r,h1,h2⟩=>⟨r,h1,of_decide_eq_true h2⟩⟩
    have eW:zow b is o p=.tup [wS (lS b is o p),wL (lT b is o p)]:=by unfold zow;rw[if_pos p0,if_pos fr]
    have z22:2<=PySem.sizeLine:=by decide
    refine zaw (w:=zow b is o p) (ce':=c4) ?_ ?_
    ·rw[eW]
     refine zeD (ws:=[wS (lS b is o p),wL (lT b is o p)]) (zaj (zbC (zaj (by trivial) zam) (zpq O4.g0 lz)) (zaj (zbC (zaj (zbC (zaj (by trivial) zam) ((zjb (.fz O4.g2)).trans (zcs (by rw[length_map];omega)))) zam) ?_) zam)) z22
     show za2 zbs [wL F4] c4=_
     rw[zjd (by omega),e4]
     exact zcs (by rw[length_map,<- e4,zdj];omega)
    ·rw[eW]
     subst hk4
     exact O4.finC (by simp only[Bel,zcf];exact⟨belInts _ _,bels_nW _ _,trivial⟩)
end
section
variable {b:List (List Nat)} {is:List Int} {o:Int} {p:Nat} {ce:Ce}
theorem zu4(b:List (List Nat)):StdOk b (b.map fun _=>0):=by
 have z:∀q,(b.map fun _=>(0:Int)).getD q 0=0:=fun q=>by
  rw[getD_eq_getElem?_getD,getElem?_map]
  cases b[q]?<;>rfl
 exact⟨by simp,fun q _=>by rw[z];omega,fun s _ e=>by rw[z] at e;omega,fun s _ e=>by rw[z] at e;omega⟩
theorem zjl{x:PySem.Str}:zmU [.str x,.ty "tuple"] ce=some (.ok (.bl false) ce):=rfl
theorem znH{xs:List W}:zmU [.tup xs,.ty "tuple"] ce=some (.ok (.bl true) ce):=rfl
theorem znI(fu:Nat)(hfu:200<=fu)(N:BrdN b)(cs:List Int):∃is,d_m fu [wB b,sW cs] ce=some (.ok (wS is) ce)/\StdOk b is:=by
 have hz:=sl36
 have B:=N.B
 have h36:=B.h36
 have pos:=B.pos
 suffices hs:∃w c',d_m fu [wB b,sW cs] ce=some (.ok w c')/\∃is,w=wS is/\c'=ce/\StdOk b is by
  obtain⟨w,c',e,is,rfl,rfl,h⟩:=hs
  exact⟨is,e,h⟩
 have hbz:b.length<=PySem.sizeLine:=by omega
 unfold d_m
 refine ziE [some (wB b),some (sW cs),none,none,none,none,none,none] rfl ?_
 refine zao (w:=wS (b.map fun _=>0)) (ce':=ce) (zbC (zaj (zrH (zs:=b) (en:=wT) (f:=fun _=>0) (zm8 (by trivial)).is hbz (fun x hx=>zbH)) zam) (zrK (by rw[length_map];exact hbz))) ?_
 refine zQn ?_
 refine zbj (zs:=cs) (en:=W.int) (zfm (xs:=cs.map W.int) (by trivial))
  (fun d sl c=>∃is x3 x4 x5 x6 x7,sl=[some (wB b),some (sW cs),some (wS is),x3,x4,x5,x6,x7]/\c=ce/\StdOk b is)
  ⟨_,_,_,_,_,_,rfl,rfl,zu4 b⟩ ?_ ?_
 ·rintro d x r sl c e hx ⟨is,x3,x4,x5,x6,x7,rfl,rfl,S⟩
  obtain⟨xs,e1,xl,hxs⟩:=zfC (ce:=c) fu x (m:=3) (by omega)
  have i0:=zcU (ns:=xs) (p:=0) (by omega) c (i:=0) rfl
  have i1:=zcU (ns:=xs) (p:=1) (by omega) c (i:=1) rfl
  have i2:=zcU (ns:=xs) (p:=2) (by omega) c (i:=2) rfl
  generalize xs.getD 0 0=a0 at i0
  generalize xs.getD 1 0=a1 at i1
  generalize xs.getD 2 0=a2 at i2
  have e1':d_k fu [.int x,.int 3] c=some (.ok (sW xs) c):=e1
  unfold zd3
  refine zQn ?_
  refine zao (w:=sW xs) (ce':=c) (zaG (ws:=[.int x,.int 3]) (by trivial) rfl e1') ?_
  refine zQn ?_
  obtain⟨n,hn⟩:∃n:Nat,1+a2 % 3=n:=⟨(1+a2 % 3).toNat,by omega⟩
  have fa:zc2 (.int 1) (.int (a2 % 3))=some (nW n):=by rw[zcI rfl rfl,hn];rfl
  have n1000:n<=1000:=by omega
  refine zcH (zs:=List.range n) (en:=nW) (zeI (by trivial) n1000)
   (fun d' sl c'=>∃is x5 x6 x7,sl=[some (wB b),some (sW cs),some (wS is),some (.int x),some (sW xs),x5,x6,x7]/\c'=c/\StdOk b is)
   ⟨is,_,_,_,rfl,rfl,S⟩ ?_ ?_
  ·rintro d' k r' sl c' e' hk ⟨is,x5,x6,x7,rfl,rfl,S⟩
   have hk:=mem_range.mp hk
   obtain⟨p,hp,ep⟩:=zgB (a0+7*(k:Int)) (n:=b.length) pos
   have e2:zco (.int (a0+7*(k:Int))) (nW b.length)=some (nW p):=zi8 pos ep
   have m7:CMul 7 (k:Int):=.inl (by omega)
   obtain⟨o,ho⟩:∃o:Int,1+(a1+(k:Int)) % 2=o:=⟨_,rfl⟩
   have ho12:o=1\/o=2:=by omega
   have fo:zc2 (.int 1) (.int ((a1+(k:Int)) % 2))=some (.int o):=by rw[zcI rfl rfl,ho]
   have e3:=znG (ce:=c') fu hfu N S ho12 hp
   unfold zd2
   refine zQn ?_
   refine zao (w:=nW p) (ce':=c') (by trivial) ?_
   refine zQn ?_
   refine zao (w:=zow b is o p) (ce':=c') (zaG (ws:=[wB b,wS is,.int o,nW p]) (by trivial) rfl e3) ?_
   refine zQn ?_
   unfold zow
   split
   ·rename_i p0
    split
    ·rename_i fr
     refine zbE (p:=true) (ce':=c') (zc0 (zbC (ws:=[.tup [wS (lS b is o p),wL (lT b is o p)],.ty "tuple"]) (by trivial) znH)) (fun _=>?_) (fun q=>by cases q)
     have i3:ixW c' (.tup [wS (lS b is o p),wL (lT b is o p)]) (.int 0)=some (wS (lS b is o p)):=zkb (xs:=[wS (lS b is o p),wL (lT b is o p)]) (j:=0) rfl rfl
     refine zik (w:=wS (lS b is o p)) (ce':=c') (by trivial) ?_
     exact⟨lS b is o p,_,_,_,rfl,rfl,(S.ly N ho12 hp p0).std ho12 fr⟩
    ·refine zbE (p:=false) (ce':=c') (zc0 (zbC (ws:=[.str "breath",.ty "tuple"]) (by trivial) zjl)) (fun q=>by cases q) (fun _=>?_)
     refine zbn ?_
     exact⟨is,_,_,_,rfl,rfl,S⟩
   ·refine zbE (p:=false) (ce':=c') (zc0 (zbC (ws:=[.str "lay",.ty "tuple"]) (by trivial) zjl)) (fun q=>by cases q) (fun _=>?_)
    refine zbn ?_
    exact⟨is,_,_,_,rfl,rfl,S⟩
  ·rintro sl c' ⟨is,x5,x6,x7,rfl,rfl,S⟩
   exact⟨is,_,_,_,_,_,rfl,rfl,S⟩
 ·rintro sl c ⟨is,x3,x4,x5,x6,x7,rfl,rfl,S⟩
  refine zaw (w:=wS is) (ce':=c) (by trivial) ?_
  exact⟨_,_,zaE (by simp only[Bel];exact belInts _ _),is,rfl,rfl,S⟩
theorem zg5(fu:Nat)(h:Int):d_o fu [.int h] ce=some (.ok (.int (3-h)) ce):=by
 unfold d_o
 refine zbK [some (.int h)] rfl ?_
 refine zaw (w:=.int (3-h)) (ce':=ce) (by trivial) (zaE (by simp only[Bel]))
theorem zj3(fu:Nat){pts:List Nat}{v:Int}{w1:W}(hw:LstOf ce w1 (pts.map nW))(hl:is.length<=36)(hp:∀q∈pts,q<is.length):∃is',d_ha fu [wS is,w1,.int v] ce=some (.ok (wS is') ce)/\is'.length=is.length/\(∀q∈pts,is'.getD q 0=v)/\∀q,q∉pts->is'.getD q 0=is.getD q 0:=by
 have hz:=sl36
 suffices hs:∃w c',d_ha fu [wS is,w1,.int v] ce=some (.ok w c')/\∃is',w=wS is'/\c'=ce/\is'.length=is.length/\(∀q∈pts,is'.getD q 0=v)/\∀q,q∉pts->is'.getD q 0=is.getD q 0 by
  obtain⟨w,c',e,is',rfl,rfl,h⟩:=hs
  exact⟨is',e,h⟩
 obtain⟨s,hs,hsi,_⟩:=hw.src
 have hst:∀{c1:Ce} {l:List (Nat×C)},Own ce c1 l->s.Stays c1:=by
  intro c1 l h
  obtain⟨t,rfl⟩:=h.cut
  cases hw with
  | fr=>simp only[zii] at hs;cases hs;exact True.intro
  | cl g =>
   simp only[zii,g] at hs
   cases hs
   show(ce++t)[_]?=_
   rw[getElem?_append_left (List.getElem?_eq_some_iff.mp g).1]
   exact g
 have hs':∀{c1:Ce} {l:List (Nat×C)},Own ce c1 l->zii c1 w1=some s:=by
  intro c1 l h
  obtain⟨t,rfl⟩:=h.cut
  cases hw with
  | fr=>exact hs
  | cl g =>
   simp only[zii,g] at hs ⊢
   rw[getElem?_append_left (List.getElem?_eq_some_iff.mp g).1,g]
   exact hs
 unfold d_ha
 refine ziE [some (wS is),some w1,some (.int v),none,none] rfl ?_
 refine zao (w:=.cel ce.length) (ce':=ce++[.lst (is.map W.int)]) (zbC (zaj (by trivial) zam) (by rw[zgF (xs:=is.map W.int) rfl,zdx (by rw[length_map];omega)])) ?_
 refine zQn ?_
 have O0:=(Own.start ce).alloc (C.lst (is.map W.int))
 generalize hk:ce.length=k3 at O0 ⊢
 generalize ce++[C.lst (is.map W.int)]=c0 at O0 ⊢
 refine zim (xs:=pts) (en:=nW) (src:=s) (ce0:=c0) (zlf (zai rfl) (hs' O0)) hsi
  (fun d sl c=>∃is' x4,sl=[some (wS is),some w1,some (.int v),some (.cel k3),x4]/\Own ce c [(k3,C.lst (is'.map W.int))]/\is'.length=is.length/\(∀q∈d,is'.getD q 0=v)/\∀q,q∉d->is'.getD q 0=is.getD q 0)
  ⟨is,_,rfl,O0,rfl,by simp,fun _ _=>rfl⟩ ?_ (fun sl c h=>by obtain⟨_,_,_,O,_⟩:=h;exact hst O) ?_
 ·rintro d u r sl c e hu ⟨is',x4,rfl,O,l',z1,z2⟩
  refine⟨hst O,?_⟩
  have hul:u<is'.length:=by rw[l'];exact hp u hu
  unfold zhS
  refine zQn ?_
  refine zji (w:=.int v) (k:=k3) (ij:=u) (j:=u) (by trivial) (by trivial) (by trivial) O.g0 (ziq (by rw[length_map];exact hul)) ?_
  refine⟨is'.set u v,_,rfl,by rw[map_set];exact O.set0 _,by rw[length_set];exact l',fun q hq=>?_,fun q hq=>?_⟩
  ·rw[zcM]
   split
   ·rfl
   ·rename_i hn
    rcases mem_append.mp hq with hq|hq
    ·exact z1 q hq
    ·rw[mem_singleton] at hq;exact absurd ⟨hq.symm,hul⟩ hn
  ·rw[zcM,if_neg (fun x=>hq (by rw[<- x.1];simp))]
   exact z2 q fun x=>hq (mem_append_left _ x)
 ·rintro sl c ⟨is',x4,rfl,O,l',z1,z2⟩
  refine zaw (w:=wS is') (ce':=c) (zbC (zaj (by trivial) zam) (zpq O.g0 (by omega))) ?_
  subst hk
  exact⟨_,_,O.finC (by simp only[Bel];exact belInts _ _),is',rfl,rfl,l',z1,z2⟩
theorem zh0(fu:Nat){pts:List Nat}{v:Int}(hl:is.length<=36)(hp:∀q∈pts,q<is.length):∃is',d_ha fu [wS is,wL pts,.int v] ce=some (.ok (wS is') ce)/\is'.length=is.length/\(∀q∈pts,is'.getD q 0=v)/\∀q,q∉pts->is'.getD q 0=is.getD q 0:=zj3 fu (.fr _) hl hp
theorem zsg(hb:Bd b){vl:Nat->Int}:(ptc b vl).Nodup:=by
 unfold ptc
 refine List.Pairwise.map _ ?_ (List.Pairwise.and_mem.mp (List.Pairwise.filter _ nodup_range))
 rintro s t ⟨hs,ht,hne⟩ e
 obtain⟨s1,s2⟩:=mem_filter.mp hs
 obtain⟨t1,t2⟩:=mem_filter.mp ht
 have a:=zdk (vl:=vl) hb (mem_range.mp s1) s2
 rw[e,zdk hb (mem_range.mp t1) t2] at a
 exact hne a.symm
theorem ziK(hb:Bd b){vl:Nat->Int}{c:List Nat}(h:c∈ptc b vl):0<c.length/\c.length<=b.length/\∀p∈c,p<b.length:=by
 obtain⟨s,hs,_,rfl⟩:=(zdy hb).mp h
 exact⟨length_pos_of_mem (zb0 hb hs),zps,fun p hp=>cpt_lt hp⟩
theorem zlQ{c:List Nat}{n:Nat}(h0:0<c.length)(h:∀p∈c,p<n):c.getD 0 0<n:=by
 rw[getD_eq_getElem?_getD,getElem?_eq_getElem h0]
 exact h _ (getElem_mem h0)
theorem zox{c:List Nat}(h0:0<c.length):ixW ce (wL c) (.int 0)=some (nW (c.getD 0 0)):=zok (p:=0) h0
def zdz(b:List (List Nat))(is:List Int):List (List Nat):=(ptc b (vS is)).filter fun c=>!decide (is.getD (c.getD 0 0) 0=0)
theorem zlR(fu:Nat)(hfu:200<=fu)(B:Brd b)(hl:is.length=b.length):d_ka fu [wB b,wS is] ce=some (.ok (.lst ((zdz b is).map wL)) ce):=by
 have hz:=sl36
 have h36:=B.h36
 have e1:=zsc (ce:=ce) fu hfu (zur hl) B.bd B.sym h36
 have hzl:(ptc b (vS is)).length<=PySem.sizeLine:=by have:=zln (b:=b) (vl:=vS is);omega
 unfold d_ka
 refine zbK [some (wB b),some (wS is)] rfl ?_
 refine zaw (ztB (zs:=ptc b (vS is)) (en:=wL) (t:=fun c=>!decide (is.getD (c.getD 0 0) 0=0)) (zpn (zaG (ws:=[wB b,wS is]) (by trivial) rfl e1) (.fr _)) hzl (fun c hc=>?_)) ?_
 ·obtain⟨p0,_,p2⟩:=ziK B.bd hc
  have hh:c.getD 0 0<is.length:=by rw[hl];exact zlQ p0 p2
  have i1:=zox (ce:=ce) p0
  have i2:=zcR (ce:=ce) hh
  trivial
 ·exact zaE (by simp only[Bel];exact zgI _ _)
theorem zsh(fu:Nat)(B:Brd b)(hl:is.length=b.length){r:List Nat}(hr:∀p∈r,p<b.length):zdB (d_ga fu) [wB b,wS is,wL r] ce=some (.ok (wL (brs b is r)) ce):=zcr (zgg fu B.bd B.h36 hl (.fr _) hr) (bels_nW _ _)
theorem zlS{l:List Nat}:zid ce (wL l)=some (!decide (l=[])):=by
 show some (!(l.map nW).isEmpty)=_
 cases l<;>simp
theorem zg6(fu:Nat)(hfu:200<=fu)(B:Brd b)(hl:is.length=b.length){h:Int}(h0:h≠0):d_s fu [wB b,wS is,.int h] ce=some (.ok (.cel ce.length) (ce++[.lst (((List.range b.length).filter fun q=>(zdz b is).any fun r=>decide (is.getD (r.getD 0 0) 0=h)&&(decide (brs b is r=[])&&decide (q∈r))).map nW)])):=by
 have hz:=sl36
 have h36:=B.h36
 have e1:=zlR (ce:=ce++[C.lst []]) fu hfu B hl
 have rok:∀r∈zdz b is,0<r.length/\r.length<=b.length/\∀p∈r,p<b.length:=fun r hr=>ziK B.bd (mem_filter.mp hr).1
 have rnd:(zdz b is).Nodup:=List.Pairwise.filter _ (zsg B.bd)
 have rnd1:∀r∈zdz b is,r.Nodup:=fun r hr=>by
  obtain⟨s,hs,_,rfl⟩:=(zdy B.bd).mp (mem_filter.mp hr).1
  exact zrM
 have rmeet:∀r∈zdz b is,∀r'∈zdz b is,∀q,q∈r->q∈r'->r=r':=fun r hr r' hr' q h1 h2=>by
  obtain⟨s,hs,_,rfl⟩:=(zdy B.bd).mp (mem_filter.mp hr).1
  obtain⟨t,ht,_,rfl⟩:=(zdy B.bd).mp (mem_filter.mp hr').1
  exact znE B.bd B.sym hs ht h1 h2
 unfold d_s
 refine zbK [some (wB b),some (wS is),some (.int h),none,none] rfl ?_
 refine zao (zca zam (zero_le _)) ?_
 refine zQn ?_
 have O0:=(Own.start ce).alloc (C.lst (([]:List Nat).map nW))
 refine(?_:Run _ _ (ce++[C.lst []]) _)
 generalize hk:ce.length=k3 at O0 ⊢
 generalize hc0:ce++[C.lst []]=c0 at e1 ⊢
 have O0:Own ce c0 [(k3,C.lst (([]:List Nat).map nW))]:=by rw[<- hc0];exact O0
 generalize zdz b is=R at *
 refine zbj (zs:=R) (en:=wL) (c1:=c0) (zfm (by trivial))
  (fun d sl c=>∃F x4,sl=[some (wB b),some (wS is),some (.int h),some (.cel k3),x4]/\Own ce c [(k3,C.lst (F.map nW))]/\F.Nodup/\(∀x∈F,x<b.length)/\∀x,x∈F↔∃r∈d,is.getD (r.getD 0 0) 0=h/\brs b is r=[]/\x∈r)
  ⟨[],_,rfl,O0,by simp,by simp,by simp⟩ ?_ ?_
 ·rintro d r rest sl c e hr ⟨F,x4,rfl,O,nd,lt,mem⟩
  obtain⟨r0,r1,r2⟩:=rok r hr
  have hh:r.getD 0 0<is.length:=by rw[hl];exact zlQ r0 r2
  have i1:=zox (ce:=c) r0
  have i2:=zcR (ce:=c) hh
  have e2:=zsh (ce:=c) fu B hl r2
  have t2:=zlS (ce:=c) (l:=brs b is r)
  have hdr:∀r'∈d,r'≠r:=fun r' hr' e'=>by
   subst e'
   rw[<- e] at rnd
   exact(nodup_append.mp rnd).2.2 r' hr' r' (by simp) rfl
  have hdR:∀r'∈d,r'∈R:=fun r' hr'=>by rw[<- e];exact mem_append_left _ hr'
  unfold zdV
  refine zQn ?_
  refine zbE (p:=decide (is.getD (r.getD 0 0) 0=h)&&!(!decide (brs b is r=[]))) (ce':=c) (zin (by trivial) (fun _=>zbJ (zhL (zaG (ws:=[wB b,wS is,wL r]) (by trivial) rfl e2) t2))) (fun q=>?_) (fun q=>?_)
  ·simp only[not_not,and_eq_true,decide_eq_true_eq] at q
   have nd2:(F++r).Nodup:=by
    rw[nodup_append]
    refine⟨nd,?_,fun a ha b' hb' e'=>?_⟩
    ·exact rnd1 r hr
    ·subst e'
     obtain⟨r',hr',_,_,h3⟩:=(mem a).mp ha
     exact hdr r' hr' (rmeet r' (hdR r' hr') r hr a h3 hb')
   have lt2:∀x∈F++r,x<b.length:=fun x hx=>by
    rcases mem_append.mp hx with hx|hx
    ·exact lt x hx
    ·exact r2 x hx
   have hl2:=zaF nd2 lt2
   rw[length_append] at hl2
   refine zeC (w:=.non) (ce':=c.set k3 (.lst (F.map nW++r.map nW))) (zfk (ws:=[wL r]) (by trivial) (zcj O.g0) (by trivial) (zpr O.g0 (ys:=r.map nW) rfl (by rw[length_map,length_map];omega))) ?_
   refine⟨F++r,_,rfl,by rw[map_append];exact O.set0 _,nd2,lt2,fun x=>?_⟩
   rw[mem_append,mem]
   constructor
   ·rintro(⟨r',hr',h⟩|hx)
    ·exact⟨r',mem_append_left _ hr',h⟩
    ·exact⟨r,by simp,q.1,q.2,hx⟩
   ·rintro⟨r',hr',h⟩
    rcases mem_append.mp hr' with hr'|hr'
    ·exact .inl ⟨r',hr',h⟩
    ·rw[mem_singleton] at hr';subst hr';exact .inr h.2.2
  ·refine zbn ?_
   refine⟨F,_,rfl,O,nd,lt,fun x=>?_⟩
   rw[mem]
   constructor
   ·rintro⟨r',hr',h⟩;exact⟨r',mem_append_left _ hr',h⟩
   ·rintro⟨r',hr',h⟩
    rcases mem_append.mp hr' with hr'|hr'
    ·exact⟨r',hr',h⟩
    ·rw[mem_singleton] at hr'
     subst hr'
     rw[decide_eq_true h.1,decide_eq_true h.2.1] at q
     cases q
 ·rintro sl c ⟨F,x4,rfl,O,nd,lt,mem⟩
  have hl':=zaF nd lt
  have es:zcZ F=(List.range b.length).filter fun q=>R.any fun r=>decide (is.getD (r.getD 0 0) 0=h)&&(decide (brs b is r=[])&&decide (q∈r)):=by
   rw[zdP nd lt]
   apply filter_congr
   intro x _
   rw[Bool.eq_iff_iff,any_eq_true,decide_eq_true_eq,mem]
   simp only[and_eq_true,decide_eq_true_eq]
  rw[<- es]
  refine zaw (zbC (zaj (by trivial) zam) ((zm7 (mk:=zgs) O.g0 (by omega)).trans (zdx (by rw[length_map,zdj];omega)))) ?_
  subst hk
  exact(O.alloc _).finO (by simp only[zez];exact bels_nW _ _)
end
section
variable {b:List (List Nat)} {is:List Int} {o:Int} {p:Nat} {ce:Ce}
theorem znJ(fu:Nat)(hfu:200<=fu)(B:Brd b)(hl:is.length=b.length)(hp:p<b.length):zdB (d_ia fu) [wB b,wS is,nW p] ce=some (.ok (wL (cpt b (vS is) p)) ce):=by
 refine zcr ?_ (bels_nW _ _)
 have e1:=zfD (ce:=ce) fu hfu (zur hl) B.bd B.h36 hp
 unfold d_ia
 refine zbK [some (wB b),some (wS is),some (nW p)] rfl ?_
 refine zaw (zaG (ws:=[wB b,wS is,nW p]) (by trivial) rfl e1) ?_
 exact((Own.start ce).alloc _).finO (by simp only[zez];exact bels_nW _ _)
theorem LyA.rows(A:LyA b is o p){r:List Nat}:(r∈zdz b (is.set p o)/\(is.set p o).getD (r.getD 0 0) 0=3-o)↔r∈lpt b (thr (is.set p o) [3-o]):=by
 have hT:∀{s},s∈thr (is.set p o) [3-o]↔s<b.length/\(is.set p o).getD s 0=3-o:=fun {s}=>by rw[thr_mem,A.l1]
 have hc:∀{s},s<b.length->(is.set p o).getD s 0=3-o->cpt b (vT (thr (is.set p o) [3-o])) s=cpt b (vS (is.set p o)) s:=fun {s} hs es=>by
  have:=ziJ (is:=is.set p o) A.bd A.l1 hs
  rwa [es] at this
 unfold zdz
 rw[mem_filter,zdy A.bd]
 constructor
 ·rintro⟨⟨⟨s,hs,hm,rfl⟩,_⟩,q⟩
  rw[zdk A.bd hs hm] at q
  have:=zlL (T:=thr (is.set p o) [3-o]) A.bd A.sym (fun x hx=>(hT.mp hx).1) (hT.mpr ⟨hs,q⟩)
  rwa [hc hs q] at this
 ·intro h
  obtain⟨s,hs,rfl⟩:=zlM h
  obtain⟨q1,q2⟩:=hT.mp hs
  rw[hc q1 q2]
  obtain⟨m,h1,h2,h3⟩:=zfp (vl:=vS (is.set p o)) A.bd A.sym q1
  have hm:=cpt_lt h1
  have em:(is.set p o).getD m 0=3-o:=(cpt_val A.bd q1 h1).trans q2
  rw[<- h3,zdk A.bd hm h2,em]
  have h0:=A.H.h0
  exact⟨⟨⟨m,hm,h2,rfl⟩,by simp[h0]⟩,rfl⟩
theorem LyA.blist(A:LyA b is o p):((List.range b.length).filter fun q=>(zdz b (is.set p o)).any fun r=>decide ((is.set p o).getD (r.getD 0 0) 0=3-o)&&(decide (brs b (is.set p o) r=[])&&decide (q∈r)))=lT b is o p:=by
 unfold lT
 apply filter_congr
 intro q _
 rw[Bool.eq_iff_iff,any_eq_true,any_eq_true]
 simp only[and_eq_true,decide_eq_true_eq]
 constructor
 ·rintro⟨r,h1,h2,h3,h4⟩
  exact⟨r,mem_filter.mpr ⟨A.rows.mp ⟨h1,h2⟩,decide_eq_true h3⟩,h4⟩
 ·rintro⟨r,h1,h4⟩
  obtain⟨h1,h3⟩:=mem_filter.mp h1
  obtain⟨h1,h2⟩:=A.rows.mpr h1
  exact⟨r,h1,h2,of_decide_eq_true h3,h4⟩
theorem zpW{sl:Sl}{i p:Nat}(h:sl[i]?=some (some (nW p)))(hp:p<1000):[i].all (sml sl)=true:=by
 simp only[all_cons,all_nil,Bool.and_true,sml,h,nW]
 exact decide_eq_true (by simpa using hp)
theorem zjm(fu:Nat)(hfu:200<=fu)(N:BrdN b)(S:StdOk b is)(ho:o=1\/o=2)(hp:p<b.length)(p0:is.getD p 0=0){Q:O->Prop}(h:Run (zap (dIf (zcE (zkM (zaJ 3 (zdB (d_ga fu)) (zac (zae 0) (zac (zae 6) (zac (zaJ 3 (zdB (d_ia fu)) (zac (zae 0) (zac (zae 6) (zac (zae 3) zan)))) zan)))))) (zbG "NoBreath" [3]) zaZ) (zbt (zf1 (zac (zae 6) (zac (zae 5) zan)))))
   [some (wB b),some (wS is),some (.int o),some (nW p),some (wS (is.set p o)),some (wL (lT b is o p)),some (wS (lS b is o p))] ce Q) :
  Run (zap (dIf (dB (zaO (eqW true) (zaO ixW (zae 1) (zae 3)) (dC (.int 0)))) (zbG "NoLay" [3]) zaZ)
   (zap (za6 4 (zaJ 3 (d_ha fu) (zac (zae 1) (zac (zh2 (zac (zae 3) zan)) (zac (zae 2) zan)))))
   (zap (za6 5 (zaJ 3 (zdB (d_s fu)) (zac (zae 0) (zac (zae 4) (zac (zaJ 1 (d_o fu) (zac (zae 2) zan)) zan)))))
   (zap (za6 6 (zaJ 3 (d_ha fu) (zac (zae 4) (zac (zae 5) (zac (dC (.int 0)) zan)))))
   (zap (dIf (zcE (zkM (zaJ 3 (zdB (d_ga fu)) (zac (zae 0) (zac (zae 6) (zac (zaJ 3 (zdB (d_ia fu)) (zac (zae 0) (zac (zae 6) (zac (zae 3) zan)))) zan)))))) (zbG "NoBreath" [3]) zaZ)
   (zbt (zf1 (zac (zae 6) (zac (zae 5) zan)))))))))
   [some (wB b),some (wS is),some (.int o),some (nW p),none,none,none] ce Q:=by
 have hz:=sl36
 have A:=S.ly N ho hp p0
 have B:=N.B
 have h36:=B.h36
 have hl:=S.hl
 have jp:=zcR (ce:=ce) (is:=is) (p:=p) (by omega)
 refine zaP (p:=!decide (is.getD p 0=0)) (ce':=ce) (by trivial) (fun q=>by rw[decide_eq_true p0] at q;cases q) (fun _=>?_)
 refine zaH ?_
 obtain⟨is1,e1,l1,a1,b1⟩:=zh0 (ce:=ce) (is:=is) fu (pts:=[p]) (v:=o) (by omega) (fun q hq=>by rw[mem_singleton] at hq;subst hq;omega)
 have ei1:is1=is.set p o:=zg4 (by rw[l1,length_set]) fun q _=>by
  rw[A.s1]
  by_cases e:q=p
  ·rw[if_pos e,e];exact a1 p (by simp)
  ·rw[if_neg e];exact b1 q (by simpa using e)
 subst ei1
 have z1:1<=PySem.sizeLine:=by decide
 refine zao (w:=wS (is.set p o)) (ce':=ce) (zaG (ws:=[wS is,wL [p],.int o]) (zaj (by trivial) (zaj (zdO (ws:=[nW p]) (by trivial) z1) (by trivial))) rfl e1) ?_
 refine zQn ?_
 have e2:=zg6 (ce:=ce) (is:=is.set p o) fu hfu B A.l1 (h:=3-o) A.H.h0
 rw[A.blist] at e2
 have e2f:=zcr e2 (bels_nW _ _)
 have e3:=zg5 (ce:=ce) fu o
 refine zao (w:=wL (lT b is o p)) (ce':=ce) (zaG (ws:=[wB b,wS (is.set p o),.int (3-o)]) (by trivial) rfl e2f) ?_
 refine zQn ?_
 obtain⟨is2,e4,l2,a2,b2⟩:=zh0 (ce:=ce) (is:=is.set p o) fu (pts:=lT b is o p) (v:=0) (by rw[A.l1];omega) (fun q hq=>by rw[A.l1];exact(A.tkh hq).1)
 have ei2:is2=lS b is o p:=zg4 (by rw[l2,length_set,zfE]) fun q hq=>by
  rw[l2,A.l1] at hq
  rw[A.get hq]
  by_cases e:q=p
  ·rw[if_pos e,b2 q (fun h=>(A.tkh h).2.2 e),A.s1,if_pos e]
  ·rw[if_neg e]
   by_cases ht:q∈lT b is o p
   ·rw[if_pos ht];exact a2 q ht
   ·rw[if_neg ht,b2 q ht,A.s1,if_neg e]
 subst ei2
 refine zao (w:=wS (lS b is o p)) (ce':=ce) (zaG (ws:=[wS (is.set p o),wL (lT b is o p),.int 0]) (by trivial) rfl e4) ?_
 refine zQn ?_
 exact h
theorem zlT(fu:Nat)(hfu:200<=fu)(N:BrdN b)(S:StdOk b is)(hp:p<b.length){x1 x2 x4 x5:Option W} :
  zcE (zkM (zaJ 3 (zdB (d_ga fu)) (zac (zae 0) (zac (zae 6) (zac (zaJ 3 (zdB (d_ia fu)) (zac (zae 0) (zac (zae 6) (zac (zae 3) zan)))) zan))))) [some (wB b),x1,x2,some (nW p),x4,x5,some (wS (lS b is o p))] ce=some (.ok (!(!decide (brs b (lS b is o p) (cpt b (vS (lS b is o p)) p)=[]))) ce):=by
 have hl:(lS b is o p).length=b.length:=by rw[zfE];exact S.hl
 have e1:=znJ (ce:=ce) fu hfu N.B hl hp
 have e2:=zsh (ce:=ce) (is:=lS b is o p) fu N.B hl (r:=cpt b (vS (lS b is o p)) p) (fun x hx=>cpt_lt hx)
 exact zbJ (zhL (zaG (ws:=[wB b,wS (lS b is o p),wL (cpt b (vS (lS b is o p)) p)]) (zaj (by trivial) (zaj (by trivial) (zaj (zaG (ws:=[wB b,wS (lS b is o p),nW p]) (by trivial) rfl e1) zam))) rfl e2) zlS)
theorem zlU(fu:Nat)(S:StdOk b is)(h36:b.length<=36)(hp:p<b.length)(p0:¬is.getD p 0=0):d_ja fu [wB b,wS is,.int o,nW p] ce=some (.ex ⟨"NoLay",none⟩ ce):=by
 have hl:=S.hl
 have jp:=zcR (ce:=ce) (is:=is) (p:=p) (by omega)
 unfold d_ja
 refine zdm [some (wB b),some (wS is),some (.int o),some (nW p),none,none,none] rfl ?_
 refine zaP (p:=!decide (is.getD p 0=0)) (ce':=ce) (by trivial) (fun _=>zda (zpW (p:=p) rfl (by omega)) ⟨rfl,[],by simp⟩) (fun q=>by rw[decide_eq_false p0] at q;cases q)
theorem zlV(fu:Nat)(hfu:200<=fu)(N:BrdN b)(S:StdOk b is)(ho:o=1\/o=2)(hp:p<b.length)(p0:is.getD p 0=0)(nf:¬Frb b is o p):d_ja fu [wB b,wS is,.int o,nW p] ce=some (.ex ⟨"NoBreath",none⟩ ce):=by
 have h36:=N.B.h36
 have nf':brs b (lS b is o p) (cpt b (vS (lS b is o p)) p)=[]:=Classical.byContradiction nf
 have eb:=zlT (ce:=ce) (o:=o) fu hfu N S hp (x1:=some (wS is)) (x2:=some (.int o)) (x4:=some (wS (is.set p o))) (x5:=some (wL (lT b is o p)))
 rw[decide_eq_true nf'] at eb
 unfold d_ja
 refine zdm [some (wB b),some (wS is),some (.int o),some (nW p),none,none,none] rfl ?_
 refine zjm fu hfu N S ho hp p0 ?_
 exact zaP (p:=!(!true)) (ce':=ce) eb (fun _=>zda (zpW (p:=p) rfl (by omega)) ⟨rfl,[],by simp⟩) (fun q=>by cases q)
end
section
variable {b:List (List Nat)} {is:List Int} {o:Int} {p:Nat} {ce:Ce}
theorem ziL(fu:Nat)(hfu:200<=fu)(N:BrdN b)(S:StdOk b is)(ho:o=1\/o=2)(hp:p<b.length)(p0:is.getD p 0=0)(fr:Frb b is o p):d_ja fu [wB b,wS is,.int o,nW p] ce=some (.ok (.tup [wS (lS b is o p),wL (lT b is o p)]) ce):=by
 have z2:2<=PySem.sizeLine:=by decide
 have eb:=zlT (ce:=ce) (o:=o) fu hfu N S hp (x1:=some (wS is)) (x2:=some (.int o)) (x4:=some (wS (is.set p o))) (x5:=some (wL (lT b is o p)))
 rw[decide_eq_false fr] at eb
 unfold d_ja
 refine zbK [some (wB b),some (wS is),some (.int o),some (nW p),none,none,none] rfl ?_
 refine zjm fu hfu N S ho hp p0 ?_
 refine zaP (p:=!(!false)) (ce':=ce) eb (fun q=>by cases q) (fun _=>?_)
 refine zaH ?_
 refine zaw (zeD (ws:=[wS (lS b is o p),wL (lT b is o p)]) (by trivial) z2) ?_
 exact zaE (by simp only[Bel,zcf];exact⟨belInts _ _,bels_nW _ _,trivial⟩)
end
theorem zpX{n:Nat}{ls:List (Nat×Nat)}(L:LsOk n ls)(i:Nat):i∉(ziG n ls).getD i []:=by
 rw[zeZ]
 split
 ·intro h
  rcases(zg0 L).mp ((zeW _ _).mp h) with h|h<;>(have:=(L.lt _ h).1;simp only at this;omega)
 ·simp
inductive Pl:W->Prop
 | non:Pl .non
 | bl (b:Bool):Pl (.bl b)
 | int (i:Int):Pl (.int i)
 | str (x:PySem.Str):Pl (.str x)
 | lst (xs:List W):Pl (.lst xs)
 | tup (xs:List W):Pl (.tup xs)
def tst:W->Bool
 | .int i=>decide (0<=i)&&decide (i<=2)
 | _=>false
def isI:W->Bool
 | .int _=>true
 | _=>false
section
variable {ce:Ce} {sl:Sl} {c1:Ce} {a b c:Sl->M W}
theorem znK{i j k:Int}(ha:a sl ce=some (.ok (.int i) ce))(hb:b sl ce=some (.ok (.int j) ce))(hc:c sl ce=some (.ok (.int k) ce)):zhx (fun _=>fLe) (fun _=>fLe) a b c sl ce=some (.ok (.bl (decide (i<=j)&&decide (j<=k))) ce):=by
 have h1:fLe (.int i) (.int j)=some (.bl (decide (i<=j))):=rfl
 have h2:fLe (.int j) (.int k)=some (.bl (decide (j<=k))):=rfl
 simp only[zhx,bnd,ha,hb,look,h1,map_some]
 cases decide (i<=j) with
 | true=>simp only[bnd,look,hc,h2,map_some,Bool.true_and]
 | false=>simp only[ret,Bool.false_and]
theorem znL(fu:Nat){w:W}(h:Pl w):d_aa fu [w] ce=some (.ok (.bl (isI w)) ce):=by
 unfold d_aa
 refine zbK [some w] rfl ?_
 refine zaw (w:=.bl (isI w)) (ce':=ce) ?_ (zaE (by simp only[Bel]))
 cases h<;>first|rfl|(rename_i b;cases b<;>rfl)
theorem zlW{xs:List W}:zcq [.tup xs] ce=some (.ok (nW xs.length) ce):=by simp[zcq];rfl
theorem znM(fu:Nat){bs xs:List W}(hx:∀w∈xs,Pl w)(hl:xs.length<=100):d_z fu [.tup bs,.tup xs] ce=some (.ok (.bl (decide (xs.length=bs.length)&&xs.all tst)) ce):=by
 have z:(100:Nat)<PySem.sizeLine:=by decide
 have i0:zmU [.tup xs,.ty "tuple"] ce=some (.ok (.bl true) ce):=rfl
 have l1:=zlW (ce:=ce) (xs:=xs)
 have l2:=zlW (ce:=ce) (xs:=bs)
 have en:eqW true ce (nW xs.length) (nW bs.length)=some (.bl (!decide (xs.length=bs.length))):=by
  have:=zun (ce:=ce) (i:=(xs.length:Int)) (j:=(bs.length:Int))
  rw[show decide ((xs.length:Int)=(bs.length:Int))=decide (xs.length=bs.length) by rw[Bool.eq_iff_iff,decide_eq_true_eq,decide_eq_true_eq];omega] at this
  exact this
 unfold d_z
 refine zbK [some (.tup bs),some (.tup xs)] rfl ?_
 refine zaP (p:=!true||!decide (xs.length=bs.length)) (ce':=ce) (by trivial) (fun q=>?_) (fun q=>?_)
 ·have q':¬xs.length=bs.length:=by simpa using q
  refine zc7 ?_
  trivial
  rw[decide_eq_false q']
  exact zen (zaE (by simp only[Bel]))
 ·have q':xs.length=bs.length:=by simpa using q
  refine zaH ?_
  refine zaw (zbC (zaj (zrL (zs:=xs) (en:=id) (f:=tst) (by rw[map_id];exact(zm8 (by trivial)).is) (by omega) (fun w hw=>?_)) zam) zlk) ?_
  ·have ew:=znL (ce:=ce) fu (hx w hw)
   have hc:zaJ 1 (d_aa fu) (zac (zae 0) zan) (some (id w)::zdH [] [some (.tup bs),some (.tup xs)]) ce=some (.ok (.bl (isI w)) ce):=zaG (ws:=[w]) (by trivial) rfl ew
   cases hx w hw with
   | int i =>
    exact zfq (zrP hc (znK zbH (zai rfl) zbH))
   | _=>simp only[zep,noX,zqc,bnd,hc,isI,ret,tst]
  ·rw[decide_eq_true q',Bool.true_and]
   refine zen ?_
   have e:(xs.map tst).all id=xs.all tst:=by rw[all_map];rfl
   rw[e]
   exact zaE (by simp only[Bel])
end
def zsi(b:List (List Nat))(is:List Int):Prop:=∀p,p<b.length->is.getD p 0≠0->∃q∈cpt b (vS is) p,∃y∈b.getD q [],is.getD y 0=0
section
variable {b:List (List Nat)} {is:List Int} {ce:Ce}
open Classical in
theorem ziM(fu:Nat)(hfu:200<=fu)(B:Brd b)(hl:is.length=b.length):d_ba fu [wB b,wS is] ce=some (.ok (.bl (decide (zsi b is))) ce):=by
 have hz:=sl36
 have hb:=B.bd
 have sym:=B.sym
 have h36:=B.h36
 have e1:=zlR (ce:=ce) fu hfu B hl
 have hrl:(zdz b is).length<=b.length:=le_trans (length_filter_le _ _) zln
 unfold d_ba
 refine zbK [some (wB b),some (wS is)] rfl ?_
 refine zaw (zbC (zaj (zrL (zs:=zdz b is) (en:=wL) (f:=fun c=>decide ((0:Int)<((brs b is c).length:Int))) (by trivial) (by omega) (fun c hc=>?_)) zam) zlk) ?_
 ·have hc':=(mem_filter.mp hc).1
  obtain⟨h0,_,h2⟩:=ziK hb hc'
  have e2:=zcr (zgg (ce:=ce) fu hb h36 hl (LstOf.fr _) h2) (bels_nW _ _)
  trivial
 ·refine(?_:finC ce ce (W.bl _)=_)
  rw[zaE (by simp only[Bel])]
  have:((zdz b is).map fun c=>decide ((0:Int)<((brs b is c).length:Int))).all id=decide (zsi b is):=by
   rw[Bool.eq_iff_iff,decide_eq_true_eq,all_eq_true]
   simp only[mem_map,forall_exists_index,and_imp,forall_apply_eq_imp_iff₂,id,decide_eq_true_eq]
   have br:∀c:List Nat,(0:Int)<((brs b is c).length:Int)↔∃q∈c,∃y∈b.getD q [],is.getD y 0=0:=by
    intro c
    have:(0:Int)<((brs b is c).length:Int)↔0<(brs b is c).length:=by omega
    rw[this,length_pos_iff_exists_mem]
    unfold brs zbR
    simp only[mem_filter,mem_range,any_eq_true,decide_eq_true_eq]
    constructor
    ·rintro⟨y,⟨_,q,hq,hy⟩,h⟩;exact⟨q,hq,y,hy,h⟩
    ·rintro⟨q,hq,y,hy,h⟩;exact⟨y,⟨hb.get hy,q,hq,hy⟩,h⟩
   simp only[br]
   constructor
   ·intro h p hp hv
    obtain⟨m,h1,h2,h3⟩:=zfp (vl:=vS is) hb sym hp
    have hm:=cpt_lt h1
    have hmem:cpt b (vS is) m∈zdz b is:=by
     refine mem_filter.mpr ⟨(zdy hb).mpr ⟨m,hm,h2,rfl⟩,?_⟩
     rw[zdk hb hm h2]
     have:=cpt_val hb hp h1
     simp only[vS] at this
     simp[-getD_eq_getElem?_getD,this,hv]
    have:=h _ hmem
    rwa [h3] at this
   ·intro h c hc
    obtain⟨hc1,hc2⟩:=mem_filter.mp hc
    obtain⟨m,hm,h2,rfl⟩:=(zdy hb).mp hc1
    rw[zdk hb hm h2] at hc2
    exact h m hm (by simpa[-getD_eq_getElem?_getD] using hc2)
  rw[this]
end
theorem zpY(l:List Int):∀x∈l.map W.int,Pl x:=fun x hx=>by
 obtain⟨i,_,rfl⟩:=mem_map.mp hx
 exact .int i
section
variable {b:List (List Nat)} {is:List Int} {ce:Ce}
theorem zsj(fu:Nat){is:List Int}(hl:is.length=b.length)(h36:b.length<=36)(v:∀q,q<b.length->0<=is.getD q 0/\is.getD q 0<=2)(c:Ce):d_z fu [wB b,wS is] c=some (.ok (.bl true) c):=by
 have e:=znM (ce:=c) fu (bs:=b.map wT) (xs:=is.map W.int) (zpY is) (by rw[length_map];omega)
 have ha:(is.map W.int).all tst=true:=by
  rw[all_eq_true]
  intro w hw
  obtain⟨i,hi,rfl⟩:=mem_map.mp hw
  obtain⟨j,hj,e⟩:=getElem_of_mem hi
  have:=v j (by omega)
  rw[getD_eq_getElem?_getD,getElem?_eq_getElem hj,e] at this
  simp only[getD_some] at this
  simp[tst,this]
 rw[length_map,length_map,ha,decide_eq_true hl] at e
 exact e
open Classical in
theorem zpZ(fu:Nat)(hfu:200<=fu)(N:BrdN b)(S:StdOk b is)(c:Ce):d_ba fu [wB b,wS is] c=some (.ok (.bl true) c):=by
 rw[ziM fu hfu N.B S.hl,decide_eq_true]
 intro p hp hv
 have v:=S.v p hp
 have k:∀h:Int,zmg b is h->is.getD p 0=h->∃q∈cpt b (vS is) p,∃y∈b.getD q [],is.getD y 0=0:=fun h H e=>by
  obtain⟨x,y,r,hy,e0⟩:=H p hp e
  exact⟨x,(zbL N.B.bd hp).mpr r,y,hy,e0⟩
 have:is.getD p 0=1\/is.getD p 0=2:=by omega
 rcases this with h|h
 ·exact k 1 S.s1 h
 ·exact k 2 S.s2 h
end
structure Gm where
 past:List (List Int)
 done:List (Option Nat)
 tk:List Nat
def oW:Option Nat->W
 | none=>.non
 | some p=>nW p
def rl(s:Bool):PySem.Str:=if s then "stones" else "turns"
def gmF(b:List (List Nat))(s:Bool)(h:Int)(k:Nat):List (PySem.Str×W):=[("joined",wB b),("barring",.str (rl s)),("first",.int h),("past",.cel (k+1)),("done",.cel (k+2)),("takings",.cel (k+3))]
structure GC (c:Ce) (k:Nat) (b:List (List Nat)) (s:Bool) (h:Int) (g:Gm):Prop where
 i:c[k]?=some (.ins "Game" (gmF b s h k))
 p:c[k+1]?=some (.lst (g.past.map wS))
 d:c[k+2]?=some (.lst (g.done.map oW))
 t:c[k+3]?=some (.lst (g.tk.map nW))
def zeN(c:Ce)(k:Nat)(g:Gm):Ce:=((c.set (k+1) (.lst (g.past.map wS))).set (k+2) (.lst (g.done.map oW))).set (k+3) (.lst (g.tk.map nW))
theorem zcA{c:Ce}{k:Nat}{o:C}(h:c[k]?=some o):k<c.length:=(List.getElem?_eq_some_iff.mp h).1
section
variable {c l:Ce} {k k':Nat} {b:List (List Nat)} {s s':Bool} {h:Int} {g g':Gm}
theorem gput_len:(zeN c k g).length=c.length:=by simp[zeN]
theorem zlX{j:Nat}(h1:j≠k+1)(h2:j≠k+2)(h3:j≠k+3):(zeN c k g)[j]?=c[j]?:=by
 unfold zeN
 rw[getElem?_set_ne (Ne.symm h3),getElem?_set_ne (Ne.symm h2),getElem?_set_ne (Ne.symm h1)]
theorem GC.put(G:GC c k b s h g)(g':Gm):GC (zeN c k g') k b s h g':=by
 have l1:=zcA G.p
 have l2:=zcA G.d
 have l3:=zcA G.t
 refine⟨(zlX (by omega) (by omega) (by omega)).trans G.i,?_,?_,?_⟩
 ·unfold zeN
  rw[getElem?_set_ne (by omega),getElem?_set_ne (by omega),getElem?_set_self l1]
 ·unfold zeN
  rw[getElem?_set_ne (by omega),getElem?_set_self (by simp;exact l2)]
 ·unfold zeN
  rw[getElem?_set_self (by simp;exact l3)]
theorem GC.app(G:GC c k b s h g)(l:Ce):GC (c++l) k b s h g :=
 ⟨by rw[getElem?_append_left (zcA G.i)];exact G.i,by rw[getElem?_append_left (zcA G.p)];exact G.p,by rw[getElem?_append_left (zcA G.d)];exact G.d,by rw[getElem?_append_left (zcA G.t)];exact G.t⟩
theorem zea(n:Nat):∀l:List (List Int),zcf n (l.map wS)
 | []=>by simp only[map_nil,zcf]
 | a::r=>by simp only[map_cons,zcf,Bel];exact⟨belInts _ _,zea n r⟩
theorem zb1(n:Nat):∀l:List (Option Nat),zcf n (l.map oW)
 | []=>by simp only[map_nil,zcf]
 | none::r=>by simp only[map_cons,zcf,oW,Bel];exact⟨trivial,zb1 n r⟩
 | some a::r=>by simp only[map_cons,zcf,oW,nW,Bel];exact⟨trivial,zb1 n r⟩
theorem ziN{c c':Ce}{k:Nat}{x:C}(h:zdw c c')(hx:zez c.length x):zdw c (c'.set k x):=by
 refine⟨by rw[length_set];exact h.1,fun j y hj e=>?_⟩
 by_cases hk:k=j
 ·subst hk
  have hl:k<c'.length:=by have:=h.1;omega
  rw[getElem?_set_self hl] at e
  cases e
  exact .inr hx
 ·rw[getElem?_set_ne hk] at e
  exact h.2 j y hj e
theorem znN(c:Ce)(k:Nat)(g:Gm):zdw c (zeN c k g) :=
 ziN (ziN (ziN (by have:=cutOk_app c [];rwa [append_nil] at this) (by simp only[zez];exact zea _ _)) (by simp only[zez];exact zb1 _ _)) (by simp only[zez];exact bels_nW _ _)
theorem cut_app{c c':Ce}(h:zdw c c')(l:Ce):zdw c (c'++l):=by
 refine⟨by rw[length_append];have:=h.1;omega,fun j y hj e=>h.2 j y hj ?_⟩
 rwa [getElem?_append_left (by have:=h.1;omega)] at e
theorem zjn{w:W}(l:Ce)(hb:Bel c.length w):finC c (zeN c k g++l) w=some (.ok w (zeN c k g)):=by
 unfold finC
 rw[if_pos ⟨cut_app (znN c k g) l,hb⟩,take_append_of_le_length (by rw[gput_len];exact le_refl _),take_of_length_le (by rw[gput_len];exact le_refl _)]
def cur(g:Gm):List Int:=g.past.getD (g.past.length-1) []
def hnd(h:Int)(m:Nat):Int:=if m % 2=0 then h else 3-h
def passed(g:Gm):Bool:=decide (g.done.drop (g.done.length-2)=[none,none])
def ended(g:Gm):Bool:=passed g||decide (300<=g.done.length)
def zhc(g:Gm):W:=if passed g=true then .str "passed" else if 300<=g.done.length then .str "long" else .non
def bar(s:Bool)(h:Int)(n m:Nat):Bool:=s||decide (hnd h m=3-hnd h n)
def zg7(s:Bool)(h:Int)(g:Gm)(is:List Int):Option Nat:=(List.range g.past.length).find? fun m=>decide (g.past.getD m []=is)&&bar s h g.done.length m
def push(g:Gm)(is:List Int)(w:Option Nat)(n:Nat):Gm:=⟨g.past++[is],g.done++[w],g.tk++[n]⟩
structure Gok (b:List (List Nat)) (g:Gm):Prop where
 n1:g.past.length=g.done.length+1
 nt:g.tk.length=g.done.length
 st:∀i,i<g.past.length->StdOk b (g.past.getD i [])
 lim:g.done.length<=300
theorem zj4{h:Int}(h12:h=1\/h=2)(m:Nat):hnd h m=1\/hnd h m=2:=by unfold hnd;split<;>omega
theorem ziO{ce:Ce}{x:W}{xs:List W}(hs:zeR ce x=some xs)(h0:0<xs.length):ixW ce x (.int (-1))=xs[xs.length-1]?:=by
 simp only[ixW,hs,L2.atI]
 have:ixN xs.length (-1)=some (xs.length-1):=by
  unfold ixN
  simp only[show ¬(0:Int)<=-1 by omega,if_false]
  split
  ·congr 1;omega
  ·omega
 rw[this];rfl
theorem znO(G:GC c k b s h g){m:Nat}(hm:m<g.past.length):ixW c (.cel (k+1)) (nW m)=some (wS (g.past.getD m [])):=by
 rw[zgA (zck G.p),getElem?_map,getD_eq_getElem?_getD,getElem?_eq_getElem hm];rfl
theorem zlY(G:GC c k b s h g):zcq [.cel (k+1)] c=some (.ok (nW g.past.length) c):=by simp only[zcq,zck G.p,length_map];rfl
theorem zfF(G:GC c k b s h g):zcq [.cel (k+2)] c=some (.ok (nW g.done.length) c):=by simp only[zcq,zck G.d,length_map];rfl
theorem zdf(fu:Nat)(G:GC c k b s h g)(O:Gok b g):d_n fu [.cel k] c=some (.ok (wS (cur g)) c):=by
 have hn:=O.n1
 have e:ixW c (.cel (k+1)) (.int (-1))=some (wS (cur g)):=by
  rw[ziO (zck G.p) (by rw[length_map];omega),length_map,getElem?_map,cur,getD_eq_getElem?_getD,getElem?_eq_getElem (by omega)];rfl
 unfold d_n
 refine zbK [some (.cel k)] rfl ?_
 exact zaw (w:=wS (cur g)) (ce':=c) (zaR (zbb (zai rfl) G.i rfl) (zcW zbH rfl) e) (zaE (by simp only[Bel];exact belInts _ _))
theorem ztO{l:List (Option Nat)}(hl:l.length<=2):eqW false c (.lst (l.map oW)) (.lst [.non,.non])=some (.bl (decide (l=[none,none]))):=by
 match l,hl with
 | [],_=>rfl
 | [none],_=>rfl
 | [some x],_=>rfl
 | [none,none],_=>rfl
 | [none,some y],_=>rfl
 | [some x,none],_=>rfl
 | [some x,some y],_=>rfl
theorem zcB(fu:Nat)(G:GC c k b s h g)(O:Gok b g):d_q fu [.cel k] c=some (.ok (zhc g) c):=by
 have hz:(1000:Nat)<PySem.sizeLine:=by decide
 have lim:=O.lim
 have s1:dSl zbs (zcX "Game" "done" (zae 0)) (zbY (dUn zmH (dC (.int 2)))) zbo [some (.cel k)] c=some (.ok (.lst ((g.done.drop (g.done.length-2)).map oW)) c):=by
  have:=zg1 (sl:=[some (.cel k)]) (ce:=c) (a:=zcX "Game" "done" (zae 0)) (x:=.cel (k+2)) (xs:=g.done.map oW) (dl:=zbY (dUn zmH (dC (.int 2)))) (lo:=some (-2)) (dh:=zbo) (hi:=none) (zbb (zai rfl) G.i rfl) (zeo (zcW zbH rfl)) rfl (by simp only[zcg,G.d]) (by rw[length_map];omega)
  rw[this]
  have e:HT.sIx (g.done.map oW).length 0 (some (-2))=g.done.length-2:=by simp only[HT.sIx,length_map];rw[if_pos (by omega)];omega
  unfold zmP
  rw[e,show HT.sIx (g.done.map oW).length (g.done.map oW).length none=g.done.length from by simp[HT.sIx],take_of_length_le (by simp),map_drop]
 have e1:=ztO (c:=c) (l:=g.done.drop (g.done.length-2)) (by rw[length_drop];omega)
 unfold d_q
 refine zbK [some (.cel k)] rfl ?_
 refine zaP (p:=passed g) (ce':=c) (zc0 (zaR s1 (zdO (ws:=[.non,.non]) (by trivial) (by decide)) e1)) (fun q=>?_) (fun q=>zaH ?_)
 ·refine zc7 (zaw (w:=.str "passed") (ce':=c) zbH ?_)
  rw[show zhc g=.str "passed" from if_pos q]
  exact zaE (by simp only[Bel])
 refine zaP (p:=decide ((g.done.length:Int)≥300)) (ce':=c) (zc0 (zcG (x:=nW g.done.length) (zbC (ws:=[.cel (k+2)]) (zaj (zbb (zai rfl) G.i rfl) zam) (zfF G)) zbH rfl)) (fun q2=>?_) (fun q2=>zaH ?_)
 ·refine zc7 (zaw (w:=.str "long") (ce':=c) zbH ?_)
  have:300<=g.done.length:=by have:=of_decide_eq_true q2;omega
  rw[show zhc g=.str "long" by unfold zhc;rw[if_neg (by rw[q];simp),if_pos this]]
  exact zaE (by simp only[Bel])
 ·refine zaw (w:=.non) (ce':=c) zbH ?_
  have:¬300<=g.done.length:=by have:=of_decide_eq_false q2;omega
  rw[show zhc g=.non by unfold zhc;rw[if_neg (by rw[q];simp),if_neg this]]
  exact zaE (by simp only[Bel])
theorem zeb(g:Gm):isNon (zhc g)=!ended g:=by
 unfold zhc ended
 cases passed g with
 | true=>rfl
 | false =>
  by_cases q:300<=g.done.length
  ·rw[if_neg (by simp),if_pos q,decide_eq_true q];rfl
  ·rw[if_neg (by simp),if_neg q,decide_eq_false q];rfl
theorem zdA(fu:Nat)(G:GC c k b s h g)(m:Nat):d_f fu [.cel k,nW m] c=some (.ok (.int (hnd h m)) c):=by
 have e1:zco (nW m) (.int 2)=some (nW (m % 2)):=zi8 (k:=(m:Int)) (n:=2) (by omega) (by omega)
 have e2:=zfn c (((m % 2:Nat)):Int) 0 false
 have e3:=zg5 (ce:=c) fu h
 unfold d_f
 refine zbK [some (.cel k),some (nW m)] rfl ?_
 refine zaw (zoj (p:=decide ((((m % 2:Nat)):Int)=0)) (c1:=c) (x:=.int h) (y:=.int (3-h)) (zc0 (zaR (zcG (zai rfl) zbH e1) zbH e2)) (fun _=>zbb (zai rfl) G.i rfl) (fun _=>zaG (ws:=[.int h]) (zaj (zbb (zai rfl) G.i rfl) zam) rfl e3)) ?_
 have:(if decide ((((m % 2:Nat)):Int)=0)=true then W.int h else .int (3-h))=.int (hnd h m):=by
  unfold hnd
  by_cases q:m % 2=0
  ·rw[if_pos q,if_pos (decide_eq_true (by omega))]
  ·rw[if_neg q,if_neg (by rw[decide_eq_false (by omega)];simp)]
 rw[this]
 exact zaE (by simp only[Bel])
theorem zec(fu:Nat)(G:GC c k b s h g):d_x fu [.cel k] c=some (.ok (.int (hnd h g.done.length)) c):=by
 have e:=zdA fu G g.done.length
 unfold d_x
 refine zbK [some (.cel k)] rfl ?_
 exact zaw (zaI (ws:=[nW g.done.length]) (zai rfl) G.i rfl (zaj (zbC (ws:=[.cel (k+2)]) (zaj (zbb (zai rfl) G.i rfl) zam) (zfF G)) zam) rfl e) (zaE (by simp only[Bel]))
theorem ztP{sl:Sl}{ce c1:Ce}{a d:Sl->M W}{p q:Bool}(ha:a sl ce=some (.ok (.bl p) c1))(hb:p=false->d sl c1=some (.ok (.bl q) c1)):dOr a d sl ce=some (.ok (.bl (p||q)) c1):=by
 cases p with
 | true=>simp only[dOr,bnd,ha,ret,Bool.true_or]
 | false=>simp only[dOr,bnd,ha,hb rfl,Bool.false_or]
theorem zp0(fu:Nat)(G:GC c k b s h g)(m:Nat):d_b fu [.cel k,nW m] c=some (.ok (.bl (bar s h g.done.length m)) c):=by
 have e1:=zdA fu G m
 have e2:=zec fu G
 have e3:=zg5 (ce:=c) fu (hnd h g.done.length)
 have e4:=zfn c (hnd h m) (3-hnd h g.done.length) false
 have e5:eqW false c (.str (rl s)) (.str "stones")=some (.bl s):=by cases s<;>rfl
 unfold d_b
 refine zbK [some (.cel k),some (nW m)] rfl ?_
 exact zaw (w:=.bl (bar s h g.done.length m)) (ztP (zaR (zbb (zai rfl) G.i rfl) zbH e5) (fun _=>zaR (zaI (ws:=[nW m]) (zai rfl) G.i rfl (zaj (zai rfl) zam) rfl e1) (zaG (ws:=[.int (hnd h g.done.length)]) (zaj (zaI (ws:=[]) (zai rfl) G.i rfl zam rfl e2) zam) rfl e3) e4)) (zaE (by simp only[Bel]))
theorem zlZ(fu:Nat)(G:GC c k b s h g)(O:Gok b g)(is:List Int):d_h fu [.cel k,wS is] c=some (.ok (oW (zg7 s h g is)) c):=by
 have hz:(1000:Nat)<PySem.sizeLine:=by decide
 have lim:=O.lim
 have n1:=O.n1
 unfold d_h
 refine zbK [some (.cel k),some (wS is),none] rfl ?_
 refine zlm (zs:=List.range g.past.length) (en:=nW) (c1:=c) (zeI (n:=g.past.length) (zaj (zbC (ws:=[.cel (k+1)]) (zaj (zbb (zai rfl) G.i rfl) zam) (zlY G)) zam) (by omega))
  (fun d sl c'=>∃x2,sl=[some (.cel k),some (wS is),x2]/\c'=c/\∀m∈d,(decide (g.past.getD m []=is)&&bar s h g.done.length m)=false) (fun w c'=>c'=c/\w=oW (zg7 s h g is)) ⟨_,rfl,rfl,by simp⟩ ?_ ?_ ?_
 ·rintro d m r sl c' e hm ⟨x2,rfl,rfl,hd⟩
  have hm':=mem_range.mp hm
  have i1:=znO G hm'
  have q1:=zu3 (ce:=c') false (g.past.getD m []) is
  have q2:=zp0 fu G m
  unfold zdd
  refine zQn ?_
  refine zbE (p:=decide (g.past.getD m []=is)&&bar s h g.done.length m) (ce':=c') (zin (zc0 (zaR (zaR (zbb (zai rfl) G.i rfl) (zai rfl) i1) (zai rfl) q1)) (fun _=>zc0 (zaI (ws:=[nW m]) (zai rfl) G.i rfl (zaj (zai rfl) zam) rfl q2))) (fun q=>?_) (fun q=>?_)
  ·refine zaw (w:=nW m) (ce':=c') (zai rfl) ⟨rfl,?_⟩
   have:zg7 s h g is=some m:=by
    unfold zg7
    rw[find?_eq_some_iff_append]
    exact⟨q,d,r,e.symm,fun a ha=>by rw[hd a ha];rfl⟩
   rw[this];rfl
  ·refine zbn ⟨_,rfl,rfl,fun x hx=>?_⟩
   rcases mem_append.mp hx with hx|hx
   ·exact hd x hx
   ·rw[mem_singleton.mp hx];exact q
 ·rintro w sl c' ⟨rfl,rfl⟩
  refine zen (zaE ?_)
  cases zg7 s h g is<;>simp only[oW,nW,Bel]
 ·rintro sl c' ⟨x2,rfl,rfl,hd⟩
  refine zaw (w:=.non) (ce':=c') zbH ?_
  have:zg7 s h g is=none:=by
   unfold zg7
   rw[find?_eq_none]
   exact fun m hm=>by rw[hd m hm];simp
  rw[this]
  exact zaE (by simp only[Bel])
end
section
variable {c l:Ce} {k k':Nat} {b:List (List Nat)} {s s':Bool} {h:Int} {g g':Gm}
def Does(b:List (List Nat))(s:Bool)(h:Int)(g:Gm)(w:Option Nat)(g':Gm):Prop:=ended g=false/\match w with
 | none=>g'=push g (cur g) none 0
 | some p=>p<b.length/\(cur g).getD p 0=0/\Frb b (cur g) (hnd h g.done.length) p/\zg7 s h g (lS b (cur g) (hnd h g.done.length) p)=none/\g'=push g (lS b (cur g) (hnd h g.done.length) p) (some p) (lT b (cur g) (hnd h g.done.length) p).length
theorem Gok.cur(O:Gok b g):StdOk b (cur g):=O.st _ (by have:=O.n1;omega)
theorem zjo(O:Gok b g)(he:ended g=false){is:List Int}(S:StdOk b is)(w:Option Nat)(n:Nat):Gok b (push g is w n):=by
 have n1:=O.n1
 have nt:=O.nt
 have:¬300<=g.done.length:=by
  unfold ended at he
  rw[or_eq_false_iff] at he
  exact of_decide_eq_false he.2
 refine⟨by simp[push,n1],by simp[push,nt],fun i hi=>?_,by simp[push];omega⟩
 simp only[push,length_append,length_cons,length_nil] at hi
 by_cases q:i<g.past.length
 ·have:=O.st i q
  simp only[push,getD_eq_getElem?_getD,getElem?_append_left q] at this ⊢
  exact this
 ·have:i=g.past.length:=by omega
  subst this
  simp only[push,getD_eq_getElem?_getD,getElem?_append_right (le_refl _),sub_self,getElem?_cons_zero,getD_some]
  exact S
theorem Does.ok(D:Does b s h g w g')(O:Gok b g)(N:BrdN b)(h12:h=1\/h=2):Gok b g':=by
 obtain⟨he,D⟩:=D
 cases w with
 | none=>subst D;exact zjo O he O.cur _ _
 | some p =>
  obtain⟨hp,p0,fr,_,rfl⟩:=D
  exact zjo O he ((O.cur.ly N (zj4 h12 _) hp p0).std (zj4 h12 _) fr) _ _
theorem zl0(fu:Nat)(G:GC c k b s h g)(O:Gok b g)(w:W)(he:ended g=true):d_y fu [.cel k,w] c=some (.ex ⟨"Over",none⟩ c):=by
 have e1:=zcB fu G O
 have hn:zcD (zhc g)=some (.bl true):=by simp only[zcD,zeb,he];rfl
 unfold d_y
 refine zdm [some (.cel k),some w,none,none,none,none] rfl ?_
 exact zaP (p:=true) (ce':=c) (zc0 (zcW (zaI (ws:=[]) (zai rfl) G.i rfl zam rfl e1) hn)) (fun _=>zda rfl ⟨rfl,[],by simp⟩) (fun q=>by cases q)
theorem zjp(G:GC c k b s h g)(O:Gok b g){is:List Int}{w:Option Nat}{n:Nat}{x4 x5:Option W}{Q:VS.O->Prop}(q:Q (.go .nx [some (.cel k),some (oW w),some (wS is),some (nW n),x4,x5] (zeN c k (push g is w n)))) :
  Run (zap (dEx (dMt zdJ (zcX "Game" "past" (zae 0)) (zac (zae 2) zan))) (zap (dEx (dMt zdJ (zcX "Game" "done" (zae 0)) (zac (zae 1) zan))) (dEx (dMt zdJ (zcX "Game" "takings" (zae 0)) (zac (zae 3) zan)))))
   [some (.cel k),some (oW w),some (wS is),some (nW n),x4,x5] c Q:=by
 have hz:(1000:Nat)<PySem.sizeLine:=by decide
 have lim:=O.lim
 have n1:=O.n1
 have nt:=O.nt
 have l1:=zcA G.p
 have l2:=zcA G.d
 have l3:=zcA G.t
 have a1:=zfl (y:=wS is) G.p (by rw[length_map];omega)
 have G1i:(c.set (k+1) (.lst (g.past.map wS++[wS is])))[k]?=some (.ins "Game" (gmF b s h k)):=by rw[getElem?_set_ne (by omega)];exact G.i
 have G1d:(c.set (k+1) (.lst (g.past.map wS++[wS is])))[k+2]?=some (.lst (g.done.map oW)):=by rw[getElem?_set_ne (by omega)];exact G.d
 have a2:=zfl (y:=oW w) G1d (by rw[length_map];omega)
 have G2i:((c.set (k+1) (.lst (g.past.map wS++[wS is]))).set (k+2) (.lst (g.done.map oW++[oW w])))[k]?=some (.ins "Game" (gmF b s h k)):=by rw[getElem?_set_ne (by omega)];exact G1i
 have G2t:((c.set (k+1) (.lst (g.past.map wS++[wS is]))).set (k+2) (.lst (g.done.map oW++[oW w])))[k+3]?=some (.lst (g.tk.map nW)):=by rw[getElem?_set_ne (by omega),getElem?_set_ne (by omega)];exact G.t
 have a3:=zfl (y:=nW n) G2t (by rw[length_map];omega)
 refine zdN (zfk (ws:=[wS is]) (zbb (zai rfl) G.i rfl) (by simp only[zcg,G.p];rfl) (zaj (zai rfl) zam) a1) ?_
 refine zdN (zfk (ws:=[oW w]) (zbb (zai rfl) G1i rfl) (by simp only[zcg,G1d];rfl) (zaj (zai rfl) zam) a2) ?_
 refine zeC (zfk (ws:=[nW n]) (zbb (zai rfl) G2i rfl) (by simp only[zcg,G2t];rfl) (zaj (zai rfl) zam) a3) ?_
 have:zeN c k (push g is w n)=((c.set (k+1) (.lst (g.past.map wS++[wS is]))).set (k+2) (.lst (g.done.map oW++[oW w]))).set (k+3) (.lst (g.tk.map nW++[nW n])):=by
  simp only[zeN,push,map_append,map_cons,map_nil]
 rw[<- this]
 exact q
theorem zjq{sl:Sl}{is:List Int}{w:Option Nat}{n:Nat}:∃sl' c',VS.O.go .nx sl (zeN c k (push g is w n))=.go .nx sl' c'/\finC c c' .non=some (.ok .non (zeN c k (push g is w n))) :=
 ⟨_,_,rfl,by have:=zjn (c:=c) (k:=k) (g:=push g is w n) (w:=.non) [] (by simp only[Bel]);rwa [append_nil] at this⟩
theorem zl1(fu:Nat)(G:GC c k b s h g)(O:Gok b g)(he:ended g=false):d_y fu [.cel k,.non] c=some (.ok .non (zeN c k (push g (cur g) none 0))):=by
 have e1:=zcB fu G O
 have e2:=zdf fu G O
 have hn:zcD (zhc g)=some (.bl false):=by simp only[zcD,zeb,he];rfl
 unfold d_y
 refine znv [some (.cel k),some .non,none,none,none,none] rfl ?_
 refine zaP (p:=false) (ce':=c) (zc0 (zcW (zaI (ws:=[]) (zai rfl) G.i rfl zam rfl e1) hn)) (fun q=>by cases q) (fun _=>zaH ?_)
 refine zao (w:=wS (cur g)) (ce':=c) (zaI (ws:=[]) (zai rfl) G.i rfl zam rfl e2) ?_
 refine zQn ?_
 refine zao (w:=nW 0) (ce':=c) zbH ?_
 refine zQn ?_
 refine zaP (p:=false) (ce':=c) (zc0 (zcW (zai rfl) rfl)) (fun q=>by cases q) (fun _=>zaH ?_)
 exact zjp (w:=none) G O zjq
theorem znP{sl:Sl}{ce c1:Ce}{i:Nat}{e:Sl->M W}{x:Exn}{a:DS}{Q:VS.O->Prop}(h:e sl ce=some (.ex x c1))(q:Q (.ex x c1)):Run (zap (za6 i e) a) sl ce Q:=zlu ⟨.ex x c1,by simp only[za6,lft,h],q⟩
theorem zjr(fu:Nat)(G:GC c k b s h g)(O:Gok b g)(he:ended g=false){p:Nat}{nm:PySem.Str}(hl:d_ja fu [wB b,wS (cur g),.int (hnd h g.done.length),nW p] c=some (.ex ⟨nm,none⟩ c)):d_y fu [.cel k,nW p] c=some (.ex ⟨nm,none⟩ c):=by
 have e1:=zcB fu G O
 have e2:=zdf fu G O
 have e3:=zec fu G
 have hn:zcD (zhc g)=some (.bl false):=by simp only[zcD,zeb,he];rfl
 unfold d_y
 refine zdm [some (.cel k),some (nW p),none,none,none,none] rfl ?_
 refine zaP (p:=false) (ce':=c) (zc0 (zcW (zaI (ws:=[]) (zai rfl) G.i rfl zam rfl e1) hn)) (fun q=>by cases q) (fun _=>zaH ?_)
 refine zao (w:=wS (cur g)) (ce':=c) (zaI (ws:=[]) (zai rfl) G.i rfl zam rfl e2) ?_
 refine zQn ?_
 refine zao (w:=nW 0) (ce':=c) zbH ?_
 refine zQn ?_
 refine zaP (p:=true) (ce':=c) (zc0 (zcW (zai rfl) rfl)) (fun _=>?_) (fun q=>by cases q)
 refine zbF (znP (znm (ws:=[wB b,wS (cur g),.int (hnd h g.done.length),nW p]) (c1:=c) (zaj (zbb (zai rfl) G.i rfl) (zaj (zai rfl) (zaj (zaI (ws:=[]) (zai rfl) G.i rfl zam rfl e3) (zaj (zai rfl) zam)))) rfl hl) ⟨rfl,[],by simp⟩)
theorem zl2(fu:Nat)(G:GC c k b s h g)(O:Gok b g)(he:ended g=false){p:Nat}{is:List Int}{t:List Nat}(hl:d_ja fu [wB b,wS (cur g),.int (hnd h g.done.length),nW p] c=some (.ok (.tup [wS is,wL t]) c)){Q:VS.O->Prop}(q1:∀m,zg7 s h g is=some m->Q (.ex ⟨"Again",none⟩ c))(q2:zg7 s h g is=none->∀sl,Q (.go .nx sl (zeN c k (push g is (some p) t.length)))) :
  Run (zap (dIf (dB (dUn zcD (za3 "Game" "ended" 1 (d_q fu) (zae 0) zan))) (zbG "Over" []) zaZ)
 (zap (za6 2 (za3 "Game" "stand" 1 (d_n fu) (zae 0) zan))
 (zap (za6 3 (dC (.int 0)))
 (zap (dIf (dB (dUn zcD (zae 1))) (zap (za6 4 (zaJ 4 (d_ja fu) (zac (zcX "Game" "joined" (zae 0)) (zac (zae 2) (zac (za3 "Game" "hand" 1 (d_x fu) (zae 0) zan) (zac (zae 1) zan))))))
 (zap (za6 2 (zaO ixW (zae 4) (dC (.int 0))))
 (zap (za6 3 (dBi zcq (zac (zaO ixW (zae 4) (dC (.int 1))) zan)))
 (zap (za6 5 (za3 "Game" "came_at" 2 (d_h fu) (zae 0) (zac (zae 2) zan)))
 (dIf (dB (dUn zcD (zae 5))) (zbG "Again" [5]) zaZ))))) zaZ)
 (zap (dEx (dMt zdJ (zcX "Game" "past" (zae 0)) (zac (zae 2) zan)))
 (zap (dEx (dMt zdJ (zcX "Game" "done" (zae 0)) (zac (zae 1) zan)))
 (dEx (dMt zdJ (zcX "Game" "takings" (zae 0)) (zac (zae 3) zan))))))))) [some (.cel k),some (nW p),none,none,none,none] c Q:=by
 have lim:=O.lim
 have n1:=O.n1
 have e1:=zcB fu G O
 have e2:=zdf fu G O
 have e3:=zec fu G
 have e4:=zlZ fu G O is
 have hn:zcD (zhc g)=some (.bl false):=by simp only[zcD,zeb,he];rfl
 refine zaP (p:=false) (ce':=c) (zc0 (zcW (zaI (ws:=[]) (zai rfl) G.i rfl zam rfl e1) hn)) (fun q=>by cases q) (fun _=>zaH ?_)
 refine zao (w:=wS (cur g)) (ce':=c) (zaI (ws:=[]) (zai rfl) G.i rfl zam rfl e2) ?_
 refine zQn ?_
 refine zao (w:=nW 0) (ce':=c) zbH ?_
 refine zQn ?_
 refine zaP (p:=true) (ce':=c) (zc0 (zcW (zai rfl) rfl)) (fun _=>?_) (fun q=>by cases q)
 refine zbF ?_
 refine zao (w:=.tup [wS is,wL t]) (ce':=c) (zaG (ws:=[wB b,wS (cur g),.int (hnd h g.done.length),nW p]) (zaj (zbb (zai rfl) G.i rfl) (zaj (zai rfl) (zaj (zaI (ws:=[]) (zai rfl) G.i rfl zam rfl e3) (zaj (zai rfl) zam)))) rfl hl) ?_
 refine zQn ?_
 have j0:ixW c (.tup [wS is,wL t]) (.int 0)=some (wS is):=zkb (xs:=[wS is,wL t]) (j:=0) rfl rfl
 have j1:ixW c (.tup [wS is,wL t]) (.int 1)=some (wL t):=zkb (xs:=[wS is,wL t]) (j:=1) rfl rfl
 have jl:zcq [wL t] c=some (.ok (nW t.length) c):=by simp[zcq,zeR,zcg];rfl
 refine zbF (zao (w:=wS is) (ce':=c) (zaR (zai rfl) zbH j0) ?_)
 refine zQn ?_
 refine zbF (zao (w:=nW t.length) (ce':=c) (zbC (ws:=[wL t]) (zaj (zaR (zai rfl) zbH j1) zam) jl) ?_)
 refine zQn ?_
 refine zbF (zao (w:=oW (zg7 s h g is)) (ce':=c) (zaI (ws:=[wS is]) (zai rfl) G.i rfl (zaj (zai rfl) zam) rfl e4) ?_)
 refine zQn ?_
 cases hc:zg7 s h g is with
 | none =>
  refine zaP (p:=false) (ce':=c) (zc0 (zcW (zai rfl) rfl)) (fun q=>by cases q) (fun _=>zaH ?_)
  exact zjp (w:=some p) G O (q2 hc _)
 | some m =>
  have hm:m<g.past.length:=mem_range.mp (mem_of_find?_eq_some hc)
  refine zaP (p:=true) (ce':=c) (zc0 (zcW (zai rfl) rfl)) (fun _=>?_) (fun q=>by cases q)
  exact zda (zpW (p:=m) rfl (by omega)) (q1 m hc)
theorem zj5(fu:Nat)(hfu:200<=fu)(N:BrdN b)(G:GC c k b s h g)(O:Gok b g)(h12:h=1\/h=2)(he:ended g=false){p m:Nat}(hp:p<b.length)(p0:(cur g).getD p 0=0)(fr:Frb b (cur g) (hnd h g.done.length) p)(hm:zg7 s h g (lS b (cur g) (hnd h g.done.length) p)=some m):d_y fu [.cel k,nW p] c=some (.ex ⟨"Again",none⟩ c):=by
 have hl:=ziL (ce:=c) fu hfu N O.cur (zj4 h12 g.done.length) hp p0 fr
 unfold d_y
 refine zdm [some (.cel k),some (nW p),none,none,none,none] rfl ?_
 exact zl2 fu G O he hl (fun m _=>⟨rfl,[],by simp⟩) (fun q=>by rw[hm] at q;cases q)
theorem znQ(fu:Nat)(hfu:200<=fu)(N:BrdN b)(G:GC c k b s h g)(O:Gok b g)(h12:h=1\/h=2)(he:ended g=false){p:Nat}(hp:p<b.length)(p0:(cur g).getD p 0=0)(fr:Frb b (cur g) (hnd h g.done.length) p)(hm:zg7 s h g (lS b (cur g) (hnd h g.done.length) p)=none):d_y fu [.cel k,nW p] c=some (.ok .non (zeN c k (push g (lS b (cur g) (hnd h g.done.length) p) (some p) (lT b (cur g) (hnd h g.done.length) p).length))):=by
 have hl:=ziL (ce:=c) fu hfu N O.cur (zj4 h12 g.done.length) hp p0 fr
 unfold d_y
 refine znv [some (.cel k),some (nW p),none,none,none,none] rfl ?_
 exact zl2 fu G O he hl (fun m q=>by rw[hm] at q;cases q) (fun _ sl=>zjq)
theorem zl3(fu:Nat)(hfu:200<=fu)(N:BrdN b)(G:GC c k b s h g)(O:Gok b g)(h12:h=1\/h=2){w:Option Nat}(hw:∀p,w=some p->p<b.length) :
  (∃g',Does b s h g w g'/\d_y fu [.cel k,oW w] c=some (.ok .non (zeN c k g')))\/((∀g',¬Does b s h g w g')/\∃nm:PySem.Str,(nm = "Over" \/ nm = "NoLay" \/ nm = "NoBreath" \/ nm = "Again")/\d_y fu [.cel k,oW w] c=some (.ex ⟨nm,none⟩ c)):=by
 cases he:ended g with
 | true=>exact .inr ⟨fun g' D=>(by rw[D.1] at he;cases he), "Over",.inl rfl,zl0 fu G O _ he⟩
 | false =>
  cases w with
  | none=>exact .inl ⟨_,⟨he,rfl⟩,zl1 fu G O he⟩
  | some p =>
   have hp:=hw p rfl
   by_cases p0:(cur g).getD p 0=0
   ·by_cases fr:Frb b (cur g) (hnd h g.done.length) p
    ·cases hm:zg7 s h g (lS b (cur g) (hnd h g.done.length) p) with
     | none=>exact .inl ⟨_,⟨he,hp,p0,fr,hm,rfl⟩,znQ fu hfu N G O h12 he hp p0 fr hm⟩
     | some m=>exact .inr ⟨fun g' D=>(by rw[D.2.2.2.2.1] at hm;cases hm), "Again",.inr (.inr (.inr rfl)),zj5 fu hfu N G O h12 he hp p0 fr hm⟩
    ·exact .inr ⟨fun g' D=>fr D.2.2.2.1, "NoBreath",.inr (.inr (.inl rfl)),zjr fu G O he (zlV fu hfu N O.cur (zj4 h12 _) hp p0 fr)⟩
   ·exact .inr ⟨fun g' D=>p0 D.2.2.1, "NoLay",.inr (.inl rfl),zjr fu G O he (zlU fu O.cur N.B.h36 hp p0)⟩
end
section
variable {c l:Ce} {k k':Nat} {b:List (List Nat)} {s s':Bool} {h:Int} {g g':Gm}
theorem zev(c:Ce)(x y:C)(l:Ce):(c++x::l).set c.length y=c++y::l:=by simp
theorem get_mid(c:Ce)(x:C)(l:Ce):(c++x::l)[c.length]?=some x:=by simp
def gm0(is:List Int):Gm:=⟨[is],[],[]⟩
theorem zus{is:List Int}(S:StdOk b is):Gok b (gm0 is):=⟨rfl,rfl,fun i hi=>by
 have:i=0:=by simp[gm0] at hi;exact hi
 subst this;exact S,zero_le _⟩
def gcs(b:List (List Nat))(s:Bool)(h:Int)(k:Nat)(is:List Int):Ce:=[.ins "Game" (gmF b s h k),.lst [wS is],.lst [],.lst []]
theorem gc0(c:Ce)(is:List Int):GC (c++gcs b s h c.length is) c.length b s h (gm0 is):=by
 unfold gcs
 refine⟨get_mid _ _ _,?_,?_,?_⟩
 ·rw[getElem?_append_right (by omega),show c.length+1-c.length=1 by omega];rfl
 ·rw[getElem?_append_right (by omega),show c.length+2-c.length=2 by omega];rfl
 ·rw[getElem?_append_right (by omega),show c.length+3-c.length=3 by omega];rfl
theorem zp1(fu:Nat){is:List Int}(hn:∀c,d_z fu [wB b,wS is] c=some (.ok (.bl true) c))(hs:∀c,d_ba fu [wB b,wS is] c=some (.ok (.bl true) c)) :
  d_e fu [.cel c.length,wB b,.str (rl s),wS is,.int h] (c++[C.ins "Game" []])=some (.ok .non (c++gcs b s h c.length is)):=by
 have z1:1<=PySem.sizeLine:=by decide
 unfold d_e
 refine znv [some (.cel c.length),some (wB b),some (.str (rl s)),some (wS is),some (.int h)] rfl ?_
 refine zaP (p:=!true) (ce':=c++[C.ins "Game" []]) (zbJ (zc0 (zaG (ws:=[wB b,wS is]) (by trivial) rfl (hn _)))) (fun q=>by cases q) (fun _=>zaH ?_)
 refine zaP (p:=!true) (ce':=c++[C.ins "Game" []]) (zbJ (zc0 (zaG (ws:=[wB b,wS is]) (by trivial) rfl (hs _)))) (fun q=>by cases q) (fun _=>zaH ?_)
 refine zdU (w:=wB b) (k:=c.length) (zai rfl) (zai rfl) (zf6 _ _) (lt_of_le_of_lt (le_refl 0) (by decide)) ?_
 rw[zev]
 refine zdU (w:=.str (rl s)) (k:=c.length) (zai rfl) (zai rfl) (zf6 _ _) (lt_of_le_of_lt (zbp (le_refl 0)) (by decide)) ?_
 rw[zev]
 refine zdU (w:=.int h) (k:=c.length) (zai rfl) (zai rfl) (zf6 _ _) (lt_of_le_of_lt (zbp (zbp (le_refl 0))) (by decide)) ?_
 rw[zev]
 refine zdU (k:=c.length) (zca (ws:=[wS is]) (by trivial) z1) (zai rfl) (by rw[append_assoc];exact get_mid _ _ _) (lt_of_le_of_lt (zbp (zbp (zbp (le_refl 0)))) (by decide)) ?_
 rw[append_assoc,cons_append,nil_append,zev,length_append,length_cons,length_nil]
 refine zdU (k:=c.length) (zca zam (zero_le _)) (zai rfl) (by rw[append_assoc];exact get_mid _ _ _) (lt_of_le_of_lt (zbp (zbp (zbp (zbp (le_refl 0))))) (by decide)) ?_
 rw[append_assoc,cons_append,cons_append,nil_append,zev,length_append,length_cons,length_cons,length_nil]
 refine znu (k:=c.length) (zca zam (zero_le _)) (zai rfl) (by rw[append_assoc];exact get_mid _ _ _) (lt_of_le_of_lt (zbp (zbp (zbp (zbp (zbp (le_refl 0)))))) (by decide)) ?_
 rw[append_assoc,cons_append,cons_append,cons_append,nil_append,zev,length_append,length_cons,length_cons,length_cons,length_nil]
 exact⟨_,_,rfl,rfl⟩
theorem zj6(fu:Nat)(G:GC c k b s h g)(O:Gok b g):d_l fu [.cel k] c=some (.ok (.lst (g.past.map wS)) c):=by
 have hz:(1000:Nat)<PySem.sizeLine:=by decide
 have lim:=O.lim
 have n1:=O.n1
 unfold d_l
 refine zbK [some (.cel k)] rfl ?_
 exact zaw (w:=.lst (g.past.map wS)) (ce':=c) (zbC (ws:=[.cel (k+1)]) (zaj (zbb (zai rfl) G.i rfl) zam) (by rw[zgF (zck G.p)];exact zcs (by rw[length_map];omega))) (zaE (by simp only[Bel];exact zea _ _))
theorem zh1(fu:Nat)(G:GC c k b s h g)(O:Gok b g):d_p fu [.cel k] c=some (.ok (.lst (g.done.map oW)) c):=by
 have hz:(1000:Nat)<PySem.sizeLine:=by decide
 have lim:=O.lim
 unfold d_p
 refine zbK [some (.cel k)] rfl ?_
 exact zaw (w:=.lst (g.done.map oW)) (ce':=c) (zbC (ws:=[.cel (k+2)]) (zaj (zbb (zai rfl) G.i rfl) zam) (by rw[zgF (zck G.d)];exact zcs (by rw[length_map];omega))) (zaE (by simp only[Bel];exact zb1 _ _))
end
section
variable {c l:Ce} {k k':Nat} {b:List (List Nat)} {s s':Bool} {h:Int} {g g':Gm} {w:Option Nat}
theorem zp2{m:Nat}{ds:List (Option Nat)}(hm:m<ds.length):ixW c (.lst (ds.map oW)) (nW m)=some (oW (ds.getD m none)):=by
 rw[zgA (xs:=ds.map oW) rfl,getElem?_map,getD_eq_getElem?_getD,getElem?_eq_getElem hm];rfl
end
theorem zjs{c:Sl->M W}{put:Option Nat}{ok:Exn->Bool}{hd:Exn->DS}{b:DS}{x:Exn}{sl sl':Sl}{ce c1 c2:Ce}{Q:O->Prop}(h:c sl ce=some (.ex x c1))(hok:ok x=true)(e:hd x sl c1=some (.go .ct sl' c2))(q:Q (.go .ct sl' c2)):Run (zap (zh3 c put ok hd) b) sl ce Q :=
 ⟨_,by simp only[zap,zh3,h,hok,if_true,e],q⟩
section
variable {b:List (List Nat)} {is:List Int} {o:Int} {p q:Nat} {ce:Ce}
def zoy(b:List (List Nat))(is:List Int)(o:Int)(p:Nat):W:=.tup [nW p,wS (lS b is o p),wL (lT b is o p)]
open Classical in
def zjt(b:List (List Nat))(is:List Int)(o:Int)(p:Nat):Bool:=decide (is.getD p 0=0/\Frb b is o p)
open Classical in
theorem canL_iff:zjt b is o p=true↔is.getD p 0=0/\Frb b is o p:=by unfold zjt;exact decide_eq_true_iff
theorem zju(n:Nat)(p:Nat):Bel n (zoy b is o p):=by simp only[Bel,zcf,zoy,nW];exact⟨trivial,belInts _ _,bels_nW _ _,trivial⟩
theorem zg8{α:Type}{f:α->W}(n:Nat)(h:∀x,Bel n (f x)):∀l:List α,zcf n (l.map f)
 | []=>by simp only[map_nil,zcf]
 | x::l=>by simp only[map_cons,zcf];exact⟨h x,zg8 n h l⟩
theorem zj7(fu:Nat)(hfu:200<=fu)(N:BrdN b)(S:StdOk b is)(ho:o=1\/o=2){pts:List Nat}(hlt:∀p∈pts,p<b.length)(hlen:pts.length<=100) :
  zdB (d_fa fu) [wB b,wS is,.int o,wL pts] ce=some (.ok (.lst ((pts.filter (zjt b is o)).map (zoy b is o))) ce):=by
 have hz:=sl36
 have z200:200<PySem.sizeLine:=by decide
 have z3:3<=PySem.sizeLine:=by decide
 have h36:=N.B.h36
 refine zcr ?_ (zg8 _ (zju _) _)
 unfold d_fa
 refine zbK [some (wB b),some (wS is),some (.int o),some (wL pts),none,none,none] rfl ?_
 refine zao (zca zam (zero_le _)) ?_
 refine zQn ?_
 have O0:=(Own.start ce).alloc (C.lst [])
 refine zbj (zs:=pts) (en:=nW) (c1:=ce++[.lst []]) (zfm (zai rfl))
  (fun d sl c=>∃x5 x6,sl=[some (wB b),some (wS is),some (.int o),some (wL pts),some (.cel ce.length),x5,x6]/\Own ce c [(ce.length,C.lst ((d.filter (zjt b is o)).map (zoy b is o)))])
  ⟨_,_,rfl,O0⟩ ?_ ?_
 ·rintro d x r sl c e hx ⟨x5,x6,rfl,O⟩
  have hxb:=hlt x hx
  have hdl:d.length<100:=by
   have:=congrArg List.length e
   simp only[length_append,length_cons] at this
   omega
  have go:zaJ 4 (d_ja fu) (zep (zac (zae 0) (zac (zae 1) (zac (zae 2) (zac (zae 5) zan))))) [some (wB b),some (wS is),some (.int o),some (wL pts),some (.cel ce.length),some (nW x),x6] c=d_ja fu [wB b,wS is,.int o,nW x] c:=by
   have:zep (zac (zae 0) (zac (zae 1) (zac (zae 2) (zac (zae 5) zan)))) [some (wB b),some (wS is),some (.int o),some (wL pts),some (.cel ce.length),some (nW x),x6] c=some (.ok [wB b,wS is,.int o,nW x] c):=zfq (zaj (zai rfl) (zaj (zai rfl) (zaj (zai rfl) (zaj (zai rfl) zam))))
   simp only[zaJ,bnd,this]
   rfl
  unfold zge
  refine zQn ?_
  by_cases p0:is.getD x 0=0
  ·by_cases hf:Frb b is o x
   ·have ec:zjt b is o x=true:=canL_iff.mpr ⟨p0,hf⟩
    refine znn (go.trans (ziL (ce:=c) fu hfu N S ho hxb p0 hf)) ?_
    have ea:=zfl (y:=zoy b is o x) O.g0 (by rw[length_map];exact lt_of_le_of_lt (length_filter_le _ _) (by omega))
    refine zeC (w:=.non) (zfk (zai rfl) (zcj O.g0) (zaj (zeD (ws:=[nW x,wS (lS b is o x),wL (lT b is o x)]) (zaj (zai rfl) (zaj (zaR (zai rfl) zbH (zkb (xs:=[wS (lS b is o x),wL (lT b is o x)]) (j:=0) rfl rfl)) (zaj (zaR (zai rfl) zbH (zkb (xs:=[wS (lS b is o x),wL (lT b is o x)]) (j:=1) rfl rfl)) zam))) z3) zam) ea) ?_
    refine⟨_,_,rfl,?_⟩
    rw[filter_append,filter_cons_of_pos ec,filter_nil,map_append]
    exact O.set0 _
   ·have ec:¬zjt b is o x=true:=by intro q;exact hf (canL_iff.mp q).2
    refine zjs (go.trans (zlV (ce:=c) fu hfu N S ho hxb p0 hf)) (by decide +kernel) rfl ?_
    refine⟨_,_,rfl,?_⟩
    rw[filter_append,filter_cons_of_neg ec,filter_nil,append_nil]
    exact O
  ·have ec:¬zjt b is o x=true:=by intro q;exact p0 (canL_iff.mp q).1
   refine zjs (go.trans (zlU (ce:=c) fu S h36 hxb p0)) (by decide +kernel) rfl ?_
   refine⟨_,_,rfl,?_⟩
   rw[filter_append,filter_cons_of_neg ec,filter_nil,append_nil]
   exact O
 ·rintro sl c ⟨x5,x6,rfl,O⟩
  exact zaw (w:=.cel ce.length) (ce':=c) (zai rfl) (O.finO (by simp only[zez];exact zg8 _ (zju _) _))
end
section
variable {c l:Ce} {k k':Nat} {b:List (List Nat)} {s s':Bool} {h:Int} {g g':Gm} {w:Option Nat} {is is':List Int} {o:Int}
theorem znR(fu:Nat){n:Nat}(G:GC c k b s h (push g is w n)):d_w fu [.cel k] c=some (.ok .non (zeN c k g)):=by
 have l1:=zcA G.p
 have l2:=zcA G.d
 have l3:=zcA G.t
 have e1:(push g is w n).past.map wS=g.past.map wS++[wS is]:=by simp[push]
 have e2:(push g is w n).done.map oW=g.done.map oW++[oW w]:=by simp[push]
 have e3:(push g is w n).tk.map nW=g.tk.map nW++[nW n]:=by simp[push]
 have a1:=zhO G.p e1
 have G1i:(c.set (k+1) (.lst (g.past.map wS)))[k]?=some (.ins "Game" (gmF b s h k)):=by rw[getElem?_set_ne (by omega)];exact G.i
 have G1d:(c.set (k+1) (.lst (g.past.map wS)))[k+2]?=some (.lst ((push g is w n).done.map oW)):=by rw[getElem?_set_ne (by omega)];exact G.d
 have a2:=zhO G1d e2
 have G2i:((c.set (k+1) (.lst (g.past.map wS))).set (k+2) (.lst (g.done.map oW)))[k]?=some (.ins "Game" (gmF b s h k)):=by rw[getElem?_set_ne (by omega)];exact G1i
 have G2t:((c.set (k+1) (.lst (g.past.map wS))).set (k+2) (.lst (g.done.map oW)))[k+3]?=some (.lst ((push g is w n).tk.map nW)):=by rw[getElem?_set_ne (by omega),getElem?_set_ne (by omega)];exact G.t
 have a3:=zhO G2t e3
 have tr:=zio G.d
 rw[e2,show((g.done.map oW++[oW w]).isEmpty)=false by simp] at tr
 unfold d_w
 refine znv [some (.cel k)] rfl ?_
 refine zaP (p:=!true) (ce':=c) (zbJ (zhL (zbb (zai rfl) G.i rfl) tr)) (fun q=>by cases q) (fun _=>zaH ?_)
 refine zdN (zhM (zbb (zai rfl) G.i rfl) (by simp only[zcg,G.p];rfl) a1) ?_
 refine zdN (zhM (zbb (zai rfl) G1i rfl) (by simp only[zcg,G1d];rfl) a2) ?_
 refine zeC (zhM (zbb (zai rfl) G2i rfl) (by simp only[zcg,G2t];rfl) a3) ?_
 exact⟨_,_,rfl,by have:=zjn (c:=c) (k:=k) (g:=g) (w:=.non) [] (by simp only[Bel]);rwa [append_nil] at this⟩
def zl4(h:Int)(g:Gm)(v:Int):Int:=(((List.range g.done.length).filter fun i=>!decide (hnd h i=v)).map fun i=>(g.tk.getD i 0:Int)).sum
theorem zjv(fu:Nat)(G:GC c k b s h g)(O:Gok b g)(v:Int):d_v fu [.cel k,.int v] c=some (.ok (.int (zl4 h g v)) c):=by
 have hz:(1000:Nat)<PySem.sizeLine:=by decide
 have lim:=O.lim
 have nt:=O.nt
 unfold d_v
 refine zbK [some (.cel k),some (.int v)] rfl ?_
 have eL:=lcF (zs:=List.range g.done.length) (en:=nW) (t:=fun i=>!decide (hnd h i=v)) (g:=fun i=>W.int (g.tk.getD i 0:Int)) (js:=[0,1]) (di:=zgu (zac (dBi zcq (zac (zcX "Game" "done" (zae 0)) zan)) zan)) (sl:=[some (.cel k),some (.int v)]) (ce:=c) (c1:=c)
  (c:=zep (dB (zaO (eqW true) (za3 "Game" "hand_at" 2 (d_f fu) (zae 1) (zac (zae 0) zan)) (zae 2)))) (e:=zaO ixW (zcX "Game" "takings" (zae 1)) (zae 0))
  (zeI (n:=g.done.length) (zaj (zbC (ws:=[.cel (k+2)]) (zaj (zbb (zai rfl) G.i rfl) zam) (zfF G)) zam) (by omega)).is (by rw[length_range];omega)
  (fun i _=>zfq (zc0 (zaR (zaI (ws:=[nW i]) (zai rfl) G.i rfl (zaj (zai rfl) zam) rfl (zdA fu G i)) (zai rfl) (zfn c (hnd h i) v true))))
  (fun i hi _=>zaR (zbb (zai rfl) G.i rfl) (zai rfl) (by
   have hi:=mem_range.mp hi
   show ixW c (.cel (k+3)) (nW i)=_
   rw[zgA (zck G.t),getElem?_map,getD_eq_getElem?_getD,getElem?_eq_getElem (by omega)];rfl))
 have em:((List.range g.done.length).filter fun i=>!decide (hnd h i=v)).map (fun i=>W.int (g.tk.getD i 0:Int))=(((List.range g.done.length).filter fun i=>!decide (hnd h i=v)).map fun i=>(g.tk.getD i 0:Int)).map W.int:=by rw[map_map];rfl
 rw[em] at eL
 exact zaw (zbC (zaj eL zam) zpG) (zaE (by simp only[Bel]))
end
theorem zp3{c:Ce}{n:Nat}(h:n<=1000):zjS zbs [nW n] c=some (.ok (wL (List.range n)) c):=by
 have z:2000<PySem.sizeLine:=by decide
 have r1:zmd [nW n]=some (.rng 0 n):=by
  simp only[zmd,nW]
  rw[if_pos ⟨by omega,by omega⟩,toNat_natCast]
 simp only[zjS,r1]
 rw[if_pos (by omega)]
 have e:(List.range n).map (fun(i:Nat)=>W.int (0+(i:Int)))=(List.range n).map nW:=by
  apply map_congr_left
  intro i _
  simp[nW]
 rw[e,zcs (by rw[length_map,length_range];omega)]
theorem znS{n:Nat}{ce:Ce}:∀(d:Nat) (w:W),cln d w=true->zfK n ce d w=some w:=by
 intro d
 induction d with
 | zero =>
  intro w h
  cases w with
  | cel _=>simp[cln] at h
  | lst _=>simp[cln] at h
  | tup _=>simp[cln] at h
  | _=>simp only[zfK]
 | succ d ih =>
  have ths:∀xs:List W,xs.all (cln d)=true->zdq n ce d xs=some xs:=by
   intro xs
   induction xs with
   | nil=>intro _;simp only[zdq]
   | cons a r ih2 =>
    intro h
    rw[all_cons,and_eq_true] at h
    simp only[zdq,ih a h.1,ih2 h.2]
  intro w h
  cases w with
  | cel _=>simp[cln] at h
  | lst xs=>simp only[cln] at h;simp only[zfK,ths xs h,map_some]
  | tup xs=>simp only[cln] at h;simp only[zfK,ths xs h,map_some]
  | _=>simp only[zfK]
theorem zl5{c:Ce}{w:W}(h6:cln 6 w=true)(h8:cln 8 w=true)(ng:Bool):eqD ng c w w=some (.bl (!ng)):=by
 have hx:zss c w=some w:=znS 6 w h6
 simp only[eqD,hx,h8,Bool.and_self,if_true,zi0 8 h8]
 cases ng<;>rfl
theorem zl6(n:Nat)(ps:List (List Int)):cln (n+2) (.lst (ps.map wS))=true:=by
 simp only[cln,all_eq_true]
 intro x hx
 obtain⟨is,_,rfl⟩:=mem_map.mp hx
 exact zdL is n
theorem zfG(n:Nat)(ds:List (Option Nat)):cln (n+1) (.lst (ds.map oW))=true:=by
 simp only[cln,all_eq_true]
 intro x hx
 obtain⟨o,_,rfl⟩:=mem_map.mp hx
 cases o<;>(cases n<;>rfl)
section
variable {c l:Ce} {k k':Nat} {b:List (List Nat)} {s s':Bool} {h:Int} {g g':Gm} {w:Option Nat} {is is':List Int} {o:Int}
open Classical in
def ziP(b:List (List Nat))(s:Bool)(h:Int)(g:Gm):List Nat:=((List.range b.length).filter (zjt b (cur g) (hnd h g.done.length))).filter fun p=>decide (zg7 s h g (lS b (cur g) (hnd h g.done.length) p)=none)
def zb2(b:List (List Nat))(s:Bool)(h:Int)(g:Gm):List (Option Nat):=if ended g=true then [] else (ziP b s h g).map some++[none]
theorem openL_mem:w∈zb2 b s h g↔∃g',Does b s h g w g':=by
 unfold zb2
 cases he:ended g with
 | true =>
  rw[if_pos rfl]
  constructor
  ·intro q;cases q
  ·rintro⟨g',D⟩;rw[D.1] at he;cases he
 | false =>
  rw[if_neg (by simp),mem_append,mem_map,mem_singleton]
  cases w with
  | none=>exact⟨fun _=>⟨_,he,rfl⟩,fun _=>.inr rfl⟩
  | some p =>
   constructor
   ·rintro(⟨q,hq,e⟩|q)
    ·cases e
     obtain⟨h1,h2⟩:=mem_filter.mp hq
     obtain⟨h1,h3⟩:=mem_filter.mp h1
     obtain⟨h3,h4⟩:=canL_iff.mp h3
     exact⟨_,he,mem_range.mp h1,h3,h4,by simpa using h2,rfl⟩
    ·cases q
   ·rintro⟨g',_,hp,p0,fr,hc,_⟩
    exact .inl ⟨p,mem_filter.mpr ⟨mem_filter.mpr ⟨mem_range.mpr hp,canL_iff.mpr ⟨p0,fr⟩⟩,decide_eq_true hc⟩,rfl⟩
theorem zl7(fu:Nat)(hfu:200<=fu)(N:BrdN b)(G:GC c k b s h g)(O:Gok b g)(h12:h=1\/h=2):d_a fu [.cel k] c=some (.ok (.cel c.length) (c++[.lst ((zb2 b s h g).map oW)])):=by
 have hz:=sl36
 have z200:200<PySem.sizeLine:=by decide
 have h36:=N.B.h36
 have e1:=zcB fu G O
 have e2:=zdf fu G O
 have e3:=zec fu G
 have e4:=zj7 (ce:=c) fu hfu N O.cur (zj4 h12 g.done.length) (pts:=List.range b.length) (fun p hp=>mem_range.mp hp) (by rw[length_range];omega)
 have er:zjS zbs [nW b.length] c=some (.ok (wL (List.range b.length)) c):=zp3 (by omega)
 unfold d_a
 refine zbK [some (.cel k),none,none] rfl ?_
 refine zaP (p:=!(!ended g)) (ce':=c) (zc0 (zcW (zaI (ws:=[]) (zai rfl) G.i rfl zam rfl e1) (by simp only[zcD,zeb]))) (fun q=>?_) (fun q=>zaH ?_)
 ·have he:ended g=true:=by simpa using q
  refine zc7 (zaw (zca zam (zero_le _)) ?_)
  have:zb2 b s h g=[]:=by unfold zb2;rw[if_pos he]
  rw[this]
  exact((Own.start c).alloc (C.lst [])).finO (by simp only[zez,zcf])
 ·have he:ended g=false:=by simpa using q
  refine zao (w:=.lst (((List.range b.length).filter (zjt b (cur g) (hnd h g.done.length))).map (zoy b (cur g) (hnd h g.done.length)))) (ce':=c) (zaG (ws:=[wB b,wS (cur g),.int (hnd h g.done.length),wL (List.range b.length)]) (zaj (zbb (zai rfl) G.i rfl) (zaj (zaI (ws:=[]) (zai rfl) G.i rfl zam rfl e2) (zaj (zaI (ws:=[]) (zai rfl) G.i rfl zam rfl e3) (zaj (zbC (ws:=[nW b.length]) (zaj (zbC (ws:=[wB b]) (zaj (zbb (zai rfl) G.i rfl) zam) zlh) zam) er) zam)))) rfl e4) ?_
  refine zQn ?_
  have hfl:((List.range b.length).filter (zjt b (cur g) (hnd h g.done.length))).length<=36:=by
   have h1:=length_filter_le (zjt b (cur g) (hnd h g.done.length)) (List.range b.length)
   rw[length_range] at h1
   omega
  have lc:=lcC (zs:=(List.range b.length).filter (zjt b (cur g) (hnd h g.done.length))) (en:=zoy b (cur g) (hnd h g.done.length)) (t:=fun p=>isNon (oW (zg7 s h g (lS b (cur g) (hnd h g.done.length) p)))) (g:=nW) (js:=[0]) (di:=dIL (zae 1)) (sl:=[some (.cel k),some (.lst (((List.range b.length).filter (zjt b (cur g) (hnd h g.done.length))).map (zoy b (cur g) (hnd h g.done.length)))),none]) (ce:=c) (c1:=c)
   (c:=zep (dB (dUn ztf (za3 "Game" "came_at" 2 (d_h fu) (zae 1) (zac (zaO ixW (zae 0) (dC (.int 1))) zan))))) (e:=zaO ixW (zae 0) (dC (.int 0))) (zfm (zai rfl)).is (by omega)
   (fun p _=>zfq (zc0 (zcW (zaI (ws:=[wS (lS b (cur g) (hnd h g.done.length) p)]) (zai rfl) G.i rfl (zaj (zaR (zai rfl) zbH (zkb (xs:=[nW p,wS (lS b (cur g) (hnd h g.done.length) p),wL (lT b (cur g) (hnd h g.done.length) p)]) (j:=1) rfl rfl)) zam) rfl (zlZ fu G O _)) rfl)))
   (fun p _ _=>zaR (zai rfl) zbH (zkb (xs:=[nW p,wS (lS b (cur g) (hnd h g.done.length) p),wL (lT b (cur g) (hnd h g.done.length) p)]) (j:=0) rfl rfl))
  have ef:((List.range b.length).filter (zjt b (cur g) (hnd h g.done.length))).filter (fun p=>isNon (oW (zg7 s h g (lS b (cur g) (hnd h g.done.length) p))))=ziP b s h g:=by
   unfold ziP
   apply filter_congr
   intro p _
   cases zg7 s h g (lS b (cur g) (hnd h g.done.length) p) with
   | none=>simp[oW,isNon]
   | some m=>simp[oW,nW,isNon]
  rw[ef] at lc
  refine zao lc ?_
  refine zQn ?_
  have O0:=(Own.start c).alloc (C.lst ((ziP b s h g).map nW))
  have hop:(ziP b s h g).length<=36:=le_trans (length_filter_le _ _) hfl
  have ea:=zfl (y:=.non) O0.g0 (by rw[length_map];omega)
  refine zdN (zfk (ws:=[.non]) (zai rfl) (zcj O0.g0) (zaj zbH zam) ea) ?_
  have O1:=O0.set0 (C.lst ((ziP b s h g).map nW++[.non]))
  have eo:(zb2 b s h g).map oW=(ziP b s h g).map nW++[.non]:=by
   unfold zb2
   rw[if_neg (by rw[he];simp),map_append,map_map]
   rfl
  rw[eo]
  refine zaw (w:=.cel c.length) (zai rfl) (O1.finO ?_)
  rw[<- eo]
  simp only[zez]
  exact zb1 _ _
theorem znT(fu:Nat)(hfu:200<=fu)(N:BrdN b)(G:GC c k b s h g)(O:Gok b g)(h12:h=1\/h=2):zdB (d_a fu) [.cel k] c=some (.ok (.lst ((zb2 b s h g).map oW)) c):=zcr (zl7 fu hfu N G O h12) (zb1 _ _)
end
section
variable {c l:Ce} {k k':Nat} {b:List (List Nat)} {s s':Bool} {h:Int} {g g':Gm} {w:Option Nat} {is is':List Int} {o:Int}
def stL(b:List (List Nat))(s:Bool)(h:Int)(g:Gm):List W:=[wS (cur g),.int (hnd h g.done.length),.lst (g.past.map wS),.lst (g.done.map oW),.lst ((zb2 b s h g).map oW),.int (zl4 h g 1),.int (zl4 h g 2),zhc g]
def stW(b:List (List Nat))(s:Bool)(h:Int)(g:Gm):W:=.lst (stL b s h g)
theorem zp4(n:Nat)(g:Gm):cln n (zhc g)=true:=by
 unfold zhc
 repeat' split
 all_goals (cases n<;>rfl)
theorem zew(n:Nat):cln (n+3) (stW b s h g)=true:=by
 have h1:cln (n+2) (wS (cur g))=true:=zdL _ (n+1)
 have h2:=zl6 n g.past
 have h3:=zfG (n+1) g.done
 have h4:=zfG (n+1) (zb2 b s h g)
 have h5:=zp4 (n+2) g
 show(stL b s h g).all (cln (n+2))=true
 have h6:∀i:Int,cln (n+2) (.int i)=true:=fun i=>rfl
 simp only[stL,all_cons,all_nil,h6]
 rw[h1,h2,h3,h4,h5]
 rfl
theorem zp5(n:Nat)(g:Gm):Bel n (zhc g):=by
 unfold zhc
 repeat' split
 all_goals simp only[Bel]
theorem stW_bel(n:Nat):Bel n (stW b s h g):=by
 simp only[stW,stL,Bel,zcf]
 exact⟨belInts _ _,trivial,zea _ _,zb1 _ _,zb1 _ _,trivial,trivial,zp5 _ _,trivial⟩
theorem zdo(fu:Nat)(hfu:200<=fu)(N:BrdN b)(G:GC c k b s h g)(O:Gok b g)(h12:h=1\/h=2):d_r fu [.cel k] c=some (.ok (stW b s h g) c):=by
 have z5:5<=PySem.sizeLine:=by decide
 have z3:3<=PySem.sizeLine:=by decide
 have z8:8<=PySem.sizeLine:=by decide
 have e1:=zdf fu G O
 have e2:=zec fu G
 have e3:=zj6 fu G O
 have e4:=zh1 fu G O
 have e5:=znT fu hfu N G O h12
 have e6:=zjv fu G O 1
 have e7:=zjv fu G O 2
 have e8:=zcB fu G O
 unfold d_r
 refine zbK [some (.cel k),none] rfl ?_
 refine zao (w:=.lst [wS (cur g),.int (hnd h g.done.length),.lst (g.past.map wS),.lst (g.done.map oW),.lst ((zb2 b s h g).map oW)]) (ce':=c) (zdO (zaj (zaI (ws:=[]) (zai rfl) G.i rfl zam rfl e1) (zaj (zaI (ws:=[]) (zai rfl) G.i rfl zam rfl e2) (zaj (zaI (ws:=[]) (zai rfl) G.i rfl zam rfl e3) (zaj (zaI (ws:=[]) (zai rfl) G.i rfl zam rfl e4) (zaj (zaI (ws:=[]) (zai rfl) G.i rfl zam rfl e5) zam))))) z5) ?_
 refine zQn ?_
 refine zaw (w:=stW b s h g) (ce':=c) (zgZ (xs:=[wS (cur g),.int (hnd h g.done.length),.lst (g.past.map wS),.lst (g.done.map oW),.lst ((zb2 b s h g).map oW)]) (ys:=[.int (zl4 h g 1),.int (zl4 h g 2),zhc g]) (zai rfl) (zdO (zaj (zaI (ws:=[.int 1]) (zai rfl) G.i rfl (zaj zbH zam) rfl e6) (zaj (zaI (ws:=[.int 2]) (zai rfl) G.i rfl (zaj zbH zam) rfl e7) (zaj (zaI (ws:=[]) (zai rfl) G.i rfl zam rfl e8) zam))) z3) rfl rfl z8) (zaE (stW_bel _))
theorem zp6(fu:Nat)(G:GC c k b s h g)(h0:g.done=[]):d_w fu [.cel k] c=some (.ex ⟨"NoBack",none⟩ c):=by
 have tr:=zio G.d
 rw[h0] at tr
 unfold d_w
 refine zdm [some (.cel k)] rfl ?_
 exact zaP (p:=!false) (ce':=c) (zbJ (zhL (zbb (zai rfl) G.i rfl) tr)) (fun _=>zda rfl ⟨rfl,[],by simp⟩) (fun q=>by cases q)
theorem zl8{f:Ce->W->Option W}{d:Sl->M W}{sl:Sl}{c c1:Ce}{w w':W}(h:d sl c=some (.ok w c1))(hf:f c1 w=some w'):znl f d sl c=some (.ok w' c1):=by simp only[znl,bnd,h,look,hf,map_some]
theorem zp7{ce:Ce}(nm:PySem.Str):ziv (ce++[.exn nm]) (.cel ce.length)=some nm:=by simp only[ziv,zf6]
theorem zl9(fu:Nat)(G:GC c k b s h g)(h0:g.done=[]):d_i fu [.cel k] c=some (.ok (.bl true) c):=by
 have hu:zcb XTB "StoneError" ⟨"NoBack",none⟩=true:=by decide +kernel
 have ha:zfM XTB "NoBack" = some (["NoBack", "StoneError"]:List PySem.Str):=by decide +kernel
 unfold d_i
 refine zbK [some (.cel k),none,none] rfl ?_
 refine zao (w:=.non) (ce':=c) zbH ?_
 refine zQn ?_
 have hc:za3 "Game" "back" 1 (d_w fu) (zep (zae 0)) (zep zan) [some (.cel k),some .non,none] c=some (.ex ⟨"NoBack",none⟩ c):=zaI (ws:=[]) (zfq (zai rfl)) G.i rfl (zfq zam) rfl (zp6 fu G h0)
 refine zno (sl':=[some (.cel k),some (.cel c.length),none]) (c2:=c++[.exn "NoBack"]) hc hu rfl ?_
 have v0:zrT XTB (c++[.exn "NoBack"]) (.cel c.length) "NoBack" = some (.bl true):=by
  unfold zrT
  rw[zp7,bind_some,ha,bind_some,if_pos (by decide +kernel)]
  rfl
 have v1:zrV XTB (c++[.exn "NoBack"]) (.cel c.length) ["Again", "NoBreath", "NoLay", "NoStand", "Over"]=some (.bl false):=by
  unfold zrV
  rw[zp7,bind_some,ha,bind_some,if_pos (by decide +kernel)]
  exact congrArg (fun t=>some (W.bl t)) (by decide +kernel)
 have v3:zrU XTB (c++[.exn "NoBack"]) (.cel c.length)=some (.bl true):=by
  unfold zrU
  rw[zp7,bind_some,ha,bind_some]
 refine zaP (p:=!true||!true) (ce':=c++[.exn "NoBack"]) (zi9 (zbJ (zc0 (zl8 (zai rfl) v0))) (fun _=>zbJ (zc0 (zl8 (zai rfl) v3)))) (fun q=>by cases q) (fun _=>zaH ?_)
 exact zaw (w:=.bl (!false)) (ce':=c++[.exn "NoBack"]) (zr4 (zl8 (zai rfl) v1)) (zen (zeU (by simp only[Bel])))
end
inductive Ch (b:List (List Nat)) (s:Bool) (h:Int) (is0:List Int):Gm->List W->Prop
 | zero:Ch b s h is0 (gm0 is0) [stW b s h (gm0 is0)]
 | step {g g':Gm} {ss:List W} {w:Option Nat} (C:Ch b s h is0 g ss) (D:Does b s h g w g'):Ch b s h is0 g' (ss++[stW b s h g'])
section
variable {c c' l:Ce} {k k':Nat} {b:List (List Nat)} {s s':Bool} {h:Int} {g g' g1 g2:Gm} {w:Option Nat} {is0:List Int} {ss ss1 ss2:List W}
theorem Does.done(D:Does b s h g w g'):g'.done=g.done++[w]:=by
 cases w with
 | none=>rw[D.2];rfl
 | some p=>rw[D.2.2.2.2.2];rfl
theorem Does.psh(D:Does b s h g w g'):∃is n,g'=push g is w n:=by
 cases w with
 | none=>exact⟨_,_,D.2⟩
 | some p=>exact⟨_,_,D.2.2.2.2.2⟩
theorem Does.uniq(D1:Does b s h g w g1)(D2:Does b s' h g w g2):g1=g2:=by
 cases w with
 | none=>exact D1.2.trans D2.2.symm
 | some p=>exact D1.2.2.2.2.2.trans D2.2.2.2.2.2.symm
theorem Does.lt(D:Does b s h g w g'):∀p,w=some p->p<b.length:=fun p e=>by subst e;exact D.2.1
theorem Ch.last(C:Ch b s h is0 g ss):∃r,ss=r++[stW b s h g]:=by
 cases C with
 | zero=>exact⟨[],rfl⟩
 | step C D=>exact⟨_,rfl⟩
theorem Ch.len(C:Ch b s h is0 g ss):ss.length=g.done.length+1:=by
 induction C with
 | zero=>rfl
 | step C D ih=>rw[D.done];simp[ih]
theorem Ch.bel(n:Nat)(C:Ch b s h is0 g ss):zcf n ss:=by
 have app:∀(l:List W) (x:W),zcf n l->Bel n x->zcf n (l++[x]):=by
  intro l x h1 h2
  induction l with
  | nil=>simp only[nil_append,zcf];exact⟨h2,trivial⟩
  | cons a r ih=>simp only[cons_append,zcf] at h1 ⊢;exact⟨h1.1,ih h1.2⟩
 induction C with
 | zero=>simp only[zcf];exact⟨stW_bel _,trivial⟩
 | step C D ih=>exact app _ _ ih (stW_bel _)
theorem Ch.ok(N:BrdN b)(S:StdOk b is0)(h12:h=1\/h=2)(C:Ch b s h is0 g ss):Gok b g:=by
 induction C with
 | zero=>exact zus S
 | step C D ih=>exact D.ok ih N h12
theorem Ch.uniq(C1:Ch b s h is0 g1 ss1):∀{g2 ss2},Ch b s h is0 g2 ss2->g1.done=g2.done->g1=g2:=by
 induction C1 with
 | zero =>
  intro g2 ss2 C2 e
  cases C2 with
  | zero=>rfl
  | step C D=>rw[D.done] at e;simp[gm0] at e
 | step C D ih =>
  intro g2 ss2 C2 e
  cases C2 with
  | zero=>rw[D.done] at e;simp[gm0] at e
  | step C2 D2 =>
   rw[D.done,D2.done] at e
   obtain⟨e1,e2⟩:=append_inj' e rfl
   have:=ih C2 e1
   subst this
   injection e2 with e2
   subst e2
   exact D.uniq D2
theorem Ch.pref(C:Ch b s h is0 g ss):∀{d w r},g.done=d++w::r->∃g1 ss1 g2,Ch b s h is0 g1 ss1/\g1.done=d/\Does b s h g1 w g2:=by
 induction C with
 | zero=>intro d w r e;simp[gm0] at e
 | @step g g' ss w0 C D ih =>
  intro d w r e
  rw[D.done] at e
  rcases eq_nil_or_concat r with rfl|⟨r',x,rfl⟩
  ·obtain⟨e1,e2⟩:=append_inj' e rfl
   injection e2 with e2
   subst e2
   exact⟨g,ss,g',C,e1,D⟩
  ·rw[concat_eq_append,<- cons_append,<- append_assoc] at e
   obtain⟨e1,e2⟩:=append_inj' e rfl
   exact ih e1
structure St (c:Ce) (b:List (List Nat)) (s:Bool) (h:Int) (g:Gm) (ss:List W):Prop where
 gc:GC c 0 b s h g
 ls:c[4]?=some (.lst ss)
 len:c.length=5
theorem St.deed(T:St c b s h g ss)(g':Gm):St (zeN c 0 g') b s h g' ss:=⟨T.gc.put g',(zlX (by omega) (by omega) (by omega)).trans T.ls,gput_len.trans T.len⟩
theorem St.set(T:St c b s h g ss)(ss':List W):St (c.set 4 (.lst ss')) b s h g ss':=by
 have hl:=T.len
 refine⟨⟨?_,?_,?_,?_⟩,?_,by rw[length_set];exact T.len⟩
 ·rw[getElem?_set_ne (by omega)];exact T.gc.i
 ·rw[getElem?_set_ne (by omega)];exact T.gc.p
 ·rw[getElem?_set_ne (by omega)];exact T.gc.d
 ·rw[getElem?_set_ne (by omega)];exact T.gc.t
 ·rw[getElem?_set_self (by omega)]
theorem St.cut(T:St c b s h g ss)(T':St c' b s h g' ss1)(hb:zcf 5 ss1)(l:Ce):zdw c (c'++l):=by
 have h1:=T.len
 have h2:=T'.len
 refine⟨by rw[length_append];omega,fun j x hj e=>?_⟩
 rw[getElem?_append_left (by omega)] at e
 have:j=0\/j=1\/j=2\/j=3\/j=4:=by omega
 rcases this with rfl|rfl|rfl|rfl|rfl
 ·have:=T'.gc.i;rw[this] at e;cases e;exact .inl T.gc.i
 ·have:=T'.gc.p;rw[this] at e;cases e;right;simp only[zez];exact zea _ _
 ·have:=T'.gc.d;rw[this] at e;cases e;right;simp only[zez];exact zb1 _ _
 ·have:=T'.gc.t;rw[this] at e;cases e;right;simp only[zez];exact bels_nW _ _
 ·have:=T'.ls;rw[this] at e;cases e;right;simp only[zez];rw[h1];exact hb
theorem St.fin(T:St c b s h g ss)(T':St c' b s h g' ss1)(hb:zcf 5 ss1){x:W}(hx:Bel c.length x):finC c c' x=some (.ok x c'):=by
 have:=T.cut T' hb []
 rw[append_nil] at this
 unfold finC
 rw[if_pos ⟨this,hx⟩,take_of_length_le (by rw[T.len,T'.len];exact le_refl _)]
theorem zdg(fu:Nat)(hfu:200<=fu)(N:BrdN b)(S:StdOk b is0)(h12:h=1\/h=2)(T:St c b s h g ss)(C:Ch b s h is0 g ss){n:Nat}(hn:n<=1000) :
  ∃c' g' ss',d_c fu [.cel 0,.cel 4,nW n] c=some (.ok (.bl true) c')/\St c' b s h g' ss'/\Ch b s h is0 g' ss'/\g'.done.length=g.done.length-n:=by
 suffices hs:∃u c',d_c fu [.cel 0,.cel 4,nW n] c=some (.ok u c')/\u=.bl true/\∃g' ss',St c' b s h g' ss'/\Ch b s h is0 g' ss'/\g'.done.length=g.done.length-n by
  obtain⟨u,c',e,rfl,g',ss',q⟩:=hs
  exact⟨c',g',ss',e,q⟩
 unfold d_c
 refine ziE [some (.cel 0),some (.cel 4),some (nW n),none] rfl ?_
 refine zbj (zs:=List.range n) (en:=nW) (c1:=c) (zeI (n:=n) (zaj (zai rfl) zam) hn)
  (fun d sl c'=>∃x3 g' ss',sl=[some (.cel 0),some (.cel 4),some (nW n),x3]/\St c' b s h g' ss'/\Ch b s h is0 g' ss'/\g'.done.length=g.done.length-d.length)
  ⟨_,g,ss,rfl,T,C,by simp⟩ ?_ ?_
 ·rintro d m r sl c1 _ _ ⟨x3,g1,ss1,rfl,T1,C1,hl⟩
  have O1:=C1.ok N S h12
  have G1:=T1.gc
  have cl:=C1.len
  have ll:zcq [.cel 4] c1=some (.ok (nW ss1.length) c1):=by simp only[zcq,zck T1.ls];rfl
  unfold zcx
  refine zQn ?_
  refine zbE (p:=decide ((ss1.length:Int)=1)) (ce':=c1) (zc0 (zcG (x:=nW ss1.length) (zbC (ws:=[.cel 4]) (zaj (zai rfl) zam) ll) zbH (zem (i:=(ss1.length:Int)) (j:=1) rfl rfl))) (fun q=>?_) (fun q=>?_)
  ·have q:=of_decide_eq_true q
   have d0:g1.done=[]:=length_eq_zero_iff.mp (by omega)
   have e1:=zl9 fu G1 d0
   have e2:=zdo fu hfu N G1 O1 h12
   have e3:ixW c1 (.cel 4) (.int 0)=some (stW b s h g1):=by
    obtain⟨r,er⟩:=C1.last
    have:r=[]:=length_eq_zero_iff.mp (by have:=congrArg List.length er;simp at this;omega)
    subst this
    refine(zkb (j:=0) (zck T1.ls) rfl).trans ?_
    rw[er];rfl
   have e4:=zl5 (c:=c1) (w:=stW b s h g1) (zew 3) (zew 5) true
   refine zbE (p:=!true||!true) (ce':=c1) (zi9 (zbJ (zc0 (zaG (ws:=[.cel 0]) (by trivial) rfl e1))) (fun _=>zc0 (zaR (zaG (ws:=[.cel 0]) (by trivial) rfl e2) (zaR (zai rfl) zbH e3) e4))) (fun z=>by cases z) (fun _=>zbn ?_)
   refine⟨_,g1,ss1,rfl,T1,C1,?_⟩
   rw[length_append,length_cons,length_nil]
   omega
  ·have q:=of_decide_eq_false q
   cases C1 with
   | zero=>exact absurd rfl q
   | @step g0 _ ss0 w0 C0 D =>
    obtain⟨is,n0,rfl⟩:=D.psh
    have T2:=T1.deed g0
    have O0:=C0.ok N S h12
    have e1:=znR fu G1
    refine zaP (p:=false) (ce':=zeN c1 0 g0) (zc0 (zcW (zaI (ws:=[]) (zai rfl) G1.i rfl zam rfl e1) rfl)) (fun z=>by cases z) (fun _=>zaH ?_)
    refine zdN (zhM (zai rfl) (by simp only[zcg,T2.ls];rfl) (zhO T2.ls rfl)) ?_
    have T3:=T2.set ss0
    generalize (zeN c1 0 g0).set 4 (.lst ss0)=c3 at T3
    have e2:=zdo fu hfu N T3.gc O0 h12
    obtain⟨r,er⟩:=C0.last
    have e3:ixW c3 (.cel 4) (.int (-1))=some (stW b s h g0):=by
     rw[ziO (zck T3.ls) (by rw[er];simp),er]
     simp
    have e4:=zl5 (c:=c3) (w:=stW b s h g0) (zew 3) (zew 5) true
    refine zbE (p:=!true) (ce':=c3) (zc0 (zaR (zaG (ws:=[.cel 0]) (by trivial) rfl e2) (zaR (zai rfl) (zcW zbH rfl) e3) e4)) (fun z=>by cases z) (fun _=>zbn ?_)
    refine⟨_,g0,ss0,rfl,T3,C0,?_⟩
    have:(push g0 is w0 n0).done.length=g0.done.length+1:=by simp[push]
    rw[length_append,length_cons,length_nil]
    omega
 ·rintro sl c1 ⟨x3,g1,ss1,rfl,T1,C1,hl⟩
  rw[length_range] at hl
  exact zaw (w:=.bl true) (ce':=c1) zbH ⟨_,_,T.fin T1 (C1.bel 5) (by simp only[Bel]),rfl,g1,ss1,T1,C1,hl⟩
end
theorem zjw{ce:Ce}{ns xs:List Int}{v i j e:Int}{sl:Sl}{d3:Sl->M W}{dh:Sl->M (Option Int)}{hi:Option Int}(h0:sl[0]?=some (some (sW ns)))(h1:sl[1]?=some (some (sW xs)))(hn:ns.length<=63)(hx:xs.length<=1000)(hh:dh sl ce=some (.ok hi ce))(h3:d3 sl ce=some (.ok (.int v) ce)) :
  ∃cs:List Int,dSl zbs (zk0 zbs (dSl zbs (zae 0) (zbY (dC (.int i))) (zbY (dC (.int j)))) (dSl zbs (zae 1) (zbY (dC (.int e))) dh)) zbo (zbY d3) sl ce=some (.ok (sW cs) ce):=by
 have hz:3000<PySem.sizeLine:=by decide
 obtain⟨a,e1,l1,_⟩:=zg2 ns (some i) (some j)
 obtain⟨b,e2,l2,_⟩:=zg2 xs (some e) hi
 have v0:zae 0 sl ce=some (.ok (sW ns) ce):=zai h0
 have v1:zae 1 sl ce=some (.ok (sW xs) ce):=zai h1
 have s1:dSl zbs (zae 0) (zbY (dC (.int i))) (zbY (dC (.int j))) sl ce=some (.ok (sW a) ce):=by
  have:=zg1 (sl:=sl) (ce:=ce) (a:=zae 0) (xs:=ns.map W.int) v0 (zeo (zbH (w:=.int i))) (zeo (zbH (w:=.int j))) rfl (by rw[length_map];omega)
  rw[e1] at this
  exact this
 have s2:dSl zbs (zae 1) (zbY (dC (.int e))) dh sl ce=some (.ok (sW b) ce):=by
  have:=zg1 (sl:=sl) (ce:=ce) (a:=zae 1) (xs:=xs.map W.int) (dh:=dh) (hi:=hi) v1 (zeo (zbH (w:=.int e))) hh rfl (by rw[length_map];omega)
  rw[e2] at this
  exact this
 have s3:=zgZ s1 s2 (xs:=a.map W.int) (ys:=b.map W.int) rfl rfl (by rw[length_map,length_map];omega)
 rw[<- map_append] at s3
 obtain⟨cs,e3,_,_⟩:=zg2 (a++b) none (some v)
 refine⟨cs,?_⟩
 have:=zg1 (dl:=zbo) (lo:=none) s3 rfl (zeo h3) (xs:=(a++b).map W.int) rfl (by rw[length_map,length_append];omega)
 rw[e3] at this
 exact this
theorem zp8{c:Ce}(l:List (Option Nat)):eqW false c (.lst (l.map oW)) (.lst [])=some (.bl (decide (l=[]))):=by
 have h1:cln 8 (.lst (l.map oW))=true:=zfG 7 l
 cases l with
 | nil=>rfl
 | cons a r =>
  have e:peq (W.lst ((a::r).map oW)) (.lst [])=false:=rfl
  have h2:cln 8 (W.lst [])=true:=rfl
  show(if (cln 8 (W.lst ((a::r).map oW))&&cln 8 (W.lst []))=true then some (W.bl (if false=true then !peq (W.lst ((a::r).map oW)) (.lst []) else peq (W.lst ((a::r).map oW)) (.lst []))) else none)=_
  rw[h1,h2,e]
  rfl
theorem main(ns:List Int)(_h:ns.length<=63):∃ce',d_law FU [.lst (ns.map W.int)] []=some (.ok (.bl true) ce'):=by
 have hz:=sl36
 have hfu:200<=FU:=by decide
 have z1:1<=PySem.sizeLine:=by decide
 have z2:2<=PySem.sizeLine:=by decide
 have hz3:3000<PySem.sizeLine:=by decide
 suffices hs:∃w c,d_law FU [.lst (ns.map W.int)] []=some (.ok w c)/\w=.bl true by
  obtain⟨w,c,e,rfl⟩:=hs
  exact⟨c,e⟩
 obtain⟨xs,e1,xl,hxs⟩:=zfC (ce:=[]) FU ((ns++[0]).getD 0 0) (m:=50) (by omega)
 have e1':d_k FU [.int ((ns++[0]).getD 0 0),.int 50] []=some (.ok (sW xs) []):=e1
 obtain⟨n,ls,e2,n0,n36,L⟩:=znD (ce:=[]) FU (xs:=xs) (by omega) hxs
 have e3:=zlH (ce:=[]) FU n0 n36 L
 have B:=zpT L n0 n36
 have N:BrdN (ziG n ls):=⟨B,zpX L⟩
 have bl:(ziG n ls).length=n:=by simp[ziG]
 generalize ziG n ls=b at e3 B N bl
 unfold d_law
 refine ziE [some (sW ns),none,none,none,none,none,none,none,none,none,none,none,none,none] rfl ?_
 have ec:zk0 zbs (zae 0) (zh2 (zac (dC (.int 0)) zan)) [some (sW ns),none,none,none,none,none,none,none,none,none,none,none,none,none] []=some (.ok (sW (ns++[0])) []):=by
  have:=zgZ (sl:=[some (sW ns),none,none,none,none,none,none,none,none,none,none,none,none,none]) (ce:=[]) (a:=zae 0) (b:=zh2 (zac (dC (.int 0)) zan)) (zai rfl) (zdO (ws:=[.int 0]) (by trivial) z1) (xs:=ns.map W.int) (ys:=[.int 0]) rfl rfl (by rw[length_map];show ns.length+1<=_;omega)
  rw[this]
  show _=some (R.ok (W.lst ((ns++[0]).map W.int)) [])
  rw[map_append];rfl
 have i0:=zcU (ns:=ns++[0]) (p:=0) (by simp) [] (i:=0) rfl
 refine zao (w:=sW xs) (ce':=[]) (zaG (ws:=[.int ((ns++[0]).getD 0 0),.int 50]) (zaj (zaR ec zbH i0) (by trivial)) rfl e1') ?_
 refine zQn ?_
 refine znd (x:=nW n) (y:=.lst (ls.map pW)) (c1:=[]) (zaG (ws:=[sW xs]) (by trivial) rfl e2) ?_
 refine(?_:Run _ [some (sW ns),some (sW xs),some (nW n),some (.lst (ls.map pW)),none,none,none,none,none,none,none,none,none,none] [] _)
 refine zao (w:=wB b) (ce':=[]) (zaG (ws:=[nW n,.lst (ls.map pW)]) (by trivial) rfl e3) ?_
 refine zQn ?_
 have i3:=zcU (ns:=xs) (p:=3) (by omega) [] (i:=3) rfl
 have i5:=zcU (ns:=xs) (p:=5) (by omega) [] (i:=5) rfl
 have i6:=zcU (ns:=xs) (p:=6) (by omega) [] (i:=6) rfl
 have i4:∀c:Ce,ixW c (sW xs) (.int 4)=some (.int (xs.getD 4 0)):=fun c=>zcU (ns:=xs) (p:=4) (by omega) c (i:=4) rfl
 obtain⟨cs,e4⟩:=zjw (ce:=[]) (ns:=ns) (xs:=xs) (v:=xs.getD 6 0 % 12) (i:=31) (j:=43) (e:=40) (sl:=[some (sW ns),some (sW xs),some (nW n),some (.lst (ls.map pW)),some (wB b),none,none,none,none,none,none,none,none,none]) (d3:=dOp zco (zaO ixW (zae 1) (dC (.int 6))) (dC (.int 12))) (dh:=zbo) (hi:=none) rfl rfl (by omega) (by omega) rfl
  (zcG (zaR (zai rfl) zbH i6) zbH (zeA (by omega)))
 obtain⟨is,e5,S⟩:=znI (ce:=[]) FU hfu N cs
 refine zao (w:=wS is) (ce':=[]) (zaG (ws:=[wB b,sW cs]) (zaj (by trivial) (zaj e4 zam)) rfl e5) ?_
 refine zQn ?_
 obtain⟨st,hst⟩:∃st:Bool,ixW [] (.lst [.str "stones",.str "turns"]) (.int (xs.getD 3 0 % 2))=some (.str (rl st)):=by
  have:xs.getD 3 0 % 2=0\/xs.getD 3 0 % 2=1:=by omega
  rcases this with h|h
  ·rw[h];exact⟨true,zkb (xs:=[.str "stones",.str "turns"]) (j:=0) rfl rfl⟩
  ·rw[h];exact⟨false,zkb (xs:=[.str "stones",.str "turns"]) (j:=1) rfl rfl⟩
 refine zao (w:=.str (rl st)) (ce':=[]) (zaR (zdO (ws:=[.str "stones",.str "turns"]) (by trivial) z2) (zcG (zaR (zai rfl) zbH i3) zbH (zeA (by omega))) hst) ?_
 refine zQn ?_
 have h12:1+xs.getD 5 0 % 2=1\/1+xs.getD 5 0 % 2=2:=by omega
 have gi:∀(s:Bool) (h:Int) (c:Ce),d_e FU [.cel c.length,wB b,.str (rl s),wS is,.int h] (c++[C.ins "Game" []])=some (.ok .non (c++gcs b s h c.length is)):=fun s h c=>zp1 FU (fun c=>zsj FU S.hl B.h36 S.v c) (fun c=>zpZ FU hfu N S c)
 refine zao (w:=.cel 0) (ce':=gcs b st (1+xs.getD 5 0 % 2) 0 is) (zpL (ws:=[wB b,.str (rl st),wS is,.int (1+xs.getD 5 0 % 2)]) (c1:=[]) (zaj (zai rfl) (zaj (zai rfl) (zaj (zai rfl) (zaj (zcG (x:=.int 1) zbH (zcG (zaR (zai rfl) zbH i5) zbH (zeA (by omega))) rfl) zam)))) rfl (gi st _ [])) ?_
 refine zQn ?_
 generalize 1+xs.getD 5 0 % 2=hd at h12
 have G1:GC (gcs b st hd 0 is) 0 b st hd (gm0 is):=gc0 [] is
 have hl4:(gcs b st hd 0 is).length=4:=rfl
 refine zao (zca (ws:=[stW b st hd (gm0 is)]) (zaj (zaG (ws:=[.cel 0]) (by trivial) rfl (zdo FU hfu N G1 (zus S) h12)) zam) z1) ?_
 have T0:St (gcs b st hd 0 is++[.lst [stW b st hd (gm0 is)]]) b st hd (gm0 is) [stW b st hd (gm0 is)]:=⟨G1.app _,by rw[getElem?_append_right (by rw[hl4];omega),hl4];rfl,by rw[length_append,hl4];rfl⟩
 refine(?_:Run _ (List.set _ _ (some (W.cel 4))) (gcs b st hd 0 is++[.lst [stW b st hd (gm0 is)]]) _)
 generalize gcs b st hd 0 is++[.lst [stW b st hd (gm0 is)]]=c0 at T0
 refine zQn ?_
 obtain⟨c1,g1,ss1,f1,T1,C1,_⟩:=zdg FU hfu N S h12 T0 .zero (n:=1) (by omega)
 refine zaP (p:=!true) (ce':=c1) (zbJ (zc0 (zaG (ws:=[.cel 0,.cel 4,.int 1]) (by trivial) rfl f1))) (fun z=>by cases z) (fun _=>zaH ?_)
 obtain⟨ds,e6⟩:=zjw (ce:=c1) (ns:=ns) (xs:=xs) (v:=xs.getD 4 0 % 31) (i:=1) (j:=31) (e:=8) (sl:=[some (sW ns),some (sW xs),some (nW n),some (.lst (ls.map pW)),some (wB b),some (wS is),some (.str (rl st)),some (.cel 0),some (.cel 4),none,none,none,none,none]) (d3:=dOp zco (zaO ixW (zae 1) (dC (.int 4))) (dC (.int 31))) (dh:=zbo) (hi:=none) rfl rfl (by omega) (by omega) rfl (zcG (zaR (zai rfl) zbH (i4 _)) zbH (zeA (by omega)))
 refine zbj (zs:=ds) (en:=W.int) (c1:=c1) (zfm (xs:=ds.map W.int) e6)
  (fun d sl c=>∃y9 y10 y11 y12 y13 g ss,sl=[some (sW ns),some (sW xs),some (nW n),some (.lst (ls.map pW)),some (wB b),some (wS is),some (.str (rl st)),some (.cel 0),some (.cel 4),y9,y10,y11,y12,y13]/\St c b st hd g ss/\Ch b st hd is g ss)
  ⟨_,_,_,_,_,g1,ss1,rfl,T1,C1⟩ ?_ ?_
 ·rintro d t r sl c _ _ ⟨y9,y10,y11,y12,y13,g,ss,rfl,T,C⟩
  have O:=C.ok N S h12
  have lim:=O.lim
  obtain⟨r',er⟩:=C.last
  have j1:ixW c (.cel 4) (.int (-1))=some (stW b st hd g):=by
   rw[ziO (zck T.ls) (by rw[er];simp),er]
   simp
  have j2:ixW c (stW b st hd g) (.int 4)=some (.lst ((zb2 b st hd g).map oW)):=zkb (xs:=stL b st hd g) (j:=4) rfl rfl
  unfold zou
  refine zQn ?_
  refine zao (w:=.lst ((zb2 b st hd g).map oW)) (ce':=c) (zaR (zaR (zai rfl) (zcW zbH rfl) j1) zbH j2) ?_
  refine zQn ?_
  refine zbE (p:=decide (t % 3=0)||decide (zb2 b st hd g=[])) (ce':=c) (zi9 (zc0 (zcG (x:=.int (t % 3)) (zcG (zai rfl) zbH (zeA (by omega))) zbH (zem (i:=t % 3) (j:=0) rfl rfl))) (fun _=>zc0 (zaR (zai rfl) (zdO zam (zero_le _)) (zp8 _)))) (fun _=>?_) (fun q=>?_)
  ·obtain⟨m,hm,em⟩:=zgB (t / 3) (n:=4) (by omega)
   have em':t / 3 % 4=(m:Int):=em
   obtain⟨c2,g2,ss2,f2,T2,C2,_⟩:=zdg FU hfu N S h12 T C (n:=1+m) (by omega)
   refine zbE (p:=!true) (ce':=c2) (zbJ (zc0 (zaG (ws:=[.cel 0,.cel 4,nW (1+m)]) (zaj (zai rfl) (zaj (zai rfl) (zaj (zcG (x:=.int 1) (y:=.int (m:Int)) zbH (zcG (x:=.int (t / 3)) (zcG (zai rfl) zbH (zgH rfl rfl (by omega))) zbH (by rw[zeA (by omega),em'])) (by simp[nW])) zam))) rfl f2))) (fun z=>by cases z) (fun _=>zbn ?_)
   exact⟨_,_,_,_,_,g2,ss2,rfl,T2,C2⟩
  ·rw[or_eq_false_iff] at q
   have ne:=of_decide_eq_false q.2
   have pos:0<(zb2 b st hd g).length:=length_pos_iff.mpr ne
   obtain⟨j,hj,ej⟩:=zgB (t / 3) pos
   have e2:zco (.int (t / 3)) (nW (zb2 b st hd g).length)=some (nW j):=zi8 pos ej
   have el:zcq [.lst ((zb2 b st hd g).map oW)] c=some (.ok (nW (zb2 b st hd g).length) c):=by simp[zcq,zeR,zcg];rfl
   have j3:=zp2 (c:=c) (ds:=zb2 b st hd g) hj
   have hmem:(zb2 b st hd g).getD j none∈zb2 b st hd g:=by
    rw[getD_eq_getElem?_getD,getElem?_eq_getElem hj];exact getElem_mem hj
   obtain⟨g',D⟩:=openL_mem.mp hmem
   generalize (zb2 b st hd g).getD j none=w at j3 D
   rcases zl3 FU hfu N T.gc O h12 D.lt with ⟨g2,D2,f2⟩|⟨D2,_⟩
   ·obtain rfl:=D.uniq D2
    have T2:=T.deed g'
    have C2:=C.step D
    refine zbE (p:=false) (ce':=zeN c 0 g') (zc0 (zcW (zaI (ws:=[w].map oW) (zai rfl) T.gc.i rfl (zaj (zaR (zai rfl) (zcG (x:=.int (t / 3)) (zcG (zai rfl) zbH (zgH rfl rfl (by omega))) (zbC (ws:=[.lst ((zb2 b st hd g).map oW)]) (zaj (zai rfl) zam) el) e2) j3) zam) rfl f2) rfl)) (fun z=>by cases z) (fun _=>?_)
    have f3:=zdo FU hfu N T2.gc (C2.ok N S h12) h12
    have ls:=C.len
    have f4:=zfl (y:=stW b st hd g') T2.ls (by omega)
    refine zeC (zfk (ws:=[stW b st hd g']) (zai rfl) (zcj T2.ls) (zaj (zaG (ws:=[.cel 0]) (by trivial) rfl f3) zam) f4) ?_
    exact⟨_,_,_,_,_,g',_,rfl,T2.set _,C2⟩
   ·exact absurd D (D2 g')
 ·rintro sl c ⟨y9,y10,y11,y12,y13,g,ss,rfl,T,C⟩
  have O:=C.ok N S h12
  have lim:=O.lim
  have el:zcq [.lst (g.done.map oW)] c=some (.ok (nW g.done.length) c):=by simp[zcq,zeR,zcg];rfl
  refine zao (w:=.lst (g.done.map oW)) (ce':=c) (zaI (ws:=[]) (zai rfl) T.gc.i rfl zam rfl (zh1 FU T.gc O)) ?_
  refine zQn ?_
  refine zao (w:=stW b st hd g) (ce':=c) (zaG (ws:=[.cel 0]) (by trivial) rfl (zdo FU hfu N T.gc O h12)) ?_
  refine zQn ?_
  obtain⟨c2,g2,ss2,f2,T2,C2,l2⟩:=zdg FU hfu N S h12 T C (n:=g.done.length+1) (by omega)
  refine zaP (p:=!true) (ce':=c2) (zbJ (zc0 (zaG (ws:=[.cel 0,.cel 4,nW (g.done.length+1)]) (zaj (zai rfl) (zaj (zai rfl) (zaj (zcG (x:=nW g.done.length) (zbC (ws:=[.lst (g.done.map oW)]) (zaj (zai rfl) zam) el) zbH (by simp[nW])) zam))) rfl f2))) (fun z=>by cases z) (fun _=>zaH ?_)
  have d0:g2.done=[]:=length_eq_zero_iff.mp (by omega)
  refine zbj (zs:=g.done) (en:=oW) (c1:=c2) (zfm (xs:=g.done.map oW) (zai rfl))
   (fun d sl c=>∃y13 g1 ss1,sl=[some (sW ns),some (sW xs),some (nW n),some (.lst (ls.map pW)),some (wB b),some (wS is),some (.str (rl st)),some (.cel 0),some (.cel 4),y9,y10,some (.lst (g.done.map oW)),some (stW b st hd g),y13]/\GC c 0 b st hd g1/\Ch b st hd is g1 ss1/\g1.done=d)
   ⟨_,g2,ss2,rfl,T2.gc,C2,d0⟩ ?_ ?_
  ·rintro d w r sl c e _ ⟨y13,g1,ss1,rfl,G,C1,hd1⟩
   obtain⟨g3,ss3,g4,C3,e3,D⟩:=C.pref e.symm
   obtain rfl:=C1.uniq C3 (hd1.trans e3.symm)
   have O1:=C1.ok N S h12
   unfold zot
   refine zQn ?_
   rcases zl3 FU hfu N G O1 h12 D.lt with ⟨g5,D2,f5⟩|⟨D2,_⟩
   ·refine zeC (zaI (ws:=[oW w]) (zai rfl) G.i rfl (zaj (zai rfl) zam) rfl f5) ?_
    exact⟨_,g5,_,rfl,G.put g5,C1.step D2,by rw[D2.done,hd1]⟩
   ·exact absurd D (D2 g4)
  ·rintro sl c ⟨y13,g1,ss1,rfl,G,C1,hd1⟩
   obtain rfl:=C1.uniq C hd1
   have f3:=zdo FU hfu N G (C1.ok N S h12) h12
   have e4:=zl5 (c:=c) (w:=stW b st hd g1) (zew 3) (zew 5) false
   refine zaw (w:=.bl true) (ce':=c) (zaR (zaG (ws:=[.cel 0]) (by trivial) rfl f3) (zai rfl) e4) ?_
   exact⟨_,_,zeU (ce:=[]) (l:=c) (by simp only[Bel]),rfl⟩
end K19
namespace K19
open PySem PySem.Spec PyProof.Rows L2 VS
theorem fin_mk{w:World}{K:PySem.W.Frag}{mg:Str->Option Value}{l:PySem.W.OpenLaw}{fa:Addr}(z:∃A:Adr,Txt K mg A/\fa=A.f_law/\∀(s:Shared) (v:Value),BindsTo s A.d_law ⟨[v],[]⟩ [("_law_script",v)]) :
  ∃fd:FuncData,(∀(s:Shared) (u:Value),BindsTo s fd ⟨[u],[]⟩ [("_law_script",u)])/\∀base:Heap,K.In base->base.Ns mainGlobals mg->FnOk l.prog w K mg base CX0 10 fa fd ["_law_script"] (spLaw Gx (d_law FU) K):=by
 obtain⟨A,T,e,b⟩:=z
 subst e
 exact⟨A.d_law,b,fun base _ _=>zpF T.nl (zr6 FU T)⟩
end K19
open PySem PySem.W PyProof.Rows
theorem PySem.W.Fast.te1671852540525010292 : True := trivial
theorem PySem.W.Fast.tw2261692959814216935 : True := trivial
theorem PySem.W.Fast.tw6297199702753362024 : True := trivial
theorem PySem.W.Fast.tw11671878423088130153 : True := trivial
theorem PySem.W.Fast.tw9012142817322549324 : True := trivial
theorem PySem.W.Fast.tw11660311777876705485 : True := trivial
theorem PySem.W.Fast.tw16379457082931838573 : True := trivial
theorem PySem.W.Fast.tw12830590642531552176 : True := trivial
theorem PySem.W.Fast.tw12811293470869995924 : True := trivial
theorem PySem.W.Fast.tw15439471549560060917 : True := trivial
theorem PySem.W.Fast.tw12542949862024359542 : True := trivial
theorem PySem.W.Fast.tw1035232657696505436 : True := trivial
theorem PySem.W.Fast.tw6198284875066747645 : True := trivial
theorem PySem.W.Fast.tw10257551699310312638 : True := trivial
set_option maxRecDepth 100000 in
set_option maxHeartbeats 0 in
theorem PySem.Challenge.cw_stonebreath_k19_taken_back_holds : PySem.Challenge.rw_stonebreath_k19_taken_back.Holds := by
 w_on;o_law;k_head;(case hw=>w_witness2)
 k_fill
 refine L2.walk_ofK (l:=PySem.Challenge.rw_stonebreath_k19_taken_back) (n:=63) (k:=10) (x := "_law_script") (CX:=L2.CX0) (sp:=VS.spLaw K19.Gx (K19.d_law K19.FU)) rfl (by decide) rfl ⟨rfl,by decide,by decide⟩ (fun w h Y=>PySem.W.kIn_of Y) ?F (VS.law_sp K19.main) (fun _ _ _ _ z=>z)
 case F =>
  intro w mg fa h KX G hmg
  refine' K19.fin_mk (K19.all_mk KX G hmg ?ac_Game ?pg_Game ?hd_Game ?po_Game ?sa_Game ?mi_Game ?kc_Game ?na_Game_barring ?na_Game_done ?na_Game_first ?na_Game_joined ?na_Game_past ?na_Game_takings ?a0 ?l0 ?c0 ?k0 ?a1 ?l1 ?c1 ?k1 ?a2 ?l2 ?c2 ?k2 ?a3 ?l3 ?c3 ?k3 ?a4 ?l4 ?c4 ?k4 ?a5 ?l5 ?c5 ?k5 ?a6 ?l6 ?c6 ?k6 ?a7 ?l7 ?c7 ?k7 ?a8 ?l8 ?c8 ?k8 ?a9 ?l9 ?c9 ?k9 ?a10 ?l10 ?c10 ?k10 ?a11 ?l11 ?c11 ?k11 ?a12 ?l12 ?c12 ?k12 ?a13 ?l13 ?c13 ?k13 ?a14 ?l14 ?c14 ?k14 ?a15 ?l15 ?c15 ?k15 ?a16 ?l16 ?c16 ?k16 ?a17 ?l17 ?c17 ?k17 ?a18 ?l18 ?c18 ?k18 ?a19 ?l19 ?c19 ?k19 ?a20 ?l20 ?c20 ?k20 ?a21 ?l21 ?c21 ?k21 ?a22 ?l22 ?c22 ?k22 ?a23 ?l23 ?c23 ?k23 ?a24 ?l24 ?c24 ?k24 ?a25 ?fn25 ?l25 ?c25 ?k25 ?a26 ?fn26 ?l26 ?c26 ?k26 ?a27 ?fn27 ?l27 ?c27 ?k27 ?a28 ?fn28 ?l28 ?c28 ?k28 ?a29 ?fn29 ?l29 ?c29 ?k29 ?a30 ?fn30 ?l30 ?c30 ?k30 ?a31 ?fn31 ?l31 ?c31 ?k31 ?a32 ?fn32 ?l32 ?c32 ?k32 ?a33 ?fn33 ?l33 ?c33 ?k33 ?a34 ?fn34 ?l34 ?c34 ?k34 ?a35 ?fn35 ?l35 ?c35 ?k35 ?a36 ?fn36 ?l36 ?c36 ?k36 ?a37 ?fn37 ?l37 ?c37 ?k37 ?ac_Again ?ex_Again ?aX0 ?fnX0 ?lX0 ?cX0 ?kX0 ?q0 ?z_ValueError ?z_all ?z_bool ?z_int ?z_isinstance ?z_len ?z_list ?z_range ?z_sorted ?z_sum ?z_tuple ?xt ?nl)
  (case ac_Game=>k_is);(case pg_Game=>k_is);(case hd_Game=>k_is);(case po_Game=>k_is);(case sa_Game=>k_is);(case mi_Game=>k_is);(case kc_Game=>k_is);(case na_Game_barring=>k_is);(case na_Game_done=>k_is);(case na_Game_first=>k_is);(case na_Game_joined=>k_is);(case na_Game_past=>k_is);(case na_Game_takings=>k_is);(case a0=>k_is);(case l0=>k_is);(case c0=>k_is);(case k0=>k_is);(case a1=>k_is);(case l1=>k_is);(case c1=>k_is);(case k1=>k_is);(case a2=>k_is);(case l2=>k_is);(case c2=>k_is);(case k2=>k_is);(case a3=>k_is);(case l3=>k_is);(case c3=>k_is);(case k3=>k_is);(case a4=>k_is);(case l4=>k_is);(case c4=>k_is);(case k4=>k_is);(case a5=>k_is);(case l5=>k_is);(case c5=>k_is);(case k5=>k_is);(case a6=>k_is);(case l6=>k_is);(case c6=>k_is);(case k6=>k_is);(case a7=>k_is);(case l7=>k_is);(case c7=>k_is);(case k7=>k_is);(case a8=>k_is);(case l8=>k_is);(case c8=>k_is);(case k8=>k_is);(case a9=>k_is);(case l9=>k_is);(case c9=>k_is);(case k9=>k_is);(case a10=>k_is);(case l10=>k_is);(case c10=>k_is);(case k10=>k_is);(case a11=>k_is);(case l11=>k_is);(case c11=>k_is);(case k11=>k_is);(case a12=>k_is);(case l12=>k_is);(case c12=>k_is);(case k12=>k_is);(case a13=>k_is);(case l13=>k_is);(case c13=>k_is);(case k13=>k_is);(case a14=>k_is);(case l14=>k_is);(case c14=>k_is);(case k14=>k_is);(case a15=>k_is);(case l15=>k_is);(case c15=>k_is);(case k15=>k_is);(case a16=>k_is);(case l16=>k_is);(case c16=>k_is);(case k16=>k_is);(case a17=>k_is);(case l17=>k_is);(case c17=>k_is);(case k17=>k_is);(case a18=>k_is);(case l18=>k_is);(case c18=>k_is);(case k18=>k_is);(case a19=>k_is);(case l19=>k_is);(case c19=>k_is);(case k19=>k_is);(case a20=>k_is);(case l20=>k_is);(case c20=>k_is);(case k20=>k_is);(case a21=>k_is);(case l21=>k_is);(case c21=>k_is);(case k21=>k_is);(case a22=>k_is);(case l22=>k_is);(case c22=>k_is);(case k22=>k_is);(case a23=>k_is);(case l23=>k_is);(case c23=>k_is);(case k23=>k_is);(case a24=>k_is);(case l24=>k_is);(case c24=>k_is);(case k24=>k_is);(case a25=>k_is);(case fn25=>k_is);(case l25=>k_is);(case c25=>k_is);(case k25=>k_is);(case a26=>k_is);(case fn26=>k_is);(case l26=>k_is);(case c26=>k_is);(case k26=>k_is);(case a27=>k_is);(case fn27=>k_is);(case l27=>k_is);(case c27=>k_is);(case k27=>k_is);(case a28=>k_is);(case fn28=>k_is);(case l28=>k_is);(case c28=>k_is);(case k28=>k_is);(case a29=>k_is);(case fn29=>k_is);(case l29=>k_is);(case c29=>k_is);(case k29=>k_is);(case a30=>k_is);(case fn30=>k_is);(case l30=>k_is);(case c30=>k_is);(case k30=>k_is);(case a31=>k_is);(case fn31=>k_is);(case l31=>k_is);(case c31=>k_is);(case k31=>k_is);(case a32=>k_is);(case fn32=>k_is);(case l32=>k_is);(case c32=>k_is);(case k32=>k_is);(case a33=>k_is);(case fn33=>k_is);(case l33=>k_is);(case c33=>k_is);(case k33=>k_is);(case a34=>k_is);(case fn34=>k_is);(case l34=>k_is);(case c34=>k_is);(case k34=>k_is);(case a35=>k_is);(case fn35=>k_is);(case l35=>k_is);(case c35=>k_is);(case k35=>k_is);(case a36=>k_is);(case fn36=>k_is);(case l36=>k_is);(case c36=>k_is);(case k36=>k_is);(case a37=>k_is);(case fn37=>k_is);(case l37=>k_is);(case c37=>k_is);(case k37=>k_is);(case ac_Again=>k_is);(case ex_Again=>kernel_rfl);(case aX0=>k_is);(case fnX0=>k_is);(case lX0=>k_is);(case cX0=>k_is);(case kX0=>k_is);(case q0=>k_is);(case z_ValueError=>k_is);(case z_all=>k_is);(case z_bool=>k_is);(case z_int=>k_is);(case z_isinstance=>k_is);(case z_len=>k_is);(case z_list=>k_is);(case z_range=>k_is);(case z_sorted=>k_is);(case z_sum=>k_is);(case z_tuple=>k_is);(case xt=>kernel_rfl);(case nl=>kernel_rfl)
