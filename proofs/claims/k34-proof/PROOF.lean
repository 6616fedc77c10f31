import PyProof.Rows.All
import Wide.All
import OpenK.AllK
import Wide.FinOn
import Lean
import PyProof.EqAt
import PyProof.EqKinds
import PyProof.TupleCall
import PyProof.NeKinds
import KE.KDictSum
import KE.KListLetter
import KE.KIsAll
import KE.KTryMore
import PySem.Challenge.RW_stonebreath_k34_whole_no_paper_says_more
set_option Elab.async false
set_option linter.all false
set_option maxRecDepth 100000
noncomputable section
namespace L2
open PySem PySem.Spec PyProof.Rows
abbrev Key:=Sum Int Str
def zim:Key->Value->Bool
 | .inl k,v=>Value.isInt k v
 | .inr x,v=>Value.isStrOf x v
def zst(w:World):Key->Int
 | .inl k=>hashInt k
 | .inr x=>hashStr w x
theorem zaU:∀{k:Key} {v:Value},zim k v=true->(∃i t,k=Sum.inl i/\v=Value.int i t)\/(∃x t,k=Sum.inr x/\v=Value.str x t)
 | .inl i,v,h=>by
  obtain⟨t,e⟩:=Value.isInt_shape (k:=i) (v:=v) h
  exact .inl ⟨i,t,rfl,e⟩
 | .inr x,v,h=>by
  obtain⟨t,e⟩:=Value.isStrOf_shape (x:=x) (v:=v) h
  exact .inr ⟨x,t,rfl,e⟩
theorem zi2(i:Int)(t:Tok):zim (.inl i) (.int i t)=true:=by simp[zim,Value.isInt]
theorem zi3(x:Str)(t:Tok):zim (.inr x) (.str x t)=true:=by simp[zim,Value.isStrOf]
theorem zoc(a b:Int):decide ((Sum.inl a:Key)=Sum.inl b)=(a==b):=by
 by_cases e:a=b
 ·subst e;simp
 ·have h:¬(Sum.inl a:Key)=Sum.inl b:=fun q=>e (Sum.inl.inj q)
  rw[decide_eq_false h]
  exact(beq_eq_false_iff_ne.mpr e).symm
theorem zod(a b:Str):decide ((Sum.inr a:Key)=Sum.inr b)=decide (a=b):=by
 by_cases e:a=b
 ·subst e;simp
 ·have h:¬(Sum.inr a:Key)=Sum.inr b:=fun q=>e (Sum.inr.inj q)
  rw[decide_eq_false h,decide_eq_false e]
theorem zoe(a:Int)(b:Str):decide ((Sum.inl a:Key)=Sum.inr b)=false:=decide_eq_false (fun q=>nomatch q)
theorem zof(a:Str)(b:Int):decide ((Sum.inr a:Key)=Sum.inl b)=false:=decide_eq_false (fun q=>nomatch q)
def za5(prog:Program)(w:World):PySem.KeyKind prog w Key where
 is:=zim
 hash:=zst w
 inj:=fun v a b ha hb=>by
  rcases zaU ha with ⟨i,t,rfl,rfl⟩|⟨x,t,rfl,rfl⟩
  ·rcases zaU hb with ⟨j,u,rfl,e⟩|⟨y,u,rfl,e⟩
   ·injection e with e1 _;rw[e1]
   ·exact nomatch e
  ·rcases zaU hb with ⟨j,u,rfl,e⟩|⟨y,u,rfl,e⟩
   ·exact nomatch e
   ·injection e with e1 _;rw[e1]
 byValue:=fun k v h=>by
  rcases zaU h with ⟨i,t,rfl,rfl⟩|⟨x,t,rfl,rfl⟩<;>rfl
 pyHash:=fun hv h=>by
  rcases zaU hv with ⟨i,t,rfl,rfl⟩|⟨x,t,rfl,rfl⟩
  ·exact wpAny_pyHash_int h
  ·exact wpAny_pyHash_str h
 eqBool:=fun hu hv h=>by
  rcases zaU hu with ⟨i,t,rfl,rfl⟩|⟨x,t,rfl,rfl⟩
  ·rcases zaU hv with ⟨j,u,rfl,rfl⟩|⟨y,u,rfl,rfl⟩
   ·rw[zoc] at h;exact wpAny_eqBool_int h
   ·rw[zoe] at h;exact SeqAt.EqAt.int_str i t y u _ _ _ _ h
  ·rcases zaU hv with ⟨j,u,rfl,rfl⟩|⟨y,u,rfl,rfl⟩
   ·rw[zof] at h;exact SeqAt.EqAt.str_int x t j u _ _ _ _ h
   ·rw[zod] at h;exact wpAny_eqBool_str h
 «strs»:=fun k x t v h=>by
  rcases zaU h with ⟨i,u,rfl,e⟩|⟨y,u,rfl,e⟩
  ·exact nomatch e
  ·injection e with e1 _
   subst e1
   cases v<;>rfl
theorem zgU(prog:Program)(w:World)(i:Int)(t:Tok):(za5 prog w).is (.inl i) (.int i t)=true:=zi2 i t
theorem zgV(prog:Program)(w:World)(x:Str)(t:Tok):(za5 prog w).is (.inr x) (.str x t)=true:=zi3 x t
end L2
namespace L2
open PySem PySem.Spec PyProof.Rows
inductive V where
 | non|bl (b:Bool)|int (i:Int)|str (x:Str)|byt (b:Array UInt8)|flt (b:UInt64)|ref (a:Addr)|ty (n:String)
 deriving DecidableEq
def RelV:V->Value->Prop
 | .non,u=>u=Value.none
 | .bl b,u=>u=Value.bool b
 | .int i,u=>∃t,u=Value.int i t
 | .str x,u=>∃t,u=Value.str x t
 | .byt b,u=>∃t,u=Value.bytes b t
 | .flt b,u=>∃t,u=Value.float b t
 | .ref a,u=>u=Value.ref a
 | .ty n,u=>u=Value.type n
abbrev Vals:List V->List Value->Prop:=Paired RelV
theorem Vals.length{xs:List V}{us:List Value}(r:Vals xs us):xs.length=us.length:=Paired.length r
theorem Vals.get:∀{xs:List V} {us:List Value} {i:Nat} {x:V},Vals xs us->xs[i]?=some x->∃u,us[i]?=some u/\RelV x u
 | _,_,_,_,.nil,e=>by simp at e
 | _,_,0,_,.cons r _,e=>by simp at e;subst e;exact⟨_,rfl,r⟩
 | _,_,i+1,x,.cons _ t,e=>by
  obtain⟨u,h1,h2⟩:=Vals.get (i:=i) (x:=x) t (by simpa using e)
  exact⟨u,by simpa using h1,h2⟩
theorem Vals.set{x:V}{u:Value}(r:RelV x u):∀{xs:List V} {us:List Value} (i:Nat),Vals xs us->Vals (xs.set i x) (us.set i u)
 | _,_,_,.nil=>.nil
 | _,_,0,.cons _ t=>.cons r t
 | _,_,i+1,.cons q t=>.cons q (Vals.set r i t)
theorem Vals.append:∀{xs ys:List V} {us ws:List Value},Vals xs us->Vals ys ws->Vals (xs++ys) (us++ws)
 | _,_,_,_,.nil,s=>s
 | _,_,_,_,.cons r t,s=>.cons r (Vals.append t s)
theorem Vals.take:∀{xs:List V} {us:List Value} (n:Nat),Vals xs us->Vals (xs.take n) (us.take n)
 | _,_,0,_=>.nil
 | _,_,_+1,.nil=>.nil
 | _,_,n+1,.cons r t=>.cons r (Vals.take n t)
theorem Vals.drop:∀{xs:List V} {us:List Value} (n:Nat),Vals xs us->Vals (xs.drop n) (us.drop n)
 | _,_,0,r=>r
 | _,_,_+1,.nil=>.nil
 | _,_,n+1,.cons _ t=>Vals.drop n t
def RelO:Option V->Option Value->Prop
 | some v,some u=>RelV v u
 | none,none=>True
 | _,_=>False
def KV{κ:Type}:List (κ×V)->List (κ×Value)->Prop:=Paired fun(p:κ×V) (q:κ×Value)=>p.1=q.1/\RelV p.2 q.2
def kV:Key->V
 | .inl i=>.int i
 | .inr x=>.str x
inductive HO where
  | lst (xs:List V)
  | tup (xs:List V)
  | dK (kvs:List (Key×V))|dT (kvs:List (List Key×V))
  | set (S:Int->Bool) (n:Nat)
  | ins (C dx:Addr) (fs:List (Str×V))
  | own (x:Addr)
  | xd (fs:List (Str×V))
  | met (f x:Addr)
  | rng (lo hi:Int)
  | frz (o:Obj) (u:HO)
  | tbl (ps:Array Value)
  | ext (φ:Heap->Prop)
abbrev Hp:=Addr->Option HO
def upd(H:Hp)(a:Addr)(o:HO):Hp:=fun b=>if b=a then some o else H b
theorem zaM{H:Hp}{a:Addr}{o:HO}:upd H a o a=some o:=by unfold upd;rw[if_pos rfl]
theorem zaL{H:Hp}{a b:Addr}{o:HO}(h:b≠a):upd H a o b=H b:=by unfold upd;rw[if_neg h]
theorem zqz{H:Hp}{a b:Addr}{o u:HO}(h:H a=some o)(h':H b=some u)(d:o≠u):a≠b:=by
 intro e;subst e;rw[h] at h';exact d (Option.some.inj h')
theorem zaI{H:Hp}{a b:Addr}{o:HO}(h:H a=some o)(h':H b=none):a≠b:=by
 intro e;subst e;rw[h] at h';cases h'
def TupN(h:Heap)(a:Addr)(items:Array Value):Prop:=∃o,h.get? a=some o/\o.cls=.type "tuple" /\ (∃n,o.data=.seq items n)/\o.dict=none
theorem TupN.isTup{h:Heap}{a:Addr}{items:Array Value}(t:TupN h a items):PyProof.Rows.IsTup h a items:=by
 obtain⟨o,e,c,⟨n,d⟩,_⟩:=t
 exact⟨o,e,c,n,d⟩
theorem TupN.new(h:Heap)(items:Array Value):TupN (h.push { cls:=.type "tuple",data:=.seq items }) h.objs.size items:=⟨_,Heap.get?_push_size _ rfl,rfl,⟨_,rfl⟩,rfl⟩
section
variable (P:Program) (w:World)
def ObjOk(H:Hp)(h:Heap)(a:Addr):HO->Prop
 | .lst xs=>xs.length<=sizeLine/\∃(its:List Value) (n:Nat),Vals xs its/\h.get? a=some { cls:=.type "list",data:=.seq its.toArray n }
 | .tup xs=>xs.length<=sizeLine/\∃its:List Value,Vals xs its/\TupN h a its.toArray
 | .dK kvs=>kvs.length<=sizeLine/\(a==sysModules)=false/\∃vs,KV kvs vs/\h.DictOf (za5 P w) a vs
 | .dT kvs=>kvs.length<=sizeLine/\(a==sysModules)=false/\∃xs:List (List Key×Addr×Value),
   Paired (fun(p:List Key×V) (q:List Key×Addr×Value)=>p.1=q.1/\H q.2.1=some (.tup (p.1.map kV))/\RelV p.2 q.2.2) kvs xs /\
   ∃o es ep,h.get? a=some o/\o.ExactDict/\o.data=.dict es ep/\es.toList=xs.map (entryOfKey (tupleKind (za5 P w)))/\(xs.map (·.1)).Nodup
 | .set S n=>h.SetOf (intKind P w) a S n
 | .ins C dx fs=>H dx=some (.own a)/\fs.length<=1000/\dx≠a/\h.get? a=some (PySem.W.instObj C dx) /\
   ∃mA,h.Ns1 dx mA/\(∀f,RelO (fs.lookup f) (mA f))/\PySem.Within mA (fs.map (·.1))
 | .own _=>∃o,h.get? a=some o
 | .xd fs=>∃mA,h.Ns1 a mA/\∀f,RelO (fs.lookup f) (mA f)
 | .rng lo hi=>∃t u v,h.get? a=some { cls:=.type "range",data:=.fields #[.int lo t,.int hi u,.int 1 v] }
 | .frz o u=>h.get? a=some o/\ObjOk H h a u
 | .tbl ps=>h.get? a=some { cls:=.none,data:=.fields ps }
 | .met f x=>h.get? a=some (PySem.W.methodObj (.ref f) (.ref x))
 | .ext φ=>φ h/\(∃o,h.get? a=some o)/\∀h1 h2:Heap,φ h1->(∀o,h1.get? a=some o->h2.get? a=some o)->φ h2
def HOk(H:Hp)(h:Heap):Prop:=∀a o,H a=some o->ObjOk P w H h a o
end
section
variable {P:Program} {w:World} {H H':Hp} {h h':Heap} {a:Addr} {o:HO}
theorem ObjOk.lt(x:ObjOk P w H h a o):a<h.objs.size:=by
 cases o with
 | lst xs=>obtain⟨_,_,_,_,e⟩:=x;exact Heap.lt_size e
 | tup xs=>obtain⟨_,_,_,p⟩:=x;exact(TupN.isTup p).lt
 | dK kvs=>obtain⟨_,_,_,_,o,_,_,e,_⟩:=x;exact Heap.lt_size e
 | dT kvs=>obtain⟨_,_,_,_,o,_,_,e,_⟩:=x;exact Heap.lt_size e
 | set S n=>obtain⟨o,_,_,_,e,_⟩:=x;exact Heap.lt_size e
 | ins C dx fs=>obtain⟨_,_,_,e,_⟩:=x;exact Heap.lt_size e
 | own y=>obtain⟨_,e⟩:=x;exact Heap.lt_size e
 | xd fs=>obtain⟨_,⟨_,_,_,e,_⟩,_⟩:=x;exact Heap.lt_size e
 | rng lo hi=>obtain⟨_,_,_,e⟩:=x;exact Heap.lt_size e
 | frz ob u=>obtain⟨e,_⟩:=x;exact Heap.lt_size e
 | tbl ps=>exact Heap.lt_size (show h.get? a=some _ from x)
 | met f y=>exact Heap.lt_size (show h.get? a=some _ from x)
 | ext φ=>obtain⟨_,⟨_,e⟩,_⟩:=x;exact Heap.lt_size e
theorem Paired.mapP{α β:Type}{F G:α->β->Prop}:∀{l₁:List α} {l₂:List β},Paired F l₁ l₂->(∀a b,F a b->G a b)->Paired G l₁ l₂
 | _,_,.nil,_=>.nil
 | _,_,.cons r t,f=>.cons (f _ _ r) (Paired.mapP t f)
theorem ObjOk.stay(x:ObjOk P w H h a o)(k:∀b u,(b=a\/H b=some (.own a))->h.get? b=some u->h'.get? b=some u)(ho:∀b,H b=some (.own a)->H' b=some (.own a))(ht:∀b xs,H b=some (.tup xs)->H' b=some (.tup xs)):ObjOk P w H' h' a o:=by
 induction o with
 | lst xs=>obtain⟨z,its,n,r,e⟩:=x;exact⟨z,its,n,r,k _ _ (.inl rfl) e⟩
 | tup xs=>obtain⟨z,its,r,ob,e,c⟩:=x;exact⟨z,its,r,ob,k _ _ (.inl rfl) e,c⟩
 | dK kvs=>obtain⟨z,y,vs,r,ob,es,ep,e,c⟩:=x;exact⟨z,y,vs,r,ob,es,ep,k _ _ (.inl rfl) e,c⟩
 | dT kvs =>
  obtain⟨z,y,xs,r,ob,es,ep,e,c⟩:=x
  exact⟨z,y,xs,Paired.mapP r fun p q z=>⟨z.1,ht _ _ z.2.1,z.2.2⟩,ob,es,ep,k _ _ (.inl rfl) e,c⟩
 | set S n=>obtain⟨ob,es,ep,t,e,c⟩:=x;exact⟨ob,es,ep,t,k _ _ (.inl rfl) e,c⟩
 | ins C dx fs =>
  obtain⟨d,z,ne,e,mA,⟨od,es,ep,e2,c⟩,r⟩:=x
  exact⟨ho _ d,z,ne,k _ _ (.inl rfl) e,mA,⟨od,es,ep,k _ _ (.inr d) e2,c⟩,r⟩
 | own y=>obtain⟨ob,e⟩:=x;exact⟨ob,k _ _ (.inl rfl) e⟩
 | xd fs=>obtain⟨mA,⟨od,es,ep,e,c⟩,r⟩:=x;exact⟨mA,⟨od,es,ep,k _ _ (.inl rfl) e,c⟩,r⟩
 | rng lo hi=>obtain⟨t,u,v,e⟩:=x;exact⟨t,u,v,k _ _ (.inl rfl) e⟩
 | frz ob u ih=>obtain⟨e,q⟩:=x;exact⟨k _ _ (.inl rfl) e,ih q⟩
 | tbl ps =>
  have e:h.get? a=some { cls:=.none,data:=.fields ps }:=x
  show h'.get? a=some { cls:=.none,data:=.fields ps }
  exact k a _ (.inl rfl) e
 | met f y =>
  have e:h.get? a=some (PySem.W.methodObj (.ref f) (.ref y)):=x
  show h'.get? a=some (PySem.W.methodObj (.ref f) (.ref y))
  exact k a _ (.inl rfl) e
 | ext φ=>obtain⟨p,⟨o,e⟩,st⟩:=x;exact⟨st _ _ p fun o q=>k _ _ (.inl rfl) q,⟨o,k _ _ (.inl rfl) e⟩,st⟩
theorem HOk.lt(x:HOk P w H h)(e:H a=some o):a<h.objs.size:=(x a o e).lt
theorem HOk.fresh(x:HOk P w H h)(e:h.objs.size<=a):H a=none:=by
 cases q:H a with
 | none=>rfl
 | some u=>exact absurd (Nat.lt_of_lt_of_le (x.lt q) e) (Nat.lt_irrefl _)
theorem HOk.kept(x:HOk P w H h)(k:∀b u,h.get? b=some u->h'.get? b=some u):HOk P w H h':=fun a o e =>
 (x a o e).stay (fun b u _ q=>k b u q) (fun _ q=>q) fun _ _ q=>q
theorem HOk.laid(x:HOk P w H h)(k:∀b u,h.get? b=some u->h'.get? b=some u)(hp:h.objs.size<=a)(new:ObjOk P w (upd H a o) h' a o):HOk P w (upd H a o) h':=fun b u e=>by
 have hn:=x.fresh hp
 by_cases hb:b=a
 ·subst hb;rw[zaM] at e;cases e;exact new
 ·rw[zaL hb] at e
  exact(x b u e).stay (fun c v _ q=>k c v q) (fun c q=>by rw[zaL (zaI q hn)];exact q) fun c xs q=>by rw[zaL (zaI q hn)];exact q
end
def Rd(H:Hp)(a:Addr)(u:HO):Prop:=H a=some u\/∃o,H a=some (.frz o u)
theorem Rd.ok{P:Program}{w:World}{H:Hp}{h:Heap}{a:Addr}{u:HO}(r:Rd H a u)(x:HOk P w H h):ObjOk P w H h a u:=by
 rcases r with r|⟨o,r⟩
 ·exact x a u r
 ·obtain⟨_,q⟩:=x a _ r
  exact q
def Mut:Option HO->Prop
 | some (.lst _)=>True
 | some (.dK _)=>True
 | some (.dT _)=>True
 | some (.set _ _)=>True
 | some (.ins _ _ _)=>True
 | some (.ext _)=>True
 | _=>False
section
variable {P:Program} {w:World} {H:Hp} {h h':Heap} {x e:Addr} {o':HO}
theorem HOk.write(ok:HOk P w H h)(mu:Mut (H x))(he:e=x\/H e=some (.own x))(k:∀b u,b≠e->h.get? b=some u->h'.get? b=some u)(heo:∃u,h'.get? e=some u)(new:ObjOk P w (upd H x o') h' x o'):HOk P w (upd H x o') h':=fun b u q=>by
 have nown:∀c y,H c=some (.own y)->c≠x:=fun c y r z=>by subst z;rw[r] at mu;exact mu
 have ntup:∀c xs,H c=some (.tup xs)->c≠x:=fun c xs r z=>by subst z;rw[r] at mu;exact mu
 by_cases hb:b=x
 ·subst hb;rw[zaM] at q;cases q;exact new
 ·rw[zaL hb] at q
  by_cases hbe:b=e
  ·have q':H b=some (.own x):=by
    rcases he with z|z
    ·exact absurd (hbe.trans z) hb
    ·rw[hbe];exact z
   rw[q] at q';cases q'
   obtain⟨v,hv⟩:=heo
   exact⟨v,by rw[hbe];exact hv⟩
  ·refine(ok b u q).stay (fun c v hc r=>k c v ?_ r) (fun c r=>by rw[zaL (nown c b r)];exact r) fun c xs r=>by rw[zaL (ntup c xs r)];exact r
   rcases hc with rfl|hc
   ·exact hbe
   ·rintro rfl
    rcases he with z|z
    ·exact nown c b hc z
    ·rw[hc] at z;cases z;exact hb rfl
end
structure Un (fs ex:List Addr) (H H':Hp) (h h':Heap):Prop where
 keep:∀b o,h.get? b=some o->H b=none->b∉fs->b∉ex->h'.get? b=some o
 slot:∀b o,h.get? b=some o->H b=none->b∈fs->b∉ex->∃sl,h'.get? b=some { o with slots:=sl }
 free:∀b o,h.get? b=some o->H b=none->b∉ex->H' b=none
 there:∀b o,h.get? b=some o->b∉ex->∃o',h'.get? b=some o'
 tups:∀b xs,H b=some (.tup xs)->H' b=some (.tup xs)
 frzs:∀b o u,H b=some (.frz o u)->H' b=some (.frz o u)
 tbls:∀b ps,H b=some (.tbl ps)->∃more,H' b=some (.tbl (ps++more))
section
variable {fs fs' ex ex':List Addr} {H H1 H2:Hp} {h h1 h2 h':Heap} {a x e:Addr} {o:HO}
theorem Un.any(u:Un fs ex H H1 h h1){b:Addr}{ob:Obj}(q:h.get? b=some ob)(n:H b=none)(hx:b∉ex):∃sl,h1.get? b=some { ob with slots:=sl }:=by
 by_cases hb:b∈fs
 ·exact u.slot b ob q n hb hx
 ·exact⟨ob.slots,u.keep b ob q n hb hx⟩
theorem Un.kept(k:∀b u,h.get? b=some u->h'.get? b=some u):Un fs ex H H h h' :=
 ⟨fun b ob q _ _ _=>k b ob q,fun b ob q _ _ _=>⟨ob.slots,k b ob q⟩,fun _ _ _ n _=>n,fun b ob q _=>⟨ob,k b ob q⟩,fun _ _ q=>q,fun _ _ _ q=>q,fun _ ps q=>⟨#[],by rw[q];simp⟩⟩
theorem Un.refl:Un fs ex H H h h:=Un.kept fun _ _ q=>q
theorem Un.laid(k:∀b u,h.get? b=some u->h'.get? b=some u)(hp:h.objs.size<=a)(hn:H a=none):Un fs ex H (upd H a o) h h' where
 keep:=fun b u q _ _ _=>k b u q
 slot:=fun b u q _ _ _=>⟨u.slots,k b u q⟩
 free:=fun b u q n _=>by rw[zaL (Nat.ne_of_lt (Nat.lt_of_lt_of_le (Heap.lt_size q) hp))];exact n
 there:=fun b u q _=>⟨u,k b u q⟩
 tups:=fun b xs q=>by rw[zaL (zaI q hn)];exact q
 frzs:=fun b u xs q=>by rw[zaL (zaI q hn)];exact q
 tbls:=fun b ps q=>⟨#[],by rw[zaL (zaI q hn),q];simp⟩
theorem Un.write(mu:Mut (H x))(he:e=x\/H e=some (.own x))(k:∀b u,b≠e->h.get? b=some u->h'.get? b=some u)(heo:∃u,h'.get? e=some u):Un fs ex H (upd H x o) h h':=by
 have hx:∀b,H b=none->b≠x:=fun b n z=>by subst z;rw[n] at mu;exact mu
 have hb:∀b,H b=none->b≠e:=fun b n z=>by
  subst z
  rcases he with r|r
  ·exact hx b n r
  ·rw[n] at r;cases r
 have hm:∀b u,H b=some u->¬Mut (some u)->b≠x:=fun b u q nm z=>by subst z;rw[q] at mu;exact nm mu
 refine⟨fun b u q n _ _=>k b u (hb b n) q,fun b u q n _ _=>⟨u.slots,k b u (hb b n) q⟩,fun b u q n _=>by rw[zaL (hx b n)];exact n,fun b u q _=>?_,
  fun b xs q=>by rw[zaL (hm b _ q fun z=>z)];exact q,fun b u xs q=>by rw[zaL (hm b _ q fun z=>z)];exact q,fun b ps q=>⟨#[],by rw[zaL (hm b _ q fun z=>z),q];simp⟩⟩
 by_cases hbe:b=e
 ·subst hbe;exact heo
 ·exact⟨u,k b u hbe q⟩
end
def trk(h:Heap)(H:Hp):List Addr:=(List.range h.objs.size).filter fun a=>(H a).isSome
def zkQ(h:Heap)(H:Hp):Heap:=PySem.W.hideAll h (trk h H)
theorem zi4(h:Heap)(H:Hp):(zkQ h H).objs.size=h.objs.size:=PySem.W.hideAll_size _ _
theorem zkR{h:Heap}{H:Hp}{b:Addr}{o:Obj}(e:h.get? b=some o)(n:H b=none):(zkQ h H).get? b=some o :=
 PySem.W.hideAll_get _ e fun hm=>by
  have q:(H b).isSome=true:=(List.mem_filter.mp hm).2
  rw[n] at q;simp at q
theorem zmE{h:Heap}{H:Hp}{b:Addr}{o:Obj}(e:(zkQ h H).get? b=some o):h.get? b=some o/\H b=none:=by
 have e':h.get? b=some o:=PySem.W.of_hideAll (trk h H) e
 refine⟨e',?_⟩
 cases q:H b with
 | none=>rfl
 | some x =>
  have hm:b∈trk h H:=List.mem_filter.mpr ⟨List.mem_range.mpr (Heap.lt_size e'),by simp[q]⟩
  have z:(zkQ h H).get? b=none:=PySem.W.hideAll_none (trk h H) hm
  rw[z] at e;cases e
def zmF(g h:Heap)(L:Addr):List (Addr×Obj):=(List.range h.objs.size).filterMap fun a=>if a=L\/(g.get? a).isSome=true then none else (h.get? a).map fun o=>(a,o)
def zeM(g h:Heap)(L d:Addr):List (Addr×Obj):=(zmF g h L).filter fun p=>decide (p.1≠d)
end L2
namespace L2
open PySem PySem.Spec PyProof.Rows
structure Mod (K:PySem.W.Frag) (mg:Str->Option Value) (base:Heap):Prop where
 kin:K.In base
 glob:base.Ns mainGlobals mg
 blt:∃mb,base.Ns builtinsNs mb/\∀x:Str,x ≠ "__name__" -> mb x=bootBuiltins x
 nolimit:base.NoLimit
structure Cx where
 prog:Program
 w:World
 K:PySem.W.Frag
 mg:Str->Option Value
 base:Heap
 A:Around
 N:List Str
 s₀:Shared
 H₀:Hp
 env:Env
 outer:List Env
 stack:List Env
 ex:List Addr
 fn:Str->Bool
 calm:Bool
 pn:List (Addr×Obj)
 xe:Value->Shared->Prop
def frs(l:List Env):List Addr:=l.filterMap (·.frame)
abbrev Cx.fs(X:Cx):List Addr:=frs X.outer
def Vis(sc:Scope)(x:Str):Prop:=sc.names.lookup x=some .local\/sc.names.lookup x=some .cell\/sc.names.lookup x=some .free
def Loc(sc:Scope)(x:Str):Prop:=sc.names.lookup x=some .local\/sc.names.lookup x=some .cell
def zsu(env:Env)(h:Heap)(m:Str->Option Value)(x:Str)(u:Value):Prop :=
 (env.kindOf x=some .local/\m x=some u)\/((env.kindOf x=some .cell\/env.kindOf x=some .free)/\∃c,env.cells.lookup x=some c/\h.IsCell c (some u))
structure Cx.Ok (X:Cx):Prop where
 mod:Mod X.K X.mg X.base
 kind:X.env.scope.kind=.function
 glob:X.env.globals=mainGlobals
 blt:X.env.builtins=builtinsNs
 above:X.s₀.heap.objs.size<=X.env.locals
 inj:∀x y c,X.env.cells.lookup x=some c->X.env.cells.lookup y=some c->x=y
 has:∀x,(X.env.kindOf x=some .cell\/X.env.kindOf x=some .free)->∃c,X.env.cells.lookup x=some c
 cab:∀x c,X.fn x=true->X.env.cells.lookup x=some c->X.s₀.heap.objs.size<=c
 hd:X.calm=true->X.A.handled=none
 frames:X.A.frames=some X.stack
 stk:X.stack=X.outer\/(X.stack=X.env::X.outer/\X.env.frame=some X.env.locals)
 exf:∀b∈X.ex,b≠X.env.locals/\∀x c,X.env.cells.lookup x=some c->c≠b
 bs:∀b o,X.base.get? b=some o->X.s₀.heap.get? b=some o/\X.H₀ b=none
 bsz:X.base.objs.size<=X.s₀.heap.objs.size
 noex:∀b o,X.base.get? b=some o->b∉X.ex
 exfs:∀b∈X.ex,b∉X.fs
 funs:X.s₀.heap.FunFrames X.base X.outer
 frf:∀b∈X.fs,X.H₀ b=none
structure Inv (X:Cx) (pins:List (Addr×Obj)) (σ:List (Option V)) (H:Hp) (s:Shared):Prop where
 ok:X.Ok
 os:s.os=X.s₀.os
 bare:AllBare s.gens
 base:Un X.fs X.ex X.H₀ H X.s₀.heap s.heap
 loc:∃m,s.heap.Ns X.env.locals m/\∀(i:Nat) (x:Str) (v:V),X.N[i]?=some x->σ[i]?=some (some v)->Vis X.env.scope x->∃u,RelV v u/\zsu X.env s.heap m x u
 cell:∀x c,X.env.cells.lookup x=some c->∃v,s.heap.IsCell c v
 free:H X.env.locals=none
 freeC:∀x c,X.env.cells.lookup x=some c->H c=none
 pin:∀p∈X.pn++pins,s.heap.get? p.1=some p.2/\H p.1=none/\p.1≠X.env.locals/\p.1∉X.fs/\∀v,p.2.data≠.cell v
 hok:HOk X.prog X.w H s.heap
 len:σ.length=X.N.length
section
variable {X:Cx} {pins:List (Addr×Obj)} {σ:List (Option V)} {H H':Hp} {s:Shared} {h':Heap}
theorem Cx.Ok.nofr(ok:X.Ok){b:Addr}{o:Obj}(e:X.base.get? b=some o):b∉X.fs:=fun hb=>by
 have:=(ok.funs.mem hb).1
 rw[e] at this;cases this
theorem Inv.bs(I:Inv X pins σ H s):∀b o,X.base.get? b=some o->s.heap.get? b=some o/\H b=none:=fun b o e =>
 ⟨I.base.keep b o (I.ok.bs b o e).1 (I.ok.bs b o e).2 (I.ok.nofr e) (I.ok.noex b o e),I.base.free b o (I.ok.bs b o e).1 (I.ok.bs b o e).2 (I.ok.noex b o e)⟩
theorem Inv.bk(I:Inv X pins σ H s):∀b o,X.base.get? b=some o->s.heap.get? b=some o:=fun b o e=>(I.bs b o e).1
theorem Inv.mod(I:Inv X pins σ H s):Mod X.K X.mg X.base:=I.ok.mod
theorem Inv.kIn(I:Inv X pins σ H s):X.K.In s.heap:=I.ok.mod.kin.keeps I.bk
theorem Inv.fr(I:Inv X pins σ H s):∃m,Fr X.base X.env.locals s.heap m :=
 let ⟨m,hn,_⟩:=I.loc
 ⟨m,hn,I.bk,Nat.le_trans I.ok.bsz I.ok.above⟩
theorem Inv.lt(I:Inv X pins σ H s):X.env.locals<s.heap.objs.size:=let ⟨_,hn,_⟩:=I.loc;hn.lt
theorem Inv.sz(I:Inv X pins σ H s):X.s₀.heap.objs.size<=s.heap.objs.size:=Nat.le_trans I.ok.above (Nat.le_of_lt I.lt)
theorem Inv.nofs(I:Inv X pins σ H s){a:Addr}(h:s.heap.objs.size<=a):a∉X.fs:=fun hb=>by
 obtain⟨_,o,ho,_⟩:=I.ok.funs.mem hb
 exact absurd (Nat.lt_of_lt_of_le (Heap.lt_size ho) (Nat.le_trans I.sz h)) (Nat.lt_irrefl _)
theorem Inv.cne(I:Inv X pins σ H s):∀x c,X.env.cells.lookup x=some c->c≠X.env.locals:=fun x c e z=>by
 obtain⟨v,o,ho,hd⟩:=I.cell x c e
 obtain⟨m,⟨o',es,ep,ho',hd',_⟩,_⟩:=I.loc
 rw[z,ho'] at ho;cases ho;rw[hd'] at hd;cases hd
theorem Inv.funs(I:Inv X pins σ H s):s.heap.FunFrames X.base X.outer:=by
 have all:∀(l:List Env),(∀b∈frs l,b∈X.fs)->X.s₀.heap.FunFrames X.base l->s.heap.FunFrames X.base l:=by
  intro l
  induction l with
  | nil=>intro _ _;trivial
  | cons env r ih =>
   intro hs hl
   obtain⟨hk,⟨L,o,hf,hn,ho,hd⟩,hr⟩:=hl
   have hL:L∈X.fs:=hs L (by unfold frs;rw[List.filterMap_cons,hf];exact List.mem_cons_self)
   obtain⟨sl,e⟩:=I.base.slot L o ho (I.ok.frf L hL) hL fun z=>I.ok.exfs L z hL
   exact⟨hk,⟨L,_,hf,hn,e,hd⟩,ih (fun b hb=>hs b (by unfold frs;rw[List.filterMap_cons,hf];exact List.mem_cons_of_mem _ hb)) hr⟩
 exact all X.outer (fun _ hb=>hb) I.ok.funs
theorem Inv.stack(I:Inv X pins σ H s):s.heap.FunFrames X.base X.stack:=by
 rcases I.ok.stk with e|⟨e,hf⟩
 ·rw[e];exact I.funs
 ·rw[e]
  obtain⟨m,hn,_⟩:=I.loc
  refine .cons (by rw[I.ok.kind];decide) hf hn ?_ I.funs
  exact Heap.get?_none_of_le (Nat.le_trans I.ok.bsz I.ok.above)
theorem Inv.stkSub(I:Inv X pins σ H s):∀b∈frs X.stack,b∈X.env.locals::X.fs:=fun b hb=>by
 rcases I.ok.stk with e|⟨e,hf⟩
 ·rw[e] at hb;exact List.mem_cons_of_mem _ hb
 ·rw[e] at hb
  unfold frs at hb
  rw[List.filterMap_cons,hf] at hb
  exact hb
theorem Inv.stkFree(I:Inv X pins σ H s):∀b∈frs X.stack,H b=none:=fun b hb=>by
 rcases List.mem_cons.mp (I.stkSub b hb) with e|hb
 ·rw[e];exact I.free
 ·obtain⟨_,o,ho,_⟩:=I.ok.funs.mem hb
  exact I.base.free b o ho (I.ok.frf b hb) fun z=>I.ok.exfs b z hb
theorem Inv.step{g':Array GenState}{t':Nat}{d':Drawn}{ch:List Addr}(I:Inv X pins σ H s)(hch:∀b∈ch,(b∈X.ex\/X.s₀.heap.objs.size<=b)/\b≠X.env.locals/\(∀x c,X.env.cells.lookup x=some c->c≠b)/\∀p∈X.pn++pins,p.1≠b)(keep:∀b o,b≠X.env.locals->b∉X.fs->b∉ch->s.heap.get? b=some o->H b=none->h'.get? b=some o)(slot:∀b o,b≠X.env.locals->b∈X.fs->b∉ch->s.heap.get? b=some o->H b=none->∃sl,h'.get? b=some { o with slots:=sl })(free:∀b o,b∉ch->s.heap.get? b=some o->H b=none->H' b=none)(there:∀b o,b∉ch->s.heap.get? b=some o->∃o',h'.get? b=some o')(tups:∀b xs,H b=some (.tup xs)->H' b=some (.tup xs))(frzs:∀b o u,H b=some (.frz o u)->H' b=some (.frz o u))(tbls:∀b ps,H b=some (.tbl ps)->∃more,H' b=some (.tbl (ps++more)))(ns:∀m,s.heap.Ns X.env.locals m->h'.Ns X.env.locals m)(hok:HOk X.prog X.w H' h')(hg:AllBare g') :
  Inv X pins σ H' { s with heap:=h',gens:=g',drawn:=d',toks:=t' }:=by
 have neL:∀b o,X.s₀.heap.get? b=some o->b≠X.env.locals:=fun b o e=>Nat.ne_of_lt (Nat.lt_of_lt_of_le (Heap.lt_size e) I.ok.above)
 have neC:∀b o,X.s₀.heap.get? b=some o->b∉X.ex->b∉ch:=fun b o e hx hb=>by
  rcases(hch b hb).1 with z|z
  ·exact hx z
  ·exact absurd (Nat.lt_of_lt_of_le (Heap.lt_size e) z) (Nat.lt_irrefl _)
 have cellK:∀x c,X.env.cells.lookup x=some c->∀v,s.heap.IsCell c v->h'.IsCell c v:=fun x c e v ⟨o,ho,hd⟩=>by
  have nch:c∉ch:=fun z=>(hch c z).2.2.1 x c e rfl
  by_cases hc:c∈X.fs
  ·obtain⟨sl,q⟩:=slot c o (I.cne x c e) hc nch ho (I.freeC x c e)
   exact⟨_,q,hd⟩
  ·exact⟨o,keep c o (I.cne x c e) hc nch ho (I.freeC x c e),hd⟩
 refine⟨I.ok,I.os,hg,⟨fun b o e n hb hx=>?_,fun b o e n hb hx=>?_,fun b o e n hx=>?_,fun b o e hx=>?_,fun b xs e=>tups b xs (I.base.tups b xs e),fun b o xs e=>frzs b o xs (I.base.frzs b o xs e),fun b ps e=>?_⟩,?_,fun x c e=>?_,?_,fun x c e=>?_,fun p hp=>?_,hok,I.len⟩
 ·exact keep b o (neL b o e) hb (neC b o e hx) (I.base.keep b o e n hb hx) (I.base.free b o e n hx)
 ·obtain⟨sl,e1⟩:=I.base.slot b o e n hb hx
  obtain⟨sl',e2⟩:=slot b _ (neL b o e) hb (neC b o e hx) e1 (I.base.free b o e n hx)
  exact⟨sl',e2⟩
 ·obtain⟨o',e1⟩:=I.base.there b o e hx
  exact free b o' (neC b o e hx) e1 (I.base.free b o e n hx)
 ·obtain⟨o',e1⟩:=I.base.there b o e hx
  exact there b o' (neC b o e hx) e1
 ·obtain⟨m1,e1⟩:=I.base.tbls b ps e
  obtain⟨m2,e2⟩:=tbls b _ e1
  exact⟨m1++m2,by rw[e2,Array.append_assoc]⟩
 ·obtain⟨m,hn,hl⟩:=I.loc
  refine⟨m,ns m hn,fun i x v e1 e2 e3=>?_⟩
  obtain⟨u,r,l⟩:=hl i x v e1 e2 e3
  refine⟨u,r,?_⟩
  rcases l with l|⟨k,c,e,z⟩
  ·exact .inl l
  ·exact .inr ⟨k,c,e,cellK x c e _ z⟩
 ·obtain⟨v,z⟩:=I.cell x c e
  exact⟨v,cellK x c e v z⟩
 ·obtain⟨m,⟨o,_,_,ho,_⟩,_⟩:=I.loc
  exact free _ o (fun z=>(hch _ z).2.1 rfl) ho I.free
 ·obtain⟨v,o,ho,hd⟩:=I.cell x c e
  exact free c o (fun z=>(hch c z).2.2.1 x c e rfl) ho (I.freeC x c e)
 ·obtain⟨e,n,ne,nf,d⟩:=I.pin p hp
  have nch:p.1∉ch:=fun z=>(hch p.1 z).2.2.2 p hp rfl
  exact⟨keep p.1 p.2 ne nf nch e n,free p.1 p.2 nch e n,ne,nf,d⟩
theorem Inv.un{t':Nat}(I:Inv X pins σ H s)(u:Un X.fs [] H H' s.heap h')(hok:HOk X.prog X.w H' h'):Inv X pins σ H' { s with heap:=h',toks:=t' }:=by
 obtain⟨m,⟨o,es,ep,ho,r⟩,_⟩:=id I.loc
 obtain⟨sl,hL⟩:=u.any ho I.free (by simp)
 exact I.step (g':=s.gens) (d':=s.drawn) (ch:=[]) (fun _ z=>nomatch z) (fun b o _ hb _ e n=>u.keep b o e n hb (by simp)) (fun b o _ hb _ e n=>u.slot b o e n hb (by simp)) (fun b o _ e n=>u.free b o e n (by simp)) (fun b o _ e=>u.there b o e (by simp)) u.tups u.frzs u.tbls (fun m' hm=>by
  obtain⟨o',es',ep',ho',r'⟩:=hm
  rw[ho] at ho';cases ho'
  exact⟨_,es',ep',hL,r'⟩) hok I.bare
theorem Inv.call{g':Array GenState}{t':Nat}{d':Drawn}{ch:List Addr}(I:Inv X pins σ H s)(u:Un (frs X.stack) ch H H' s.heap h')(hok:HOk X.prog X.w H' h')(hg:AllBare g')(hch:∀b∈ch,(b∈X.ex\/X.s₀.heap.objs.size<=b)/\b≠X.env.locals/\(∀x c,X.env.cells.lookup x=some c->c≠b)/\∀p∈X.pn++pins,p.1≠b) :
  Inv X pins σ H' { s with heap:=h',gens:=g',drawn:=d',toks:=t' }:=by
 obtain⟨m,⟨o,es,ep,ho,r⟩,_⟩:=id I.loc
 obtain⟨sl,hL⟩:=u.any ho I.free fun z=>(hch _ z).2.1 rfl
 exact I.step (ch:=ch) hch (fun b o hL hb hc e n=>u.keep b o e n (fun z=>(List.mem_cons.mp (I.stkSub b z)).elim hL hb) hc) (fun b o _ _ hc e n=>u.any e n hc) (fun b o hc e n=>u.free b o e n hc) (fun b o hc e=>u.there b o e hc) u.tups u.frzs u.tbls (fun m' hm=>by
  obtain⟨o',es',ep',ho',r'⟩:=hm
  rw[ho] at ho';cases ho'
  exact⟨_,es',ep',hL,r'⟩) hok hg
theorem Inv.turned{t':Nat}{it:Addr}(I:Inv X pins σ H s)(k:∀b o,b≠it->s.heap.get? b=some o->h'.get? b=some o)(hn:H it=none)(hL:it≠X.env.locals)(h1:it∈X.ex\/X.s₀.heap.objs.size<=it)(h2:∀x c,X.env.cells.lookup x=some c->c≠it)(h3:∀p∈X.pn++pins,p.1≠it):Inv X pins σ H { s with heap:=h',toks:=t' }:=by
 have nit:∀b u,H b=some u->b≠it:=fun b u e z=>by rw[z,hn] at e;cases e
 refine I.step (g':=s.gens) (d':=s.drawn) (ch:=[it]) (fun b hb=>?_) (fun b o _ _ hc e _=>k b o (fun z=>hc (by simp[z])) e) (fun b o _ _ hc e _=>⟨o.slots,k b o (fun z=>hc (by simp[z])) e⟩) (fun _ _ _ _ n=>n)
  (fun b o hc e=>⟨o,k b o (fun z=>hc (by simp[z])) e⟩) (fun _ _ e=>e) (fun _ _ _ e=>e) (fun b ps e=>⟨#[],by rw[e];simp⟩) (fun m hm=>?_) (fun b u e=>?_) I.bare
 ·have e:b=it:=by simpa using hb
  subst e
  exact⟨h1,hL,h2,h3⟩
 ·obtain⟨o,es,ep,ho,r⟩:=hm
  exact⟨o,es,ep,k _ o (Ne.symm hL) ho,r⟩
 ·refine(I.hok b u e).stay (fun c v hc q=>k c v ?_ q) (fun _ q=>q) fun _ _ q=>q
  rcases hc with z|z
  ·rw[z];exact nit b u e
  ·exact nit c _ z
theorem Inv.tok(I:Inv X pins σ H s)(t:Nat):Inv X pins σ H { s with toks:=t }:=I.un (h':=s.heap) (t':=t) Un.refl I.hok
theorem Inv.kept{t':Nat}(I:Inv X pins σ H s)(k:∀b u,s.heap.get? b=some u->h'.get? b=some u):Inv X pins σ H { s with heap:=h',toks:=t' }:=I.un (Un.kept k) (I.hok.kept k)
theorem Inv.laid{a:Addr}{o:HO}{t':Nat}(I:Inv X pins σ H s)(k:∀b u,s.heap.get? b=some u->h'.get? b=some u)(hp:s.heap.objs.size<=a)(new:ObjOk X.prog X.w (upd H a o) h' a o) :
  Inv X pins σ (upd H a o) { s with heap:=h',toks:=t' }:=I.un (Un.laid k hp (I.hok.fresh hp)) (I.hok.laid k hp new)
theorem Inv.write{x e:Addr}{o:HO}{t':Nat}(I:Inv X pins σ H s)(mu:Mut (H x))(he:e=x\/H e=some (.own x))(k:∀b u,b≠e->s.heap.get? b=some u->h'.get? b=some u)(heo:∃u,h'.get? e=some u)(new:ObjOk X.prog X.w (upd H x o) h' x o):Inv X pins σ (upd H x o) { s with heap:=h',toks:=t' }:=I.un (Un.write mu he k heo) (I.hok.write mu he k heo new)
theorem Inv.weak{σ':List (Option V)}(I:Inv X pins σ H s)(hl:σ'.length=σ.length)(w:∀(i:Nat) v,σ'[i]?=some (some v)->σ[i]?=some (some v)):Inv X pins σ' H s :=
 ⟨I.ok,I.os,I.bare,I.base,let ⟨m,hn,hl'⟩:=I.loc;⟨m,hn,fun i x v e1 e2 e3=>hl' i x v e1 (w i v e2) e3⟩,I.cell,I.free,I.freeC,I.pin,I.hok,hl.trans I.len⟩
theorem Inv.pins_of{pins':List (Addr×Obj)}(I:Inv X pins σ H s)(h:∀p∈pins',s.heap.get? p.1=some p.2/\H p.1=none/\p.1≠X.env.locals/\p.1∉X.fs/\∀v,p.2.data≠.cell v):Inv X pins' σ H s :=
 ⟨I.ok,I.os,I.bare,I.base,I.loc,I.cell,I.free,I.freeC,fun p hp=>(List.mem_append.mp hp).elim (fun z=>I.pin p (List.mem_append_left _ z)) (h p),I.hok,I.len⟩
theorem zhG{N:List Str}(hN:N.Nodup){i j:Nat}{x:Str}(a:N[i]?=some x)(b:N[j]?=some x):i=j:=by
 obtain⟨h1,e1⟩:=List.getElem?_eq_some_iff.mp a
 obtain⟨h2,e2⟩:=List.getElem?_eq_some_iff.mp b
 exact(List.getElem_inj hN).mp (e1.trans e2.symm)
theorem zi5{M:Model}{A:Around}{E:Value->Shared->Prop}{i:Nat}{x:Str}{v:V}{u:Value}{Q:Unit->Shared->Prop}(I:Inv X pins σ H s)(hN:X.N.Nodup)(hi:X.N[i]?=some x)(hx:Loc X.env.scope x)(r:RelV v u)(h:∀s',Inv X pins (σ.set i (some v)) H s'->(∃a,Heap.SameBut a s.heap s'.heap/\(a=X.env.locals\/X.env.cells.lookup x=some a))->Q () s')(hf:X.fn x=true\/X.env.scope.names.lookup x=some .local:=by first|exact .inl rfl|exact .inr rfl|assumption):wpAny M A (storeName X.env x u) Q E s:=by
 obtain⟨m,hn,hl⟩:=id I.loc
 have hcls:(X.env.scope.kind==.class||(X.env.scope.kind==.module&&X.env.locals != X.env.globals))=false:=by rw[I.ok.kind];rfl
 have hiσ:i<σ.length:=by rw[I.len];exact(List.getElem?_eq_some_iff.mp hi).1
 have cne:=I.cne
 have tracked:∀{a:Addr} {h':Heap},(∃o,s.heap.get? a=some o/\H a=none)->Heap.SameBut a s.heap h'->HOk X.prog X.w H h':=fun {a h'} ha hs b ob e=>by
  obtain⟨_,_,hfree⟩:=ha
  refine(I.hok b ob e).stay (fun c w' hc q=>(hs.2 c ?_).trans q) (fun _ q=>q) fun _ _ q=>q
  rintro rfl
  rcases hc with rfl|hc
  ·rw[hfree] at e;cases e
  ·rw[hfree] at hc;cases hc
 rcases hx with hk|hk
 ·refine wpAny_storeName_local hk hn (fun h' hn' hs=>?_) hcls
  obtain⟨oL,_,_,hoL,_⟩:=id hn
  refine h _ ⟨I.ok,I.os,I.bare,⟨fun b o e n hb hx=>?_,fun b o e n hb hx=>?_,I.base.free,fun b o e hx=>?_,I.base.tups,I.base.frzs,I.base.tbls⟩,⟨_,hn',fun j y v' e1 e2 e3=>?_⟩,fun y c e=>?_,I.free,I.freeC,fun p hp=>?_,tracked ⟨oL,hoL,I.free⟩ hs,by simpa using I.len⟩ ⟨_,hs,.inl rfl⟩
  ·exact(hs.2 b (Nat.ne_of_lt (Nat.lt_of_lt_of_le (Heap.lt_size e) I.ok.above))).trans (I.base.keep b o e n hb hx)
  ·obtain⟨sl,e1⟩:=I.base.slot b o e n hb hx
   exact⟨sl,(hs.2 b (Nat.ne_of_lt (Nat.lt_of_lt_of_le (Heap.lt_size e) I.ok.above))).trans e1⟩
  ·obtain⟨o',e1⟩:=I.base.there b o e hx
   exact⟨o',(hs.2 b (Nat.ne_of_lt (Nat.lt_of_lt_of_le (Heap.lt_size e) I.ok.above))).trans e1⟩
  ·by_cases hj:j=i
   ·subst hj
    rw[hi] at e1;cases e1
    rw[List.getElem?_set_self hiσ] at e2
    cases e2
    exact⟨u,r,.inl ⟨hk,by simp⟩⟩
   ·rw[List.getElem?_set_ne (Ne.symm hj)] at e2
    obtain⟨u',r',q⟩:=hl j y v' e1 e2 e3
    refine⟨u',r',?_⟩
    rcases q with ⟨k,e⟩|⟨k,c,e,z⟩
    ·refine .inl ⟨k,?_⟩
     have:y≠x:=fun e=>hj (zhG hN e1 (e▸hi))
     simp[this,e]
    ·exact .inr ⟨k,c,e,z.sameBut hs (cne y c e)⟩
  ·obtain⟨w',z⟩:=I.cell y c e
   exact⟨w',z.sameBut hs (cne y c e)⟩
  ·obtain⟨e,n,ne,nf,d⟩:=I.pin p hp
   exact⟨(hs.2 p.1 ne).trans e,n,ne,nf,d⟩
 ·have hfn:X.fn x=true:=by
   rcases hf with z|z
   ·exact z
   ·rw[z] at hk;cases hk
  obtain⟨c,hc⟩:=I.ok.has x (.inl hk)
  obtain⟨w',z⟩:=I.cell x c hc
  refine wpAny_storeName_cell I.ok.kind hk hc z (fun h' hc' hs=>?_)
  obtain⟨oc,hoc,hocd⟩:=id z
  refine h { s with heap:=h' } ⟨I.ok,I.os,I.bare,⟨fun b o e n hb hx=>?_,fun b o e n hb hx=>?_,I.base.free,fun b o e hx=>?_,I.base.tups,I.base.frzs,I.base.tbls⟩,⟨m,hn.sameBut hs (Ne.symm (cne x c hc)),fun j y v' e1 e2 e3=>?_⟩,fun y c' e=>?_,I.free,I.freeC,fun p hp=>?_,tracked ⟨oc,hoc,I.freeC x c hc⟩ hs,by simpa using I.len⟩ ⟨c,hs,.inr hc⟩
  ·exact(hs.2 b (Nat.ne_of_lt (Nat.lt_of_lt_of_le (Heap.lt_size e) (I.ok.cab x c hfn hc)))).trans (I.base.keep b o e n hb hx)
  ·obtain⟨sl,e1⟩:=I.base.slot b o e n hb hx
   exact⟨sl,(hs.2 b (Nat.ne_of_lt (Nat.lt_of_lt_of_le (Heap.lt_size e) (I.ok.cab x c hfn hc)))).trans e1⟩
  ·obtain⟨o',e1⟩:=I.base.there b o e hx
   exact⟨o',(hs.2 b (Nat.ne_of_lt (Nat.lt_of_lt_of_le (Heap.lt_size e) (I.ok.cab x c hfn hc)))).trans e1⟩
  ·by_cases hj:j=i
   ·subst hj
    rw[hi] at e1;cases e1
    rw[List.getElem?_set_self hiσ] at e2
    cases e2
    exact⟨u,r,.inr ⟨.inl hk,c,hc,hc'⟩⟩
   ·rw[List.getElem?_set_ne (Ne.symm hj)] at e2
    obtain⟨u',r',q⟩:=hl j y v' e1 e2 e3
    refine⟨u',r',?_⟩
    rcases q with q|⟨k,c',e,z'⟩
    ·exact .inl q
    ·refine .inr ⟨k,c',e,z'.sameBut hs ?_⟩
     rintro rfl
     exact hj (zhG hN e1 (I.ok.inj _ _ _ e hc▸hi))
  ·by_cases hcc:c'=c
   ·subst hcc;exact⟨_,hc'⟩
   ·obtain⟨w2,z2⟩:=I.cell y c' e
    exact⟨w2,z2.sameBut hs hcc⟩
  ·obtain⟨e,n,ne,nf,d⟩:=I.pin p hp
   refine⟨(hs.2 p.1 ?_).trans e,n,ne,nf,d⟩
   intro q
   rw[q,hoc] at e
   have q':oc=p.2:=Option.some.inj e
   exact d w' (by rw[<- q'];exact hocd)
theorem zfr{M:Model}{A:Around}{E:Value->Shared->Prop}{i:Nat}{x:Str}{v:V}{u:Value}{Q:Unit->Shared->Prop}(I:Inv X pins σ H s)(hN:X.N.Nodup)(hi:X.N[i]?=some x)(hx:Loc X.env.scope x)(r:RelV v u)(h:∀s',Inv X pins (σ.set i (some v)) H s'->Q () s')(hf:X.fn x=true\/X.env.scope.names.lookup x=some .local:=by first|exact .inl rfl|exact .inr rfl|assumption):wpAny M A (storeName X.env x u) Q E s :=
 zi5 I hN hi hx r (fun s' I' _=>h s' I') hf
theorem Inv.call'{s':Shared}{ch:List Addr}(I:Inv X pins σ H s)(ho:s'.os=s.os)(u:Un (frs X.stack) ch H H' s.heap s'.heap)(hok:HOk X.prog X.w H' s'.heap)(hg:AllBare s'.gens)(hch:∀b∈ch,(b∈X.ex\/X.s₀.heap.objs.size<=b)/\b≠X.env.locals/\(∀x c,X.env.cells.lookup x=some c->c≠b)/\∀p∈X.pn++pins,p.1≠b):Inv X pins σ H' s':=by
 obtain⟨h',g',d',t',o'⟩:=s'
 have e:o'=s.os:=ho
 subst e
 exact I.call (g':=g') (t':=t') (d':=d') u hok hg hch
end
abbrev XK:=Value->Option Addr->Hp->Prop
abbrev St:=List (Option V)
abbrev VK:=V->Hp->Prop
abbrev TE:=St->Hp->VK->Prop
abbrev TT:=St->Hp->(Bool->Hp->Prop)->Prop
abbrev TA:=St->Hp->(List V->Hp->Prop)->Prop
structure Ends where
 nx:St->Hp->Prop
 rt:VK
 bk:St->Hp->Prop:=fun _ _=>False
 ct:St->Hp->Prop:=fun _ _=>False
abbrev TS:=Ends->St->Hp->Prop
def EP(X:Cx)(pins:List (Addr×Obj))(σ:St)(Q:VK)(u:Value)(s':Shared):Prop:=∃v H',Inv X pins σ H' s'/\RelV v u/\Q v H'
def TP(X:Cx)(pins:List (Addr×Obj))(σ:St)(Q:Bool->Hp->Prop)(b:Bool)(s':Shared):Prop:=∃H',Inv X pins σ H' s'/\Q b H'
def AP(X:Cx)(pins:List (Addr×Obj))(σ:St)(Q:List V->Hp->Prop)(us:List Value)(s':Shared):Prop:=∃vs H',Inv X pins σ H' s'/\Vals vs us/\Q vs H'
def SP(X:Cx)(pins:List (Addr×Obj))(D:Ends)(f:Flow)(s':Shared):Prop :=
 match f with
 | .next=>∃σ' H',Inv X pins σ' H' s'/\D.nx σ' H'
 | .brk=>∃σ' H',Inv X pins σ' H' s'/\D.bk σ' H'
 | .cont=>∃σ' H',Inv X pins σ' H' s'/\D.ct σ' H'
 | .ret u=>∃v σ' H',Inv X pins σ' H' s'/\RelV v u/\D.rt v H'
def PE(X:Cx)(e:Expr)(t:TE):Prop :=
 ∀(pins:List (Addr×Obj)) (s:Shared) (σ:St) (H:Hp) (Q:VK),Inv X pins σ H s->t σ H Q->wpAny (model X.prog X.w) X.A (eval e X.env) (EP X pins σ Q) X.xe s
def PT(X:Cx)(e:Expr)(t:TT):Prop :=
 ∀(pins:List (Addr×Obj)) (s:Shared) (σ:St) (H:Hp) (Q:Bool->Hp->Prop),Inv X pins σ H s->t σ H Q->wpAny (model X.prog X.w) X.A (isTrue e X.env (eval e X.env)) (TP X pins σ Q) X.xe s
def PW(X:Cx)(e:Expr)(t:TT):Prop :=
 ∀(whole:Sem Value) (pins:List (Addr×Obj)) (s:Shared) (σ:St) (H:Hp) (Q:Bool->Hp->Prop),Inv X pins σ H s->t σ H Q->wpAny (model X.prog X.w) X.A (isTrue e X.env whole) (TP X pins σ Q) X.xe s
theorem PW.pt{X:Cx}{e:Expr}{t:TT}(h:PW X e t):PT X e t:=h _
def PA(X:Cx)(es:List Expr)(t:TA):Prop :=
 ∀(pos:Pos) (pins:List (Addr×Obj)) (s:Shared) (σ:St) (H:Hp) (Q:List V->Hp->Prop),Inv X pins σ H s->t σ H Q->wpAny (model X.prog X.w) X.A (spliced (backTo pos (starEach es X.env))) (AP X pins σ Q) X.xe s
def PS(X:Cx)(st:Stmt)(t:TS):Prop :=
 ∀(pins:List (Addr×Obj)) (s:Shared) (σ:St) (H:Hp) (D:Ends),Inv X pins σ H s->t D σ H->wpAny (model X.prog X.w) X.A (exec st X.env) (SP X pins D) X.xe s
def PSs(X:Cx)(st:List Stmt)(t:TS):Prop :=
 ∀(pins:List (Addr×Obj)) (s:Shared) (σ:St) (H:Hp) (D:Ends),Inv X pins σ H s->t D σ H->wpAny (model X.prog X.w) X.A (execs st X.env) (SP X pins D) X.xe s
theorem thn{α:Type}{t:Sem α}{Q Q':α->Shared->Prop}{M:Model}{A:Around}{E:Value->Shared->Prop}{s:Shared}(h:wpAny M A t Q E s)(hQ:∀a s,Q a s->Q' a s):wpAny M A t Q' E s:=wpAny_mono h hQ fun _ _ x=>x
end L2
namespace L2
open PySem PySem.Spec PyProof.Rows
section
variable {X:Cx}
theorem bin{a b:Expr}{ta tb:TE}(ha:PE X a ta)(hb:PE X b tb){pins:List (Addr×Obj)}{s:Shared}{σ:St}{H:Hp}{R:V->V->Hp->Prop}(I:Inv X pins σ H s)(h:ta σ H fun x H1=>tb σ H1 fun y H2=>R x y H2){α:Type}{Q:α->Shared->Prop}{f:Value->Value->Sem α}(hf:∀v u s2 x y H2,Inv X pins σ H2 s2->RelV x v->RelV y u->R x y H2->wpAny (model X.prog X.w) X.A (f v u) Q X.xe s2) :
  wpAny (model X.prog X.w) X.A (eval a X.env) (fun v s₁=>wpAny (model X.prog X.w) X.A (eval b X.env) (fun u s₂=>wpAny (model X.prog X.w) X.A (f v u) Q X.xe s₂) X.xe s₁) X.xe s:=by
 refine thn (ha pins s σ H _ I h) fun v s1 ⟨x,H1,I1,r1,q1⟩=>?_
 refine thn (hb pins s1 σ H1 _ I1 q1) fun u s2 ⟨y,H2,I2,r2,q2⟩=>?_
 exact hf v u s2 x y H2 I2 r1 r2 q2
def zsv(i:Nat):TE:=fun σ H Q=>∃v,σ[i]?=some (some v)/\Q v H
def tC(v:V):TE:=fun _ H Q=>Q v H
theorem zlZ{i:Nat}{x:Str}{pos:Pos}(hN:X.N[i]?=some x)(hv:Vis X.env.scope x)(hd:(x==("__debug__" : Str))=false:=by decide)(hcd:(x==("__classdict__" : Str))=false:=by decide):PE X (.Name x pos) (zsv i):=by
 intro pins s σ H Q I h
 obtain⟨v,e,h⟩:=h
 obtain⟨m,hn,hl⟩:=I.loc
 obtain⟨u,r,l⟩:=hl i x v hN e hv
 have fin:EP X pins σ Q u s:=⟨v,H,I,r,h⟩
 rcases l with ⟨hk,hm⟩|⟨hk,c,hc,hcell⟩
 ·exact wpAny_Name (wpAny_loadName_local I.ok.kind hk hn hm fin) hd
 ·rcases hk with hk|hk
  ·exact wpAny_Name (wpAny_loadName_cell I.ok.kind hk hc hcell fin) hd
  ·exact wpAny_Name (wpAny_loadName_free I.ok.kind hk hc hcell fin hcd) hd
theorem zog{i j pos}:PE X (.Constant (.int i) j pos) (tC (.int i)):=fun _ _ _ H _ I h=>wpAny_Constant_int ⟨.int i,H,I.tok _,⟨_,rfl⟩,h⟩
theorem zqA{b j pos}:PE X (.Constant (.bool b) j pos) (tC (.bl b)):=fun _ _ _ H _ I h=>Constant_bool ⟨.bl b,H,I,rfl,h⟩
theorem zoh{j pos}:PE X (.Constant .none j pos) (tC .non):=fun _ _ _ H _ I h=>Constant_none ⟨.non,H,I,rfl,h⟩
def Gl(X:Cx)(x:Str):Prop:=X.env.kindOf x=some .globalImplicit
theorem zds{E:Value->Shared->Prop}{pins:List (Addr×Obj)}{s:Shared}{σ:St}{H:Hp}{x:Str}{u:Value}{pos:Pos}{Q:Value->Shared->Prop}(I:Inv X pins σ H s)(hg:Gl X x)(hm:X.mg x=some u)(h:Q u s)(hd:(x==("__debug__" : Str))=false:=by decide):wpAny (model X.prog X.w) X.A (eval (.Name x pos) X.env) Q E s :=
 Calls.Name_function_global I.ok.kind hg (Calls.loadGlobal_global (by rw[I.ok.glob];exact I.mod.glob.keeps I.bk) hm h) hd
theorem zhH{E:Value->Shared->Prop}{pins:List (Addr×Obj)}{s:Shared}{σ:St}{H:Hp}{x:Str}{u:Value}{pos:Pos}{Q:Value->Shared->Prop}(I:Inv X pins σ H s)(hg:Gl X x)(hm:X.mg x=none)(hv:bootBuiltins x=some u)(h:Q u s)(hn:x ≠ "__name__" := by decide)(hd:(x==("__debug__" : Str))=false:=by decide):wpAny (model X.prog X.w) X.A (eval (.Name x pos) X.env) Q E s:=by
 obtain⟨mb,h1,h2⟩:=I.mod.blt
 exact Calls.Name_function_global I.ok.kind hg (Calls.loadGlobal_builtin (by rw[I.ok.glob];exact I.mod.glob.keeps I.bk) hm (by rw[I.ok.blt];exact h1.keeps I.bk) ((h2 x hn).trans hv) h) hd
theorem zmG{x:Str}{v:V}{u:Value}{pos:Pos}(hg:Gl X x)(hm:X.mg x=some u)(r:RelV v u)(hd:(x==("__debug__" : Str))=false:=by decide):PE X (.Name x pos) (tC v) :=
 fun _ _ _ H _ I h=>zds I hg hm ⟨v,H,I,r,h⟩ hd
theorem zmH{x:Str}{v:V}{u:Value}{pos:Pos}(hg:Gl X x)(hm:X.mg x=none)(hv:bootBuiltins x=some u)(r:RelV v u)(hn:x ≠ "__name__" := by decide)(hd:(x==("__debug__" : Str))=false:=by decide):PE X (.Name x pos) (tC v) :=
 fun _ _ _ H _ I h=>zhH I hg hm hv ⟨v,H,I,r,h⟩ hn hd
variable {a b:Expr} {ta tb:TE} {pos:Pos}
def PC(X:Cx)(op:CmpOp)(a b:Expr)(t:TE):Prop :=
 ∀(pins:List (Addr×Obj)) (s:Shared) (σ:St) (H:Hp) (Q:VK),Inv X pins σ H s->t σ H Q ->
  wpAny (model X.prog X.w) X.A (eval a X.env) (fun v s₁=>wpAny (model X.prog X.w) X.A (eval b X.env) (fun u s₂=>wpAny (model X.prog X.w) X.A (compareOp op v u) (EP X pins σ Q) X.xe s₂) X.xe s₁) X.xe s
def zqB(ta:TE):TE:=fun σ H Q=>ta σ H fun x H1=>Q (.bl (!decide (x=.non))) H1
theorem RelV.none_iff{x:V}{v:Value}(r:RelV x v):(v==Value.none)=decide (x=.non):=by
 cases x with
 | non=>cases r;rfl
 | bl _=>cases r;rfl
 | int _=>obtain⟨t,rfl⟩:=r;rfl
 | str _=>obtain⟨t,rfl⟩:=r;rfl
 | byt _=>obtain⟨t,rfl⟩:=r;rfl
 | flt _=>obtain⟨t,rfl⟩:=r;rfl
 | ref _=>cases r;rfl
 | ty _=>cases r;rfl
theorem zmI{j pos'}(ha:PE X a ta):PC X .IsNot a (.Constant .none j pos') (zqB ta):=by
 intro pins s σ H Q I h
 refine thn (ha pins s σ H _ I h) fun v s1 ⟨x,H1,I1,r1,q1⟩=>?_
 exact Constant_none (isnot_none_gen ⟨.bl _,H1,I1,by rw[r1.none_iff];rfl,q1⟩)
def tB(t:TE):TT:=fun σ H Q=>t σ H fun x H1=>∃c,x=.bl c/\Q c H1
theorem zoi{op:CmpOp}{t:TE}(h:PC X op a b t)(h1:behindInMarks op b=false:=by first|exact nobehind _ (by decide) (by decide)|rfl):PT X (.Compare a [op] [b] pos) (tB t):=by
 intro pins s σ H Q I hw
 refine wpAny_isTrue_Compare1 (thn (h pins s σ H _ I hw) fun v s1 h1=>thn h1 fun u s2 h2=>thn h2 fun c s3 ⟨x,H1,I1,r1,q1⟩=>?_) h1
 obtain⟨d,rfl,q⟩:=q1
 cases r1
 exact wpAny_truthy_bool ⟨H1,I1,q⟩
theorem zoj{e:Expr}{t:TE}(h:PE X e t)(he:∀whole,isTrue e X.env whole=(do let v <- whole;standAt e.pos;holding [v] (truthy v)):=by intro _;rfl):PT X e (tB t):=by
 intro pins s σ H Q I hw
 refine isTrue_plain (thn (h pins s σ H _ I hw) fun v s1 ⟨x,H1,I1,r1,q1⟩=>?_) (he _)
 obtain⟨d,rfl,q⟩:=q1
 cases r1
 exact wpAny_truthy_bool ⟨H1,I1,q⟩
variable {tA tB':TT} {zeM:List Expr}
def zsw(t u:TT):TT:=fun σ H Q=>t σ H fun c H1=>if c=true then u σ H1 Q else Q false H1
def tOr(t u:TT):TT:=fun σ H Q=>t σ H fun c H1=>if c=true then Q true H1 else u σ H1 Q
def zsx(t:TT):TT:=fun σ H Q=>t σ H fun c H1=>Q (!c) H1
theorem zmJ(ha:PT X a tA):PW X (.BoolOp .And [a] pos) tA:=by
 intro wh pins s σ H Q I h
 refine isTrue_and (thn (ha pins s σ H Q I h) fun c s1 e=>?_)
 cases c with
 | true=>exact isTrue_and_nil e
 | false=>exact e
theorem zok(ha:PT X a tA):PW X (.BoolOp .Or [a] pos) tA:=by
 intro wh pins s σ H Q I h
 refine isTrue_or (thn (ha pins s σ H Q I h) fun c s1 e=>?_)
 cases c with
 | false=>exact isTrue_or_nil e
 | true=>exact e
theorem zol(ha:PT X a tA)(hb:PW X (.BoolOp .And (b::zeM) pos) tB'):PW X (.BoolOp .And (a::b::zeM) pos) (zsw tA tB'):=by
 intro wh pins s σ H Q I h
 refine isTrue_and (thn (ha pins s σ H _ I h) fun c s1 ⟨H1,I1,q1⟩=>?_)
 cases c with
 | true=>exact hb wh pins s1 σ H1 Q I1 q1
 | false=>exact⟨H1,I1,q1⟩
theorem zqC(ha:PT X a tA)(hb:PW X (.BoolOp .Or (b::zeM) pos) tB'):PW X (.BoolOp .Or (a::b::zeM) pos) (tOr tA tB'):=by
 intro wh pins s σ H Q I h
 refine isTrue_or (thn (ha pins s σ H _ I h) fun c s1 ⟨H1,I1,q1⟩=>?_)
 cases c with
 | true=>exact⟨H1,I1,q1⟩
 | false=>exact hb wh pins s1 σ H1 Q I1 q1
theorem zom(ha:PT X a tA):PT X (.UnaryOp .Not a pos) (zsx tA):=by
 intro pins s σ H Q I h
 exact isTrue_not (ha pins s σ H (fun c H1=>Q (!c) H1) I h)
def zqD(ta tb:TE):TE:=fun σ H Q=>ta σ H fun x H1=>∃c,x=.bl c/\if c=true then tb σ H1 Q else Q (.bl false) H1
def zqE(ta:TE):TE:=fun σ H Q=>ta σ H fun x H1=>∃c,x=.bl c/\Q (.bl (!c)) H1
theorem zon{op}{t:TE}(h:PE X a t):PE X (.BoolOp op [a] pos) t:=fun pins s σ H Q I hw=>BoolOp_one (h pins s σ H Q I hw)
theorem zoo(ha:PE X a ta)(hb:PE X (.BoolOp .And (b::zeM) pos) tb):PE X (.BoolOp .And (a::b::zeM) pos) (zqD ta tb):=by
 intro pins s σ H Q I h
 refine BoolOp_and (thn (ha pins s σ H _ I h) fun v s1 ⟨x,H1,I1,r1,q1⟩=>?_)
 obtain⟨c,rfl,q1⟩:=q1
 cases r1
 refine wpAny_truthy_bool ?_
 cases c with
 | true=>exact hb pins s1 σ H1 Q I1 q1
 | false=>exact⟨.bl false,H1,I1,rfl,q1⟩
theorem zop(ha:PE X a ta):PE X (.UnaryOp .Not a pos) (zqE ta):=by
 intro pins s σ H Q I h
 refine UnaryOp_ (thn (ha pins s σ H _ I h) fun v s1 ⟨x,H1,I1,r1,q1⟩=>?_)
 obtain⟨c,rfl,q1⟩:=q1
 cases r1
 exact not_of (wpAny_truthy_bool ⟨.bl (!c),H1,I1,rfl,q1⟩)
end
end L2
namespace L2
open PySem PySem.Spec PyProof.Rows
def SqL(K:PySem.W.Frag)(H:Hp)(a:Addr)(xs:List V):Prop :=
 Rd H a (.lst xs) \/
  ∃(o:Obj) (its:Array Value) (n:Nat),K.lookup a=some o/\o.cls=.type "list" /\ o.dict=none/\o.data=.seq its n/\its.size<=sizeLine/\Vals xs its.toList
def SqT(K:PySem.W.Frag)(H:Hp)(a:Addr)(xs:List V):Prop :=
 Rd H a (.tup xs) \/
  ∃(o:Obj) (its:Array Value) (n:Nat),K.lookup a=some o/\o.cls=.type "tuple" /\ o.data=.seq its n/\its.size<=sizeLine/\Vals xs its.toList
def zsy:Value->Option V
 | .none=>some .non
 | .bool b=>some (.bl b)
 | .int i _=>some (.int i)
 | .str x _=>some (.str x)
 | .bytes b _=>some (.byt b)
 | .float b _=>some (.flt b)
 | .ref a=>some (.ref a)
 | .type n=>some (.ty n)
 | _=>none
theorem RelV.abs{x:V}{u:Value}(r:RelV x u):zsy u=some x:=by
 cases x with
 | non=>cases r;rfl
 | bl _=>cases r;rfl
 | int _=>obtain⟨t,rfl⟩:=r;rfl
 | str _=>obtain⟨t,rfl⟩:=r;rfl
 | byt _=>obtain⟨t,rfl⟩:=r;rfl
 | flt _=>obtain⟨t,rfl⟩:=r;rfl
 | ref _=>cases r;rfl
 | ty _=>cases r;rfl
theorem RelV.inj{x y:V}{u:Value}(r:RelV x u)(q:RelV y u):x=y:=Option.some.inj (r.abs.symm.trans q.abs)
theorem Vals.inj:∀{xs ys:List V} {us:List Value},Vals xs us->Vals ys us->xs=ys
 | _,_,_,.nil,.nil=>rfl
 | _,_,_,.cons r t,.cons r' t'=>by rw[r.inj r',Vals.inj t t']
section
variable {X:Cx} {pins:List (Addr×Obj)} {σ:St} {H:Hp} {s:Shared} {a:Addr} {xs ys:List V}
theorem Inv.list(I:Inv X pins σ H s)(h:SqL X.K H a xs):∃its:List Value,Vals xs its/\PlainL s.heap a its.toArray/\xs.length<=sizeLine:=by
 rcases h with h|⟨o,its,n,hk,hc,hd,hs,hz,r⟩
 ·obtain⟨z,its,n,r,e⟩:=h.ok I.hok
  exact⟨its,r,⟨_,n,e,rfl,rfl,rfl⟩,z⟩
 ·refine⟨its.toList,r,⟨o,n,I.kIn a o hk,hc,hd,by simpa using hs⟩,?_⟩
  have e:=r.length
  simp only[Array.length_toList] at e
  omega
theorem Inv.tuple(I:Inv X pins σ H s)(h:SqT X.K H a xs):∃its:List Value,Vals xs its/\IsTup s.heap a its.toArray/\xs.length<=sizeLine:=by
 rcases h with h|⟨o,its,n,hk,hc,hs,hz,r⟩
 ·obtain⟨z,its,r,p⟩:=h.ok I.hok
  exact⟨its,r,p.isTup,z⟩
 ·refine⟨its.toList,r,⟨o,I.kIn a o hk,hc,n,by simpa using hs⟩,?_⟩
  have e:=r.length
  simp only[Array.length_toList] at e
  omega
theorem Inv.list_inj(I:Inv X pins σ H s)(h:SqL X.K H a xs)(h':SqL X.K H a ys):xs=ys:=by
 obtain⟨its,r,⟨o,n,e,_,_,d⟩,_⟩:=I.list h
 obtain⟨its',r',⟨o',n',e',_,_,d'⟩,_⟩:=I.list h'
 rw[e] at e';cases e'
 rw[d] at d'
 injection d' with d1 _
 have:its=its':=by simpa using congrArg Array.toList d1
 subst this
 exact r.inj r'
theorem Inv.tuple_inj(I:Inv X pins σ H s)(h:SqT X.K H a xs)(h':SqT X.K H a ys):xs=ys:=by
 obtain⟨its,r,⟨o,e,_,n,d⟩,_⟩:=I.tuple h
 obtain⟨its',r',⟨o',e',_,n',d'⟩,_⟩:=I.tuple h'
 rw[e] at e';cases e'
 rw[d] at d'
 injection d' with d1 _
 have:its=its':=by simpa using congrArg Array.toList d1
 subst this
 exact r.inj r'
end
abbrev Cx.wish(X:Cx)(E:Value->Shared->Prop):Cx:={ X with xe:=E }
abbrev Cx.nox(X:Cx):Cx:=X.wish fun _ _=>False
theorem Cx.Ok.wish{X:Cx}(ok:X.Ok)(E:Value->Shared->Prop):(X.wish E).Ok :=
 ⟨ok.mod,ok.kind,ok.glob,ok.blt,ok.above,ok.inj,ok.has,ok.cab,ok.hd,ok.frames,ok.stk,ok.exf,ok.bs,ok.bsz,ok.noex,ok.exfs,ok.funs,ok.frf⟩
theorem Cx.Ok.unwish{X:Cx}{E:Value->Shared->Prop}(ok:(X.wish E).Ok):X.Ok :=
 ⟨ok.mod,ok.kind,ok.glob,ok.blt,ok.above,ok.inj,ok.has,ok.cab,ok.hd,ok.frames,ok.stk,ok.exf,ok.bs,ok.bsz,ok.noex,ok.exfs,ok.funs,ok.frf⟩
section
variable {X:Cx} {pins:List (Addr×Obj)} {σ:St} {H:Hp} {s:Shared} {E:Value->Shared->Prop}
theorem Inv.wish(I:Inv X pins σ H s)(E:Value->Shared->Prop):Inv (X.wish E) pins σ H s:=⟨I.ok.wish E,I.os,I.bare,I.base,I.loc,I.cell,I.free,I.freeC,I.pin,I.hok,I.len⟩
theorem Inv.unwish(I:Inv (X.wish E) pins σ H s):Inv X pins σ H s:=⟨I.ok.unwish,I.os,I.bare,I.base,I.loc,I.cell,I.free,I.freeC,I.pin,I.hok,I.len⟩
end
section
variable {X:Cx} {st:Stmt} {zeM:List Stmt} {t u:TS} {e:Expr} {te:TE} {pos:Pos}
def zqF:TS:=fun D σ H=>D.nx σ H
def zsz(t u:TS):TS:=fun D σ H=>t { D with nx:=u D } σ H
theorem zmK:PSs X [] zqF:=fun _ _ σ H _ I h=>wpAny_execs_nil ⟨σ,H,I,h⟩
theorem zkS(h1:PS X st t)(h2:PSs X zeM u):PSs X (st::zeM) (zsz t u):=by
 intro pins s σ H D I h
 refine wpAny_execs_cons (thn (h1 pins s σ H { D with nx:=u D } I h) fun f s1 q=>?_)
 cases f with
 | next =>
  obtain⟨σ',H',I',q⟩:=q
  exact h2 pins s1 σ' H' D I' q
 | ret v=>exact q
 | brk=>exact q
 | cont=>exact q
theorem zmL(h1:PS X st t):PSs X [st] t:=by
 intro pins s σ H D I h
 refine wpAny_execs_cons (thn (h1 pins s σ H D I h) fun f s1 q=>?_)
 cases f with
 | next=>exact wpAny_execs_nil q
 | ret v=>exact q
 | brk=>exact q
 | cont=>exact q
def zqG:TS:=fun D σ H=>D.ct σ H
theorem zgW:PS X (.Continue pos) zqG:=fun _ _ σ H _ I h=>wpAny_Continue ⟨σ,H,I,h⟩
theorem Inv.quiet{pins:List (Addr×Obj)}{σ:St}{H:Hp}{s:Shared}(I:Inv X pins σ H s):interactive X.env=false:=by simp[interactive,I.ok.kind]
def zqH(te:TE):TS:=fun D σ H=>te σ H fun _ H1=>D.nx σ H1
theorem zmM(he:PE X e te)(hs:swapsWith e none pos.line X.env=pure false:=by rfl):PS X (.Expr e pos) (zqH te):=by
 intro pins s σ H D I h
 exact wpAny_Expr_any (thn (he pins s σ H _ I h) fun v s1 ⟨x,H1,I1,r1,q1⟩=>⟨σ,H1,I1,q1⟩) I.quiet hs
def zsA(te:TE):TS:=fun D σ H=>te σ H D.rt
theorem zoq(he:PE X e te):PS X (.Return (some e) pos) (zsA te):=by
 intro pins s σ H D I h
 exact wpAny_Return_some (thn (he pins s σ H _ I h) fun v s1 ⟨x,H1,I1,r1,q1⟩=>⟨x,σ,H1,I1,r1,q1⟩)
def zsB(c:TT)(t u:TS):TS:=fun D σ H=>c σ H fun b H1=>if b=true then t D σ H1 else u D σ H1
theorem zqI{c:Expr}{a b:List Stmt}{tc:TT}(hc:PT X c tc)(ha:PSs X a t)(hb:PSs X b u):PS X (.If c a b pos) (zsB tc t u):=by
 intro pins s σ H D I h
 refine wpAny_If (thn (hc pins s σ H _ I h) fun d s1 ⟨H1,I1,q1⟩=>?_)
 cases d with
 | true=>exact ha pins s1 σ H1 D I1 q1
 | false=>exact hb pins s1 σ H1 D I1 q1
end
abbrev TG:=V->St->Hp->(St->Hp->Prop)->Prop
abbrev TGs:=List V->St->Hp->(St->Hp->Prop)->Prop
def PG(X:Cx)(target:Expr)(t:TG):Prop :=
 ∀(pins:List (Addr×Obj)) (s:Shared) (σ:St) (H:Hp) (v:V) (u:Value) (Q:St->Hp->Prop),Inv X pins σ H s->RelV v u->t v σ H Q ->
  wpAny (model X.prog X.w) X.A (assign target X.env u) (fun _ s'=>∃σ' H',Inv X pins σ' H' s'/\Q σ' H') X.xe s
def PGs(X:Cx)(ts:List Expr)(t:TGs):Prop :=
 ∀(pins:List (Addr×Obj)) (s:Shared) (σ:St) (H:Hp) (vs:List V) (us:List Value) (Q:St->Hp->Prop),Inv X pins σ H s->Vals vs us->t vs σ H Q ->
  wpAny (model X.prog X.w) X.A (assignInOrder ((assignEach ts X.env).map (·.2)) us) (fun _ s'=>∃σ' H',Inv X pins σ' H' s'/\Q σ' H') X.xe s
abbrev zqJ:=V->V->V->Hp->(Hp->Prop)->Prop
def zrT(X:Cx)(t:zqJ):Prop :=
 ∀(pins:List (Addr×Obj)) (s:Shared) (σ:St) (H:Hp) (o i v:V) (ov iv u:Value) (Q:Hp->Prop),Inv X pins σ H s->RelV o ov->RelV i iv->RelV v u->t o i v H Q ->
  wpAny (model X.prog X.w) X.A (setItem ov iv u) (fun _ s'=>∃H',Inv X pins σ H' s'/\Q H') X.xe s
section
variable {X:Cx} {pos:Pos}
def gName(i:Nat):TG:=fun v σ H Q=>Q (σ.set i (some v)) H
theorem zgX{i:Nat}{x:Str}(hN:X.N.Nodup)(hi:X.N[i]?=some x)(hx:Loc X.env.scope x)(hf:X.fn x=true\/X.env.scope.names.lookup x=some .local:=by first|exact .inl rfl|exact .inr rfl|assumption):PG X (.Name x pos) (gName i):=by
 intro pins s σ H v u Q I r h
 exact wpAny_assign_Name (zfr I hN hi hx r (fun s' I'=>⟨_,H,I',h⟩) hf)
def zsC:TGs:=fun vs σ H Q=>vs=[]/\Q σ H
def zqK(t:TG)(u:TGs):TGs:=fun vs σ H Q=>∃v r,vs=v::r/\t v σ H fun σ' H'=>u r σ' H' Q
theorem zmN:PGs X [] zsC:=by
 intro pins s σ H vs us Q I r h
 obtain⟨e,h⟩:=h
 subst e
 cases r
 exact assignInOrder_nil ⟨σ,H,I,h⟩
theorem zkT{e:Expr}{es:List Expr}{t:TG}{u:TGs}(h1:PG X e t)(h2:PGs X es u)(hs:(assignEach (e::es) X.env).map (·.2)=assign e X.env::(assignEach es X.env).map (·.2):=by rfl):PGs X (e::es) (zqK t u):=by
 intro pins s σ H vs us Q I r h
 obtain⟨v,vr,e1,h⟩:=h
 subst e1
 cases r with
 | cons r rr =>
  rw[hs]
  refine assignInOrder_cons (thn (h1 pins s σ H _ _ _ I r h) fun _ s1 ⟨σ1,H1,I1,q1⟩=>?_)
  exact h2 pins s1 σ1 H1 _ _ Q I1 rr q1
def zsD(K:PySem.W.Frag)(n:Nat)(t:TGs):TG:=fun v σ H Q=>∃a xs,v=.ref a/\SqT K H a xs/\xs.length=n/\t xs σ H Q
theorem zor{es:List Expr}{k:Nat}{t:TGs}{n:Nat}(hc:X.calm=true)(h:PGs X es t)(hn:(assignEach es X.env).length=n:=by rfl)(hst:(assignEach es X.env).findIdx? (·.1)=none:=by rfl):PG X (.Tuple es k pos) (zsD X.K n t):=by
 intro pins s σ H v u Q I r hw
 obtain⟨a,xs,e1,hq,hl,hw⟩:=hw
 subst e1
 cases r
 obtain⟨its,rv,ht,hz⟩:=I.tuple hq
 refine assign_Tuple_tuple (I.ok.hd hc) ht (by simp[hn,<- hl,rv.length]) hst fun h' hx=>?_
 have I1:Inv X pins σ H { s with heap:=h' }:=I.kept (t':=s.toks) fun b o e=>hx b o (Nat.ne_of_lt (Heap.lt_size e)) e
 exact h pins _ σ H xs _ Q I1 (by simpa using rv) hw
def zsE(to ti:TE)(t:zqJ):TG:=fun v σ H Q=>to σ H fun o H1=>ti σ H1 fun i H2=>t o i v H2 fun H3=>Q σ H3
theorem zos{o i:Expr}{to ti:TE}{t:zqJ}(ho:PE X o to)(hi:PE X i ti)(hs:zrT X t)(ha:∀v,assign (.Subscript o i pos) X.env v=(do
   let ov <- holding [v] (eval o X.env)
   let iv <- holding [v,ov] (eval i X.env)
   standAt pos
   holding [v,ov,iv] (setItem ov iv v)
   release [v,ov,iv] []):=by intro _;rfl):PG X (.Subscript o i pos) (zsE to ti t):=by
 intro pins s σ H v u Q I r h
 rw[ha]
 refine wpAny_bind (wpAny_holding (thn (ho pins s σ H _ I h) fun ov s1 ⟨x,H1,I1,r1,q1⟩=>?_))
 refine wpAny_bind (wpAny_holding (thn (hi pins s1 σ H1 _ I1 q1) fun iv s2 ⟨y,H2,I2,r2,q2⟩=>?_))
 refine wpAny_bind (wpAny_standAt (wpAny_bind (wpAny_holding (thn (hs pins s2 σ H2 x y v ov iv u _ I2 r1 r2 r q2) fun _ s3 ⟨H3,I3,q3⟩=>?_))))
 exact wpAny_release ⟨σ,H3,I3,q3⟩
def zqL(te:TE)(g:TG):TS:=fun D σ H=>te σ H fun x H1=>g x σ H1 D.nx
theorem zot{tg e:Expr}{te:TE}{g:TG}(he:PE X e te)(hg:PG X tg g)(hs:swapsWithSole [tg] e pos.line X.env=pure false:=by rfl)(hw:swappedStores [tg] e X.env=pure none:=by rfl)(h1:(assignEach [tg] X.env).map (·.2)=[assign tg X.env]:=by rfl):PS X (.Assign [tg] e pos) (zqL te g):=by
 intro pins s σ H D I h
 refine wpAny_Assign_stores (thn (he pins s σ H _ I h) fun v s1 ⟨x,H1,I1,r1,q1⟩=>?_) hs hw
 rw[h1]
 exact thn (hg pins s1 σ H1 x v _ I1 r1 q1) fun _ s2 q=>q
theorem zou{i:Nat}{x:Str}{e:Expr}{te:TE}{pos':Pos}(hN:X.N.Nodup)(hi:X.N[i]?=some x)(hx:Loc X.env.scope x)(he:PE X e te)(hs:swapsWith e (some (.Name x pos')) pos.line X.env=pure false:=by rfl)(hf:X.fn x=true\/X.env.scope.names.lookup x=some .local:=by first|exact .inl rfl|exact .inr rfl|assumption) :
  PS X (.Assign [.Name x pos'] e pos) (zqL te (gName i)):=by
 intro pins s σ H D I h
 refine wpAny_Assign_Name (thn (he pins s σ H _ I h) fun v s1 ⟨y,H1,I1,r1,q1⟩=>?_) hs
 exact zfr I1 hN hi hx r1 (fun s2 I2=>⟨_,H1,I2,q1⟩) hf
end
section
variable {X:Cx} {pos:Pos}
def zov(c:TT)(tb:TS):TS:=fun D σ H=>∃W:Nat->St->Hp->Prop,(∃m,W m σ H)/\∀m σ H,W m σ H ->
 c σ H fun b H1=>if b=true then ∃N:St->Hp->Prop,(∀σ' H',N σ' H'->∃m',m'<m/\W m' σ' H')/\tb { D with nx:=N,ct:=N,bk:=D.nx } σ H1 else D.nx σ H1
theorem zkU{c:Expr}{body:List Stmt}{tc:TT}{tb:TS}(hp:PassesOwn (model X.prog X.w) X.A X.env X.xe)(hc:PT X c tc)(hb:PSs X body tb):PS X (.While c body [] pos) (zov tc tb):=by
 intro pins s σ H D I h
 obtain⟨W,⟨m0,w0⟩,turn⟩:=h
 refine wpAny_While (codeAny_whileLoop (fun n s'=>∃σ' H',Inv X pins σ' H' s'/\W n σ' H') ?_ m0 ⟨σ,H,I,w0⟩)
 rintro n s1 ⟨σ1,H1,I1,w1⟩
 refine wpAny_passesOwn hp (thn (hc pins s1 σ1 H1 _ I1 (turn n σ1 H1 w1)) fun b s2 ⟨H2,I2,q2⟩=>?_)
 cases b with
 | true =>
  obtain⟨N,hN,q2⟩:=q2
  rw[if_pos rfl]
  refine wpAny_passesOwn hp (thn (hb pins s2 σ1 H2 _ I2 q2) fun f s3 q3=>?_)
  cases f with
  | next =>
   obtain⟨σ3,H3,I3,n3⟩:=q3
   obtain⟨m',hm,w3⟩:=hN σ3 H3 n3
   exact⟨m',hm,σ3,H3,I3,w3⟩
  | cont =>
   obtain⟨σ3,H3,I3,n3⟩:=q3
   obtain⟨m',hm,w3⟩:=hN σ3 H3 n3
   exact⟨m',hm,σ3,H3,I3,w3⟩
  | brk=>exact q3
  | ret v=>exact q3
 | false =>
  rw[if_neg Bool.false_ne_true]
  exact wpAny_execs_nil ⟨σ1,H2,I2,q2⟩
end
structure It where
 go:Nat->Hp->Prop
 yld:Nat->Hp->V->Hp->Prop
 stop:Nat->Hp->Prop
def zl0(X:Cx)(pins:List (Addr×Obj))(H:Hp)(b:Addr):Prop :=
 H b=none/\b≠X.env.locals/\b∉X.fs/\(b∈X.ex\/X.s₀.heap.objs.size<=b)/\(∀x c,X.env.cells.lookup x=some c->c≠b)/\∀p∈X.pn++pins,p.1≠b
theorem Inv.fpOk{X:Cx}{pins:List (Addr×Obj)}{σ:St}{H H':Hp}{s:Shared}{b:Addr}(I:Inv X pins σ H s)(hb:s.heap.objs.size<=b)(hn:H' b=none):zl0 X pins H' b:=by
 refine⟨hn,Nat.ne_of_gt (Nat.lt_of_lt_of_le I.lt hb),I.nofs hb,.inr (Nat.le_trans I.sz hb),fun x c e z=>?_,fun p hp z=>?_⟩
 ·obtain⟨v,q⟩:=I.cell x c e
  exact absurd (Nat.lt_of_lt_of_le q.lt (by rw[z];exact hb)) (Nat.lt_irrefl _)
 ·exact absurd (Nat.lt_of_lt_of_le (Heap.lt_size (I.pin p hp).1) (by rw[z];exact hb)) (Nat.lt_irrefl _)
structure Turn (P:Program) (w:World) (K:PySem.W.Frag) (tg:Expr) (J:It) (fp:List Addr) (it:Addr) (tn:Nat->Heap->Prop):Prop where
 mem:it∈fp
 obj:∀i h,tn i h->∀b∈fp,∃o,h.get? b=some o/\∀v,o.data≠.cell v
 keep:∀i h h',tn i h->(∀b∈fp,∀o,h.get? b=some o->h'.get? b=some o)->tn i h'
 item:∀(X:Cx),X.prog=P->X.w=w->X.K=K->X.calm=true->∀(i:Nat) (pins:List (Addr×Obj)) (s:Shared) (σ:St) (H:Hp) (E:Value->Shared->Prop),Inv X pins σ H s->(∀b∈fp,zl0 X pins H b)->tn i s.heap->J.go i H ->
  wpAny (model P w) X.A (pyNext (.ref it)) (fun r s1=>∃u,r=some u /\
   wpAny (model P w) X.A (letOwnedTupleGo tg (.ref it) u) (fun _ s2=>∃x H',Inv X pins σ H' s2/\RelV x u/\J.yld i H x H'/\tn (i+1) s2.heap/\∀b∈fp,H' b=none) E s1) E s
 done:∀(X:Cx),X.prog=P->X.w=w->X.K=K->X.calm=true->∀(i:Nat) (pins:List (Addr×Obj)) (s:Shared) (σ:St) (H:Hp) (E:Value->Shared->Prop),Inv X pins σ H s->(∀b∈fp,zl0 X pins H b)->tn i s.heap->J.stop i H ->
  wpAny (model P w) X.A (pyNext (.ref it)) (fun r s1=>r=none/\Inv X pins σ H s1) E s
 self:∀(A:Around) (i:Nat) (s:Shared) (Q:Value->Shared->Prop) (E:Value->Shared->Prop),tn i s.heap->Q (.ref it) s->wpAny (model P w) A (pyIter (.ref it)) Q E s
abbrev TI:=St->Hp->(It->Hp->Prop)->Prop
def PIE(X:Cx)(pins:List (Addr×Obj))(σ:St)(tg:Expr)(R:It->Hp->Prop)(itv:Value)(s2:Shared):Prop :=
 ∃(it:Addr) (fp:List Addr) (tn:Nat->Heap->Prop) (J:It) (H':Hp),itv=.ref it/\Inv X pins σ H' s2/\Turn X.prog X.w X.K tg J fp it tn/\tn 0 s2.heap/\(∀b∈fp,zl0 X pins H' b)/\R J H'
def PI(X:Cx)(tg iter:Expr)(wi:TI):Prop :=
 ∀(pins:List (Addr×Obj)) (s:Shared) (σ:St) (H:Hp) (R:It->Hp->Prop),Inv X pins σ H s->wi σ H R ->
  wpAny (model X.prog X.w) X.A (eval iter X.env) (fun v s1=>wpAny (model X.prog X.w) X.A (pyIter v) (PIE X pins σ tg R) X.xe s1) X.xe s
theorem zmO{M:Model}{A:Around}{E:Value->Shared->Prop}{s:Shared}{tg:Expr}{it:Addr}{u:Value}{o:Obj}{n:String}{vs:Array Value}{Q:Unit->Shared->Prop}(ho:s.heap.get? it=some o)(hc:o.cls=.type n)(hd:o.data=.fields vs)(hn:["enumerate", "zip", "dict_itemiterator", "dict_reverseitemiterator", "odict_iterator", "itertools.zip_longest", "itertools.pairwise"].contains n=false)(hQ:Q () s):wpAny M A (letOwnedTupleGo tg (.ref it) u) Q E s:=by
 unfold letOwnedTupleGo
 cases tg<;>first
  | exact wpAny_pure hQ
  | (cases u<;>first
    | exact wpAny_pure hQ
    | (refine wpAny_bind (wpAny_load ho ?_)
       rw[hc,hd]
       show wpAny M A (if (["enumerate", "zip", "dict_itemiterator", "dict_reverseitemiterator", "odict_iterator", "itertools.zip_longest", "itertools.pairwise"].contains n&&vs[0]?==some (rawInt _))=true then _ else _) Q E s
       rw[if_neg (by intro h;rw[hn,Bool.false_and] at h;cases h)]
       exact wpAny_pure hQ))
def Itl(K:PySem.W.Frag)(a:Addr):It :=
 ⟨fun i H=>∃xs x,SqL K H a xs/\xs[i]?=some x,fun i H x H'=>H'=H/\∀xs,SqL K H a xs->xs[i]?=some x,fun i H=>∃xs,SqL K H a xs/\xs.length<=i⟩
def Itt(K:PySem.W.Frag)(a:Addr):It :=
 ⟨fun i H=>∃xs x,SqT K H a xs/\xs[i]?=some x,fun i H x H'=>H'=H/\∀xs,SqT K H a xs->xs[i]?=some x,fun i H=>∃xs,SqT K H a xs/\xs.length<=i⟩
def Itr(lo:Int)(n:Nat):It:=⟨fun i _=>i<n,fun i H x H'=>H'=H/\x=.int (lo+i),fun i _=>n<=i⟩
theorem zi6{P:Program}{w:World}{K:PySem.W.Frag}{tg:Expr}(a it:Addr):Turn P w K tg (Itl K a) [it] it (fun i h=>h.IsListIter it a i) where
 mem:=by simp
 obj:=fun i h st b hb=>by
  have e:b=it:=by simpa using hb
  subst e
  obtain⟨o,e,c,d⟩:=st
  exact⟨o,e,fun v z=>by rw[d] at z;cases z⟩
 keep:=fun i h h' st k=>st.at fun o e=>k it (by simp) o e
 item:=by
  intro X hP hw hK hc i pins s σ H E I hf st hg
  subst hP hw hK
  obtain⟨xs,x,hq,hx⟩:=hg
  obtain⟨its,rv,p,hz⟩:=I.list hq
  obtain⟨u,hu,ru⟩:=rv.get hx
  obtain⟨f0,f1,f2,f3,f4,f5⟩:=hf it (by simp)
  refine wpAny_pyNext_list_item st p.isList (x:=u) (by simpa using hu) fun h' st' sb=>?_
  have I1:Inv X pins σ H { s with heap:=h' }:=I.turned (t':=s.toks) (fun b o hb e=>(sb.2 b hb).trans e) f0 f1 f3 f4 f5
  obtain⟨o,e,c,d⟩:=id st'
  exact⟨u,rfl,zmO (s:={ s with heap:=h' }) e c d (by decide) ⟨x,H,I1,ru,⟨rfl,fun ys hy=>by rw[I.list_inj hy hq];exact hx⟩,st',fun b hb=>(hf b hb).1⟩⟩
 done:=by
  intro X hP hw hK hc i pins s σ H E I hf st hg
  subst hP hw hK
  obtain⟨xs,hq,hx⟩:=hg
  obtain⟨its,rv,p,hz⟩:=I.list hq
  obtain⟨f0,f1,f2,f3,f4,f5⟩:=hf it (by simp)
  have hl:=rv.length
  exact wpAny_pyNext_list_end (I.ok.hd hc) st p.isList (by simp;omega) fun h' eb=>⟨rfl,I.turned (t':=s.toks) (fun b o hb e=>eb b o hb e) f0 f1 f3 f4 f5⟩
 self:=fun _ _ _ _ _ st h=>wpAny_pyIter_listiter st h
theorem zin{P:Program}{w:World}{K:PySem.W.Frag}{tg:Expr}(a it:Addr):Turn P w K tg (Itt K a) [it] it (fun i h=>h.IsTupleIter it a i) where
 mem:=by simp
 obj:=fun i h st b hb=>by
  have e:b=it:=by simpa using hb
  subst e
  obtain⟨o,e,c,d⟩:=st
  exact⟨o,e,fun v z=>by rw[d] at z;cases z⟩
 keep:=fun i h h' st k=>st.at fun o e=>k it (by simp) o e
 item:=by
  intro X hP hw hK hc i pins s σ H E I hf st hg
  subst hP hw hK
  obtain⟨xs,x,hq,hx⟩:=hg
  obtain⟨its,rv,p,hz⟩:=I.tuple hq
  obtain⟨u,hu,ru⟩:=rv.get hx
  obtain⟨f0,f1,f2,f3,f4,f5⟩:=hf it (by simp)
  refine wpAny_pyNext_tuple_item st (show s.heap.IsTuple a its.toArray from p) (x:=u) (by simpa using hu) fun h' st' sb=>?_
  have I1:Inv X pins σ H { s with heap:=h' }:=I.turned (t':=s.toks) (fun b o hb e=>(sb.2 b hb).trans e) f0 f1 f3 f4 f5
  obtain⟨o,e,c,d⟩:=id st'
  exact⟨u,rfl,zmO (s:={ s with heap:=h' }) e c d (by decide) ⟨x,H,I1,ru,⟨rfl,fun ys hy=>by rw[I.tuple_inj hy hq];exact hx⟩,st',fun b hb=>(hf b hb).1⟩⟩
 done:=by
  intro X hP hw hK hc i pins s σ H E I hf st hg
  subst hP hw hK
  obtain⟨xs,hq,hx⟩:=hg
  obtain⟨its,rv,p,hz⟩:=I.tuple hq
  obtain⟨f0,f1,f2,f3,f4,f5⟩:=hf it (by simp)
  have hl:=rv.length
  exact wpAny_pyNext_tuple_end (I.ok.hd hc) st (show s.heap.IsTuple a its.toArray from p) (by simp;omega) fun h' eb=>⟨rfl,I.turned (t':=s.toks) (fun b o hb e=>eb b o hb e) f0 f1 f3 f4 f5⟩
 self:=fun _ _ _ _ _ st h=>wpAny_pyIter_tupleiter st h
theorem zio{P:Program}{w:World}{K:PySem.W.Frag}{tg:Expr}(it:Addr)(lo:Int)(n:Nat):Turn P w K tg (Itr lo n) [it] it (fun i h=>IsRangeIter h it (lo+(i:Nat)*1) ((n:Int)-(i:Nat)) 1) where
 mem:=by simp
 obj:=fun i h st b hb=>by
  have e:b=it:=by simpa using hb
  subst e
  exact⟨_,st,fun v z=>by
   have z':Data.fields _=Data.cell v:=z
   cases z'⟩
 keep:=fun i h h' st k=>k it (by simp) _ st
 item:=by
  intro X hP hw hK hc i pins s σ H E I hf st hg
  subst hP hw hK
  obtain⟨f0,f1,f2,f3,f4,f5⟩:=hf it (by simp)
  have W:=Walks.range (prog:=X.prog) (w:=X.w) (I.ok.hd hc) it lo 1 n
  refine W.item i s _ _ hg st fun v h' tk hv st' kk=>?_
  obtain⟨t,rfl⟩:=hv
  have I1:Inv X pins σ H { s with heap:=h',toks:=tk }:=I.turned (fun b o hb e=>kk b o (by simpa using hb) e) f0 f1 f3 f4 f5
  refine⟨_,rfl,zmO (s:={ s with heap:=h',toks:=tk }) (n := "range_iterator") st' rfl rfl (by decide) ⟨.int (lo+i),H,I1,⟨t,?_⟩,⟨rfl,rfl⟩,st',fun b hb=>(hf b hb).1⟩⟩
  rw[Int.mul_one]
 done:=by
  intro X hP hw hK hc i pins s σ H E I hf st hg
  subst hP hw hK
  obtain⟨f0,f1,f2,f3,f4,f5⟩:=hf it (by simp)
  exact wpAny_pyNext_range_end (I.ok.hd hc) st (by have:n<=i:=hg;omega) fun h' eb=>⟨rfl,I.turned (t':=s.toks) (fun b o hb e=>eb b o hb e) f0 f1 f3 f4 f5⟩
 self:=fun _ _ _ _ _ st h=>wpAny_pyIter_rangeiter st h
end L2
namespace L2
open PySem PySem.Spec PyProof.Rows
section
variable {X:Cx} {tg:Expr}
def zqM(K:PySem.W.Frag)(tl:TE):TI:=fun σ H R=>tl σ H fun x H1=>∃a,x=.ref a/\(∃xs,SqL K H1 a xs)/\R (Itl K a) H1
def zsF(K:PySem.W.Frag)(tl:TE):TI:=fun σ H R=>tl σ H fun x H1=>∃a,x=.ref a/\(∃xs,SqT K H1 a xs)/\R (Itt K a) H1
theorem zmP{l:Expr}{tl:TE}(hl:PE X l tl):PI X tg l (zqM X.K tl):=by
 intro pins s σ H R I h
 refine thn (hl pins s σ H _ I h) fun v s1 ⟨x,H1,I1,r1,q1⟩=>?_
 obtain⟨a,e,⟨xs,hq⟩,q⟩:=q1
 subst e
 cases r1
 obtain⟨its,rv,p,hz⟩:=I1.list hq
 refine wpAny_pyIter_list p.isList ?_
 refine⟨s1.heap.objs.size,[s1.heap.objs.size],_,_,H1,rfl,I1.kept (t':=s1.toks) fun b o e=>Heap.get?_push_of_some _ e,zi6 a _,⟨_,Heap.get?_push_size _ rfl,rfl,rfl⟩,fun b hb=>?_,q⟩
 have e:b=s1.heap.objs.size:=by simpa using hb
 subst e
 exact I1.fpOk (Nat.le_refl _) (I1.hok.fresh (Nat.le_refl _))
theorem zow{l:Expr}{tl:TE}(hl:PE X l tl):PI X tg l (zsF X.K tl):=by
 intro pins s σ H R I h
 refine thn (hl pins s σ H _ I h) fun v s1 ⟨x,H1,I1,r1,q1⟩=>?_
 obtain⟨a,e,⟨xs,hq⟩,q⟩:=q1
 subst e
 cases r1
 obtain⟨its,rv,p,hz⟩:=I1.tuple hq
 refine wpAny_pyIter_tuple (show s1.heap.IsTuple a its.toArray from p) ?_
 refine⟨s1.heap.objs.size,[s1.heap.objs.size],_,_,H1,rfl,I1.kept (t':=s1.toks) fun b o e=>Heap.get?_push_of_some _ e,zin a _,⟨_,Heap.get?_push_size _ rfl,rfl,rfl⟩,fun b hb=>?_,q⟩
 have e:b=s1.heap.objs.size:=by simpa using hb
 subst e
 exact I1.fpOk (Nat.le_refl _) (I1.hok.fresh (Nat.le_refl _))
theorem zkV{pins:List (Addr×Obj)}{σ:St}{H:Hp}{s:Shared}{R:It->Hp->Prop}{E:Value->Shared->Prop}{lo hi:Int}{t u v:Tok}{tk:Nat}(I:Inv X pins σ H s)(h1:-(2 ^ 62)<=lo)(h2:lo<2 ^ 62)(h3:-(2 ^ 62)<=hi)(h4:hi<2 ^ 62)(q:R (Itr lo (hi-lo).toNat) H):wpAny (model X.prog X.w) X.A (pyIter (.ref s.heap.objs.size)) (PIE X pins σ tg R) E { s with heap:=s.heap.push { cls:=.type "range",data:=.fields #[.int lo t,.int hi u,.int 1 v] },toks:=tk }:=by
 refine wpAny_pyIter_range (IsRange.new ..) (small_one h1 h2 h3 h4) ?_
 have I1:Inv X pins σ H { s with heap:=s.heap.push { cls:=.type "range",data:=.fields #[.int lo t,.int hi u,.int 1 v] },toks:=tk }:=I.kept fun b o e=>Heap.get?_push_of_some _ e
 refine⟨(s.heap.push { cls:=.type "range",data:=.fields #[.int lo t,.int hi u,.int 1 v] }).objs.size,[(s.heap.push { cls:=.type "range",data:=.fields #[.int lo t,.int hi u,.int 1 v] }).objs.size],_,_,H,rfl,
  I1.kept (t':=tk) fun b o e=>Heap.get?_push_of_some _ e,zio _ lo (hi-lo).toNat,?_,fun b hb=>?_,q⟩
 ·have e1:lo+((0:Nat):Int)*1=lo:=by simp
  have e2:(((hi-lo).toNat:Nat):Int)-((0:Nat):Int)=Builtin.Range.rangeSize lo hi 1:=by rw[rangeSize_one];split<;>omega
  show IsRangeIter _ _ (lo+((0:Nat):Int)*1) ((((hi-lo).toNat:Nat):Int)-((0:Nat):Int)) 1
  rw[e1,e2]
  exact Heap.get?_push_size _ rfl
 ·have e:b=(s.heap.push { cls:=.type "range",data:=.fields #[.int lo t,.int hi u,.int 1 v] }).objs.size:=by simpa using hb
  subst e
  exact I1.fpOk (Nat.le_refl _) (I1.hok.fresh (Nat.le_refl _))
def zqN(ta:TA):TI:=fun σ H R=>ta σ H fun vs H1=>∃j:Int,vs=[.int j]/\-(2 ^ 62)<=j/\j<2 ^ 62/\R (Itr 0 j.toNat) H1
theorem zi7{a:Expr}{ta:TA}{p pos:Pos}(hg:Gl X "range")(hm:X.mg "range" = none)(ha:PA X [a] ta)(hs:starEach [a] X.env=[(false,eval a X.env)]:=by rfl):PI X tg (.Call (.Name "range" p) [a] [] pos) (zqN ta):=by
 intro pins s σ H R I h
 refine Call_ (zhH I hg hm boot_range (PyProof.Rows.callWith_type1 (thn (ha pos pins s σ H _ I h) fun us s1 ⟨vs,H1,I1,r1,q1⟩=>?_) hs rfl))
 obtain⟨j,e,q1,q2,q⟩:=q1
 subst e
 cases r1 with
 | cons r rr =>
  cases rr
  obtain⟨t,rfl⟩:=r
  exact call_range_1 (zkV I1 (by omega) (by omega) q1 q2 (by simpa using q))
def zsG(wi:TI)(g:TG)(tb:TS):TS:=fun D σ H=>wi σ H fun J H1=>∃W:Nat->Nat->St->Hp->Prop,(∃m,W 0 m σ H1)/\∀i m σ H,W i m σ H ->
 (J.stop i H/\D.nx σ H)\/(J.go i H/\∃N:St->Hp->Prop,(∀σ' H',N σ' H'->∃m',m'<m/\W (i+1) m' σ' H')/\∀x H',J.yld i H x H'->g x σ H' fun σ2 H2=>tb { D with nx:=N,ct:=N,bk:=D.nx } σ2 H2)
def ze1(fp:List Addr)(h:Heap):List (Addr×Obj):=fp.filterMap fun b=>(h.get? b).map fun o=>(b,o)
theorem zcI{fp:List Addr}{h:Heap}{b:Addr}{o:Obj}(hb:b∈fp)(e:h.get? b=some o):(b,o)∈ze1 fp h:=List.mem_filterMap.mpr ⟨b,hb,by rw[e];rfl⟩
theorem zi8{fp:List Addr}{h:Heap}{p:Addr×Obj}(hp:p∈ze1 fp h):p.1∈fp/\h.get? p.1=some p.2:=by
 obtain⟨b,hb,e⟩:=List.mem_filterMap.mp hp
 cases q:h.get? b with
 | none=>rw[q] at e;cases e
 | some o =>
  rw[q] at e
  have e':(b,o)=p:=Option.some.inj e
  subst e'
  exact⟨hb,q⟩
theorem Inv.pinned{pins:List (Addr×Obj)}{σ:St}{H:Hp}{s:Shared}{fp:List Addr}(I:Inv X pins σ H s)(hf:∀b∈fp,zl0 X pins H b)(ho:∀b∈fp,∃o,s.heap.get? b=some o/\∀v,o.data≠.cell v):Inv X (pins++ze1 fp s.heap) σ H s :=
 I.pins_of fun p hp=>(List.mem_append.mp hp).elim (fun z=>I.pin p (List.mem_append_right _ z)) fun z=>by
  obtain⟨hb,e⟩:=zi8 z
  obtain⟨f0,f1,f2,_⟩:=hf p.1 hb
  obtain⟨o,e',d⟩:=ho p.1 hb
  rw[e] at e';cases e'
  exact⟨e,f0,f1,f2,d⟩
theorem Inv.unpinned{pins pl:List (Addr×Obj)}{σ:St}{H:Hp}{s:Shared}(I:Inv X (pins++pl) σ H s):Inv X pins σ H s:=I.pins_of fun p hp=>I.pin p (List.mem_append_right _ (List.mem_append_left _ hp))
theorem zox{iter:Expr}{body:List Stmt}{wi:TI}{g:TG}{tb:TS}{pos:Pos}(hp:PassesOwn (model X.prog X.w) X.A X.env X.xe)(hc:X.calm=true)(hi:PI X tg iter wi)(hg:PG X tg g)(hb:PSs X body tb)(hs:∀x,foldedSetIterable iter X.env x=pure x:=by intro _;rfl):PS X (.For tg iter body [] pos) (zsG wi g tb):=by
 intro pins s σ H D I h
 refine wpAny_For (thn (hi pins s σ H _ I h) fun v s1 h1=>thn h1 fun itv s2 h2=>?_) hs
 obtain⟨it,fp,tn,J,H2,e,I2,T,st2,f2,W,⟨m0,w0⟩,turn⟩:=h2
 subst e
 have stat:∀{H':Hp},(∀b∈fp,H' b=none)->∀b∈fp,zl0 X pins H' b:=fun hn b hb=>⟨hn b hb,(f2 b hb).2⟩
 refine codeAny_forLoop_any (fun n s'=>∃i σ' H',Inv X pins σ' H' s'/\tn i s'.heap/\(∀b∈fp,H' b=none)/\W i n σ' H') ?_ m0 ⟨0,σ,H2,I2,st2,fun b hb=>(f2 b hb).1,w0⟩
 rintro n s3 ⟨i,σ3,H3,I3,st3,fr3,w3⟩
 rcases turn i n σ3 H3 w3 with ⟨stop,qn⟩|⟨go,N,hN,step⟩
 ·refine wpAny_passesOwn hp (thn (T.done X rfl rfl rfl hc i pins s3 σ3 H3 X.xe I3 (stat fr3) st3 stop) fun r s4 ⟨hr,I4⟩=>?_)
  subst hr
  exact wpAny_execs_nil ⟨σ3,H3,I4,qn⟩
 ·refine wpAny_passesOwn hp (thn (T.item X rfl rfl rfl hc i pins s3 σ3 H3 X.xe I3 (stat fr3) st3 go) fun r s4 ⟨u,hr,h4⟩=>?_)
  subst hr
  refine wpAny_passesOwn hp (thn h4 fun _ s5 ⟨x,H5,I5,r5,y5,st5,fr5⟩=>?_)
  have I5':=I5.pinned (stat fr5) (T.obj _ _ st5)
  refine wpAny_passesOwn hp (thn (hg _ s5 σ3 H5 x u _ I5' r5 (step x H5 y5)) fun _ s6 ⟨σ6,H6,I6,q6⟩=>?_)
  refine wpAny_passesOwn hp (thn (hb _ s6 σ6 H6 _ I6 q6) fun f s7 q7=>?_)
  have again:∀{σ7:St} {H7:Hp},Inv X (pins++ze1 fp s5.heap) σ7 H7 s7->N σ7 H7->∃m,m<n/\∃i σ' H',Inv X pins σ' H' s7/\tn i s7.heap/\(∀b∈fp,H' b=none)/\W i m σ' H':=fun {σ7 H7} I7 n7=>by
   obtain⟨m',hm,w7⟩:=hN σ7 H7 n7
   refine⟨m',hm,i+1,σ7,H7,I7.unpinned,T.keep _ _ _ st5 fun b hb o e=>(I7.pin (b,o) (List.mem_append_right _ (List.mem_append_right _ (zcI hb e)))).1,fun b hb=>?_,w7⟩
   obtain⟨o,e,d⟩:=T.obj _ _ st5 b hb
   exact(I7.pin (b,o) (List.mem_append_right _ (List.mem_append_right _ (zcI hb e)))).2.1
  cases f with
  | next=>obtain⟨σ7,H7,I7,n7⟩:=q7;exact again I7 n7
  | cont=>obtain⟨σ7,H7,I7,n7⟩:=q7;exact again I7 n7
  | brk=>obtain⟨σ7,H7,I7,q7⟩:=q7;exact⟨σ7,H7,I7.unpinned,q7⟩
  | ret v=>obtain⟨x7,σ7,H7,I7,r7,q7⟩:=q7;exact⟨x7,σ7,H7,I7.unpinned,r7,q7⟩
end
end L2
namespace L2
open PySem PySem.Spec PyProof.Rows
abbrev R2:=V->V->Hp->VK->Prop
def OpR(X:Cx)(f:Value->Value->Sem Value)(r:R2):Prop :=
 ∀(pins:List (Addr×Obj)) (s:Shared) (σ:St) (H:Hp) (x y:V) (v u:Value) (Q:VK),Inv X pins σ H s->RelV x v->RelV y u->r x y H Q ->
  wpAny (model X.prog X.w) X.A (f v u) (EP X pins σ Q) X.xe s
def UnR(X:Cx)(f:Value->Sem Value)(r:V->Hp->VK->Prop):Prop :=
 ∀(pins:List (Addr×Obj)) (s:Shared) (σ:St) (H:Hp) (x:V) (v:Value) (Q:VK),Inv X pins σ H s->RelV x v->r x H Q ->
  wpAny (model X.prog X.w) X.A (f v) (EP X pins σ Q) X.xe s
def CallR(X:Cx)(f:Value)(r:List V->Hp->VK->Prop):Prop :=
 ∀(pins:List (Addr×Obj)) (s:Shared) (σ:St) (H:Hp) (xs:List V) (us:List Value) (Q:VK),Inv X pins σ H s->Vals xs us->r xs H Q ->
  wpAny (model X.prog X.w) X.A (call f us) (EP X pins σ Q) X.xe s
def zsH(X:Cx)(r:V->Hp->(Bool->Hp->Prop)->Prop):Prop :=
 ∀(pins:List (Addr×Obj)) (s:Shared) (σ:St) (H:Hp) (x:V) (v:Value) (Q:Bool->Hp->Prop),Inv X pins σ H s->RelV x v->r x H Q ->
  wpAny (model X.prog X.w) X.A (truthy v) (TP X pins σ Q) X.xe s
def tOp(r:R2)(ta tb:TE):TE:=fun σ H Q=>ta σ H fun x H1=>tb σ H1 fun y H2=>r x y H2 Q
def tUn(r:V->Hp->VK->Prop)(ta:TE):TE:=fun σ H Q=>ta σ H fun x H1=>r x H1 Q
def rI(C:Int->Int->Prop)(g:Int->Int->V):R2:=fun x y H Q=>∃i j,x=.int i/\y=.int j/\C i j/\Q (g i j) H
def rI0(g:Int->Int->V):R2:=fun x y H Q=>∃i j,x=.int i/\y=.int j/\Q (g i j) H
def rU(g:Int->V):V->Hp->VK->Prop:=fun x H Q=>∃i,x=.int i/\Q (g i) H
section
variable {X:Cx} {a b c:Expr} {ta tb tc:TE} {pos:Pos}
theorem zqO(ha:PE X a ta)(hb:PE X b tb){pins:List (Addr×Obj)}{s:Shared}{σ:St}{H:Hp}{R:V->V->Hp->Prop}(I:Inv X pins σ H s)(h:ta σ H fun x H1=>tb σ H1 fun y H2=>R x y H2){Q:Value->Shared->Prop}{f:Value->Value->Sem Value}(hf:∀v u s2 x y H2,Inv X pins σ H2 s2->RelV x v->RelV y u->R x y H2->wpAny (model X.prog X.w) X.A (f v u) Q X.xe s2) :
  wpAny (model X.prog X.w) X.A (eval a X.env) (fun v s₁=>wpAny (model X.prog X.w) X.A (eval b X.env) (fun u s₂=>wpAny (model X.prog X.w) X.A (f v u) Q X.xe s₂) X.xe s₁) X.xe s:=by
 refine thn (ha pins s σ H _ I h) fun v s1 ⟨x,H1,I1,r1,q1⟩=>?_
 refine thn (hb pins s1 σ H1 _ I1 q1) fun u s2 ⟨y,H2,I2,r2,q2⟩=>?_
 exact hf v u s2 x y H2 I2 r1 r2 q2
theorem zoy{op:Operator}{r:R2}(ho:OpR X (binaryOp op) r)(ha:PE X a ta)(hb:PE X b tb):PE X (.BinOp a op b pos) (tOp r ta tb):=by
 intro pins s σ H Q I h
 exact wpAny_BinOp (zqO ha hb I h fun v u s2 x y H2 I2 rx ry q=>ho pins s2 σ H2 x y v u Q I2 rx ry q)
theorem zqP{op:UnaryOp}{r:V->Hp->VK->Prop}(ho:UnR X (unaryOp op) r)(ha:PE X a ta):PE X (.UnaryOp op a pos) (tUn r ta):=by
 intro pins s σ H Q I h
 exact UnaryOp_ (thn (ha pins s σ H _ I h) fun v s1 ⟨x,H1,I1,r1,q1⟩=>ho pins s1 σ H1 x v Q I1 r1 q1)
theorem opI{f:Value->Value->Sem Value}{C:Int->Int->Prop}{g:Int->Int->Int}(rule:∀(i j:Int) (t u:Tok) (s:Shared) (Q:Value->Shared->Prop) (E:Value->Shared->Prop),C i j->Q (.int (g i j) s.toks) { s with toks:=s.toks+1 }->wpAny (model X.prog X.w) X.A (f (.int i t) (.int j u)) Q E s) :
  OpR X f (rI C fun i j=>.int (g i j)):=by
 intro pins s σ H x y v u Q I rx ry h
 obtain⟨i,j,rfl,rfl,hc,q⟩:=h
 obtain⟨t,rfl⟩:=rx
 obtain⟨t',rfl⟩:=ry
 exact rule i j t t' s _ _ hc ⟨.int (g i j),H,I.tok _,⟨_,rfl⟩,q⟩
theorem zrU{f:Value->Value->Sem Value}{g:Int->Int->Int}(rule:∀(i j:Int) (t u:Tok) (s:Shared) (Q:Value->Shared->Prop) (E:Value->Shared->Prop),Q (.int (g i j) s.toks) { s with toks:=s.toks+1 }->wpAny (model X.prog X.w) X.A (f (.int i t) (.int j u)) Q E s) :
  OpR X f (rI0 fun i j=>.int (g i j)):=by
 intro pins s σ H x y v u Q I rx ry h
 obtain⟨i,j,rfl,rfl,q⟩:=h
 obtain⟨t,rfl⟩:=rx
 obtain⟨t',rfl⟩:=ry
 exact rule i j t t' s _ _ ⟨.int (g i j),H,I.tok _,⟨_,rfl⟩,q⟩
theorem zqQ{f:Value->Value->Sem Value}{g:Int->Int->Bool}(rule:∀(i j:Int) (t u:Tok) (s:Shared) (Q:Value->Shared->Prop) (E:Value->Shared->Prop),Q (.bool (g i j)) s->wpAny (model X.prog X.w) X.A (f (.int i t) (.int j u)) Q E s) :
  OpR X f (rI0 fun i j=>.bl (g i j)):=by
 intro pins s σ H x y v u Q I rx ry h
 obtain⟨i,j,rfl,rfl,q⟩:=h
 obtain⟨t,rfl⟩:=rx
 obtain⟨t',rfl⟩:=ry
 exact rule i j t t' s _ _ ⟨.bl (g i j),H,I,rfl,q⟩
def zqR(i j:Int):Prop:=0<j/\j<1073741824
def CMul(i j:Int):Prop:=(-(2 ^ 64)<i/\i<2 ^ 64)\/(-(2 ^ 64)<j/\j<2 ^ 64)
theorem CMul.ok{i j:Int}(h:CMul i j):IntMulOk i j:=by
 rcases h with ⟨h1,h2⟩|⟨h1,h2⟩
 ·exact .of_left (intBits_le_64 h1 h2)
 ·exact .of_right (intBits_le_64 h1 h2)
theorem zoz:OpR X (binaryOp .Add) (rI0 fun i j=>.int (i+j)):=zrU fun _ _ _ _ _ _ _ q=>add_int q
theorem zoA:OpR X (binaryOp .Sub) (rI0 fun i j=>.int (i-j)):=zrU fun _ _ _ _ _ _ _ q=>sub_int q
theorem zoB:OpR X (binaryOp .Mult) (rI CMul fun i j=>.int (i*j)):=opI fun _ _ _ _ _ _ _ hc q=>mul_int q hc.ok
theorem zmQ:OpR X (binaryOp .FloorDiv) (rI zqR fun i j=>.int (i / j)):=opI fun i j _ _ _ _ _ hc q=>by
 have h1:(0:Int)<j:=hc.1
 have h2:j<1073741824:=hc.2
 exact floordiv_int (by omega) (by rw[Int.fdiv_eq_ediv_of_nonneg i (by omega)];exact q) (.inl (PyProof.noPylong_small (by omega)))
theorem zoC:OpR X (binaryOp .Mod) (rI (fun _ j=>0<j) fun i j=>.int (i % j)):=opI fun i j _ _ _ _ _ hc q=>by
 have h1:(0:Int)<j:=hc
 exact mod_int' (by omega) (by rw[Int.fmod_eq_emod_of_nonneg i (by omega)];exact q)
theorem unI{f:Value->Sem Value}{g:Int->Int}(rule:∀(i:Int) (t:Tok) (s:Shared) (Q:Value->Shared->Prop) (E:Value->Shared->Prop),Q (.int (g i) s.toks) { s with toks:=s.toks+1 }->wpAny (model X.prog X.w) X.A (f (.int i t)) Q E s) :
  UnR X f (rU fun i=>.int (g i)):=by
 intro pins s σ H x v Q I rx h
 obtain⟨i,rfl,q⟩:=h
 obtain⟨t,rfl⟩:=rx
 exact rule i t s _ _ ⟨.int (g i),H,I.tok _,⟨_,rfl⟩,q⟩
theorem zoD:UnR X (unaryOp .USub) (rU fun i=>.int (-i)):=unI fun _ _ _ _ _ q=>neg_int q
end
def zsI:V->V->Bool
 | .non,.non=>true|.non,.int _=>true|.int _,.non=>true|.non,.bl _=>true|.bl _,.non=>true|.non,.str _=>true|.str _,.non=>true
 | .int _,.int _=>true|.bl _,.bl _=>true|.str _,.str _=>true|.byt _,.byt _=>true
 | .int _,.str _=>true|.str _,.int _=>true|.bl _,.str _=>true|.str _,.bl _=>true
 | _,_=>false
def rEq:R2:=fun x y H Q=>zsI x y=true/\Q (.bl (decide (x=y))) H
theorem zmR{i j:Int}:decide (V.int i=V.int j)=(i==j):=by
 rw[Bool.eq_iff_iff]
 simp
theorem zoE{i j:Bool}:decide (V.bl i=V.bl j)=(i==j):=by
 rw[Bool.eq_iff_iff]
 simp
theorem zmS{i j:Str}:decide (V.str i=V.str j)=(i==j):=by
 rw[Bool.eq_iff_iff]
 simp
theorem zmT{i j:Array UInt8}:decide (V.byt i=V.byt j)=(i.toList==j.toList):=by
 rw[Bool.eq_iff_iff]
 cases i
 cases j
 simp
section
variable {X:Cx} {a b c:Expr} {ta tb tc:TE} {pos:Pos}
theorem zbS{pins:List (Addr×Obj)}{σ:St}{H:Hp}{s:Shared}{Q:VK}{k k':Bool}(I:Inv X pins σ H s)(q:Q (.bl k) H)(e:k=k'):EP X pins σ Q (.bool k') s:=by
 subst e
 exact⟨.bl k,H,I,rfl,q⟩
theorem zqS:OpR X (compareOp .Eq) rEq:=by
 intro pins s σ H x y v u Q I rx ry h
 obtain⟨hs,q⟩:=h
 cases x with
 | non =>
  cases rx
  cases y with
  | non=>cases ry;exact PySem.EqNone.eq_none_none (zbS I q (by simp))
  | bl j=>cases ry;exact PySem.EqNone.eq_none_bool (zbS I q (by simp))
  | int j=>obtain⟨t',rfl⟩:=ry;exact PySem.EqNone.eq_none_int (zbS I q (by simp))
  | str j=>obtain⟨t',rfl⟩:=ry;exact PySem.EqNone.eq_none_str (zbS I q (by simp))
  | _=>exact absurd (show false=true from hs) Bool.false_ne_true
 | bl i =>
  cases rx
  cases y with
  | non=>cases ry;exact PySem.EqNone.eq_bool_none (zbS I q (by simp))
  | bl j=>cases ry;exact eq_bool (zbS I q zoE)
  | str j=>obtain⟨t',rfl⟩:=ry;exact PySem.EqMixed.eq_bool_str (zbS I q (by simp))
  | _=>exact absurd (show false=true from hs) Bool.false_ne_true
 | int i =>
  obtain⟨t,rfl⟩:=rx
  cases y with
  | non=>cases ry;exact PySem.EqNone.eq_int_none (zbS I q (by simp))
  | int j=>obtain⟨t',rfl⟩:=ry;exact eq_int (zbS I q zmR)
  | str j=>obtain⟨t',rfl⟩:=ry;exact PySem.EqMixed.eq_int_str (zbS I q (by simp))
  | _=>exact absurd (show false=true from hs) Bool.false_ne_true
 | str i =>
  obtain⟨t,rfl⟩:=rx
  cases y with
  | non=>cases ry;exact PySem.EqNone.eq_str_none (zbS I q (by simp))
  | bl j=>cases ry;exact PySem.EqMixed.eq_str_bool (zbS I q (by simp))
  | int j=>obtain⟨t',rfl⟩:=ry;exact PySem.EqMixed.eq_str_int (zbS I q (by simp))
  | str j=>obtain⟨t',rfl⟩:=ry;exact eq_str (zbS I q zmS)
  | _=>exact absurd (show false=true from hs) Bool.false_ne_true
 | byt i =>
  obtain⟨t,rfl⟩:=rx
  cases y with
  | byt j=>obtain⟨t',rfl⟩:=ry;exact PySem.W.eq_bytes (zbS I q zmT)
  | _=>exact absurd (show false=true from hs) Bool.false_ne_true
 | _=>cases y<;>exact absurd (show false=true from hs) Bool.false_ne_true
theorem zqT:OpR X (compareOp .Lt) (rI0 fun i j=>.bl (decide (i<j))):=zqQ fun _ _ _ _ _ _ _ q=>lt_int q
theorem zqU:OpR X (compareOp .Gt) (rI0 fun i j=>.bl (decide (j<i))):=zqQ fun _ _ _ _ _ _ _ q=>gt_int q
theorem zqV:OpR X (compareOp .GtE) (rI0 fun i j=>.bl (decide (j<=i))):=zqQ fun _ _ _ _ _ _ _ q=>ge_int q
theorem zcv(b:Expr){op:CmpOp}(h:op≠.In:=by decide)(h2:op≠.NotIn:=by decide):behindInMarks op b=false:=by
 have e1:(op==CmpOp.In)=false:=by cases op<;>first|rfl|exact absurd rfl h
 have e2:(op==CmpOp.NotIn)=false:=by cases op<;>first|rfl|exact absurd rfl h2
 cases b<;>simp[behindInMarks,e1,e2]
theorem zfs{op:CmpOp}{r:R2}(ho:OpR X (compareOp op) r)(ha:PE X a ta)(hb:PE X b tb)(hm:behindInMarks op b=false):PE X (.Compare a [op] [b] pos) (tOp r ta tb):=by
 intro pins s σ H Q I h
 exact wpAny_Compare1 (zqO ha hb I h fun v u s2 x y H2 I2 rx ry q=>ho pins s2 σ H2 x y v u Q I2 rx ry q) hm
def zqW(t:TE):TT:=fun σ H Q=>t σ H fun x H'=>∃k,x=.bl k/\Q k H'
theorem zmU{op:CmpOp}{r:R2}(ho:OpR X (compareOp op) r)(ha:PE X a ta)(hb:PE X b tb)(hm:behindInMarks op b=false):PT X (.Compare a [op] [b] pos) (zqW (tOp r ta tb)):=by
 intro pins s σ H Q I h
 refine wpAny_isTrue_Compare1 (thn (ha pins s σ H _ I h) fun v s1 ⟨x,H1,I1,r1,q1⟩=>thn (hb pins s1 σ H1 _ I1 q1) fun u s2 ⟨y,H2,I2,r2,q2⟩ =>
  thn (ho pins s2 σ H2 x y v u _ I2 r1 r2 q2) fun c s3 ⟨z,H3,I3,r3,k,e,q3⟩=>?_) hm
 subst e
 cases r3
 exact wpAny_truthy_bool ⟨H3,I3,q3⟩
def zqn(K:PySem.W.Frag)(x:V)(H:Hp)(k:Bool):Prop :=
 match x with
 | .non=>k=false
 | .bl b=>k=b
 | .int i=>k=(i != 0)
 | .str y=>y.length<=sizeLine/\k=((y.length:Int) != 0)
 | .byt y=>y.size<=sizeLine/\k=((y.size:Int) != 0)
 | .ref p=>(∃xs,SqL K H p xs/\k=!xs.isEmpty)\/(∃xs,SqT K H p xs/\k=!xs.isEmpty)\/∃kvs,H p=some (.dK kvs)/\k=!kvs.isEmpty
 | _=>False
theorem ziq{κ:Type}{kvs:List (κ×V)}{vs:List (κ×Value)}(r:KV kvs vs):(!vs.isEmpty)=!kvs.isEmpty:=by
 cases r<;>rfl
theorem ze2{xs:List V}{its:List Value}(r:Vals xs its):(!its.toArray.isEmpty)=!xs.isEmpty:=by
 cases r<;>simp
theorem zf5:(sizeLine:Nat)<2 ^ 63:=by rw[sizeLine_eq];decide
theorem zoF:zsH X (fun x H Q=>∃k,zqn X.K x H k/\Q k H):=by
 intro pins s σ H x v Q I rx h
 obtain⟨k,e,q⟩:=h
 have hl:=zf5
 have hs:sizeLine=16777216:=sizeLine_eq
 cases x with
 | non =>
  cases rx
  have e':k=false:=e
  subst e'
  exact truthy_none ⟨H,I,q⟩
 | bl b =>
  cases rx
  have e':k=b:=e
  subst e'
  exact wpAny_truthy_bool ⟨H,I,q⟩
 | int i =>
  obtain⟨t,rfl⟩:=rx
  have e':k=(i != 0):=e
  subst e'
  exact PySem.P.truthy_int ⟨H,I,q⟩
 | str y =>
  obtain⟨t,rfl⟩:=rx
  obtain⟨hy,e'⟩:y.length<=sizeLine/\k=((y.length:Int) != 0):=e
  subst e'
  exact PySem.P.truthy_str (by omega) ⟨H,I.tok _,q⟩
 | byt y =>
  obtain⟨t,rfl⟩:=rx
  obtain⟨hy,e'⟩:y.size<=sizeLine/\k=((y.size:Int) != 0):=e
  subst e'
  exact PySem.W.truthy_bytes (by omega) ⟨H,I.tok _,q⟩
 | ref p =>
  cases rx
  have e':(∃xs,SqL X.K H p xs/\k=!xs.isEmpty)\/(∃xs,SqT X.K H p xs/\k=!xs.isEmpty)\/∃kvs,H p=some (.dK kvs)/\k=!kvs.isEmpty:=e
  rcases e' with ⟨xs,hx,e'⟩|⟨xs,hx,e'⟩|⟨kvs,hx,e'⟩
  ·subst e'
   obtain⟨its,r,pl,hz⟩:=I.list hx
   have hlen:=r.length
   exact wpAny_truthy_list pl.isList (by simp only[List.size_toArray];omega) ⟨H,I.tok _,by rw[ze2 r];exact q⟩
  ·subst e'
   obtain⟨its,r,pl,hz⟩:=I.tuple hx
   have hlen:=r.length
   exact truthy_tuple pl (by simp only[List.size_toArray];omega) ⟨H,I.tok _,by rw[ze2 r];exact q⟩
  ·subst e'
   obtain⟨hz,hS,vs,r,m⟩:kvs.length<=sizeLine/\(p==sysModules)=false/\∃vs,KV kvs vs/\s.heap.DictOf (za5 X.prog X.w) p vs:=I.hok p _ hx
   have hlen:kvs.length=vs.length:=Paired.length r
   exact wpAny_truthy_dict hS m (by omega) ⟨H,I.tok _,by rw[ziq r];exact q⟩
 | _=>exact(show False from e).elim
theorem zkW(ha:PE X a ta)(he:∀whole,isTrue a X.env whole=(do let v <- whole;standAt a.pos;holding [v] (truthy v))) :
  PT X a (fun σ H Q=>ta σ H fun x H'=>∃k,zqn X.K x H' k/\Q k H'):=by
 intro pins s σ H Q I h
 exact isTrue_plain (thn (ha pins s σ H _ I h) fun v s1 ⟨x,H1,I1,r1,q1⟩=>zoF pins s1 σ H1 x v Q I1 r1 q1) (he _)
theorem zeO{x:V}{us:List Value}(r:Vals [x] us):∃u,us=[u]/\RelV x u:=by
 cases r with
 | cons r1 r2=>cases r2;exact⟨_,rfl,r1⟩
theorem zkX{x y:V}{us:List Value}(r:Vals [x,y] us):∃u w',us=[u,w']/\RelV x u/\RelV y w':=by
 cases r with
 | cons r1 r2 =>
  cases r2 with
  | cons r3 r4=>cases r4;exact⟨_,_,rfl,r1,r3⟩
theorem zi9(hc:X.calm=true):CallR X (.builtin "max") (fun xs H Q=>∃i j,xs=[.int i,.int j]/\Q (.int (if j>i then j else i)) H):=by
 intro pins s σ H xs us Q I r h
 obtain⟨i,j,rfl,q⟩:=h
 obtain⟨u,w',rfl,⟨t,rfl⟩,⟨t',rfl⟩⟩:=zkX r
 refine max_two_ints (I.ok.hd hc) fun h' tk k=>⟨_,H,I.kept k,?_,q⟩
 by_cases hj:j>i
 ·rw[if_pos hj,if_pos hj];exact⟨_,rfl⟩
 ·rw[if_neg hj,if_neg hj];exact⟨_,rfl⟩
theorem zja(hc:X.calm=true):CallR X (.builtin "min") (fun xs H Q=>∃i j,xs=[.int i,.int j]/\Q (.int (if j<i then j else i)) H):=by
 intro pins s σ H xs us Q I r h
 obtain⟨i,j,rfl,q⟩:=h
 obtain⟨u,w',rfl,⟨t,rfl⟩,⟨t',rfl⟩⟩:=zkX r
 refine min_two_ints (I.ok.hd hc) fun h' tk k=>⟨_,H,I.kept k,?_,q⟩
 by_cases hj:j<i
 ·rw[if_pos hj,if_pos hj];exact⟨_,rfl⟩
 ·rw[if_neg hj,if_neg hj];exact⟨_,rfl⟩
def zrV(K:PySem.W.Frag)(x:V)(H:Hp)(n:Nat):Prop :=
 match x with
 | .str y=>y.length<=sizeLine/\n=y.length
 | .byt y=>y.size<=sizeLine/\n=y.size
 | .ref p=>(∃xs,SqL K H p xs/\n=xs.length)\/∃xs,SqT K H p xs/\n=xs.length
 | _=>False
theorem zkY:CallR X (.builtin "len") (fun xs H Q=>∃x n,xs=[x]/\zrV X.K x H n/\Q (.int n) H):=by
 intro pins s σ H xs us Q I r h
 obtain⟨x,n,rfl,e,q⟩:=h
 obtain⟨u,rfl,rx⟩:=zeO r
 have hl:=zf5
 have hs:sizeLine=16777216:=sizeLine_eq
 cases x with
 | str y =>
  obtain⟨t,rfl⟩:=rx
  obtain⟨hy,e'⟩:y.length<=sizeLine/\n=y.length:=e
  subst e'
  exact len_str (by omega) ⟨.int _,H,I.tok _,⟨_,rfl⟩,q⟩
 | byt y =>
  obtain⟨t,rfl⟩:=rx
  obtain⟨hy,e'⟩:y.size<=sizeLine/\n=y.size:=e
  subst e'
  exact PySem.W.len_bytes (by omega) ⟨.int _,H,I.tok _,⟨_,rfl⟩,q⟩
 | ref p =>
  cases rx
  have e':(∃xs,SqL X.K H p xs/\n=xs.length)\/∃xs,SqT X.K H p xs/\n=xs.length:=e
  rcases e' with ⟨xs,hx,e'⟩|⟨xs,hx,e'⟩
  ·subst e'
   obtain⟨its,r',pl,hz⟩:=I.list hx
   have hlen:=r'.length
   exact Calls.call_len_list pl.isList (by simp only[List.size_toArray];omega) ⟨.int xs.length,H,I.tok _,⟨_,by simp only[List.size_toArray];rw[hlen]⟩,q⟩
  ·subst e'
   obtain⟨its,r',pl,hz⟩:=I.tuple hx
   have hlen:=r'.length
   exact len_tuple pl (by simp only[List.size_toArray];omega) ⟨.int xs.length,H,I.tok _,⟨_,by simp only[List.size_toArray];rw[hlen]⟩,q⟩
 | _=>exact(show False from e).elim
end
end L2
namespace L2
open PySem PySem.Spec PyProof.Rows
structure ObjM (h:Heap) (x dx C:Addr) (mA:Str->Option Value):Prop where
 obj:h.get? x=some (PySem.W.instObj C dx)
 ns:h.Ns1 dx mA
 ne:dx≠x
theorem zjb{h:Heap}{dx:Addr}{mA:Str->Option Value}(n:h.Ns1 dx mA):∃od,h.get? dx=some od/\∀name,PySem.W.lookIn name od=some (mA name):=by
 obtain⟨o,es,ep,ho,hd,hk,_,hm⟩:=n
 refine⟨o,ho,fun name=>?_⟩
 have e:=hm name
 unfold nsFind findBy at e
 rw[<- Array.find?_toList] at e
 unfold PySem.W.lookIn
 rw[hd]
 dsimp only
 split
 ·rename_i y q
  rw[q] at e
  exact congrArg some e
 ·rename_i q
  rw[q] at e
  have a:es.toList.any (·.refKey)=false:=by
   rw[List.any_eq_false]
   intro y hy
   obtain⟨z,t,hkey⟩:=hk y (Array.mem_toList_iff.mp hy)
   simp[DictEntry.refKey,hkey]
  have a':¬es.toList.any (·.refKey)=true:=by rw[a];exact Bool.false_ne_true
  rw[if_neg a']
  exact congrArg some e
theorem ObjM.look{h:Heap}{x dx C:Addr}{mA:Str->Option Value}(I:ObjM h x dx C mA):∃od,PySem.W.InstAt h x (PySem.W.instObj C dx) C (some od)/\∀name,PySem.W.lookIn name od=some (mA name) :=
 let ⟨od,ho,hl⟩:=zjb I.ns
 ⟨od,⟨I.obj,rfl,rfl,ho⟩,hl⟩
section
variable {prog:Program} {w:World} {A:Around} {E:Value->Shared->Prop} {s:Shared} {K:PySem.W.Frag} {x dx C f:Addr} {mA:Str->Option Value} {name:Str} {v:Value}
end
section
variable {P:Program} {w:World} {H H':Hp} {h h':Heap} {a C dx:Addr} {fs fs':List (Str×V)}
theorem zmV(hok:HOk P w H h)(e:H a=some (.ins C dx fs)):∃mA,ObjM h a dx C mA/\(∀f,RelO (fs.lookup f) (mA f))/\PySem.Within mA (fs.map (·.1))/\fs.length<=1000/\H dx=some (.own a):=by
 obtain⟨d,z,ne,ob,mA,n,r,q⟩:=(show ObjOk P w H h a (.ins C dx fs) from hok a _ e)
 exact⟨mA,⟨ob,n,ne⟩,r,q,z,d⟩
end
structure Cls (K:PySem.W.Frag) (C:Addr):Prop where
 pg:PySem.W.plainGet K C Str.empty=true
 hd:PySem.W.hasDictIn K C=true
 po:PySem.W.plainOver K C=true
 sa:PySem.W.findIn K (.ref C) "__setattr__" = some (some (.builtin "object.__setattr__"))
theorem Cls.get{K:PySem.W.Frag}{C:Addr}(c:Cls K C)(f:Str):PySem.W.plainGet K C f=true:=c.pg
section
variable {X:Cx} {pins:List (Addr×Obj)} {σ:St} {H:Hp} {s:Shared} {a C dx:Addr} {fs:List (Str×V)} {f:Str} {v:V} {A:Around} {E:Value->Shared->Prop}
end
section
variable {X:Cx} {o e value:Expr} {f:Str} {pos pos' tpos:Pos} {ta tv:TE}
end
section
variable {X:Cx} {pins:List (Addr×Obj)} {σ:St} {H:Hp} {s:Shared} {A:Around} {E:Value->Shared->Prop} {Q:Value->Shared->Prop} {c:Value} {b:Bool}
inductive TyOf (K:PySem.W.Frag) (H:Hp):V->Value->Prop where
 | non:TyOf K H .non (.type "NoneType")
 | bl (x:Bool):TyOf K H (.bl x) (.type "bool")
 | int (i:Int):TyOf K H (.int i) (.type "int")
 | str (x:Str):TyOf K H (.str x) (.type "str")
 | flt (x:UInt64):TyOf K H (.flt x) (.type "float")
 | lst {a:Addr} {xs:List V} (e:H a=some (.lst xs)):TyOf K H (.ref a) (.type "list")
 | frz {a:Addr} {o:Obj} {xs:List V} (e:H a=some (.frz o (.lst xs))):TyOf K H (.ref a) (.type "list")
 | tup {a:Addr} {xs:List V} (e:H a=some (.tup xs)):TyOf K H (.ref a) (.type "tuple")
 | dK {a:Addr} {kvs:List (Key×V)} (e:H a=some (.dK kvs)):TyOf K H (.ref a) (.type "dict")
 | dT {a:Addr} {kvs:List (List Key×V)} (e:H a=some (.dT kvs)):TyOf K H (.ref a) (.type "dict")
 | ins {a C dx:Addr} {fs:List (Str×V)} (e:H a=some (.ins C dx fs)) (cl:Cls K C) (ha:PySem.W.findIn K (.ref C) "__class__" = some (some (.builtin "object.__class__")))
   (hn:PySem.W.specialIn K (.builtin "object.__class__") "__get__" = some (some (.builtin "getset_descriptor.__get__"))) (htk:PySem.W.takesIn K (.builtin "object.__class__")=some true)
   (hm:PySem.W.mroIn K C (.type "object")=some true):TyOf K H (.ref a) (.ref C)
theorem zjc{x:V}{u t:Value}(I:Inv X pins σ H s)(rx:RelV x u)(ty:TyOf X.K H x t)(e:PySem.W.kitOne X.K t c=some b)(h:∀tk,Q (.bool b) { s with toks:=tk }) :
  wpAny (model X.prog X.w) A (call (.builtin "isinstance") [u,c]) Q E s:=by
 cases ty with
 | non=>cases (show u=Value.none from rx);exact PySem.W.kia_one PySem.W.kitx_none I.kIn True.intro e (fun z=>nomatch z) h
 | bl y=>cases (show u=Value.bool y from rx);exact PySem.W.kia_one PySem.W.kitx_bool I.kIn True.intro e (fun z=>nomatch z) h
 | int i=>obtain⟨t,q⟩:=(show ∃t,u=Value.int i t from rx);cases q;exact PySem.W.kia_one PySem.W.kitx_int I.kIn True.intro e (fun z=>nomatch z) h
 | str y=>obtain⟨t,q⟩:=(show ∃t,u=Value.str y t from rx);cases q;exact PySem.W.kia_one PySem.W.kitx_str I.kIn True.intro e (fun z=>nomatch z) h
 | flt y=>obtain⟨t,q⟩:=(show ∃t,u=Value.float y t from rx);cases q;exact PySem.W.kia_one PySem.W.kitx_float I.kIn True.intro e (fun z=>nomatch z) h
 | @lst a xs ea =>
  cases (show u=Value.ref a from rx)
  obtain⟨_,_,n,_,h1⟩:=(show ObjOk X.prog X.w H s.heap a (.lst xs) from I.hok a _ ea)
  exact PySem.W.kia_one PySem.W.kitx_list I.kIn ⟨_,h1,rfl⟩ e (fun z=>nomatch z) h
 | @frz a ob xs ea =>
  cases (show u=Value.ref a from rx)
  obtain⟨_,_,_,n,_,h1⟩:=(show ObjOk X.prog X.w H s.heap a (.frz ob (.lst xs)) from I.hok a _ ea)
  exact PySem.W.kia_one PySem.W.kitx_list I.kIn ⟨_,h1,rfl⟩ e (fun z=>nomatch z) h
 | @tup a xs ea =>
  cases (show u=Value.ref a from rx)
  obtain⟨_,_,_,p⟩:=(show ObjOk X.prog X.w H s.heap a (.tup xs) from I.hok a _ ea)
  obtain⟨o,h1,h2,_⟩:=p
  exact PySem.W.kia_one PySem.W.kitx_tuple I.kIn ⟨o,h1,h2⟩ e (fun z=>nomatch z) h
 | @dK a kvs ea =>
  cases (show u=Value.ref a from rx)
  obtain⟨_,_,vs,_,p⟩:=(show ObjOk X.prog X.w H s.heap a (.dK kvs) from I.hok a _ ea)
  obtain⟨o,es,ep,h1,h2,_⟩:=p
  exact PySem.W.kia_one PySem.W.kitx_dict I.kIn ⟨o,h1,h2.1⟩ e (fun z=>nomatch z) h
 | @dT a kvs ea =>
  cases (show u=Value.ref a from rx)
  obtain⟨_,_,xs,_,o,es,ep,h1,h2,_⟩:=(show ObjOk X.prog X.w H s.heap a (.dT kvs) from I.hok a _ ea)
  exact PySem.W.kia_one PySem.W.kitx_dict I.kIn ⟨o,h1,h2.1⟩ e (fun z=>nomatch z) h
 | @ins a C dx fs ea cl ha hn htk hm =>
  cases (show u=Value.ref a from rx)
  obtain⟨mA,O,_⟩:=zmV I.hok ea
  obtain⟨od,J,_⟩:=O.look
  exact PySem.W.kia_one (PySem.W.kitx_own (cl.get _) cl.hd ha hn htk hm) I.kIn J e (fun z=>nomatch z) h
end
end L2
namespace L2
open PySem PySem.Spec PyProof.Rows
structure Room (k:Nat) (A:Around):Prop where
 hd:A.handled=none
 dp:A.depth+3*k+5<recursionLimit
 un:A.units+16*k+200<cLine
theorem Room.mono{j k:Nat}{A:Around}(r:Room k A)(h:j<=k):Room j A:=⟨r.hd,by have:=r.dp;omega,by have:=r.un;omega⟩
theorem Room.deeper{k:Nat}{A:Around}(r:Room (k+1) A)(env:Env):Room k (A.deeper env) :=
 ⟨r.hd,by have:=r.dp;show A.depth+1+3*k+5<_;omega,by have:=r.un;show A.units+3+16*k+200<_;omega⟩
theorem Room.depth{k:Nat}{A:Around}(r:Room k A):A.depth<recursionLimit:=by have:=r.dp;omega
theorem Room.units{k:Nat}{A:Around}(r:Room k A):A.units+64<cLine:=by have:=r.un;omega
def zsJ:TA:=fun _ H Q=>Q [] H
def zqX(ta:TE)(tr:TA):TA:=fun σ H Q=>ta σ H fun x H1=>tr σ H1 fun xs H2=>Q (x::xs) H2
section
variable {X:Cx} {e:Expr} {es:List Expr} {te:TE} {t:TA} {pos:Pos}
theorem zoG:PA X [] zsJ:=fun _ _ _ _ H Q I h=>Calls.spliced_nil ⟨[],H,I,.nil,h⟩
theorem zmW(ha:PE X e te)(hr:PA X es t)(hs:starEach (e::es) X.env=(false,eval e X.env)::starEach es X.env:=by rfl):PA X (e::es) (zqX te t):=by
 intro pos pins s σ H Q I h
 rw[hs]
 show wpAny _ _ (spliced ((false,eval e X.env)::backTo pos (starEach es X.env))) _ _ s
 refine Calls.spliced_cons (thn (ha pins s σ H _ I h) fun u s1 ⟨x,H1,I1,r1,q1⟩=>?_)
 exact thn (hr pos pins s1 σ H1 _ I1 q1) fun us s2 ⟨xs,H2,I2,r2,q2⟩=>⟨x::xs,H2,I2,.cons r1 r2,q2⟩
def zsK(t:TA):TE:=fun σ H Q=>t σ H fun xs H1=>xs.length<=sizeLine/\∀p,H1 p=none->Q (.ref p) (upd H1 p (.tup xs))
def zsL(t:TA):TE:=fun σ H Q=>t σ H fun xs H1=>xs.length<=sizeLine/\∀p,H1 p=none->Q (.ref p) (upd H1 p (.lst xs))
theorem zoH{x1}(h:PA X es t):PE X (.Tuple es x1 pos) (zsK t):=by
 intro pins s σ H Q I hq
 refine wpAny_Tuple_spliced (thn (h pos pins s σ H _ I hq) fun us s1 ⟨xs,H1,I1,r,z,q⟩=>⟨by rw[<- r.length];exact z,?_⟩)
 have hf:H1 s1.heap.objs.size=none:=I1.hok.fresh (Nat.le_refl _)
 refine⟨.ref s1.heap.objs.size,upd H1 s1.heap.objs.size (.tup xs),I1.laid (t':=s1.toks) (fun b u e=>Heap.get?_push_of_some _ e) (Nat.le_refl _) ?_,rfl,q _ hf⟩
 exact⟨z,us,r,⟨_,Heap.get?_push_size _ rfl,rfl,⟨_,rfl⟩,rfl⟩⟩
theorem zl1(h:PA X es t):PE X (.List es pos) (zsL t):=by
 intro pins s σ H Q I hq
 refine wpAny_List_spliced (thn (h pos pins s σ H _ I hq) fun us s1 ⟨xs,H1,I1,r,z,q⟩=>⟨by rw[<- r.length];exact z,?_⟩)
 have hf:H1 s1.heap.objs.size=none:=I1.hok.fresh (Nat.le_refl _)
 refine⟨.ref s1.heap.objs.size,upd H1 s1.heap.objs.size (.lst xs),I1.laid (t':=s1.toks) (fun b u e=>Heap.get?_push_of_some _ e) (Nat.le_refl _) ?_,rfl,q _ hf⟩
 exact⟨z,us,0,r,Heap.get?_push_size _ rfl⟩
end
abbrev Sp:=List V->Hp->VK->XK->Prop
abbrev CXT:=List Env->Hp->Shared->XK->Value->Shared->Prop
structure Env0 (P:Program) (w:World) (K:PySem.W.Frag) (mg:Str->Option Value) (base:Heap) (A:Around) (outer:List Env) (s:Shared) (H:Hp):Prop where
 frames:A.frames=some outer
 mod:Mod K mg base
 bs:∀b o,base.get? b=some o->s.heap.get? b=some o/\H b=none
 bsz:base.objs.size<=s.heap.objs.size
 funs:s.heap.FunFrames base outer
 frf:∀b∈frs outer,H b=none
 hok:HOk P w H s.heap
 bare:AllBare s.gens
def CE(outer:List Env)(P:Program)(w:World)(H:Hp)(s:Shared)(Q:VK)(u:Value)(s':Shared):Prop :=
 ∃v H',s'.os=s.os/\AllBare s'.gens/\Un (frs outer) [] H H' s.heap s'.heap/\HOk P w H' s'.heap/\RelV v u/\Q v H'
def CR(CX:CXT)(outer:List Env)(P:Program)(w:World)(H:Hp)(s:Shared)(Q:VK)(E:XK)(r:Result)(s':Shared):Prop :=
 match r with
 | .ok (.ret u)=>CE outer P w H s Q u s'
 | .ok _=>False
 | .error e=>CX outer H s E e s'
structure FnOk (P:Program) (w:World) (K:PySem.W.Frag) (mg:Str->Option Value) (base:Heap) (CX:CXT) (k:Nat) (f:Addr) (fd:FuncData) (ps:List Str) (sp:Sp):Prop where
 len:∀vs H Q E,sp vs H Q E->vs.length=ps.length
 run:∀(A:Around) (outer:List Env) (s:Shared) (H:Hp) (args:Args) (us:List Value) (vs:List V) (Q:VK) (E:XK),Room k A->Env0 P w K mg base A outer s H->BindsTo s fd args (ps.zip us)->Vals vs us->sp vs H Q E ->
  codeAny (model P w) A (.call (.ref f) args) (CR CX outer P w H s Q E) s
theorem FnOk.imp{P:Program}{w:World}{K:PySem.W.Frag}{mg:Str->Option Value}{base:Heap}{CX:CXT}{k:Nat}{f:Addr}{fd:FuncData}{ps:List Str}{sp sp':Sp}(F:FnOk P w K mg base CX k f fd ps sp)(h:∀vs H Q E,sp' vs H Q E->sp vs H Q E):FnOk P w K mg base CX k f fd ps sp' :=
 ⟨fun vs H Q E q=>F.len vs H Q E (h _ _ _ _ q),fun A outer s H args us vs Q E hr he hb hv hs=>F.run A outer s H args us vs Q E hr he hb hv (h _ _ _ _ hs)⟩
section
variable {X:Cx} {pins:List (Addr×Obj)} {σ:St} {H:Hp} {s s':Shared}
theorem Inv.env0(I:Inv X pins σ H s):Env0 X.prog X.w X.K X.mg X.base X.A X.stack s H :=
 ⟨I.ok.frames,I.ok.mod,I.bs,Nat.le_trans I.ok.bsz I.sz,I.stack,I.stkFree,I.hok,I.bare⟩
theorem Inv.after{Q:VK}{u:Value}(I:Inv X pins σ H s)(h:CE X.stack X.prog X.w H s Q u s'):EP X pins σ Q u s':=by
 obtain⟨v,H',os,bare,un,hok,r,q⟩:=h
 obtain⟨hh,g,d,t,os'⟩:=s'
 obtain rfl:os'=s.os:=os
 exact⟨v,H',I.call (h':=hh) (g':=g) (d':=d) (t':=t) (ch:=[]) un hok bare (fun b z=>absurd z (by simp)),r,q⟩
end
def zqY(sp:Sp)(dvs:List V)(E:XK)(t:TA):TE:=fun σ H Q=>t σ H fun vs H1=>sp (vs++dvs) H1 Q E
def Binds(K:PySem.W.Frag)(fd:FuncData)(ps:List Str)(ds:List Value):Prop :=
 ∀(s:Shared) (us:List Value),K.In s.heap->(us++ds).length=ps.length->BindsTo s fd ⟨us,[]⟩ (ps.zip (us++ds))
theorem Binds.all{K:PySem.W.Frag}{fd:FuncData}{ps:List Str}(h:∀us:List Value,us.length=ps.length->bindArgs fd ⟨us,[]⟩=pure (ps.zip us)):Binds K fd ps []:=fun s us _ hl=>by
 rw[List.append_nil] at hl ⊢
 exact .of_eq (h us hl)
def zf6(CX:CXT)(X:Cx)(E:XK):Prop:=∀(pins:List (Addr×Obj)) (σ:St) (H:Hp) (s:Shared) (e:Value) (s':Shared),Inv X pins σ H s->CX X.stack H s E e s'->X.xe e s'
section
variable {X:Cx} {CX:CXT} {k:Nat} {f C:Addr} {fd:FuncData} {ps:List Str} {sp:Sp} {dvs:List V} {ds:List Value} {E:XK} {x m:Str} {p pos apos:Pos} {e o:Expr} {es:List Expr} {ta:TE} {t:TA}
theorem zhI{pins:List (Addr×Obj)}{σ:St}{H:Hp}{s:Shared}{Q:VK}{us:List Value}{vs:List V}(F:FnOk X.prog X.w X.K X.mg X.base CX k f fd ps sp)(hr:Room k X.A)(hb:Binds X.K fd ps ds)(hd:Vals dvs ds)(hx:zf6 CX X E)(I:Inv X pins σ H s)(r:Vals vs us)(h:sp (vs++dvs) H Q E):wpAny (model X.prog X.w) X.A (call (.ref f) us) (EP X pins σ Q) X.xe s:=by
 have r2:Vals (vs++dvs) (us++ds):=r.append hd
 have hl:(us++ds).length=ps.length:=by rw[<- r2.length];exact F.len _ _ _ _ h
 refine wpAny_call (codeAny_mono (F.run X.A X.stack s H ⟨us,[]⟩ (us++ds) (vs++dvs) Q E hr I.env0 (hb s us I.kIn hl) r2 h) fun r s' hq=>?_)
 cases r with
 | error e=>exact hx pins σ H s e s' I hq
 | ok fl =>
  cases fl with
  | ret u=>exact I.after hq
  | next=>exact False.elim hq
  | brk=>exact False.elim hq
  | cont=>exact False.elim hq
theorem zmX(F:FnOk X.prog X.w X.K X.mg X.base CX k f fd ps sp)(hr:Room k X.A)(hg:Gl X x)(hm:X.mg x=some (.ref f))(hk:PySem.W.keepIn X.K (.ref f)=true)(hb:Binds X.K fd ps ds)(hd:Vals dvs ds)(hx:zf6 CX X E)(ha:PA X (e::es) t)(hdb:(x==("__debug__" : Str))=false:=by decide)(he:starEach (e::es) X.env=(false,eval e X.env)::starEach es X.env:=by rfl)(hpl:(backTo pos (starEach es X.env)).any (·.1)=false:=by rfl) :
  PE X (.Call (.Name x p) (e::es) [] pos) (zqY sp dvs E t):=by
 intro pins s σ H Q I h
 refine wpAny_Call_Name_kw (zds I hg hm ?_ hdb)
 refine PySem.W.callWith_K (h₀:=X.base) I.ok.mod.kin hk (thn (ha pos pins s σ H _ I h) fun us s1 ⟨vs,H1,I1,r,q⟩=>⟨I1.kIn,?_⟩) he hpl
 exact zhI F hr hb hd hx I1 r q
structure Mk (K:PySem.W.Frag) (C f:Addr):Prop where
 makes:PySem.W.makesIn K C=true
 init:PySem.W.findIn K (.ref C) "__init__" = some (some (.ref f))
 fn:PySem.W.isFn K (.ref f)=true
 kp:PySem.W.keepIn K (.ref C)=true
end
section
variable {X:Cx} {CX:CXT} {k:Nat} {f C:Addr} {fd:FuncData} {ps ks:List Str} {sp:Sp} {E:XK} {x m:Str} {p pos apos kpos:Pos} {e o:Expr} {es:List Expr} {kws:List Keyword} {te ta:TE} {t tk:TA} {nm:Option Str}
variable {g:List Value->List Value->List Value} {gV:List V->List V->List V}
end
structure FnScope (N P:List Str) (sc:Scope):Prop where
 kind:sc.kind=.function
 co:sc.isCoroutine=false
 gen:sc.isGenerator=false
 nd:N.Nodup
 pre:N.take P.length=P
 par:∀x∈P,sc.names.lookup x=some .local\/sc.names.lookup x=some .cell
 nofree:∀y∈sc.names,y.2≠.free
theorem zf7{kindOf:Str->Option NameKind}{x:Str}:∀{binds:List (Str×Value)} {m:Str->Option Value},(∀v,(x,v)∉binds)->bindL kindOf binds m x=m x
 | [],_,_=>rfl
 | (n,v)::r,m,h=>by
  unfold bindL
  rw[zf7 fun w hw=>h w (List.mem_cons_of_mem _ hw)]
  split
  ·have:x≠n:=by rintro rfl;exact h v List.mem_cons_self
   simp[this]
  ·rfl
theorem zf8{kindOf:Str->Option NameKind}{x:Str}:∀{binds:List (Str×Value)} {m:Str->Option Value},(∀v,(x,v)∉binds)->bindC kindOf binds m x=m x
 | [],_,_=>rfl
 | (n,v)::r,m,h=>by
  unfold bindC
  rw[zf8 fun w hw=>h w (List.mem_cons_of_mem _ hw)]
  split
  ·rfl
  ·have:x≠n:=by rintro rfl;exact h v List.mem_cons_self
   simp[this]
theorem zf9{kindOf:Str->Option NameKind}{x:Str}{v:Value}:∀{P:List Str} {vs:List Value} {i:Nat} {m:Str->Option Value},P.Nodup->P[i]?=some x->vs[i]?=some v->kindOf x=some .local ->
  bindL kindOf (P.zip vs) m x=some v
 | [],_,_,_,_,h,_,_=>by simp at h
 | _::_,[],_,_,_,_,h,_=>by simp at h
 | p::P,w::vs,0,m,nd,h1,h2,hk=>by
  simp at h1 h2;subst h1;subst h2
  show bindL kindOf ((p,w)::P.zip vs) m p=_
  unfold bindL
  rw[zf7 fun v hv=>(List.nodup_cons.mp nd).1 (List.of_mem_zip hv).1,if_pos hk]
  simp
 | p::P,w::vs,i+1,m,nd,h1,h2,hk=>by
  show bindL kindOf ((p,w)::P.zip vs) m x=_
  unfold bindL
  exact zf9 (i:=i) (List.nodup_cons.mp nd).2 (by simpa using h1) (by simpa using h2) hk
theorem zga{kindOf:Str->Option NameKind}{x:Str}{v:Value}:∀{P:List Str} {vs:List Value} {i:Nat} {m:Str->Option Value},P.Nodup->P[i]?=some x->vs[i]?=some v->kindOf x≠some .local ->
  bindC kindOf (P.zip vs) m x=some v
 | [],_,_,_,_,h,_,_=>by simp at h
 | _::_,[],_,_,_,_,h,_=>by simp at h
 | p::P,w::vs,0,m,nd,h1,h2,hk=>by
  simp at h1 h2;subst h1;subst h2
  show bindC kindOf ((p,w)::P.zip vs) m p=_
  unfold bindC
  rw[zf8 fun v hv=>(List.nodup_cons.mp nd).1 (List.of_mem_zip hv).1,if_neg hk]
  simp
 | p::P,w::vs,i+1,m,nd,h1,h2,hk=>by
  show bindC kindOf ((p,w)::P.zip vs) m x=_
  unfold bindC
  exact zga (i:=i) (List.nodup_cons.mp nd).2 (by simpa using h1) (by simpa using h2) hk
def start(N:List Str)(vs:List V):St:=vs.map some++List.replicate (N.length-vs.length) none
def ziZ(CX:CXT)(P:Program)(w:World)(K:PySem.W.Frag)(mg:Str->Option Value)(base:Heap)(N:List Str)(qual:Str)(scope:Scope)(f:Addr)(cd:Value)(A:Around)(outer:List Env)(s:Shared)(H:Hp)(E:XK):Cx where
 prog:=P
 w:=w
 K:=K
 mg:=mg
 base:=base
 A:=A.deeper (envOfC qual scope s.heap.objs.size f cd)
 N:=N
 s₀:=s
 H₀:=H
 env:=envOfC qual scope s.heap.objs.size f cd
 outer:=outer
 stack:=envOfC qual scope s.heap.objs.size f cd::outer
 ex:=[]
 calm:=true
 fn:=fun _=>true
 pn:=[]
 xe:=fun e s'=>wpAny (model P w) (A.deeper (envOfC qual scope s.heap.objs.size f cd)) (leaving (envOfC qual scope s.heap.objs.size f cd) e) (fun _ s''=>CX outer H s E e s'') (fun e' s''=>CX outer H s E e' s'') s'
theorem zhJ{sc:Scope}{n:Nat}{x:Str}(h:sc.names.lookup x=some .cell):∃c,(cellsFrom n sc.names []).lookup x=some c:=by
 have q:=PySem.W.cellsFrom_some sc.names n [] (.inl h)
 exact Option.isSome_iff_exists.mp q
theorem zjd{CX:CXT}{P:Program}{w:World}{K:PySem.W.Frag}{mg:Str->Option Value}{base:Heap}{N ps:List Str}{qual:Str}{scope:Scope}{f:Addr}{cd:Value}{A:Around}{outer:List Env}{s s1:Shared}{H:Hp}{E:XK}{us:List Value}{vs:List V}(S:FnScope N ps scope)(hd:A.handled=none)(e0:Env0 P w K mg base A outer s H)(hl:vs.length=ps.length)(r:Vals vs us)(x:InCallC s s.heap.objs.size (bindL (envOfC qual scope s.heap.objs.size f cd).kindOf (ps.zip us) fun _=>none) (cellsFrom (s.heap.objs.size+1) scope.names []) (bindC (envOfC qual scope s.heap.objs.size f cd).kindOf (ps.zip us) fun _=>none) s1) :
  Inv (ziZ CX P w K mg base N qual scope f cd A outer s H E) [] (start N vs) H s1:=by
 have hpl:ps.length<=N.length:=by have:=congrArg List.length S.pre;rw[List.length_take] at this;omega
 obtain⟨h1,tk,rfl,hk⟩:=x.done
 have noA:∀b:Addr,b∉(ziZ CX P w K mg base N qual scope f cd A outer s H E).ex:=fun b z=>absurd (show b∈([]:List Addr) from z) (by simp)
 refine⟨⟨e0.mod,S.kind,rfl,rfl,Nat.le_refl _,fun y z c h1 h2=>?_,fun y hy=>?_,fun y c _ h=>?_,fun _=>hd,Around.frames_deeper e0.frames,.inr ⟨rfl,rfl⟩,fun b z=>absurd z (noA b),e0.bs,e0.bsz,fun b _ _=>noA b,fun b z=>absurd z (noA b),e0.funs,e0.frf⟩,
  rfl,e0.bare,Un.kept hk,⟨_,x.toInCall.ns,fun i y v h1 h2 h3=>?_⟩,fun y c h=>⟨_,x.cell y c h⟩,e0.hok.fresh (Nat.le_refl _),fun y c h=>?_,fun p hp=>absurd (show p∈([]:List (Addr×Obj)) from hp) (by simp),e0.hok.kept hk,?_⟩
 ·exact name_of_addr x.apart (PySem.mem_of_lookup h1) (PySem.mem_of_lookup h2)
 ·have hy:scope.names.lookup y=some .cell\/scope.names.lookup y=some .free:=hy
  rcases hy with hy|hy
  ·exact zhJ hy
  ·exact absurd rfl (S.nofree _ (PySem.mem_of_lookup hy))
 ·exact Nat.le_of_lt (x.above y c (PySem.mem_of_lookup h))
 ·have hi:i<vs.length:=by
   unfold start at h2
   by_cases hi:i<vs.length
   ·exact hi
   ·rw[List.getElem?_append_right (by simpa using hi)] at h2
    rw[List.getElem?_replicate] at h2
    split at h2<;>cases h2
  have ha:vs[i]?=some v:=by
   unfold start at h2
   rw[List.getElem?_append_left (by simpa using hi),List.getElem?_map] at h2
   cases e:vs[i]? with
   | none=>rw[e] at h2;cases h2
   | some a=>rw[e] at h2;cases h2;rfl
  obtain⟨u,hu,rv⟩:=r.get ha
  have hp:ps[i]?=some y:=by
   rw[<- S.pre,List.getElem?_take_of_lt (by omega)];exact h1
  have ndP:ps.Nodup:=by rw[<- S.pre];exact S.nd.sublist (List.take_sublist _ _)
  refine⟨u,rv,?_⟩
  rcases S.par y (List.mem_of_getElem? hp) with k|k
  ·exact .inl ⟨k,zf9 ndP hp hu k⟩
  ·obtain⟨c,e⟩:=zhJ (n:=s.heap.objs.size+1) k
   refine .inr ⟨.inl k,c,e,?_⟩
   have q:=x.cell y c e
   rw[zga ndP hp hu (by show scope.names.lookup y≠_;rw[k];decide)] at q
   exact q
 ·exact e0.hok.fresh (Nat.le_of_lt (x.above y c (PySem.mem_of_lookup h)))
 ·unfold start
  show _=N.length
  rw[List.length_append,List.length_map,List.length_replicate]
  omega
theorem zqZ{CX:CXT}{P:Program}{w:World}{K:PySem.W.Frag}{mg:Str->Option Value}{base:Heap}{k:Nat}{f:Addr}{name qual:Str}{params:Arguments}{body:List Stmt}{scope:Scope}{dV kV doc pm cdv ct oc:Value}{an od:Option Addr}{osl:Array (Option Value)}{N ps:List Str}{sp:Sp}(lk:K.lookup f=some ⟨oc,od,.func (PySem.W.fnOf name qual params body scope dV kV doc pm an cdv ct),osl⟩)(hcd:PySem.W.codeIn K cdv qual=true)(S:FnScope N ps scope)(len:∀vs H Q E,sp vs H Q E->vs.length=ps.length)(hbody:∀(A:Around) (outer:List Env) (s:Shared) (H:Hp) (vs:List V) (Q:VK) (E:XK),Room k (A.deeper (envOfC qual scope s.heap.objs.size f cdv))->sp vs H Q E ->
   ∃t,PSs (ziZ CX P w K mg base N qual scope f cdv A outer s H E) body t/\t { nx:=fun _ H'=>Q .non H',rt:=Q } (start N vs) H) :
  FnOk P w K mg base CX (k+1) f (PySem.W.fnOf name qual params body scope dV kV doc pm an cdv ct) ps sp:=by
 refine⟨len,fun A outer s H args us vs Q E hr e0 hb r hsp=>?_⟩
 have hl:=len _ _ _ _ hsp
 have KX:K.In s.heap:=e0.mod.kin.keeps fun b o e=>(e0.bs b o e).1
 have lim:s.heap.NoLimit:=e0.mod.nolimit.keeps fun b o e=>(e0.bs b o e).1
 have hkind:∀y∈ps.zip us,scope.names.lookup y.1=some .local\/(scope.names.lookup y.1=some .cell/\((cellsFrom (s.heap.objs.size+1) scope.names []).lookup y.1).isSome=true):=fun⟨n,v⟩ hy=>by
  rcases S.par n (List.of_mem_zip hy).1 with q|q
  ·exact .inl q
  ·exact .inr ⟨q,PySem.W.cellsFrom_some _ _ _ (.inl q)⟩
 refine codeAny_call_function hr.depth (KX _ _ lk) rfl S.co S.gen rfl (PySem.W.codeRec_of KX hcd) (hb _ _ _ _ ?_)
 refine wpAny_newFunctionEnv_cells S.kind hkind fun env he s1 x=>?_
 subst he
 refine⟨lim.keeps x.toInCall.keep,codeAny_func ?_⟩
 obtain⟨t,ht,hq⟩:=hbody A outer s H vs Q E (hr.deeper _) hsp
 have I:Inv (ziZ CX P w K mg base N qual scope f cdv A outer s H E) [] (start N vs) H s1:=zjd S hr.hd e0 hl r x
 refine wpAny_mono (ht [] s1 (start N vs) H _ I hq) (fun fl s' hs=>?_) fun e s' hs=>hs
 have fin:∀{σ':St} {H':Hp} {v:V} {u:Value},Inv (ziZ CX P w K mg base N qual scope f cdv A outer s H E) [] σ' H' s'->RelV v u->Q v H'->CE outer P w H s Q u s' :=
  fun {σ' H' v u} J rv q=>⟨v,H',J.os,J.bare,J.base,J.hok,rv,q⟩
 cases fl with
 | ret u =>
  obtain⟨v,σ',H',J,rv,q⟩:=hs
  exact fin J rv q
 | next =>
  obtain⟨σ',H',J,q⟩:=hs
  exact fin (v:=V.non) (u:=Value.none) J rfl q
 | brk =>
  obtain⟨_,_,_,q⟩:=hs
  exact False.elim q
 | cont =>
  obtain⟨_,_,_,q⟩:=hs
  exact False.elim q
end L2
namespace L2
open PySem PySem.Spec PyProof.Rows
section
variable {X:Cx} {x:Str} {p pos:Pos} {e:Expr} {es:List Expr} {t:TA} {id T:String} {r:List V->Hp->VK->Prop}
def tCB(r:List V->Hp->VK->Prop)(t:TA):TE:=fun σ H Q=>t σ H fun vs H1=>r vs H1 Q
theorem zkZ(hc:CallR X (.builtin id) r)(hg:Gl X x)(hm:X.mg x=none)(hv:bootBuiltins x=some (.builtin id))(ha:PA X (e::es) t)(hn:x ≠ "__name__" := by decide)(hdb:(x==("__debug__" : Str))=false:=by decide)(he:starEach (e::es) X.env=(false,eval e X.env)::starEach es X.env:=by rfl)(hpl:(backTo pos (starEach es X.env)).any (·.1)=false:=by rfl):PE X (.Call (.Name x p) (e::es) [] pos) (tCB r t):=by
 intro pins s σ H Q I h
 refine wpAny_Call_Name_kw (zhH I hg hm hv ?_ hn hdb)
 exact PyProof.Rows.callWith_builtin1 (thn (ha pos pins s σ H _ I h) fun us s1 ⟨vs,H1,I1,r1,q1⟩=>hc pins s1 σ H1 vs us Q I1 r1 q1) he hpl
theorem zje(hc:CallR X (.type T) r)(hg:Gl X x)(hm:X.mg x=none)(hv:bootBuiltins x=some (.type T))(ha:PA X (e::es) t)(hn:x ≠ "__name__" := by decide)(hdb:(x==("__debug__" : Str))=false:=by decide)(he:starEach (e::es) X.env=(false,eval e X.env)::starEach es X.env:=by rfl)(hpl:(backTo pos (starEach es X.env)).any (·.1)=false:=by rfl):PE X (.Call (.Name x p) (e::es) [] pos) (tCB r t):=by
 intro pins s σ H Q I h
 refine wpAny_Call_Name_kw (zhH I hg hm hv ?_ hn hdb)
 exact PyProof.Rows.callWith_type1 (thn (ha pos pins s σ H _ I h) fun us s1 ⟨vs,H1,I1,r1,q1⟩=>hc pins s1 σ H1 vs us Q I1 r1 q1) he hpl
end
end L2
namespace HT
open PySem PyProof.Rows
section
open PySem.SeqAt
open PySem.AutoSeq1 (wpAny_loadPart')
open PySem.MeetsSeq PySem.MeetsSeq2 PySem.MeetsSeq3
end
section
variable {prog:Program} {w:World} {A:Around} {E:Value->Shared->Prop} {s:Shared}
def sIx(n d:Nat):Option Int->Nat
 | none=>d
 | some v=>if v<0 then (v+(n:Int)).toNat else min v.toNat n
theorem sIx_none(n d:Nat):sIx n d none=d:=rfl
end
end HT
namespace L2
open PySem PySem.Spec PyProof.Rows
abbrev TO:=St->Hp->(Option Int->Hp->Prop)->Prop
def PO(X:Cx)(e:Option Expr)(t:TO):Prop :=
 ∀(pins:List (Addr×Obj)) (s:Shared) (σ:St) (H:Hp) (Q:Option Int->Hp->Prop),Inv X pins σ H s->t σ H Q ->
  wpAny (model X.prog X.w) X.A (evalPart e X.env) (fun u s'=>∃o H',Inv X pins σ H' s'/\IsPart u o/\Q o H') X.xe s
def zmY:TO:=fun _ H Q=>Q none H
def zq0(t:TE):TO:=fun σ H Q=>t σ H fun x H1=>∃i,x=.int i/\Q (some i) H1
theorem zir{ns:List Int}:∀{us:List Value},Vals (ns.map V.int) us->IntsAre us ns:=by
 induction ns with
 | nil=>intro us r;rw[List.map_nil] at r;cases r;exact .nil
 | cons n ns ih =>
  intro us r
  rw[List.map_cons] at r
  cases r with
  | cons r1 r2 =>
   obtain⟨t,e⟩:=r1
   subst e
   exact .cons n t (ih r2)
section
variable {X:Cx} {e:Expr} {te:TE} {lo hi:Option Expr} {tl th:TO} {pos p2:Pos}
theorem zmZ:PO X none zmY:=by
 intro pins s σ H Q I h
 rw[evalPart_none]
 exact wpAny_pure ⟨none,H,I,.none,h⟩
theorem zm0(h:PE X e te):PO X (some e) (zq0 te):=by
 intro pins s σ H Q I hw
 rw[evalPart_some]
 refine thn (h pins s σ H _ I hw) fun u s1 ⟨x,H1,I1,r1,q1⟩=>?_
 obtain⟨i,rfl,q⟩:=q1
 obtain⟨t,rfl⟩:=r1
 exact⟨some i,H1,I1,.int i t,q⟩
def SlR(X:Cx)(r:V->Option Int->Option Int->Hp->VK->Prop):Prop :=
 ∀(pins:List (Addr×Obj)) (s:Shared) (σ:St) (H:Hp) (x:V) (v vl vu:Value) (lo hi:Option Int) (sl:Addr) (Q:VK),Inv X pins σ H s->RelV x v->s.heap.IsSliceOf sl vl vu .none->IsPart vl lo->IsPart vu hi->r x lo hi H Q ->
  ∃T id,typeLookup (.type T) "__getitem__" = pure (some (.builtin id))/\s.TypeIs v T/\wpAny (model X.prog X.w) X.A (getItem v (.ref sl)) (EP X pins σ Q) X.xe s
def tSl(r:V->Option Int->Option Int->Hp->VK->Prop)(te:TE)(tl th:TO):TE:=fun σ H Q=>te σ H fun x H1=>tl σ H1 fun l H2=>th σ H2 fun u H3=>r x l u H3 Q
theorem zk0{r:V->Option Int->Option Int->Hp->VK->Prop}(hr:SlR X r)(he:PE X e te)(hl:PO X lo tl)(hu:PO X hi th):PE X (.Subscript e (.Slice lo hi none p2) pos) (tSl r te tl th):=by
 intro pins s σ H Q I h
 refine Subscript_ (thn (he pins s σ H _ I h) fun v s1 ⟨x,H1,I1,r1,q1⟩=>?_)
 refine wpAny_Slice (thn (hl pins s1 σ H1 _ I1 q1) fun vl s2 ⟨l,H2,I2,pl,q2⟩=>thn (hu pins s2 σ H2 _ I2 q2) fun vu s3 ⟨u,H3,I3,pu,q3⟩=>?_)
 rw[evalPart_none]
 refine wpAny_pure ?_
 have I4:Inv X pins σ H3 { s3 with heap:=s3.heap.push { cls:=.type "slice",data:=.fields #[vl,vu,.none] } }:=I3.kept (t':=s3.toks) fun b ob q=>Heap.get?_push_of_some _ q
 obtain⟨T,id,hT,ht,hg⟩:=hr pins { s3 with heap:=s3.heap.push { cls:=.type "slice",data:=.fields #[vl,vu,.none] } } σ H3 x v vl vu l u s3.heap.objs.size Q I4 r1 (Heap.IsSliceOf.new ..) pl pu q3
 show wpAny (model X.prog X.w) X.A (subscriptTail e (.Slice lo hi none p2) v (.ref s3.heap.objs.size)) (EP X pins σ Q) X.xe { s3 with heap:=s3.heap.push { cls:=.type "slice",data:=.fields #[vl,vu,.none] } }
 exact tail_any (ops:=[.ref s3.heap.objs.size,v]) ht hT hg (by with_unfolding_all rfl)
def zn6(xs:List V)(lo hi:Option Int):List V:=(xs.drop (HT.sIx xs.length 0 lo)).take (HT.sIx xs.length xs.length hi-HT.sIx xs.length 0 lo)
theorem zgY(xs:List V)(lo hi:Option Int):(zn6 xs lo hi).length<=xs.length:=by
 unfold zn6
 rw[List.length_take,List.length_drop]
 omega
end
end L2
namespace L2
open PySem PySem.Spec PyProof.Rows
def ixN(n:Nat)(i:Int):Option Nat:=if 0<=i then (if i<n then some i.toNat else none) else if -(n:Int)<=i then some (i+n).toNat else none
def atI{α:Type}(xs:List α)(i:Int):Option α:=(ixN xs.length i).bind fun j=>xs[j]?
theorem zjf{n:Nat}{i:Int}{j:Nat}(h:ixN n i=some j):seqIndex? i n=some j/\j<n/\-(n:Int)<=i/\i<n:=by
 unfold ixN at h
 by_cases h0:0<=i
 ·rw[if_pos h0] at h
  by_cases h1:i<n
  ·rw[if_pos h1] at h
   have e:i.toNat=j:=Option.some.inj h
   exact⟨by rw[seqIndex_of h0 h1,e],by omega,by omega,h1⟩
  ·rw[if_neg h1] at h;cases h
 ·rw[if_neg h0] at h
  by_cases h1:-(n:Int)<=i
  ·rw[if_pos h1] at h
   have e:(i+n).toNat=j:=Option.some.inj h
   exact⟨by rw[seqIndex_neg (by omega) h1,e],by omega,h1,by omega⟩
  ·rw[if_neg h1] at h;cases h
theorem zjg{α:Type}{xs:List α}{i:Int}{v:α}(h:atI xs i=some v):∃j,seqIndex? i xs.length=some j/\xs[j]?=some v/\j<xs.length/\-(xs.length:Int)<=i/\i<xs.length:=by
 unfold atI at h
 cases e:ixN xs.length i with
 | none=>rw[e] at h;cases h
 | some j =>
  rw[e] at h
  obtain⟨h1,h2,h3,h4⟩:=zjf e
  exact⟨j,h1,h,h2,h3,h4⟩
def zjh(b:Expr):Prop:=∀o i,subscripted b false o i=operate [o,i] (getItem o i)
def IxR(X:Cx)(r:R2):Prop :=
 ∀(value slice:Expr) (pins:List (Addr×Obj)) (s:Shared) (σ:St) (H:Hp) (x y:V) (v u:Value) (Q:VK),Inv X pins σ H s->RelV x v->RelV y u->r x y H Q ->
  subscripted slice false v u=operate [v,u] (getItem v u)->wpAny (model X.prog X.w) X.A (subscriptTail value slice v u) (EP X pins σ Q) X.xe s
def MtR(X:Cx)(id:String)(r:V->List V->Hp->VK->Prop):Prop :=
 ∀(pins:List (Addr×Obj)) (s:Shared) (σ:St) (H:Hp) (x:V) (xs:List V) (v:Value) (us:List Value) (Q:VK),Inv X pins σ H s->RelV x v->Vals xs us->r x xs H Q ->
  wpAny (model X.prog X.w) X.A (call (.builtin id) (v::us)) (EP X pins σ Q) X.xe s
section
variable {X:Cx} {a b:Expr} {ta tb:TE} {pos:Pos}
theorem IxR.or{r r':R2}(h:IxR X r)(h':IxR X r'):IxR X (fun x y H Q=>r x y H Q\/r' x y H Q):=by
 intro value slice pins s σ H x y v u Q I rx ry q hs
 rcases q with q|q
 ·exact h value slice pins s σ H x y v u Q I rx ry q hs
 ·exact h' value slice pins s σ H x y v u Q I rx ry q hs
theorem zq1{r:R2}(hr:IxR X r)(ha:PE X a ta)(hb:PE X b tb)(hs:zjh b):PE X (.Subscript a b pos) (tOp r ta tb):=by
 intro pins s σ H Q I h
 exact Subscript_ (zqO ha hb I h fun v u s2 x y H2 I2 rx ry q=>hr a b pins s2 σ H2 x y v u Q I2 rx ry q (hs _ _))
def zq2(K:PySem.W.Frag):R2:=fun x y H Q=>∃p xs i v,x=.ref p/\y=.int i/\SqL K H p xs/\atI xs i=some v/\Q v H
def zq3(K:PySem.W.Frag):R2:=fun x y H Q=>∃p xs i v,x=.ref p/\y=.int i/\SqT K H p xs/\atI xs i=some v/\Q v H
theorem zm1:IxR X (zq2 X.K):=by
 intro value slice pins s σ H x y v u Q I rx ry h hs
 obtain⟨p,xs,i,z,rfl,rfl,hq,he,q⟩:=h
 cases rx
 obtain⟨t,rfl⟩:=ry
 obtain⟨its,r,pl,hz⟩:=I.list hq
 obtain⟨j,h1,h2,h3,h4,h5⟩:=zjg he
 obtain⟨w,ew,rw'⟩:=r.get h2
 have hl:=r.length
 have hn:=zf5
 have fin:EP X pins σ Q w s:=⟨z,H,I,rw',q⟩
 by_cases h0:0<=i
 ·have hj:i.toNat=j:=by
   rw[seqIndex_of h0 h5] at h1
   exact Option.some.inj h1
  exact item_listR pl.isList h0 (by omega) (by rw[hj];simpa using ew) fin hs
 ·have hj:(i+(its.toArray.size:Int)).toNat=j:=by
   rw[seqIndex_neg (by omega) h4] at h1
   rw[List.size_toArray,<- hl]
   exact Option.some.inj h1
  exact subscriptTail_builtinR (x:=w) pl.isList.typeIs slot_list_getitem.lookup
   (wpAny_getItem_list_neg (Q:=fun r s'=>r=w/\EP X pins σ Q r s') pl.isList (by omega) (by rw[List.size_toArray]<;>omega) (by omega) (by rw[hj];simpa using ew) ⟨rfl,fin⟩) hs
theorem zoI:IxR X (zq3 X.K):=by
 intro value slice pins s σ H x y v u Q I rx ry h hs
 obtain⟨p,xs,i,z,rfl,rfl,hq,he,q⟩:=h
 cases rx
 obtain⟨t,rfl⟩:=ry
 obtain⟨its,r,pl,hz⟩:=I.tuple hq
 obtain⟨j,h1,h2,h3,h4,h5⟩:=zjg he
 obtain⟨w,ew,rw'⟩:=r.get h2
 have hl:=r.length
 have hn:=zf5
 have fin:EP X pins σ Q w s:=⟨z,H,I,rw',q⟩
 exact subscriptTail_builtinR (x:=w) pl.typeIs slot_tuple_getitem.lookup
  (getItem_tuple (j:=j) (Q:=fun r s'=>r=w/\EP X pins σ Q r s') pl (by omega) (by omega) (by rw[List.size_toArray,<- hl];exact h1) (by simpa using ew) ⟨rfl,fin⟩) hs
theorem zis(its:List Value)(n j:Nat)(u:Value):Obj.mapSeq (·.setIfInBounds j u) { cls:=.type "list",data:=.seq its.toArray n }={ cls:=.type "list",data:=.seq (its.set j u).toArray n }:=by
 simp[Obj.mapSeq]
theorem Inv.lst{pins:List (Addr×Obj)}{σ:St}{H:Hp}{s:Shared}{p:Addr}{xs:List V}(I:Inv X pins σ H s)(h:H p=some (.lst xs)) :
  ∃(its:List Value) (n:Nat),Vals xs its/\s.heap.get? p=some { cls:=.type "list",data:=.seq its.toArray n }/\xs.length<=sizeLine:=by
 obtain⟨z,its,n,r,e⟩:=I.hok p _ h
 exact⟨its,n,r,e,z⟩
theorem Inv.lstUpd{pins:List (Addr×Obj)}{σ:St}{H:Hp}{s:Shared}{p:Addr}{xs ys:List V}{its its':List Value}{n n':Nat}{f:Obj->Obj}(I:Inv X pins σ H s)(h:H p=some (.lst xs))(ho:s.heap.get? p=some { cls:=.type "list",data:=.seq its.toArray n })(hf:f { cls:=.type "list",data:=.seq its.toArray n }={ cls:=.type "list",data:=.seq its'.toArray n' })(r:Vals ys its')(hz:ys.length<=sizeLine)(t:Nat) :
  Inv X pins σ (upd H p (.lst ys)) { s with heap:=s.heap.update p f,toks:=t }:=by
 have e:(s.heap.update p f).get? p=some { cls:=.type "list",data:=.seq its'.toArray n' }:=by
  rw[Heap.get?_update_self f ho (by rw[hf]<;>rfl),hf]
 refine I.write (x:=p) (e:=p) (by rw[h];trivial) (.inl rfl) (fun b u hb q=>(Heap.get?_update_other _ _ (Ne.symm hb)).trans q) ⟨_,e⟩ ?_
 exact⟨hz,its',n',r,e⟩
def zq4:V->V->V->Hp->(Hp->Prop)->Prop:=fun o i v H Q=>∃p xs k j,o=.ref p/\i=.int k/\H p=some (.lst xs)/\ixN xs.length k=some j/\Q (upd H p (.lst (xs.set j v)))
theorem zk1:zrT X zq4:=by
 intro pins s σ H o i v ov iv u Q I ro ri rv h
 obtain⟨p,xs,k,j,rfl,rfl,hp,hj,q⟩:=h
 cases ro
 obtain⟨t,rfl⟩:=ri
 obtain⟨its,n,r,ho,hz⟩:=I.lst hp
 obtain⟨h1,h2,h3,h4⟩:=zjf hj
 have hl:=r.length
 have hn:=zf5
 have I':Inv X pins σ (upd H p (.lst (xs.set j v))) { s with heap:=s.heap.update p (Obj.mapSeq (·.setIfInBounds j u)) } :=
  I.lstUpd hp ho (zis its n j u) (r.set rv j) (by rw[List.length_set];exact hz) s.toks
 by_cases h0:0<=k
 ·have hk:k.toNat=j:=by
   rw[seqIndex_of h0 h4] at h1
   exact Option.some.inj h1
  exact PySem.W.ki_setAt ho h0 (by omega) (by rw[List.size_toArray,<- hl];exact h4) (by rw[hk];exact⟨_,I',q⟩)
 ·have hk:(k+(its.toArray.size:Int)).toNat=j:=by
   rw[seqIndex_neg (by omega) h3] at h1
   rw[List.size_toArray,<- hl]
   exact Option.some.inj h1
  exact PySem.W.ki_setBack ho (by omega) (by rw[List.size_toArray,<- hl];exact h3) (by omega) (by rw[hk];exact⟨_,I',q⟩)
theorem zgb(lo hi:Option Int)(n:Nat):(sliceBounds lo hi none n).1=((HT.sIx n 0 lo:Nat):Int)/\(sliceBounds lo hi none n).2.1=((HT.sIx n n hi:Nat):Int)/\(sliceBounds lo hi none n).2.2=1:=by
 refine⟨?_,?_,rfl⟩
 ·cases lo with
  | none=>simp[sliceBounds,HT.sIx]
  | some i =>
   simp only[sliceBounds,HT.sIx,Option.getD_none,show(1:Int)>0 by decide,if_true]
   by_cases h:i<0
   ·simp only[h,if_true]<;>omega
   ·simp only[h,if_false]<;>omega
 ·cases hi with
  | none=>simp[sliceBounds,HT.sIx]
  | some i =>
   simp only[sliceBounds,HT.sIx,Option.getD_none,show(1:Int)>0 by decide,if_true]
   by_cases h:i<0
   ·simp only[h,if_true]<;>omega
   ·simp only[h,if_false]<;>omega
theorem zft(its:List Value)(lo hi:Option Int):slicePick its.toArray lo hi none=((its.drop (HT.sIx its.length 0 lo)).take (HT.sIx its.length its.length hi-HT.sIx its.length 0 lo)).toArray:=by
 obtain⟨h1,h2,h3⟩:=zgb lo hi its.toArray.size
 unfold slicePick
 rw[h1,h2,h3]
 simp only[sliceRange_one,pick_run,List.size_toArray]<;>rfl
def zrW(K:PySem.W.Frag):V->Option Int->Option Int->Hp->VK->Prop:=fun x lo hi H Q=>∃a xs,x=.ref a/\SqL K H a xs/\∀p,H p=none->Q (.ref p) (upd H p (.lst (zn6 xs lo hi)))
theorem zm2:SlR X (zrW X.K):=by
 intro pins s σ H x v vl vu lo hi sl Q I rx hs pl pu h
 obtain⟨a,xs,rfl,hx,q⟩:=h
 cases rx
 obtain⟨its,r,ht,hz⟩:=I.list hx
 have hlen:=r.length
 refine⟨"list",_,slot_list_getitem.lookup,ht.isList.typeIs,?_⟩
 refine wpAny_getItem_list_slice ht.isList hs pl pu .none (by simp) ?_ (by rw[List.size_toArray]<;>omega)
 rw[zft,<- hlen]
 refine⟨.ref s.heap.objs.size,_,I.laid (t':=s.toks) (o:=.lst (zn6 xs lo hi)) (fun b ob q=>Heap.get?_push_of_some _ q) (Nat.le_refl _) ?_,rfl,q _ (I.hok.fresh (Nat.le_refl _))⟩
 exact⟨Nat.le_trans (zgY xs lo hi) hz,_,0,(r.drop (HT.sIx xs.length 0 lo)).take (HT.sIx xs.length xs.length hi-HT.sIx xs.length 0 lo),Heap.get?_push_size _ rfl⟩
theorem zgc:CallR X (.type "list") (fun xs H Q=>∃p ys,xs=[.ref p]/\(SqL X.K H p ys\/SqT X.K H p ys)/\∀l,H l=none->Q (.ref l) (upd H l (.lst ys))):=by
 intro pins s σ H xs us Q I r h
 obtain⟨p,ys,rfl,hq,q⟩:=h
 obtain⟨u,rfl,rx⟩:=zeO r
 cases rx
 have fin:∀(its:List Value),Vals ys its->ys.length<=sizeLine->∀(h':Heap) (c':Nat),(∀b o',s.heap.get? b=some o'->h'.get? b=some o') ->
   h'.get? s.heap.objs.size=some { cls:=.type "list",dict:=none,data:=.seq its.toArray c',slots:=#[] }->EP X pins σ Q (.ref s.heap.objs.size) { s with heap:=h' }:=fun its r' hz h' c' kp e =>
  ⟨.ref s.heap.objs.size,_,I.laid (t':=s.toks) kp (Nat.le_refl _) (show ObjOk X.prog X.w _ h' _ (.lst ys) from⟨hz,its,c',r',e⟩),rfl,q _ (I.hok.fresh (Nat.le_refl _))⟩
 rcases hq with hq|hq
 ·obtain⟨its,r',pl,hz⟩:=I.list hq
  have hlen:=r'.length
  obtain⟨o,ho,hc,n,hd⟩:=pl.isList
  exact call_list_seq p (.inl rfl) ho hc hd (fun h' c' kp e=>fin its r' hz h' c' kp e) (by simp only[List.size_toArray]<;>omega)
 ·obtain⟨its,r',pl,hz⟩:=I.tuple hq
  have hlen:=r'.length
  obtain⟨o,ho,hc,n,hd⟩:=pl
  exact call_list_seq p (.inr rfl) ho hc hd (fun h' c' kp e=>fin its r' hz h' c' kp e) (by simp only[List.size_toArray]<;>omega)
theorem zfu:CallR X (.type "tuple") (fun xs H Q=>∃p ys,xs=[.ref p]/\((SqL X.K H p ys/\∀l,H l=none->Q (.ref l) (upd H l (.tup ys)))\/(SqT X.K H p ys/\Q (.ref p) H))):=by
 intro pins s σ H xs us Q I r h
 obtain⟨p,ys,rfl,h⟩:=h
 obtain⟨u,rfl,rx⟩:=zeO r
 cases rx
 rcases h with ⟨hq,q⟩|⟨hq,q⟩
 ·obtain⟨its,r',pl,hz⟩:=I.list hq
  have hlen:=r'.length
  refine call_tuple_list pl.isList (fun h' kp=>?_) (by simp only[List.size_toArray]<;>omega)
  have I1:Inv X pins σ H { s with heap:=h' }:=I.kept (t':=s.toks) kp
  have I2:Inv X pins σ (upd H h'.objs.size (.tup ys)) { s with heap:=h'.push { cls:=.type "tuple",data:=.seq its.toArray } } :=
   I1.laid (t':=s.toks) (fun b o e=>Heap.get?_push_of_some _ e) (Nat.le_refl _) (show ObjOk X.prog X.w _ _ _ (.tup ys) from⟨hz,its,r',TupN.new _ _⟩)
  exact⟨.ref h'.objs.size,_,I2,rfl,q _ (I1.hok.fresh (Nat.le_refl _))⟩
 ·obtain⟨its,r',pl,hz⟩:=I.tuple hq
  exact call_tuple_same pl ⟨.ref p,H,I,rfl,q⟩
def tyV(K:PySem.W.Frag)(T:String)(x:V)(H:Hp):Prop:=match x with
 | .str _=>T = "str"
 | .int _=>T = "int"
 | .ref p=>(T = "list" /\ ∃xs,SqL K H p xs)\/(T = "tuple" /\ ∃o,K.lookup p=some o/\o.cls=.type "tuple" /\ o.dict=none) \/
   (T = "dict" /\ ((∃kvs,H p=some (.dK kvs))\/∃kvs,H p=some (.dT kvs)))\/(T = "set" /\ ∃S n,H p=some (.set S n))
 | _=>False
theorem zl2{pins:List (Addr×Obj)}{σ:St}{H:Hp}{s:Shared}{T:String}{x:V}{v:Value}(I:Inv X pins σ H s)(r:RelV x v)(ty:tyV X.K T x H) :
  s.TypeIs v T/\∀a,v=.ref a->∃ob,s.heap.get? a=some ob/\ob.dict=none:=by
 cases x with
 | str z =>
  obtain⟨t,rfl⟩:=r
  cases (show T = "str" from ty)
  exact⟨typeIs_str s z t,fun _ e=>nomatch e⟩
 | int i =>
  obtain⟨t,rfl⟩:=r
  cases (show T = "int" from ty)
  exact⟨typeIs_int s i t,fun _ e=>nomatch e⟩
 | ref p =>
  cases r
  rcases ty with ⟨rfl,xs,hq⟩|⟨rfl,o,hk,hc,hd⟩|⟨rfl,hk⟩|⟨rfl,S,n,hk⟩
  ·obtain⟨its,_,pl,_⟩:=I.list hq
   refine⟨pl.isList.typeIs,fun a e=>?_⟩
   cases e
   obtain⟨o,n,e,c,hd,_⟩:=pl
   exact⟨o,e,hd⟩
  ·refine⟨⟨o,I.kIn p o hk,hc⟩,fun a e=>?_⟩
   cases e
   exact⟨o,I.kIn _ o hk,hd⟩
  ·have z:∃o,s.heap.get? p=some o/\o.ExactDict:=by
    rcases hk with ⟨kvs,hk⟩|⟨kvs,hk⟩
    ·obtain⟨_,_,_,_,o,_,_,e,ex,_⟩:=I.hok p _ hk
     exact⟨o,e,ex⟩
    ·obtain⟨_,_,_,_,o,_,_,e,ex,_⟩:=I.hok p _ hk
     exact⟨o,e,ex⟩
   obtain⟨o,e,ex⟩:=z
   refine⟨⟨o,e,ex.1⟩,fun a e2=>?_⟩
   cases e2
   exact⟨o,e,ex.2.1⟩
  ·obtain⟨o,_,_,_,e,ex,_⟩:=I.hok p _ hk
   refine⟨⟨o,e,ex.1⟩,fun a e2=>?_⟩
   cases e2
   exact⟨o,e,ex.2.1⟩
 | _=>exact False.elim ty
def zsM(K:PySem.W.Frag)(T:String)(r:V->List V->Hp->VK->Prop)(to:TE):TE:=fun σ H Q=>to σ H fun x H1=>tyV K T x H1/\r x [] H1 Q
def tBM(K:PySem.W.Frag)(T:String)(r:V->List V->Hp->VK->Prop)(to:TE)(t:TA):TE:=fun σ H Q=>to σ H fun x H1=>tyV K T x H1/\t σ H1 fun xs H2=>r x xs H2 Q
variable {o e:Expr} {es:List Expr} {to:TE} {t:TA} {name:Str} {apos cpos:Pos} {T id:String} {r:V->List V->Hp->VK->Prop}
theorem zoJ(pa:PlainAttrs T)(slot:Slot T name id)(hty:typeOf (.builtin id)=pure (.type "method_descriptor"))(hm:MtR X id r)(ho:PE X o to)(hbase:attributeBase o name X.env (eval o X.env)=eval o X.env:=by rfl)(hline:(apos.endLine==cpos.line)=true:=by rfl):PE X (.Call (.Attribute o name apos) [] [] cpos) (zsM X.K T r to):=by
 intro pins s σ H Q I h
 refine wpAny_Call_method0_late hbase hline (thn (ho pins s σ H _ I h) fun v s1 ⟨x,H1,I1,r1,ty,q1⟩=>?_)
 obtain⟨h1,h2⟩:=zl2 I1 r1 ty
 exact⟨T,id,pa,slot,hty,h1,h2,Calls.callWith_builtin rfl (PySem.evalArgs_none (hm pins s1 σ H1 x [] v [] Q I1 r1 .nil q1))⟩
theorem zq5(pa:PlainAttrs T)(slot:Slot T name id)(hty:typeOf (.builtin id)=pure (.type "method_descriptor"))(hm:MtR X id r)(ho:PE X o to)(ha:PA X (e::es) t)(hbase:attributeBase o name X.env (eval o X.env)=eval o X.env:=by rfl)(hfew:((backTo cpos (starEach (e::es) X.env)).all (fun x=>!x.1)&&(backToKw cpos (keywordEach [] X.env)).all (fun x=>x.1.isSome)
   && decide ((e::es).length+([]:List Keyword).length+(if ([]:List Keyword).isEmpty then 0 else 1)<30))=true:=by rfl)(hline:(apos.endLine==cpos.line)=true:=by rfl)(hs:starEach (e::es) X.env=(false,eval e X.env)::starEach es X.env:=by rfl)(hplain:(backTo cpos (starEach es X.env)).any (·.1)=false:=by rfl) :
  PE X (.Call (.Attribute o name apos) (e::es) [] cpos) (tBM X.K T r to t):=by
 intro pins s σ H Q I h
 refine wpAny_Call_method_late hbase hfew hline rfl (thn (ho pins s σ H _ I h) fun v s1 ⟨x,H1,I1,r1,ty,q1⟩=>?_)
 obtain⟨h1,h2⟩:=zl2 I1 r1 ty
 refine⟨T,id,pa,slot,hty,h1,h2,?_⟩
 have hA:=ha cpos pins s1 σ H1 _ I1 q1
 rw[hs] at hA ⊢
 refine Calls.callWith_builtin (by show(false||(backTo cpos (starEach es X.env)).any (·.1))=false;rw[hplain]<;>rfl) (Calls.evalArgs_plain ?_)
 exact thn hA fun us s2 ⟨vs,H2,I2,r2,q2⟩=>hm pins s2 σ H2 x vs v us Q I2 r1 r2 q2
end
end L2
namespace L2
open PySem PySem.Spec PyProof.Rows
def MtM(X:Cx)(id:String)(r:V->List V->Hp->VK->Prop):Prop :=
 ∀(pins:List (Addr×Obj)) (s:Shared) (σ:St) (H:Hp) (x:V) (xs:List V) (v:Value) (us:List Value) (Q:VK),Inv X pins σ H s->RelV x v->Vals xs us->r x xs H Q ->
  wpAny (model X.prog X.w) X.A (call (.builtin id) (v::us)) (EP X pins σ Q) X.xe s
theorem Vals.one:∀{x:V} {us:List Value},Vals [x] us->∃u,us=[u]/\RelV x u
 | _,_,.cons r .nil=>⟨_,rfl,r⟩
theorem Vals.zero:∀{us:List Value},Vals [] us->us=[]
 | _,.nil=>rfl
theorem Vals.dropLast{xs:List V}{us:List Value}(h:Vals xs us):Vals xs.dropLast us.dropLast:=by
 induction h with
 | nil=>exact .nil
 | cons r t ih =>
  cases t with
  | nil=>exact .nil
  | cons q t'=>exact .cons r ih
theorem Vals.eraseIdx:∀{xs:List V} {us:List Value} (i:Nat),Vals xs us->Vals (xs.eraseIdx i) (us.eraseIdx i)
 | _,_,_,.nil=>.nil
 | _,_,0,.cons _ t=>t
 | _,_,i+1,.cons r t=>.cons r (Vals.eraseIdx i t)
theorem Vals.reverse{xs:List V}{us:List Value}(h:Vals xs us):Vals xs.reverse us.reverse:=by
 induction h with
 | nil=>exact .nil
 | cons r t ih=>rw[List.reverse_cons,List.reverse_cons];exact Vals.append ih (.cons r .nil)
theorem zit{α:Type}(l:List α):l.eraseIdx (l.length-1)=l.dropLast:=by
 induction l with
 | nil=>rfl
 | cons a r ih =>
  cases r with
  | nil=>rfl
  | cons b r =>
   have e:(a::b::r).length-1=((b::r).length-1)+1:=by
    have h1:(a::b::r).length=r.length+2:=rfl
    have h2:(b::r).length=r.length+1:=rfl
    omega
   rw[e,List.eraseIdx_cons_succ,ih]
   all_goals rfl
theorem zgd{α:Type}:∀(l:List α) (i:Nat),(l.eraseIdx i).length<=l.length
 | [],_=>Nat.le_refl _
 | _::_,0=>Nat.le_succ _
 | _::r,i+1=>Nat.succ_le_succ (zgd r i)
section
variable {X:Cx} {pins:List (Addr×Obj)} {σ:St} {H:Hp} {s:Shared} {l b:Addr} {xs ys zs:List V}
theorem Inv.lset{its its':List Value}{n:Nat}{f:Array Value->Array Value}{t':Nat}(I:Inv X pins σ H s)(hH:H l=some (.lst xs))(e:s.heap.get? l=some { cls:=.type "list",data:=.seq its.toArray n })(hf:f its.toArray=its'.toArray)(hv:Vals ys its')(hz:ys.length<=sizeLine) :
  Inv X pins σ (upd H l (.lst ys)) { s with heap:=s.heap.update l (Obj.mapSeq f),toks:=t' }:=by
 have q:=PySem.IsL.update e f
 rw[hf] at q
 refine I.write (x:=l) (e:=l) (by rw[hH];exact trivial) (.inl rfl) (fun b' u hb hu=>(Heap.get?_update_other s.heap (Obj.mapSeq f) (Ne.symm hb)).trans hu) ⟨_,q⟩ ?_
 exact⟨hz,its',_,hv,q⟩
theorem Inv.lnew{its:List Value}{t':Nat}(I:Inv X pins σ H s)(hv:Vals ys its)(hz:ys.length<=sizeLine) :
  Inv X pins σ (upd H s.heap.objs.size (.lst ys)) { s with heap:=s.heap.push { cls:=.type "list",data:=.seq its.toArray },toks:=t' } :=
 I.laid (fun _ _ q=>Heap.get?_push_of_some _ q) (Nat.le_refl _) ⟨hz,its,0,hv,Heap.get?_push_size _ rfl⟩
theorem Inv.fresh(I:Inv X pins σ H s):H s.heap.objs.size=none:=I.hok.fresh (Nat.le_refl _)
theorem Inv.lstM(I:Inv X pins σ H s)(hH:H l=some (.lst xs)):xs.length<=sizeLine/\∃(its:List Value) (n:Nat),Vals xs its/\xs.length=its.length/\s.heap.get? l=some { cls:=.type "list",data:=.seq its.toArray n }:=by
 obtain⟨z,its,n,r,e⟩:=I.hok l _ hH
 exact⟨z,its,n,r,r.length,e⟩
theorem zk2{n:Nat}(h:n<=sizeLine):Builtin.List.listTooLong n=false:=by
 unfold Builtin.List.listTooLong
 exact decide_eq_false (by omega)
end
section
variable {X:Cx}
def zji:V->List V->Hp->VK->Prop:=fun x vs H Q=>∃l xs y,x=.ref l/\vs=[y]/\H l=some (.lst xs)/\xs.length<sizeLine/\Q .non (upd H l (.lst (xs++[y])))
theorem za9:MtM X "list.append" zji:=by
 intro pins s σ H x vs v us Q I rx rv h
 obtain⟨l,xs,y,rfl,rfl,hH,hz,q⟩:=h
 cases rx
 obtain⟨u,rfl,ru⟩:=rv.one
 obtain⟨z,its,n,r,hl,e⟩:=I.lstM hH
 refine call_meets F.slot_list_append ⟨_,e,rfl⟩ F.entry_list_append (F.args_list_append_2 _ _) (PySem.list_append l its.toArray n u (by rw[List.size_toArray];omega)) ⟨e,?_⟩
 refine⟨.non,_,I.lset (its':=its++[u]) hH e (by simp) (r.append (.cons ru .nil)) ?_,rfl,q⟩
 rw[List.length_append,List.length_singleton]
 omega
def zrX:V->List V->Hp->VK->Prop:=fun x vs H Q=>∃l xs y,x=.ref l/\vs=[]/\H l=some (.lst xs)/\xs[xs.length-1]?=some y/\Q y (upd H l (.lst xs.dropLast))
theorem zl3:MtM X "list.pop" zrX:=by
 intro pins s σ H x vs v us Q I rx rv h
 obtain⟨l,xs,y,rfl,rfl,hH,hy,q⟩:=h
 cases rx
 have hus:=rv.zero
 subst hus
 obtain⟨z,its,n,r,hl,e⟩:=I.lstM hH
 obtain⟨u,hu,ru⟩:=r.get hy
 have hy':its.toArray[its.toArray.size-1]?=some u:=by
  show its.toArray[its.length-1]?=some u
  rw[<- Array.getElem?_toList,<- hl]
  exact hu
 refine call_meets F.slot_list_pop ⟨_,e,rfl⟩ F.entry_list_pop (F.args_list_pop_1 _) (MeetsSeq.list_pop_last l its.toArray n u hy' (by rw[List.size_toArray];omega)) ⟨e,?_⟩
 refine⟨y,_,I.lset (its':=its.dropLast) hH e ?_ r.dropLast ?_,ru,q⟩
 ·show its.toArray.eraseIdxIfInBounds (its.toArray.size-1)=its.dropLast.toArray
  rw[List.size_toArray,List.eraseIdxIfInBounds_toArray,zit]
 ·rw[List.length_dropLast]
  omega
def zl4:V->List V->Hp->VK->Prop:=fun x vs H Q=>∃l xs i k y,x=.ref l/\vs=[.int i]/\H l=some (.lst xs)/\-(2 ^ 63)<=i/\i<2 ^ 63/\seqIndex? i xs.length=some k/\xs[k]?=some y/\Q y (upd H l (.lst (xs.eraseIdx k)))
theorem zk3:MtM X "list.pop" zl4:=by
 intro pins s σ H x vs v us Q I rx rv h
 obtain⟨l,xs,i,k,y,rfl,rfl,hH,h1,h2,hk,hy,q⟩:=h
 cases rx
 obtain⟨u,rfl,ru⟩:=rv.one
 obtain⟨t,rfl⟩:=ru
 obtain⟨z,its,n,r,hl,e⟩:=I.lstM hH
 obtain⟨w,hw,rw'⟩:=r.get hy
 refine call_meets F.slot_list_pop ⟨_,e,rfl⟩ F.entry_list_pop (F.args_list_pop_2 _ _)
  (MeetsSeq.list_pop_at l its.toArray n i t k w (fitsIndex_both h1 h2) (by rw[List.size_toArray,<- hl];exact hk) (by rw[<- Array.getElem?_toList];exact hw) (by rw[List.size_toArray];omega)) ⟨e,?_⟩
 refine⟨y,_,I.lset (its':=its.eraseIdx k) hH e ?_ (r.eraseIdx k) ?_,rw',q⟩
 ·show its.toArray.eraseIdxIfInBounds k=(its.eraseIdx k).toArray
  rw[List.eraseIdxIfInBounds_toArray]
 ·have:=zgd xs k
  omega
def zhK:V->List V->Hp->VK->Prop:=fun x vs H Q=>∃l xs,x=.ref l/\vs=[]/\H l=some (.lst xs)/\Q .non (upd H l (.lst xs.reverse))
theorem ziu:MtM X "list.reverse" zhK:=by
 intro pins s σ H x vs v us Q I rx rv h
 obtain⟨l,xs,rfl,rfl,hH,q⟩:=h
 cases rx
 have hus:=rv.zero
 subst hus
 obtain⟨z,its,n,r,hl,e⟩:=I.lstM hH
 refine call_meets F.slot_list_reverse ⟨_,e,rfl⟩ F.entry_list_reverse (F.args_list_reverse_1 _) (AutoSeq1.list_reverse_list_0 l its.toArray n (by rw[List.size_toArray];omega)) ⟨e,?_⟩
 refine⟨.non,_,I.lset (its':=its.reverse) hH e (by simp) r.reverse ?_,rfl,q⟩
 rw[List.length_reverse]
 omega
end
section
variable {prog:Program} {w:World} {A:Around} {E:Value->Shared->Prop} {s:Shared}
end
section
variable {X:Cx}
end
end L2
namespace Att
open PySem PySem.W PySem.Calls PyProof.Rows
theorem zea{P:Params}{h:Heap}:∀(ns:List Int) (vs:List Value),WellAll P h vs (ns.map WData.int)->IntsAre vs ns:=by
 intro ns
 induction ns with
 | nil =>
  intro vs w
  rw[List.map_nil] at w
  cases w
  exact .nil
 | cons n ns ih =>
  intro vs w
  rw[List.map_cons] at w
  cases w with
  | cons a b =>
   cases a
   exact .cons _ _ (ih _ b)
theorem zjj{l:OpenLaw}{n:Nat}(hn:l.most=some n){P:Params}{h:Heap}{args:List WData}{vals:List Value}(hpre:l.row.toRowW.claim.pre args=true)(hwl:WellAll P h vals args) :
  ∃a vs ns,vals=[Value.ref a]/\args=[WData.list (ns.map WData.int)]/\h.get? a=some { cls:=.type "list",data:=.seq vs.toArray }/\IntsAre vs ns/\ns.length<=n:=by
 have hsh:WShape.hasAll [] args [.list .int]=true:=(pre_splitW hpre).1
 have hc:l.pre.holds [] { args:=args }=true:=(pre_splitW hpre).2
 obtain⟨d,r,rfl,h1,h2⟩:=hasAllW_cons hsh
 obtain rfl:=hasAllW_nil h2
 obtain⟨xs,rfl,h3⟩:=hasW_list h1
 obtain⟨ns,rfl⟩:=items_int h3
 have hlen:ns.length<=n:=by
  unfold OpenLaw.pre at hc
  have h4:(WTm.not (.lt (.lit (.int (n:Int))) (.len (.arg 0)))).holds [] { args:=[.list (ns.map .int)] }=true:=by
   have h4:=(holds_andW hc).1
   rw[hn] at h4
   exact h4
  have h5:=condW_of h4 (w_not (w_lt w_lit (w_len_list (w_arg rfl))))
  rw[List.length_map] at h5
  refine Nat.le_of_not_lt fun q=>?_
  have q':(n:Int)<((ns.length:Nat):Int):=by omega
  first
   | (rw[decide_eq_true q'] at h5;exact absurd h5 (by decide))
   | (simp at h5;omega)
 cases hwl with
 | cons w1 w2 =>
  cases w2
  cases w1 with
  | list ho hall=>exact⟨_,_,ns,rfl,rfl,ho,zea ns _ hall,hlen⟩
theorem zjk(l:OpenLaw)(args:List WData):l.row.toRowW.claim.post args (.bool true) args=true :=
 postW_of (r:=l.row.toRowW) (X:=(true==true))
  (show WShape.has [] (.bool true) .bool=true by first|rfl|decide|simp[WShape.has,WShape.arms,WShape.armsAll])
  (show(WTm.eq .res (.lit (.bool true))).value [] { args:=args,res:=some (.bool true),after:=args }=some (.bool (true==true)) from w_eq_bool (w_res rfl) w_lit) rfl
theorem attach_call{l:OpenLaw}{n:Nat}{q:Program}{loose:List Str}{XP:(Str->Option Value)->Heap->Prop}{YP:World->Heap->Prop}{d:DefRec}(hn:l.most=some n)(hdf:d.params.defaults=[])(call:∀(w:World) (s₀ s₁:Shared) (mg mb:Str->Option Value) (fa:Addr) (o:Obj) (pm cd doc:Value) (a:Addr) (vs:List Value) (ns:List Int),
   Ground q loose [] XP w s₀ mg mb s₁.heap->YP w s₁.heap ->
   s₁.heap.get? fa=some o->o.data=.func (docDef d.name d.params d.body d.scope pm cd doc)->s₁.heap.CodeRec cd d.name->mg d.name=some (.ref fa) ->
   s₁.heap.get? a=some { cls:=.type "list",data:=.seq vs.toArray }->IntsAre vs ns->ns.length<=n->s₁.gens=#[] ->
   codeAny (model l.prog w) callerA (.call (.ref fa) ⟨[.ref a],[]⟩) (fun r s'=>r=.ok (.ret (.bool true))/\OldK s₁.heap s'.heap/\s'.os=s₁.os/\AllBare s'.gens) s₁) :
  WalkO q loose XP YP l.row.toRowW d [] (fun f vs=>PySem.call f vs):=by
 intro w s₀ s₁ mg mb G Y fa o pm cd doc dV kV ho hd hcd hD hmg hg args vals as hpre hlay hrd hwl hlo
 obtain rfl:dV=.none:=Dflts.none hD hdf
 obtain rfl:kV=.none:=Dflts.noKw hD
 obtain⟨a,vs,ns,rfl,rfl,hobj,hints,hlen⟩:=zjj hn hpre hwl
 refine enter_call (codeAny_mono (call w s₀ s₁ mg mb fa o pm cd doc a vs ns G Y ho (fd_plain hd) hcd hmg hobj hints hlen hg) fun r s' hq=>?_)
 obtain⟨rfl,h2,h3,h4⟩:=hq
 exact⟨.inl ⟨.bool true,.bool true,[],rfl,fun _=>rfl,.bool true,zjk l _,fun _=>⟨List.Pairwise.nil,fun _ hm=>(nomatch hm)⟩⟩,h2,h3,h4⟩
section
variable {prog:Program} {w:World} {A:Around} {E:Value->Shared->Prop} {s:Shared} {K:Frag}
def zrY(h:Heap)(L d:Addr):List (Addr×Obj):=(List.range h.objs.size).filterMap fun a=>if a=L\/a=d then none else (h.get? a).map fun o=>(a,o)
end
end Att
namespace L2
open PySem PySem.Spec PyProof.Rows
theorem zcw:∀{vs:List Value} {ns:List Int},IntsAre vs ns->Vals (ns.map V.int) vs
 | _,_,.nil=>.nil
 | _,_,.cons n t h=>.cons ⟨t,rfl⟩ (zcw h)
def zoK(H:Hp):Prop:=∀b,H b=none\/∃o xs,H b=some (.frz o (.lst xs))
theorem zk4{P:Program}{w:World}{K:PySem.W.Frag}{mg mb:Str->Option Value}{CX:CXT}{k:Nat}{fa a:Addr}{fd:FuncData}{x:Str}{sp:Sp}{s₁:Shared}{vs:List Value}{ns:List Int}(KX:K.In s₁.heap)(hns:s₁.heap.Ns mainGlobals mg)(hb:s₁.heap.Ns builtinsNs mb)(hbb:∀x:Str,x ≠ "__name__" -> mb x=bootBuiltins x)(hlim:s₁.heap.NoLimit)(hg:s₁.gens=#[])(ha:s₁.heap.get? a=some { cls:=.type "list",data:=.seq vs.toArray })(hi:IntsAre vs ns)(hl:ns.length<=sizeLine)(hr:Room k callerA)(F:∀base:Heap,K.In base->base.Ns mainGlobals mg->FnOk P w K mg base CX k fa fd [x] sp)(hbind:∀(s:Shared) (u:Value),BindsTo s fd ⟨[u],[]⟩ [(x,u)])(hsp:∀H:Hp,zoK H->SqL K H a (ns.map V.int)->sp [.ref a] H (fun v _=>v=.bl true) fun _ _ _=>False)(hCX:∀H e s',CX [] H s₁ (fun _ _ _=>False) e s'->False) :
  codeAny (model P w) callerA (.call (.ref fa) ⟨[.ref a],[]⟩) (fun r s'=>r=.ok (.ret (.bool true))/\OldK s₁.heap s'.heap/\s'.os=s₁.os/\AllBare s'.gens) s₁:=by
 have rv:=zcw hi
 have lenV:=hi.length
 have core:∀H:Hp,zoK H->SqL K H a (ns.map V.int)->HOk P w H s₁.heap->(∀b,H b≠none->b=a)->(H a≠none->K.lookup a=none) ->
   codeAny (model P w) callerA (.call (.ref fa) ⟨[.ref a],[]⟩) (fun r s'=>r=.ok (.ret (.bool true))/\OldK s₁.heap s'.heap/\s'.os=s₁.os/\AllBare s'.gens) s₁:=by
  intro H hO hS hok hA hK
  have base_of:∀{b:Addr} {o:Obj},s₁.heap.get? b=some o->H b=none->(zkQ s₁.heap H).get? b=some o:=fun e n=>zkR e n
  have noA:∀{b:Addr} {o:Obj} {es:Array DictEntry} {ep:Nat},s₁.heap.get? b=some o->o.data=.dict es ep->H b=none:=fun {b o es ep} e d=>by
   cases q:H b with
   | none=>rfl
   | some u =>
    have e':b=a:=hA b (by rw[q];simp)
    subst e'
    rw[ha] at e;cases e
    have d':Data.seq vs.toArray _=Data.dict es ep:=d
    cases d'
  have nsK:∀{b:Addr} {m:Str->Option Value},s₁.heap.Ns b m->(zkQ s₁.heap H).Ns b m:=fun {b m} ⟨o,es,ep,e,d,r⟩=>⟨o,es,ep,base_of e (noA e d),d,r⟩
  have hKb:K.In (zkQ s₁.heap H):=fun b o e=>base_of (KX b o e) (by
   cases q:H b with
   | none=>rfl
   | some u =>
    have e':b=a:=hA b (by rw[q];simp)
    subst e'
    rw[hK (by rw[q];simp)] at e;cases e)
  have hM:Mod K mg (zkQ s₁.heap H):=⟨hKb,nsK hns,⟨mb,nsK hb,hbb⟩,let ⟨mc,h1,h2⟩:=hlim;⟨mc,nsK h1,h2⟩⟩
  have e0:Env0 P w K mg (zkQ s₁.heap H) callerA [] s₁ H:=⟨rfl,hM,fun b o e=>zmE e,Nat.le_of_eq (zi4 _ _),trivial,fun b hb=>absurd (show b∈([]:List Addr) from hb) (by simp),hok,.of_eq hg⟩
  refine codeAny_mono ((F _ hKb (nsK hns)).run callerA [] s₁ H ⟨[.ref a],[]⟩ [.ref a] [.ref a] _ _ hr e0 (hbind s₁ (.ref a)) (.cons rfl .nil) (hsp H hO hS)) fun r s' h=>?_
  cases r with
  | error e=>exact(hCX H e s' h).elim
  | ok fl =>
   cases fl with
   | next=>exact False.elim h
   | brk=>exact False.elim h
   | cont=>exact False.elim h
   | ret u =>
    obtain⟨v,H',os,bare,un,hok',r',q⟩:=h
    have q':v=.bl true:=q
    subst q'
    obtain rfl:u=Value.bool true:=r'
    refine⟨rfl,OldK.of_keep fun b o e=>?_,os,bare⟩
    cases q:H b with
    | none=>exact un.keep b o e q (by intro z;exact absurd (show b∈([]:List Addr) from z) (by simp)) (by simp)
    | some u =>
     rcases hO b with z|⟨ob,xs,z⟩
     ·rw[q] at z;cases z
     ·have z2:=un.frzs b ob _ z
      obtain⟨e1,_⟩:=hok b _ z
      obtain⟨e2,_⟩:=hok' b _ z2
      rw[e] at e1;cases e1
      exact e2
 cases hk:K.lookup a with
 | some o =>
  have e:=KX a o hk
  rw[ha] at e
  cases e
  refine core (fun _=>none) (fun _=>.inl rfl) (.inr ⟨_,vs.toArray,_,hk,rfl,rfl,rfl,by rw[List.size_toArray,lenV];exact hl,by simpa using rv⟩) (fun b u z=>by have z':(none:Option HO)=some u:=z;cases z') (fun b z=>absurd rfl z) fun z=>absurd rfl z
 | none =>
  refine core (fun b=>if b=a then some (.frz { cls:=.type "list",data:=.seq vs.toArray } (.lst (ns.map V.int))) else none) (fun b=>?_) (.inl (.inr ⟨{ cls:=.type "list",data:=.seq vs.toArray },if_pos rfl⟩)) (fun b u z=>?_) (fun b z=>?_) fun _=>hk
  ·by_cases hb:b=a
   ·exact .inr ⟨_,_,if_pos hb⟩
   ·exact .inl (if_neg hb)
  ·by_cases hb:b=a
   ·have z':=(if_pos hb).symm.trans z
    cases z'
    subst hb
    exact⟨ha,by rw[List.length_map];exact hl,vs,_,rv,ha⟩
   ·have z':=(if_neg hb).symm.trans z
    cases z'
  ·by_cases hb:b=a
   ·exact hb
   ·exact absurd (if_neg hb) z
end L2
namespace L2
open PySem PySem.Spec PyProof.Rows
theorem zm3{l:PySem.W.OpenLaw}{n k:Nat}{q:Program}{loose:List Str}{XP:(Str->Option Value)->Heap->Prop}{YP:World->Heap->Prop}{d:DefRec}{K:Params->PySem.W.Frag}{CX:World->CXT}{sp:World->Sp}{x:Str}(hn:l.most=some n)(hn2:n<=sizeLine)(hdf:d.params.defaults=[])(hr:Room k callerA)(hY:∀(w:World) (h:Heap),YP w h->(K w.params).In h)(F:∀(w:World) (mg:Str->Option Value) (fa:Addr) (h:Heap),(K w.params).In h->h.Ns mainGlobals mg->mg d.name=some (.ref fa) ->
   ∃fd:FuncData,(∀(s:Shared) (u:Value),BindsTo s fd ⟨[u],[]⟩ [(x,u)]) /\
    ∀base:Heap,(K w.params).In base->base.Ns mainGlobals mg->FnOk l.prog w (K w.params) mg base (CX w) k fa fd [x] (sp w))(hsp:∀(w:World) (H:Hp) (a:Addr) (ns:List Int),ns.length<=n->zoK H->SqL (K w.params) H a (ns.map V.int)->sp w [.ref a] H (fun v _=>v=.bl true) fun _ _ _=>False)(hCX:∀(w:World) (H:Hp) (s:Shared) (e:Value) (s':Shared),CX w [] H s (fun _ _ _=>False) e s'->False) :
  PySem.W.WalkO q loose XP YP l.row.toRowW d [] (fun f vs=>PySem.call f vs):=by
 refine Att.attach_call hn hdf fun w s₀ s₁ mg mb fa o pm cd doc a vs ns G Y ho hd hcd hmg hobj hints hlen hg=>?_
 have KX:=hY w _ Y
 obtain⟨fd,hb,hF⟩:=F w mg fa _ KX G.T.g hmg
 exact zk4 KX G.T.g G.T.b G.T.builtins G.T.nolimit hg hobj hints (Nat.le_trans hlen hn2) hr hF hb (fun H hO hS=>hsp w H a ns hlen hO hS) fun H e s'=>hCX w H s₁ e s'
theorem walk_ofK{l:PySem.W.OpenLaw}{n k:Nat}{q:Program}{loose:List Str}{XP:(Str->Option Value)->Heap->Prop}{YP:World->Heap->Prop}{d:DefRec}{K:Params->PySem.W.Frag}{CX:CXT}{sp:PySem.W.Frag->Sp}{x:Str}(hn:l.most=some n)(hn2:n<=sizeLine)(hdf:d.params.defaults=[])(hr:Room k callerA)(hY:∀(w:World) (h:Heap),YP w h->(K w.params).In h)(F:∀(w:World) (mg:Str->Option Value) (fa:Addr) (h:Heap),(K w.params).In h->h.Ns mainGlobals mg->mg d.name=some (.ref fa) ->
   ∃fd:FuncData,(∀(s:Shared) (u:Value),BindsTo s fd ⟨[u],[]⟩ [(x,u)]) /\
    ∀base:Heap,(K w.params).In base->base.Ns mainGlobals mg->FnOk l.prog w (K w.params) mg base CX k fa fd [x] (sp (K w.params)))(hsp:∀(K:PySem.W.Frag) (H:Hp) (a:Addr) (ns:List Int),ns.length<=n->zoK H->SqL K H a (ns.map V.int)->sp K [.ref a] H (fun v _=>v=.bl true) fun _ _ _=>False)(hCX:∀(H:Hp) (s:Shared) (e:Value) (s':Shared),CX [] H s (fun _ _ _=>False) e s'->False) :
  PySem.W.WalkO q loose XP YP l.row.toRowW d [] (fun f vs=>PySem.call f vs) :=
 zm3 (K:=K) (CX:=fun _=>CX) (sp:=fun w=>sp (K w.params)) hn hn2 hdf hr hY F (fun w H a ns h1 h2 h3=>hsp (K w.params) H a ns h1 h2 h3) fun _ H s e s'=>hCX H s e s'
end L2
namespace L2
open PySem PySem.Spec PyProof.Rows
def zar(s:Stmt):Arguments:=match s with
 | .FunctionDef _ a _ _ _ _ _ _ _ _=>a
 | _=>{ posonlyargs:=[],args:=[],vararg:=none,kwonlyargs:=[],kw_defaults:=[],kwarg:=none,defaults:=[] }
def zaq(s:Stmt):List Stmt:=match s with
 | .FunctionDef _ _ b _ _ _ _ _ _ _=>b
 | _=>[]
def zae(s:Stmt):Scope:=match s with
 | .FunctionDef _ _ _ _ _ _ sc _ _ _=>sc
 | _=>{ kind:=.function,names:=[],isGenerator:=false,isCoroutine:=false }
abbrev CX0:CXT:=fun _ _ _ _ _ _=>False
abbrev E0:XK:=fun _ _ _=>False
structure Fun (K:PySem.W.Frag) (x qual:Str) (st:Stmt) (f:Addr) (fd:FuncData):Prop where
 ex:∃(oc:Value) (od:Option Addr) (kV doc pm:Value) (an:Option Addr) (cdv ct:Value) (osl:Array (Option Value)),
  fd=PySem.W.fnOf x qual (zar st) (zaq st) (zae st) .none kV doc pm an cdv ct/\K.lookup f=some ⟨oc,od,.func fd,osl⟩/\PySem.W.codeIn K cdv qual=true
 kp:PySem.W.keepIn K (.ref f)=true
section
variable {P:Program} {w:World} {K:PySem.W.Frag} {mg:Str->Option Value} {base:Heap}
theorem Fun.binds{x qual:Str}{st:Stmt}{f:Addr}{fd:FuncData}{ps:List Str}(F:Fun K x qual st f fd)(h:∀(kV doc pm:Value) (an:Option Addr) (cdv ct:Value) (us:List Value),us.length=ps.length->bindArgs (PySem.W.fnOf x qual (zar st) (zaq st) (zae st) .none kV doc pm an cdv ct) ⟨us,[]⟩=pure (ps.zip us)):Binds K fd ps []:=by
 obtain⟨oc,od,kV,doc,pm,an,cdv,ct,osl,rfl,lk,hcd⟩:=F.ex
 exact .all (h kV doc pm an cdv ct)
theorem zaE{x qual:Str}{st:Stmt}{f:Addr}{oc:Value}{od an:Option Addr}{osl:Array (Option Value)}{kV doc pm cdv ct:Value}(l:K.lookup f=some ⟨oc,od,.func (PySem.W.fnOf x qual (zar st) (zaq st) (zae st) .none kV doc pm an cdv ct),osl⟩)(c:PySem.W.codeIn K cdv qual=true)(k:PySem.W.keepIn K (.ref f)=true):Fun K x qual st f (PySem.W.fnOf x qual (zar st) (zaq st) (zae st) .none kV doc pm an cdv ct):=⟨⟨oc,od,kV,doc,pm,an,cdv,ct,osl,rfl,l,c⟩,k⟩
end
section
variable {X:Cx}
end
def ztc(H H':Hp):Prop:=∀b o,H b=some o->H' b=some o
end L2
namespace L2
open PySem PySem.Spec PyProof.Rows
def ziv(js:List Nat)(σ:St):St:=js.map fun j=>σ.getD j none
structure BlkS (N:List Str) (psc:Scope) (js:List Nat) (N':List Str) (scope:Scope):Prop where
 cell:∀y∈scope.names,y.2≠.cell
 kind:scope.kind=.function
 names:∀y∈scope.names,y.2=.local->scope.names.lookup y.1=some .local
 frees:∀y∈scope.names,y.2=.free->psc.names.lookup y.1=some .cell\/psc.names.lookup y.1=some .free
 nd:N'.Nodup
 len:N'.length=js.length+1
 cap:∀p∈js.zip (N'.drop 1),N[p.1]?=some p.2/\scope.names.lookup p.2=some .free
def zc0(env:Env)(cs:List (Str×Addr))(y:Str×NameKind):List (Str×Addr):=if y.2==.free then (y.1,(env.cells.lookup y.1).getD 0)::cs else cs
def zcx(scope:Scope)(env:Env):List (Str×Addr):=scope.names.foldl (zc0 env) []
theorem zeb{α β:Type}(f:α->β->Sem (ForInStep β))(g:β->α->β):∀(l:List α) (b:β),(∀x∈l,∀c,f x c=pure (.yield (g c x)))->forIn l b f=pure (l.foldl g b)
 | [],_,_=>rfl
 | x::l,b,h=>by
  rw[List.forIn_cons,h x List.mem_cons_self,pure_bind]
  exact zeb f g l (g b x) fun y hy=>h y (List.mem_cons_of_mem _ hy)
theorem ziw{scope:Scope}{env:Env}(h:∀y∈scope.names,y.2=.free->∃c,env.cells.lookup y.1=some c):closureFor scope env=pure (zcx scope env):=by
 simp only[closureFor,zcx]
 rw[zeb _ (zc0 env) scope.names [] (fun y hy c=>by
  obtain⟨n,k⟩:=y
  by_cases hk:k=.free
  ·subst hk
   obtain⟨a,ha⟩:=h _ hy rfl
   have ha':env.cells.lookup n=some a:=ha
   simp[cellOf,ha',zc0]
  ·have hb:(k==NameKind.free)=false:=by simpa using hk
   simp[hb,zc0])]
 rfl
theorem ze3{env:Env}{P:Str×Addr->Prop}:∀(l:List (Str×NameKind)) (acc:List (Str×Addr)),(∀p∈acc,P p)->(∀y∈l,y.2=.free->P (y.1,(env.cells.lookup y.1).getD 0))->∀p∈l.foldl (zc0 env) acc,P p
 | [],_,ha,_=>ha
 | y::l,acc,ha,hl=>by
  refine ze3 l _ (fun p hp=>?_) fun z hz=>hl z (List.mem_cons_of_mem _ hz)
  unfold zc0 at hp
  by_cases hk:y.2=.free
  ·rw[if_pos (by simp[hk])] at hp
   rcases List.mem_cons.mp hp with e|hp
   ·rw[e];exact hl y List.mem_cons_self hk
   ·exact ha p hp
  ·rw[if_neg (by simp[hk])] at hp
   exact ha p hp
theorem ze4{env:Env}:∀(l:List (Str×NameKind)) (acc:List (Str×Addr)),∀p∈acc,p∈l.foldl (zc0 env) acc
 | [],_,_,hp=>hp
 | y::l,acc,p,hp=>by
  refine ze4 l _ p ?_
  unfold zc0
  split
  ·exact List.mem_cons_of_mem _ hp
  ·exact hp
theorem ze5{env:Env}{y:Str}:∀(l:List (Str×NameKind)) (acc:List (Str×Addr)),(y,NameKind.free)∈l->∃c,(y,c)∈l.foldl (zc0 env) acc
 | z::l,acc,h=>by
  rcases List.mem_cons.mp h with e|h
  ·subst e
   exact⟨(env.cells.lookup y).getD 0,ze4 l _ _ (by simp[zc0])⟩
  ·exact ze5 l _ h
theorem zde{β:Type}{y:Str}{c:β}:∀{l:List (Str×β)},(y,c)∈l->∃c',l.lookup y=some c'
 | (n,d)::l,h=>by
  rw[List.lookup_cons]
  cases e:y==n with
  | true=>exact⟨d,rfl⟩
  | false =>
   rcases List.mem_cons.mp h with q|q
   ·have q1:y=n:=congrArg Prod.fst q
    rw[q1] at e
    simp at e
   ·exact zde q
theorem zge{scope:Scope}{env:Env}(h:∀y∈scope.names,y.2=.free->∃c,env.cells.lookup y.1=some c){y:Str}{c:Addr}(e:(zcx scope env).lookup y=some c):env.cells.lookup y=some c:=by
 refine ze3 (P:=fun p=>env.cells.lookup p.1=some p.2) scope.names [] (fun _ hp=>nomatch hp) (fun z hz hf=>?_) (y,c) (PySem.mem_of_lookup e)
 obtain⟨a,ha⟩:=h z hz hf
 simp[ha]
theorem zhL{scope:Scope}{env:Env}{y:Str}(h:(y,NameKind.free)∈scope.names):∃c,(zcx scope env).lookup y=some c:=by
 obtain⟨c,hc⟩:=ze5 (env:=env) scope.names [] h
 exact zde hc
theorem relabel_of{env:Env}{y:Str}{k':NameKind}:∀{names:List (Str×NameKind)},(names.map fun(n,k)=>if (k==NameKind.free&&env.scope.kind==.function&&env.kindOf n==some .cell) then (n,NameKind.cell) else (n,k)).lookup y=some k' ->
  ∃k,(y,k)∈names/\(k'=k\/(k=.free/\k'=.cell))
 | [],h=>by simp at h
 | (n,k)::r,h=>by
  have ih:=@relabel_of env y k' r
  have h:List.lookup y ((if (k==NameKind.free&&env.scope.kind==.function&&env.kindOf n==some .cell)=true then (n,NameKind.cell) else (n,k))::_)=some k':=h
  cases e:y==n with
  | true =>
   have e':y=n:=by simpa using e
   by_cases hc:(k==NameKind.free&&env.scope.kind==.function&&env.kindOf n==some .cell)=true
   ·rw[if_pos hc] at h
    simp only[List.lookup_cons,e] at h
    cases h
    have hk:k=.free:=by
     simp only[Bool.and_eq_true] at hc
     simpa using hc.1.1
    subst hk
    exact⟨.free,by rw[e'];exact List.mem_cons_self,.inr ⟨rfl,rfl⟩⟩
   ·rw[if_neg hc] at h
    simp only[List.lookup_cons,e] at h
    have hk:=Option.some.inj h
    exact⟨k,by rw[e'];exact List.mem_cons_self,.inl hk.symm⟩
  | false =>
   have h':List.lookup y (r.map fun(n,k)=>if (k==NameKind.free&&env.scope.kind==.function&&env.kindOf n==some .cell) then (n,NameKind.cell) else (n,k))=some k':=by
    by_cases hc:(k==NameKind.free&&env.scope.kind==.function&&env.kindOf n==some .cell)=true
    ·rw[if_pos hc] at h
     simp only[List.lookup_cons,e] at h
     exact h
    ·rw[if_neg hc] at h
     simp only[List.lookup_cons,e] at h
     exact h
   obtain⟨k0,h1,h2⟩:=ih h'
   exact⟨k0,List.mem_cons_of_mem _ h1,h2⟩
theorem relabel_free{env:Env}{y:Str}:∀{names:List (Str×NameKind)},names.lookup y=some .free ->
  (names.map fun(n,k)=>if (k==NameKind.free&&env.scope.kind==.function&&env.kindOf n==some .cell) then (n,NameKind.cell) else (n,k)).lookup y=some .cell \/
  (names.map fun(n,k)=>if (k==NameKind.free&&env.scope.kind==.function&&env.kindOf n==some .cell) then (n,NameKind.cell) else (n,k)).lookup y=some .free
 | [],h=>by simp at h
 | (n,k)::r,h=>by
  have ih:=@relabel_free env y r
  show List.lookup y ((if (k==NameKind.free&&env.scope.kind==.function&&env.kindOf n==some .cell)=true then (n,NameKind.cell) else (n,k))::_)=_\/List.lookup y ((if (k==NameKind.free&&env.scope.kind==.function&&env.kindOf n==some .cell)=true then (n,NameKind.cell) else (n,k))::_)=_
  cases e:y==n with
  | true =>
   simp only[List.lookup_cons,e] at h
   cases h
   by_cases hc:(NameKind.free==NameKind.free&&env.scope.kind==.function&&env.kindOf n==some .cell)=true
   ·rw[if_pos hc];exact .inl (by simp[List.lookup_cons,e])
   ·rw[if_neg hc];exact .inr (by simp[List.lookup_cons,e])
  | false =>
   simp only[List.lookup_cons,e] at h
   by_cases hc:(k==NameKind.free&&env.scope.kind==.function&&env.kindOf n==some .cell)=true
   ·rw[if_pos hc];simp only[List.lookup_cons,e];exact ih h
   ·rw[if_neg hc];simp only[List.lookup_cons,e];exact ih h
def blk(X:Cx)(N':List Str)(scope:Scope)(C:Addr)(fp:List Addr)(s₀:Shared)(H₀:Hp):Cx :=
 { X with N:=N',s₀:=s₀,H₀:=H₀,env:=compEnvC scope (zcx scope X.env) C X.env,outer:=X.stack,stack:=X.stack,ex:=fp,fn:=fun _=>false,pn:=[],xe:=fun _ _=>False }
theorem HOk.track{P:Program}{w:World}{H:Hp}{h:Heap}{a:Addr}{o:HO}(x:HOk P w H h)(hn:H a=none)(new:ObjOk P w (upd H a o) h a o):HOk P w (upd H a o) h:=fun b u e=>by
 by_cases hb:b=a
 ·subst hb;rw[zaM] at e;cases e;exact new
 ·rw[zaL hb] at e
  exact(x b u e).stay (fun c v _ q=>q) (fun c q=>by rw[zaL (zaI q hn)];exact q) fun c xs q=>by rw[zaL (zaI q hn)];exact q
section
variable {X:Cx} {pins:List (Addr×Obj)} {σ:St} {H:Hp} {s:Shared}
theorem Inv.stkNe(I:Inv X pins σ H s){b:Addr}(h1:b≠X.env.locals)(h2:b∉X.fs):b∉frs X.stack:=fun hb=>(List.mem_cons.mp (I.stkSub b hb)).elim h1 h2
theorem Inv.frees(I:Inv X pins σ H s){js:List Nat}{N':List Str}{scope:Scope}(B:BlkS X.N X.env.scope js N' scope):∀y∈scope.names,y.2=.free->∃c,X.env.cells.lookup y.1=some c :=
 fun y hy hf=>I.ok.has y.1 (B.frees y hy hf)
theorem zjl{js:List Nat}{x:Str}{caps:List Str}{scope:Scope}{C:Addr}{fp:List Addr}{h₁:Heap}{tk:Nat}{m:Str->Option Value}(B:BlkS X.N X.env.scope js (x::caps) scope)(I:Inv X pins σ H s)(f2:∀b∈fp,zl0 X pins H b)(ho:∀b∈fp,∃o,s.heap.get? b=some o)(hC:s.heap.objs.size<=C)(old:∀b o,s.heap.get? b=some o->h₁.get? b=some o)(ns:h₁.Ns C m) :
  Inv (blk X (x::caps) scope C fp s H) [] (none::ziv js σ) H { s with heap:=h₁,toks:=tk }:=by
 have fr:=I.frees B
 have clo:∀y c,(zcx scope X.env).lookup y=some c->X.env.cells.lookup y=some c:=fun y c e=>zge fr e
 have lt:∀b∈fp,b<s.heap.objs.size:=fun b hb=>let ⟨o,e⟩:=ho b hb;Heap.lt_size e
 refine⟨⟨I.ok.mod,B.kind,I.ok.glob,I.ok.blt,hC,fun a b c h1 h2=>I.ok.inj a b c (clo _ _ h1) (clo _ _ h2),fun y hy=>?_,fun y c h _=>absurd (show false=true from h) Bool.false_ne_true,I.ok.hd,I.ok.frames,.inl rfl,
   fun b hb=>⟨Nat.ne_of_lt (Nat.lt_of_lt_of_le (lt b hb) hC),fun y c h=>(f2 b hb).2.2.2.2.1 y c (clo y c h)⟩,I.bs,Nat.le_trans I.ok.bsz I.sz,fun b o e hb=>?_,fun b hb=>I.stkNe (f2 b hb).2.1 (f2 b hb).2.2.1,I.stack,I.stkFree⟩,
  rfl,I.bare,Un.kept old,⟨m,ns,fun i y v e1 e2 e3=>?_⟩,fun y c h=>?_,I.hok.fresh hC,fun y c h=>I.freeC y c (clo y c h),fun p hp=>absurd (show p∈([]:List (Addr×Obj)) from hp) (by simp),I.hok.kept old,?_⟩
 ·have hy':(relabel scope X.env).names.lookup y=some .cell\/(relabel scope X.env).names.lookup y=some .free:=hy
  have hm:(y,NameKind.free)∈scope.names:=by
   rcases hy' with z|z
   ·obtain⟨k,h1,h2⟩:=relabel_of z
    rcases h2 with h2|⟨h2,_⟩
    ·exact absurd h2.symm (B.cell _ h1)
    ·rw[h2] at h1;exact h1
   ·obtain⟨k,h1,h2⟩:=relabel_of z
    rcases h2 with h2|⟨_,h2⟩
    ·rw[<- h2] at h1;exact h1
    ·cases h2
  exact zhL hm
 ·rcases(f2 b hb).2.2.2.1 with z|z
  ·exact I.ok.noex b o e z
  ·exact absurd (Nat.lt_of_lt_of_le (Heap.lt_size e) (Nat.le_trans I.ok.bsz z)) (Nat.lt_irrefl _)
 ·cases i with
  | zero =>
   have q:some (none:Option V)=some (some v):=e2
   cases q
  | succ k =>
   have e1':caps[k]?=some y:=e1
   have e2':(js.map fun j=>σ.getD j none)[k]?=some (some v):=e2
   rw[List.getElem?_map] at e2'
   cases hj:js[k]? with
   | none=>rw[hj] at e2';cases e2'
   | some j =>
    rw[hj] at e2'
    have hv:σ.getD j none=some v:=Option.some.inj e2'
    have hσ:σ[j]?=some (some v):=by
     rw[List.getD_eq_getElem?_getD] at hv
     cases q:σ[j]? with
     | none=>rw[q] at hv;cases hv
     | some z=>rw[q] at hv;exact congrArg some hv
    have hz:(j,y)∈js.zip caps:=List.mem_of_getElem? (List.getElem?_zip_eq_some.mpr ⟨hj,e1'⟩)
    obtain⟨hN,hf⟩:=B.cap (j,y) hz
    have hk:=B.frees (y,.free) (PySem.mem_of_lookup hf) rfl
    obtain⟨m',_,hl⟩:=I.loc
    obtain⟨u,r,l⟩:=hl j y v hN hσ (.inr hk)
    rcases l with ⟨k1,_⟩|⟨k1,c,hcl,o,hco,hcd⟩
    ·have k1':X.env.scope.names.lookup y=some .local:=k1
     have hk':X.env.scope.names.lookup y=some .cell\/X.env.scope.names.lookup y=some .free:=hk
     rw[k1'] at hk'
     rcases hk' with z|z<;>cases z
    ·obtain⟨c',hc'⟩:=zhL (env:=X.env) (PySem.mem_of_lookup hf)
     have:=clo _ _ hc'
     rw[hcl] at this
     cases this
     exact⟨u,r,.inr ⟨relabel_free hf,c,hc',o,old c o hco,hcd⟩⟩
 ·obtain⟨v,o,h1,h2⟩:=I.cell y c (clo y c h)
  exact⟨v,o,old c o h1,h2⟩
 ·show(none::ziv js σ).length=(x::caps).length
  rw[B.len]
  simp[ziv]
end
end L2
namespace L2
open PySem PySem.Spec PyProof.Rows
def PIfs(Y:Cx)(ifs:List Expr)(tt:TT):Prop :=
 ∀(pins:List (Addr×Obj)) (s:Shared) (σ:St) (H:Hp) (Q:Bool->Hp->Prop),Inv Y pins σ H s->tt σ H Q ->
  wpAny (model Y.prog Y.w) Y.A (forIn ifs true fun c r=>if r=true then do let ok <- isTrue c Y.env (eval c Y.env);pure (ForInStep.yield ok) else pure (ForInStep.yield r)) (TP Y pins σ Q) Y.xe s
def zq6:TT:=fun _ H Q=>Q true H
theorem zk5{Y:Cx}:PIfs Y [] zq6:=fun _ _ _ H _ I h=>wpAny_tests_nil ⟨H,I,h⟩
theorem zk6{Y:Cx}{c:Expr}{tc:TT}(h:PT Y c tc):PIfs Y [c] tc:=fun pins s σ H Q I hw=>wpAny_tests_one (h pins s σ H Q I hw)
def zsN(J:It)(cs:St)(tt:TT)(te:TE)(Q:VK)(H1:Hp):Prop:=∃W:Nat->Nat->List V->Hp->Prop,(∃m,W 0 m [] H1)/\∀i m ys H2,W i m ys H2 ->
 (J.stop i H2/\∀p,H2 p=none->Q (.ref p) (upd H2 p (.lst ys))) \/
 (J.go i H2/\ys.length<sizeLine/\∃N:List V->Hp->Prop,(∀ys' H',N ys' H'->∃m',m'<m/\W (i+1) m' ys' H') /\
  ∀x H',J.yld i H2 x H'->tt (some x::cs) H' fun b H4=>if b=true then te (some x::cs) H4 fun y H5=>N (ys++[y]) H5 else N ys H4)
def tLC(js:List Nat)(wi:TI)(tt:TT)(te:TE):TE:=fun σ H Q=>wi σ H fun J H1=>zsN J (ziv js σ) tt te Q H1
theorem zk7{α:Type}{M:Model}{A:Around}{Φ:Unit->Shared->Prop}{E E':Value->Shared->Prop}{s:Shared}{t:Sem α}{Ψ:α->Shared->Prop}(h:wpAny M A (pure ()) Φ E s)(k:Φ () s->wpAny M A t Ψ E' s):wpAny M A t Ψ E' s :=
 fun Γ p hΓ=>k (h Γ p hΓ) Γ p hΓ
section
variable {X:Cx} {elt iter:Expr} {x:Str} {px pos p:Pos} {ifs:List Expr} {scope:Scope} {js:List Nat} {caps:List Str} {wi:TI} {tt:TT} {te:TE}
theorem zjm{use:Option (Value->Sem Unit)}{Qf:Value->Shared->Prop}{pins:List (Addr×Obj)}{s:Shared}{σ:St}{H:Hp}{Q:VK}(B:BlkS X.N X.env.scope js (x::caps) scope)(hc:X.calm=true)(hx:scope.names.lookup x=some .local)(hi:PI X (.Name x px) iter wi)(ht:∀C fp s₀ H₀,PIfs (blk X (x::caps) scope C fp s₀ H₀) ifs tt)(he:∀C fp s₀ H₀,PE (blk X (x::caps) scope C fp s₀ H₀) elt te)(hs:∀v,foldedSetIterable iter X.env v=pure v)(I:Inv X pins σ H s)(hw:tLC js wi tt te σ H Q)(fin:∀(C D:Addr) (oC:Obj) (ys:List V) (H':Hp) (s1:Shared),Inv X (pins++[(C,oC)]) σ (upd H' D (.lst ys)) s1->Q (.ref D) (upd H' D (.lst ys)) ->
   (∀σ' H'' s',Inv X (pins++[(C,oC)]) σ' H'' s'->(∃m,s'.heap.Ns C m)/\∀h',Heap.SameBut C s'.heap h'->Inv X pins σ' H'' { s' with heap:=h' }) ->
   compPost (model X.prog X.w) X.A X.xe use Qf (.ref D) C (.ok .next) s1) :
  wpAny (model X.prog X.w) X.A (comprehension (.ListComp elt [⟨.Name x px,iter,ifs,0⟩] scope pos) scope X.env p (newList []) false (eval iter X.env) use) Qf X.xe s:=by
 have fr:=I.frees B
 refine wpAny_comprehension_free (use:=use) rfl hs (ziw fr) B.kind B.names (thn (hi pins s σ H _ I hw) fun v s1 h1=>thn h1 fun itv s2 h2=>?_)
 obtain⟨it,fp,tn,J,H2,e,I2,T,st2,f2,W,⟨m0,w0⟩,turn⟩:=h2
 subst e
 refine wpAny_newObj_type (wpAny_newFunctionEnv B.cell (by intro y hy;simp at hy) (fun h₁ hns₁ hsb₁=>?_) B.kind)
 dsimp only at hns₁ hsb₁ ⊢
 generalize hG:s2.heap.push { cls:=.type "list",dict:=none,data:=.seq ([]:List Value).toArray }=G at hns₁ hsb₁ ⊢
 have hC:G.objs.size=s2.heap.objs.size+1:=by rw[<- hG,Heap.size_push]
 have hDC:s2.heap.objs.size≠G.objs.size:=by rw[hC];exact Nat.ne_of_lt (Nat.lt_succ_self _)
 have hCle:s2.heap.objs.size<=G.objs.size:=by rw[hC];exact Nat.le_succ _
 have old:∀b o,s2.heap.get? b=some o->h₁.get? b=some o:=fun b o e =>
  hsb₁.extBut b o (Nat.ne_of_lt (Nat.lt_of_lt_of_le (Heap.lt_size e) hCle)) (Heap.get?_push_of_some _ (hG▸Heap.get?_push_of_some _ e))
 have hacc:h₁.get? s2.heap.objs.size=some (LCg.lst []):=hsb₁.extBut _ _ hDC (Heap.get?_push_of_some _ (hG▸Heap.get?_push_size _ rfl))
 have fpo:∀b∈fp,∃o,s2.heap.get? b=some o:=fun b hb=>let ⟨o,e,_⟩:=T.obj 0 _ st2 b hb;⟨o,e⟩
 have fpl:∀b∈fp,b<s2.heap.objs.size:=fun b hb=>let ⟨o,e⟩:=fpo b hb;Heap.lt_size e
 have clo:∀y c,(zcx scope X.env).lookup y=some c->X.env.cells.lookup y=some c:=fun y c e=>zge fr e
 have cls2:∀y c,X.env.cells.lookup y=some c->c<s2.heap.objs.size:=fun y c e=>let ⟨v,o,h1,_⟩:=I2.cell y c e;Heap.lt_size h1
 have st1:tn 0 h₁:=T.keep 0 _ _ st2 fun b _ o e=>old b o e
 have D_fs:s2.heap.objs.size∉frs X.stack:=I2.stkNe (Nat.ne_of_gt I2.lt) (I2.nofs (Nat.le_refl _))
 have C_fs:G.objs.size∉X.fs:=I2.nofs hCle
 have C_L:G.objs.size≠X.env.locals:=Nat.ne_of_gt (Nat.lt_of_lt_of_le I2.lt hCle)
 have fpY:∀{pl:List (Addr×Obj)} {H':Hp},(∀b∈fp,H' b=none)->(∀p∈pl,s2.heap.objs.size<=p.1)->∀b∈fp,zl0 (blk X (x::caps) scope G.objs.size fp s2 H2) pl H' b:=fun {pl H'} hn hp b hb =>
  ⟨hn b hb,Nat.ne_of_lt (Nat.lt_of_lt_of_le (fpl b hb) hCle),I2.stkNe (f2 b hb).2.1 (f2 b hb).2.2.1,.inl hb,fun y c h=>(f2 b hb).2.2.2.2.1 y c (clo y c h),fun p hp' z =>
   absurd (Nat.lt_of_lt_of_le (fpl b hb) (by rw[<- z];exact hp p (by simpa[blk] using hp'))) (Nat.lt_irrefl _)⟩
 have rel:∀{oC:Obj} {mC:Str->Option Value},LCg.NsObj oC mC->∀σ' H'' s',Inv X (pins++[(G.objs.size,oC)]) σ' H'' s'->(∃m,s'.heap.Ns G.objs.size m)/\∀h',Heap.SameBut G.objs.size s'.heap h'->Inv X pins σ' H'' { s' with heap:=h' }:=by
  intro oC mC hns σ' H'' s' I'
  obtain⟨e1,e2,e3,e4,e5⟩:=I'.pin (G.objs.size,oC) (List.mem_append_right _ (List.mem_append_right _ (by simp)))
  refine⟨⟨mC,hns.ns e1⟩,fun h' hs'=>?_⟩
  exact(I'.unpinned).turned (t':=s'.toks) (it:=G.objs.size) (fun b o hb e=>(hs'.2 b hb).trans e) e2 e3 (.inr (Nat.le_trans I2.sz hCle)) (fun y c h z=>absurd (Nat.lt_of_lt_of_le (cls2 y c h) (by rw[z];exact hCle)) (Nat.lt_irrefl _))
   (fun q hq z=>absurd (Nat.lt_of_lt_of_le (Heap.lt_size (I2.pin q hq).1) (by rw[z];exact hCle)) (Nat.lt_irrefl _))
 have I1:Inv (blk X (x::caps) scope G.objs.size fp s2 H2) [] (none::ziv js σ) H2 { s2 with heap:=h₁,toks:=s2.toks+([]:List (Str×Value)).length }:=zjl B I2 f2 fpo hCle old hns₁
 have hxl:(blk X (x::caps) scope G.objs.size fp s2 H2).env.scope.names.lookup x=some .local:=lookup_relabel_local hx
 have pinD:∀{us:List Value} {σ3:St} {H3:Hp} {s3:Shared},Inv (blk X (x::caps) scope G.objs.size fp s2 H2) [] σ3 H3 s3->s3.heap.get? s2.heap.objs.size=some (LCg.lst us)->H3 s2.heap.objs.size=none ->
   Inv (blk X (x::caps) scope G.objs.size fp s2 H2) [(s2.heap.objs.size,LCg.lst us)] σ3 H3 s3:=fun {us σ3 H3 s3} I3 hD nD=>I3.pins_of fun p hp=>by
  have e:p=(s2.heap.objs.size,LCg.lst us):=by simpa using hp
  subst e
  exact⟨hD,nD,hDC,D_fs,fun v z=>by
   have z':Data.seq _ _=Data.cell v:=z
   cases z'⟩
 have back:∀{us us':List Value} {ts:Option V} {H8:Hp} {s5 s8:Shared} {h9:Heap} {i:Nat},Inv (blk X (x::caps) scope G.objs.size fp s2 H2) ([(s2.heap.objs.size,LCg.lst us)]++ze1 fp s5.heap) (ts::ziv js σ) H8 s8->tn (i+1) s5.heap ->
   (∀b,b≠s2.heap.objs.size->h9.get? b=s8.heap.get? b)->h9.get? s2.heap.objs.size=some (LCg.lst us') ->
   Inv (blk X (x::caps) scope G.objs.size fp s2 H2) [] (none::ziv js σ) H8 { s8 with heap:=h9 }/\tn (i+1) h9/\(∀b∈fp,H8 b=none)/\H8 s2.heap.objs.size=none:=by
  intro us us' ts H8 s5 s8 h9 i I8 st5 hk hD9
  have pn:∀q∈[(s2.heap.objs.size,LCg.lst us)]++ze1 fp s5.heap,s8.heap.get? q.1=some q.2/\H8 q.1=none:=fun q hq=>let z:=I8.pin q (List.mem_append_right _ hq);⟨z.1,z.2.1⟩
  have nD:H8 s2.heap.objs.size=none:=(pn (s2.heap.objs.size,LCg.lst us) (by simp)).2
  have Iw:Inv (blk X (x::caps) scope G.objs.size fp s2 H2) [] (none::ziv js σ) H8 s8:=(I8.pins_of (pins':=[]) fun q hq=>nomatch hq).weak rfl fun j v e=>by
   cases j with
   | zero =>
    have q:some (none:Option V)=some (some v):=e
    cases q
   | succ j=>exact e
  refine⟨Iw.turned (t':=s8.toks) (it:=s2.heap.objs.size) (fun b o hb e=>(hk b hb).trans e) nD hDC (.inr (Nat.le_refl _)) (fun y c h z=>absurd (cls2 y c (clo y c h)) (by rw[z];exact Nat.lt_irrefl _)) (fun q hq=>absurd (show q∈([]:List (Addr×Obj)) from hq) (by simp)),
   T.keep _ _ _ st5 fun b hb o e=>?_,fun b hb=>?_,nD⟩
  ·rw[hk b (Nat.ne_of_lt (fpl b hb))]
   exact(pn (b,o) (List.mem_append_right _ (zcI hb e))).1
  ·obtain⟨o,e,_⟩:=T.obj _ _ st5 b hb
   exact(pn (b,o) (List.mem_append_right _ (zcI hb e))).2
 have loop:codeAny (model X.prog X.w) X.A (.compLoop (.ListComp elt [⟨.Name x px,iter,ifs,0⟩] scope pos) 0 (.ref it) (.ref s2.heap.objs.size) (compEnvC scope (zcx scope X.env) G.objs.size X.env))
   (compPost (model X.prog X.w) X.A X.xe use Qf (.ref s2.heap.objs.size) G.objs.size) { s2 with heap:=h₁,toks:=s2.toks+([]:List (Str×Value)).length }:=by
  refine codeAny_compLoop_tests (fun n s'=>∃(i:Nat) (ys:List V) (us:List Value) (H':Hp),Inv (blk X (x::caps) scope G.objs.size fp s2 H2) [] (none::ziv js σ) H' s'/\tn i s'.heap/\(∀b∈fp,H' b=none) /\
   s'.heap.get? s2.heap.objs.size=some (LCg.lst us)/\Vals ys us/\H' s2.heap.objs.size=none/\ys.length<=sizeLine/\W i n ys H') ?_ m0 ⟨0,[],[],H2,I1,st1,fun b hb=>(f2 b hb).1,hacc,.nil,I2.hok.fresh (Nat.le_refl _),Nat.zero_le _,w0⟩
  rintro n s3 ⟨i,ys,us,H3,I3,st3,fr3,hD,rv,nD,hz,w3⟩
  have I3':=pinD I3 hD nD
  have hpl:∀p∈[(s2.heap.objs.size,LCg.lst us)],s2.heap.objs.size<=p.1:=fun p hp=>by
   have e:p=(s2.heap.objs.size,LCg.lst us):=by simpa using hp
   subst e
   exact Nat.le_refl _
  rcases turn i n ys H3 w3 with ⟨stop,q⟩|⟨go,hlt,N,hN,step⟩
  ·refine wpAny_mono (T.done (blk X (x::caps) scope G.objs.size fp s2 H2) rfl rfl rfl hc i _ s3 _ H3 (fun _ _=>False) I3' (fpY fr3 hpl) st3 stop) (fun r s4 hr=>?_) fun _ _ z=>z.elim
   obtain⟨hr,I4⟩:=hr
   subst hr
   have hD4:s4.heap.get? s2.heap.objs.size=some (LCg.lst us):=(I4.pin (s2.heap.objs.size,LCg.lst us) (List.mem_append_right _ (by simp))).1
   have un:Un (frs X.stack) fp H2 (upd H3 s2.heap.objs.size (.lst ys)) s2.heap s4.heap :=
    ⟨fun b o e n hb hx=>I4.base.keep b o e n hb hx,fun b o e n hb hx=>I4.base.slot b o e n hb hx,fun b o e n hx=>by rw[zaL (Nat.ne_of_lt (Heap.lt_size e))];exact I4.base.free b o e n hx,fun b o e hx=>I4.base.there b o e hx,
     fun b zs e=>by have q:=I4.base.tups b zs e;rw[zaL (zaI q nD)];exact q,fun b o u e=>by have q:=I4.base.frzs b o u e;rw[zaL (zaI q nD)];exact q,
     fun b ps e=>by obtain⟨more,q⟩:=I4.base.tbls b ps e;exact⟨more,by rw[zaL (zaI q nD)];exact q⟩⟩
   have hok4:HOk X.prog X.w (upd H3 s2.heap.objs.size (.lst ys)) s4.heap:=HOk.track I4.hok nD ⟨hz,us,us.length,rv,hD4⟩
   have IX:Inv X pins σ (upd H3 s2.heap.objs.size (.lst ys)) s4:=I2.call' (ch:=fp) I4.os un hok4 I4.bare fun b hb=>⟨(f2 b hb).2.2.2.1,(f2 b hb).2.1,(f2 b hb).2.2.2.2.1,(f2 b hb).2.2.2.2.2⟩
   obtain⟨mC,hnC,_⟩:=I4.loc
   obtain⟨oC,eC,nsC⟩:=LCg.ns_obj hnC
   have nC:(upd H3 s2.heap.objs.size (.lst ys)) G.objs.size=none:=by rw[zaL (Ne.symm hDC)];exact I4.free
   have dC:∀v,oC.data≠.cell v:=fun v z=>by
    obtain⟨es,ep,d,_⟩:=nsC
    rw[d] at z;cases z
   have IX':Inv X (pins++[(G.objs.size,oC)]) σ (upd H3 s2.heap.objs.size (.lst ys)) s4:=IX.pins_of fun q hq=>by
    rcases List.mem_append.mp hq with z|z
    ·exact IX.pin q (List.mem_append_right _ z)
    ·have e:q=(G.objs.size,oC):=by simpa using z
     subst e
     exact⟨eC,nC,C_L,C_fs,dC⟩
   exact fin G.objs.size s2.heap.objs.size oC ys H3 s4 IX' (q _ nD) (rel nsC)
  ·refine wpAny_mono (T.item (blk X (x::caps) scope G.objs.size fp s2 H2) rfl rfl rfl hc i _ s3 _ H3 (fun _ _=>False) I3' (fpY fr3 hpl) st3 go) (fun r s4 hr=>?_) fun _ _ z=>z.elim
   obtain⟨u,hr,h4⟩:=hr
   subst hr
   show wpAny _ _ (assign _ _ u) _ _ s4
   refine zk7 h4 fun h5=>?_
   obtain⟨xv,H5,I5,r5,y5,st5,fr5⟩:=h5
   have I5':=I5.pinned (fpY fr5 hpl) (T.obj _ _ st5)
   refine wpAny_mono (zgX (X:=blk X (x::caps) scope G.objs.size fp s2 H2) (i:=0) (x:=x) B.nd rfl (Or.inl hxl) (.inr hxl) _ s4 _ H5 xv u (fun σ' H'=>σ'=some xv::ziv js σ/\H'=H5) I5' r5 ⟨rfl,rfl⟩) (fun _ s6 h6=>?_) fun _ _ z=>False.elim z
   obtain⟨σ6,H6,I6,e6,e6'⟩:=h6
   subst e6 e6'
   refine wpAny_mono (ht _ _ _ _ _ s6 _ _ _ I6 (step xv _ y5)) (fun b s7 h7=>?_) fun _ _ z=>False.elim z
   obtain⟨H7,I7,q7⟩:=h7
   cases b with
   | false =>
    rw[if_neg Bool.false_ne_true] at q7
    show if false=true then _ else _
    rw[if_neg Bool.false_ne_true]
    have hD7:s7.heap.get? s2.heap.objs.size=some (LCg.lst us):=(I7.pin (s2.heap.objs.size,LCg.lst us) (List.mem_append_right _ (List.mem_append_left _ (by simp)))).1
    obtain⟨J1,J2,J3,J4⟩:=back I7 st5 (fun _ _=>rfl) hD7
    obtain⟨m',hm,w'⟩:=hN _ _ q7
    exact⟨m',hm,i+1,ys,us,H7,J1,J2,J3,hD7,rv,J4,hz,w'⟩
   | true =>
    rw[if_pos rfl] at q7
    show if true=true then _ else _
    rw[if_pos rfl]
    refine wpAny_mono (he _ _ _ _ _ s7 _ _ _ I7 q7) (fun yu s8 h8=>?_) fun _ _ z=>False.elim z
    obtain⟨yv,H8,I8,r8,q8⟩:=h8
    have hD8:s8.heap.get? s2.heap.objs.size=some (LCg.lst us):=(I8.pin (s2.heap.objs.size,LCg.lst us) (List.mem_append_right _ (List.mem_append_left _ (by simp)))).1
    have hlu:us.length=ys.length:=rv.length.symm
    refine append_at hD8 (fun h9 hs9 hD9=>?_) (by rw[List.size_toArray,hlu];exact hz)
    have hD9':h9.get? s2.heap.objs.size=some (LCg.lst (us++[yu])):=hD9.trans (congrArg some (LCg.lst_snoc us yu))
    obtain⟨J1,J2,J3,J4⟩:=back I8 st5 hs9.2 hD9'
    obtain⟨m',hm,w'⟩:=hN _ _ q8
    exact⟨m',hm,i+1,ys++[yv],us++[yu],H8,J1,J2,J3,hD9',rv.append (.cons r8 .nil),J4,by rw[List.length_append,List.length_singleton];exact hlt,w'⟩
 exact codeAny_compStart_list loop (T.self X.A 0 _ _ _ st1 loop)
theorem zq7(B:BlkS X.N X.env.scope js (x::caps) scope)(hc:X.calm=true)(hx:scope.names.lookup x=some .local)(hi:PI X (.Name x px) iter wi)(ht:∀C fp s₀ H₀,PIfs (blk X (x::caps) scope C fp s₀ H₀) ifs tt)(he:∀C fp s₀ H₀,PE (blk X (x::caps) scope C fp s₀ H₀) elt te)(hs:∀v,foldedSetIterable iter X.env v=pure v:=by intro _;rfl):PE X (.ListComp elt [⟨.Name x px,iter,ifs,0⟩] scope pos) (tLC js wi tt te):=by
 intro pins s σ H Q I hw
 rw[eval_ListComp]
 refine zjm (use:=none) (Q:=Q) B hc hx hi ht he hs I hw fun C D oC ys H' s1 IX q rel=>?_
 obtain⟨⟨m,hn⟩,rl⟩:=rel _ _ _ IX
 exact⟨m,hn,fun h' hs'=>⟨.ref D,_,rl h' hs',rfl,q⟩⟩
theorem zq8{y:Str}{py spos:Pos}{k:Nat}(B:BlkS X.N X.env.scope js (x::caps) scope)(hc:X.calm=true)(hx:scope.names.lookup x=some .local)(hi:PI X (.Name x px) iter wi)(ht:∀C fp s₀ H₀,PIfs (blk X (x::caps) scope C fp s₀ H₀) ifs tt)(he:∀C fp s₀ H₀,PE (blk X (x::caps) scope C fp s₀ H₀) elt te)(hN:X.N.Nodup)(hk:X.N[k]?=some y)(hy:X.env.scope.names.lookup y=some .local)(hsw:swapsWith (.ListComp elt [⟨.Name x px,iter,ifs,0⟩] scope pos) (some (.Name y py)) spos.line X.env=pure true)(hs:∀v,foldedSetIterable iter X.env v=pure v:=by intro _;rfl):PS X (.Assign [.Name y py] (.ListComp elt [⟨.Name x px,iter,ifs,0⟩] scope pos) spos) (zqL (tLC js wi tt te) (gName k)):=by
 intro pins s σ H D I hw
 rw[exec_Assign_Name_used _ _ _ _ hsw]
 refine wpAny_bind (wpAny_standAt (wpAny_bind ?_))
 show wpAny _ _ (do let _ <- comprehension (.ListComp elt [⟨.Name x px,iter,ifs,0⟩] scope pos) scope X.env _ (newList []) false (eval iter X.env) (some (assign (.Name y py) X.env))) _ _ s
 refine wpAny_bind (thn (zjm (use:=some (assign (.Name y py) X.env)) (Qf:=fun _ s'=>SP X pins D .next s') (Q:=fun v H1=>D.nx (σ.set k (some v)) H1) B hc hx hi ht he hs I hw fun C a oC ys H' s1 IX q rel=>?_) fun _ s' hq=>wpAny_pure (wpAny_pure hq))
 show wpAny _ _ (assign (.Name y py) X.env (.ref a)) _ _ s1
 refine thn (zgX (i:=k) hN hk (Or.inl hy) (.inr hy) _ s1 σ _ (.ref a) (.ref a) (fun σ' H'=>D.nx σ' H') IX rfl q) fun _ s' h=>?_
 obtain⟨σ',H'',I',q'⟩:=h
 obtain⟨⟨m,hn⟩,rl⟩:=rel _ _ _ I'
 exact⟨m,hn,fun h' hs'=>⟨σ',H'',rl h' hs',q'⟩⟩
end
end L2
namespace L2
open PySem PySem.Spec PyProof.Rows
section
variable {X:Cx} {p pos:Pos}
def zq9(K:PySem.W.Frag):List V->Hp->VK->Prop:=fun xs H Q=>∃x T t b,xs=[x,.ty T]/\TyOf K H x t/\PySem.W.kitOne K t (.type T)=some b/\Q (.bl b) H
theorem zk8:CallR X (.builtin "isinstance") (zq9 X.K):=by
 intro pins s σ H xs us Q I r h
 obtain⟨x,T,t,b,rfl,ty,e,q⟩:=h
 obtain⟨u,w',rfl,rx,ry⟩:=zkX r
 cases ry
 exact zjc I rx ty e fun tk=>⟨.bl b,H,I.tok tk,rfl,q⟩
theorem zk9(hc:X.calm=true):CallR X (.builtin "all") (fun xs H Q=>∃(a:Addr) (bs:List Bool),xs=[.ref a]/\SqL X.K H a (bs.map V.bl)/\Q (.bl (bs.all id)) H):=by
 intro pins s σ H xs us Q I r h
 obtain⟨a,bs,rfl,hq,q⟩:=h
 obtain⟨u,rfl,rx⟩:=zeO r
 cases rx
 obtain⟨its,rv,pl,hz⟩:=I.list hq
 have hlt:a<s.heap.objs.size:=by obtain⟨o,n,e,_⟩:=pl;exact Heap.lt_size e
 have hlen:bs.length=its.length:=by have:=rv.length;simpa using this
 have hh:X.A.in1.handled=none:=I.ok.hd hc
 refine call_all_walk (wpAny_pyIter_list pl.isList ?_)
 have tr:TruthOf X.prog X.w X.A.in1 (fun i v=>its.toArray[i]?=some v) (fun i=>bs.getD i true):=by
  intro i v s' Q' E' hv hQ
  have hv':its[i]?=some v:=by simpa using hv
  have hi:i<its.length:=(List.getElem?_eq_some_iff.mp hv').1
  have hb:bs[i]?=some bs[i]:=by simp[hlen,hi]
  obtain⟨u,hu,ru⟩:=rv.get (i:=i) (x:=V.bl (bs[i]'(by omega))) (by rw[List.getElem?_map,hb];rfl)
  rw[hv'] at hu
  cases hu
  cases (show v=Value.bool (bs[i]'(by omega)) from ru)
  have e:bs.getD i true=bs[i]'(by omega):=by rw[List.getD_eq_getElem?_getD,hb];rfl
  have hQ':Q' (bs.getD i true) s':=hQ
  rw[e] at hQ'
  exact wpAny_truthy_bool hQ'
 refine⟨s.heap.objs.size,_,_,its.toArray.size,_,_,fun i=>bs.getD i true,rfl,Walks.list hh s.heap.objs.size a (Nat.ne_of_lt hlt) its.toArray,⟨⟨_,Heap.get?_push_size _ rfl,rfl,rfl⟩,pl.isList.push _⟩,tr,fun h' tk hk=>?_⟩
 have I1:Inv X pins σ H { s with heap:=h',toks:=tk }:=I.kept fun b o e=>hk b o (by simpa using Nat.ne_of_lt (Heap.lt_size e)) (Heap.get?_push_of_some _ e)
 refine⟨.bl _,H,I1,rfl,?_⟩
 have e:(List.range its.toArray.size).all (fun i=>bs.getD i true)=bs.all id:=by
  rw[List.size_toArray,<- hlen]
  rw[Bool.eq_iff_iff,List.all_eq_true,List.all_eq_true]
  constructor
  ·intro z b hb
   obtain⟨i,hi,rfl⟩:=List.mem_iff_getElem.mp hb
   have:=z i (List.mem_range.mpr hi)
   rw[List.getD_eq_getElem?_getD] at this
   simpa[hi] using this
  ·intro z i hi
   have hi':=List.mem_range.mp hi
   have:=z (bs[i]) (List.getElem_mem hi')
   rw[List.getD_eq_getElem?_getD]
   simpa[hi'] using this
 rw[e]
 exact q
theorem zgZ:CallR X (.builtin "sorted") (fun xs H Q=>∃(a:Addr) (ns:List Int),xs=[.ref a]/\SqL X.K H a (ns.map V.int)/\ns.length<64/\∀ms:List Int,ms.Perm ns->ms.Pairwise (·<=·)->∀l,H l=none->Q (.ref l) (upd H l (.lst (ms.map V.int)))):=by
 intro pins s σ H xs us Q I r h
 obtain⟨a,ns,rfl,hq,h64,q⟩:=h
 obtain⟨u,rfl,rx⟩:=zeO r
 cases rx
 obtain⟨its,rv,pl,hz⟩:=I.list hq
 have hlen:ns.length=its.length:=by have:=rv.length;simpa using this
 refine sorted_ints pl.isList (zir rv) (by omega) fun out ms hI hp hs=>?_
 obtain⟨e,he⟩:=sortedAll_at s.heap its out
 have rv':Vals (ms.map V.int) out.toList:=zcw hI
 have hl':ms.length=ns.length:=hp.length_eq
 refine⟨.ref (s.heap.objs.size+1),_,I.laid (t':=s.toks) (a:=s.heap.objs.size+1) (o:=.lst (ms.map V.int)) (fun b o e=>sortedAll_old e) (Nat.le_succ _) ?_,rfl,q ms hp hs _ (I.hok.fresh (Nat.le_succ _))⟩
 refine⟨by rw[List.length_map,hl',hlen];have:=rv.length;omega,out.toList,e,rv',?_⟩
 rw[Array.toArray_toList]
 exact he
end
abbrev Rep(α:Type):=PySem.W.Frag->Hp->V->α->Prop
def ztd:Rep Int:=fun _ _ v i=>v=.int i
def zte{α:Type}(R:Rep α):Rep (List α):=fun K H v l=>∃p vs,v=.ref p/\SqL K H p vs/\Paired (R K H) vs l
def rPr{α β:Type}(R:Rep α)(S:Rep β):Rep (α×β):=fun K H v l=>∃p x y,v=.ref p/\SqT K H p [x,y]/\R K H x l.1/\S K H y l.2
theorem Paired.at2{α β:Type}{F:α->β->Prop}:∀{l₁:List α} {l₂:List β},Paired F l₁ l₂->∀(i:Nat) (a:α),l₁[i]?=some a->∃b,l₂[i]?=some b/\F a b
 | _,_,.nil,_,_,h=>by simp at h
 | _,_,.cons r t,0,a,h=>by simp at h;subst h;exact⟨_,rfl,r⟩
 | _,_,.cons r t,i+1,a,h=>by
  obtain⟨b,h1,h2⟩:=Paired.at2 t i a (by simpa using h)
  exact⟨b,by simpa using h1,h2⟩
section
variable {α β:Type} [DecidableEq α] [DecidableEq β] {n:Nat} {R:Rep α} {S:Rep β} {X:Cx} {pins:List (Addr×Obj)} {σ:St} {H:Hp} {s:Shared} {A:Around}
end
section
variable {α β:Type} [DecidableEq α] [DecidableEq β] {n:Nat} {R:Rep α} {S:Rep β}
end
section
variable {α:Type} [DecidableEq α] {n:Nat} {R:Rep α} {X:Cx}
end
section
variable {α β:Type} [DecidableEq α] [DecidableEq β] {n:Nat} {R:Rep α} {S:Rep β}
end
end L2
namespace L2
open PySem PySem.Spec PyProof.Rows
section
variable {X:Cx} {st:Stmt} {zeM:List Stmt} {t u:TS} {e:Expr} {te:TE} {tt:TT}
end
def zm4(N:List Str)(psc:Scope)(js:List Nat)(N':List Str)(scope:Scope):Bool :=
 scope.names.all (fun y=>decide (y.2≠.cell))&&decide (scope.kind=.function)&&scope.names.all (fun y=>decide (y.2=.local->scope.names.lookup y.1=some .local)) &&
 scope.names.all (fun y=>decide (y.2=.free->psc.names.lookup y.1=some .cell\/psc.names.lookup y.1=some .free))&&decide N'.Nodup&&decide (N'.length=js.length+1) &&
 (js.zip (N'.drop 1)).all (fun p=>decide (N[p.1]?=some p.2/\scope.names.lookup p.2=some .free))
theorem zaN{N:List Str}{psc:Scope}{js:List Nat}{N':List Str}{scope:Scope}(h:zm4 N psc js N' scope=true):BlkS N psc js N' scope:=by
 unfold zm4 at h
 simp only[Bool.and_eq_true,List.all_eq_true,decide_eq_true_eq] at h
 obtain⟨⟨⟨⟨⟨⟨h1,h2⟩,h3⟩,h4⟩,h5⟩,h6⟩,h7⟩:=h
 exact⟨h1,h2,h3,h4,h5,h6,h7⟩
theorem Room.cmp{k:Nat}{A:Around}(r:Room k A)(n:Nat)(h:n<=64:=by decide):A.units+n<cLine:=by have:=r.units;omega
theorem Paired.app{α β:Type}{F:α->β->Prop}:∀{l₁ m₁:List α} {l₂ m₂:List β},Paired F l₁ l₂->Paired F m₁ m₂->Paired F (l₁++m₁) (l₂++m₂)
 | _,_,_,_,.nil,s=>s
 | _,_,_,_,.cons r t,s=>.cons r (Paired.app t s)
def pr(H:Hp)(v:V)(l:Int×Int):Prop:=∃q,v=.ref q/\H q=some (.tup [.int l.1,.int l.2])
def Lns(H:Hp)(p:Addr)(L:List (Int×Int)):Prop:=∃vs,H p=some (.lst vs)/\Paired (pr H) vs L
def zra(H:Hp)(v:V)(r:List Int):Prop:=∃q,v=.ref q/\H q=some (.tup (r.map V.int))
def zrZ(H:Hp)(v:V)(rows:List (List Int)):Prop:=∃q vs,v=.ref q/\H q=some (.tup vs)/\Paired (zra H) vs rows
end L2
namespace L2
open PySem PySem.Spec PyProof.Rows
section
variable {X:Cx} (K:PySem.W.Frag)
theorem ixL(hK:X.K=K:=by rfl):IxR X (zq2 K):=hK▸zm1
theorem ixT(hK:X.K=K:=by rfl):IxR X (zq3 K):=hK▸zoI
theorem zoL(hK:X.K=K:=by rfl):CallR X (.builtin "isinstance") (zq9 K):=hK▸zk8
def zr0(K:PySem.W.Frag):List V->Hp->VK->Prop:=fun xs H Q=>∃(a:Addr) (bs:List Bool),xs=[.ref a]/\SqL K H a (bs.map V.bl)/\Q (.bl (bs.all id)) H
theorem zqo(hc:X.calm=true:=by rfl)(hK:X.K=K:=by rfl):CallR X (.builtin "all") (zr0 K):=hK▸zk9 hc
def zm5(K:PySem.W.Frag):List V->Hp->VK->Prop:=fun xs H Q=>∃(a:Addr) (ns:List Int),xs=[.ref a]/\SqL K H a (ns.map V.int)/\ns.length<64/\∀ms:List Int,ms.Perm ns->ms.Pairwise (·<=·)->∀l,H l=none->Q (.ref l) (upd H l (.lst (ms.map V.int)))
def zm6(K:PySem.W.Frag):List V->Hp->VK->Prop:=fun xs H Q=>∃p ys,xs=[.ref p]/\(SqL K H p ys\/SqT K H p ys)/\∀l,H l=none->Q (.ref l) (upd H l (.lst ys))
def zl5(K:PySem.W.Frag):List V->Hp->VK->Prop:=fun xs H Q=>∃p ys,xs=[.ref p]/\((SqL K H p ys/\∀l,H l=none->Q (.ref l) (upd H l (.tup ys)))\/(SqT K H p ys/\Q (.ref p) H))
theorem ze6(hK:X.K=K:=by rfl):CallR X (.type "tuple") (zl5 K):=hK▸zfu
theorem slL(hK:X.K=K:=by rfl):SlR X (zrW K):=hK▸zm2
variable {tg l a:Expr} {tl ta:TE}
def zsO(K:PySem.W.Frag)(ta:TE):TT:=fun σ H Q=>ta σ H fun x H'=>∃k,zqn K x H' k/\Q k H'
theorem zrb(ha:PE X a ta)(he:∀whole,isTrue a X.env whole=(do let v <- whole;standAt a.pos;holding [v] (truthy v)))(hK:X.K=K:=by rfl):PT X a (zsO K ta):=hK▸zkW ha he
variable {α:Type} [DecidableEq α] {n:Nat} {R:Rep α}
end
end L2
namespace L2
open PySem PySem.Spec PyProof.Rows
section
variable {κ:Type} [DecidableEq κ]
def zix(kvs:List (κ×V))(k:κ):Option V:=(kvs.find? fun kv=>decide (kv.1=k)).map (·.2)
def zf4(kvs:List (κ×V))(k:κ)(v:V):List (κ×V) :=
 if (kvs.any fun kv=>decide (kv.1=k))=true then kvs.map (fun kv=>if kv.1=k then (kv.1,v) else kv) else kvs++[(k,v)]
def zsP(kvs:List (κ×V))(k:κ):List (κ×V):=kvs.filter fun kv=>decide (kv.1≠k)
theorem zd2{p:κ×V}{r:List (κ×V)}{k:κ}(e:p.1=k):zix (p::r) k=some p.2:=by simp[zix,List.find?_cons,e]
theorem zd3{p:κ×V}{r:List (κ×V)}{k:κ}(e:¬p.1=k):zix (p::r) k=zix r k:=by simp[zix,List.find?_cons,e]
theorem zhM(k:κ):∀kvs:List (κ×V),(kvs.any fun kv=>decide (kv.1=k))=(zix kvs k).isSome
 | []=>rfl
 | p::r=>by
  rw[List.any_cons]
  by_cases e:p.1=k
  ·simp only[zd2 e,decide_eq_true e,Bool.true_or,Option.isSome_some]
  ·rw[zd3 e,decide_eq_false e,Bool.false_or];exact zhM k r
theorem zc7(kvs:List (κ×V))(k:κ)(v:V):(zf4 kvs k v).length<=kvs.length+1:=by
 unfold zf4
 split
 ·rw[List.length_map];omega
 ·rw[List.length_append,List.length_cons,List.length_nil];omega
theorem RelO.isSome_eq{o:Option V}{u:Option Value}(r:RelO o u):o.isSome=u.isSome:=by
 cases o with
 | none=>cases u with
  | none=>rfl
  | some _=>exact(show False from r).elim
 | some _=>cases u with
  | none=>exact(show False from r).elim
  | some _=>rfl
theorem KV.val{kvs:List (κ×V)}{vs:List (κ×Value)}(r:KV kvs vs)(k:κ):RelO (zix kvs k) (valueAt vs k):=by
 unfold KV at r
 induction r with
 | nil=>exact True.intro
 | @cons p q ps qs h t ih =>
  obtain⟨h1,h2⟩:=h
  by_cases e:p.1=k
  ·have e':q.1=k:=h1.symm.trans e
   have b:valueAt (q::qs) k=some q.2:=by simp[valueAt,List.find?_cons,e']
   rw[zd2 e,b];exact h2
  ·have e':¬q.1=k:=fun z=>e (h1.trans z)
   have b:valueAt (q::qs) k=valueAt qs k:=by simp[valueAt,List.find?_cons,e']
   rw[zd3 e,b];exact ih
theorem KV.any{kvs:List (κ×V)}{vs:List (κ×Value)}(r:KV kvs vs)(k:κ):(kvs.any fun kv=>decide (kv.1=k))=vs.any fun kv=>decide (kv.1=k):=by
 unfold KV at r
 induction r with
 | nil=>rfl
 | cons h t ih=>rw[List.any_cons,List.any_cons,ih,h.1]
theorem KV.repl{kvs:List (κ×V)}{vs:List (κ×Value)}(r:KV kvs vs)(k:κ){y:V}{u:Value}(ry:RelV y u) :
  KV (kvs.map fun kv=>if kv.1=k then (kv.1,y) else kv) (vs.map fun kv=>if kv.1=k then (kv.1,u) else kv):=by
 unfold KV at r ⊢
 induction r with
 | nil=>exact .nil
 | @cons p q ps qs h t ih =>
  rw[List.map_cons,List.map_cons]
  refine .cons ?_ ih
  obtain⟨h1,h2⟩:=h
  by_cases e:p.1=k
  ·rw[if_pos e,if_pos (h1.symm.trans e)];exact⟨h1,ry⟩
  ·rw[if_neg e,if_neg (fun z=>e (h1.trans z))];exact⟨h1,h2⟩
theorem KV.put{kvs:List (κ×V)}{vs:List (κ×Value)}(r:KV kvs vs)(k:κ){y:V}{u:Value}(ry:RelV y u):KV (zf4 kvs k y) (stored vs k u):=by
 unfold zf4 stored
 rw[r.any k]
 by_cases e:(vs.any fun kv=>decide (kv.1=k))=true
 ·rw[if_pos e,if_pos e];exact r.repl k ry
 ·rw[if_neg e,if_neg e];exact Paired.snoc r ⟨rfl,ry⟩
theorem KV.keys{kvs:List (κ×V)}{vs:List (κ×Value)}(r:KV kvs vs):kvs.map (·.1)=vs.map (·.1):=by
 unfold KV at r
 induction r with
 | nil=>rfl
 | cons h t ih=>rw[List.map_cons,List.map_cons,ih,h.1]
theorem KV.length{kvs:List (κ×V)}{vs:List (κ×Value)}(r:KV kvs vs):kvs.length=vs.length:=Paired.length r
end
theorem kV_is{P:Program}{w:World}{k:Key}{u:Value}(r:RelV (kV k) u):(za5 P w).is k u=true:=by
 cases k with
 | inl i=>obtain⟨t,e⟩:=(show ∃t,u=Value.int i t from r);subst e;exact zgU P w i t
 | inr x=>obtain⟨t,e⟩:=(show ∃t,u=Value.str x t from r);subst e;exact zgV P w x t
theorem zgf{P:Program}{w:World}:∀{ks:List Key} {us:List Value},Vals (ks.map kV) us->ItemsAre (za5 P w) ks us
 | [],_,r=>by rw[List.map_nil] at r;cases r;exact .nil
 | k::ks,_,r=>by
  rw[List.map_cons] at r
  cases r with
  | cons h t=>exact .cons (kV_is h) (zgf t)
abbrev KT(H:Hp):List (List Key×V)->List (List Key×Addr×Value)->Prop:=Paired fun p q=>p.1=q.1/\H q.2.1=some (.tup (p.1.map kV))/\RelV p.2 q.2.2
theorem KT.val{H:Hp}{kvs:List (List Key×V)}{xs:List (List Key×Addr×Value)}(r:KT H kvs xs)(k:List Key):RelO (zix kvs k) ((atKey xs k).map (·.2)):=by
 induction r with
 | nil=>exact True.intro
 | @cons p q ps qs h t ih =>
  obtain⟨h1,_,h2⟩:=h
  by_cases e:p.1=k
  ·have e':q.1=k:=h1.symm.trans e
   have b:atKey (q::qs) k=some q.2:=by simp[atKey,List.find?_cons,e']
   rw[zd2 e,b];exact h2
  ·have e':¬q.1=k:=fun z=>e (h1.trans z)
   have b:atKey (q::qs) k=atKey qs k:=by simp[atKey,List.find?_cons,e']
   rw[zd3 e,b];exact ih
theorem KT.repl{H:Hp}{kvs:List (List Key×V)}{xs:List (List Key×Addr×Value)}(r:KT H kvs xs)(k:List Key){y:V}{u:Value}(ry:RelV y u) :
  KT H (kvs.map fun kv=>if kv.1=k then (kv.1,y) else kv) (xs.map (putAt k u)):=by
 induction r with
 | nil=>exact .nil
 | @cons p q ps qs h t ih =>
  rw[List.map_cons,List.map_cons]
  refine .cons ?_ ih
  obtain⟨h1,h2,h3⟩:=h
  unfold putAt
  by_cases e:p.1=k
  ·rw[if_pos e,if_pos (h1.symm.trans e)];exact⟨h1,h2,ry⟩
  ·rw[if_neg e,if_neg (fun z=>e (h1.trans z))];exact⟨h1,h2,h3⟩
theorem KT.put{H:Hp}{kvs:List (List Key×V)}{xs:List (List Key×Addr×Value)}(r:KT H kvs xs)(k:List Key){b:Addr}{y:V}{u:Value}(hb:H b=some (.tup (k.map kV)))(ry:RelV y u) :
  KT H (zf4 kvs k y) (storedH xs k b u):=by
 have e:(kvs.any fun kv=>decide (kv.1=k))=(atKey xs k).isSome:=by
  rw[zhM,(r.val k).isSome_eq,Option.isSome_map]
 unfold zf4 storedH
 rw[e]
 by_cases q:(atKey xs k).isSome=true
 ·rw[if_pos q,if_pos q];exact r.repl k ry
 ·rw[if_neg q,if_neg q];exact Paired.snoc r ⟨rfl,hb,ry⟩
theorem KT.keeps{H H':Hp}{kvs:List (List Key×V)}{xs:List (List Key×Addr×Value)}(r:KT H kvs xs)(ht:∀b ys,H b=some (.tup ys)->H' b=some (.tup ys)):KT H' kvs xs :=
 Paired.mapP r fun _ _ z=>⟨z.1,ht _ _ z.2.1,z.2.2⟩
section
variable {P:Program} {w:World} {H:Hp} {h:Heap} {a:Addr}
theorem zoM{u:HO}(ok:HOk P w H h)(e:Rd H a u):ObjOk P w H h a u:=e.ok ok
theorem zjn{kvs:List (Key×V)}(ok:HOk P w H h)(e:Rd H a (.dK kvs)):kvs.length<=sizeLine/\(a==sysModules)=false/\∃vs,KV kvs vs/\h.DictOf (za5 P w) a vs :=
 show ObjOk P w H h a (.dK kvs) from zoM ok e
theorem zoN{kvs:List (Key×V)}(ok:HOk P w H h)(e:H a=some (.dK kvs)):kvs.length<=sizeLine/\(a==sysModules)=false/\∃vs,KV kvs vs/\h.DictOf (za5 P w) a vs:=zjn ok (.inl e)
theorem zjo{ks:List Key}(ok:HOk P w H h)(e:H a=some (.tup (ks.map kV))):(tupleKind (za5 P w)).is h ks a:=by
 obtain⟨_,its,r,o,h1,h2,⟨n,h3⟩,_⟩:=(show ObjOk P w H h a (.tup (ks.map kV)) from ok a _ e)
 exact⟨o,its.toArray,n,h1,h2,h3,by simpa using zgf r⟩
theorem zoO{kvs:List (List Key×V)}(ok:HOk P w H h)(e:Rd H a (.dT kvs)):kvs.length<=sizeLine/\(a==sysModules)=false /\
  ∃xs,KT H kvs xs/\h.DictOfH (tupleKind (za5 P w)) a xs:=by
 obtain⟨z,y,xs,r,o,es,ep,h1,h2,h3,h4,h5⟩:=(show ObjOk P w H h a (.dT kvs) from zoM ok e)
 refine⟨z,y,xs,r,o,es,ep,h1,h2,h3,h4,fun x hx=>?_,h5⟩
 have all:∀{l:List (List Key×V)} {m:List (List Key×Addr×Value)},KT H l m->∀x∈m,(tupleKind (za5 P w)).is h x.1 x.2.1:=by
  intro l m q
  induction q with
  | nil=>intro x hx;exact nomatch hx
  | @cons p q ps qs hq t ih =>
   intro x hx
   rcases List.mem_cons.mp hx with e|hx
   ·subst e
    exact zjo ok (by rw[<- hq.1];exact hq.2.1)
   ·exact ih x hx
 exact all r x hx
theorem zrc{kvs:List (List Key×V)}(ok:HOk P w H h)(e:H a=some (.dT kvs)):kvs.length<=sizeLine/\(a==sysModules)=false /\
  ∃xs,KT H kvs xs/\h.DictOfH (tupleKind (za5 P w)) a xs:=zoO ok (.inl e)
end
def DGet(H:Hp)(a:Addr)(y:V)(r:Option V):Prop :=
 (∃kvs k,Rd H a (.dK kvs)/\y=kV k/\r=zix kvs k)\/∃kvs k b,Rd H a (.dT kvs)/\y=.ref b/\H b=some (.tup (k.map kV))/\r=zix kvs k
def DPut(H:Hp)(a:Addr)(y v:V)(H':Hp):Prop :=
 (∃kvs k,H a=some (.dK kvs)/\y=kV k/\kvs.length<sizeLine/\H'=upd H a (.dK (zf4 kvs k v))) \/
 ∃kvs k b,H a=some (.dT kvs)/\y=.ref b/\H b=some (.tup (k.map kV))/\kvs.length<sizeLine/\H'=upd H a (.dT (zf4 kvs k v))
theorem DGet.k{H:Hp}{a:Addr}{kvs:List (Key×V)}{k:Key}(e:H a=some (.dK kvs)):DGet H a (kV k) (zix kvs k):=.inl ⟨kvs,k,.inl e,rfl,rfl⟩
theorem DPut.k{H:Hp}{a:Addr}{kvs:List (Key×V)}{k:Key}{v:V}(e:H a=some (.dK kvs))(hl:kvs.length<sizeLine):DPut H a (kV k) v (upd H a (.dK (zf4 kvs k v))):=.inl ⟨kvs,k,e,rfl,hl,rfl⟩
section
variable {X:Cx} {pins:List (Addr×Obj)} {σ:St} {H:Hp} {s:Shared} {a:Addr} {y v:V} {u r:Value} {o:Option V} {A:Around} {E:Value->Shared->Prop}
theorem Inv.big(I:Inv X pins σ H s):sysModules<s.heap.objs.size:=by
 have h:mainGlobals<s.heap.objs.size:=(I.mod.glob.keeps I.bk).lt
 exact Nat.lt_trans (by decide) h
theorem zm7{Q:Value->Shared->Prop}(hu:A.units+1<cLine)(I:Inv X pins σ H s)(g:DGet H a y o)(ry:RelV y u)(h:∀s',Inv X pins σ H s'->Q (.bool (!o.isSome)) s') :
  wpAny (model X.prog X.w) A (compareOp .NotIn u (.ref a)) Q E s:=by
 rcases g with ⟨kvs,k,e,ey,l⟩|⟨kvs,k,b,e,ey,eb,l⟩
 ·subst ey
  obtain⟨z,hd,vs,rel,dd⟩:=zjn I.hok e
  refine wpAny_notIn_of (kV_is ry) hd dd.mapOf ?_
  rw[<- (rel.val k).isSome_eq,<- l]
  exact h _ (I.tok _)
 ·subst ey
  cases (show u=Value.ref b from ry)
  obtain⟨z,hd,xs,rel,dd⟩:=zoO I.hok e
  refine wpAny_notIn_heap (tupleKind_room_in1 hu) (zjo I.hok eb) hd dd ?_
  have q:=(rel.val k).isSome_eq
  rw[Option.isSome_map] at q
  rw[<- q,<- l]
  exact h _ (I.tok _)
theorem zg0{h':Heap}{t':Nat}{ob:HO}(I:Inv X pins σ H s)(mu:Mut (H a))(hs:Heap.SameBut a s.heap h')(he:∃q,h'.get? a=some q)(new:ObjOk X.prog X.w (upd H a ob) h' a ob) :
  Inv X pins σ (upd H a ob) { s with heap:=h',toks:=t' } :=
 I.write (x:=a) (e:=a) mu (.inl rfl) (fun b q hb z=>(hs.2 b hb).trans z) he new
theorem zl6{P:Program}{w:World}{H':Hp}{h':Heap}{kvs:List (Key×V)}{vs:List (Key×Value)}(z:kvs.length<=sizeLine)(hd:(a==sysModules)=false)(rel:KV kvs vs)(dd:h'.DictOf (za5 P w) a vs) :
  ObjOk P w H' h' a (.dK kvs):=⟨z,hd,vs,rel,dd⟩
theorem zjp{H':Hp}{Q:Unit->Shared->Prop}(hu:A.units+1<cLine)(I:Inv X pins σ H s)(g:DPut H a y v H')(ry:RelV y u)(rv:RelV v r)(h:∀s',Inv X pins σ H' s'->Q () s') :
  wpAny (model X.prog X.w) A (setItem (.ref a) u r) Q E s:=by
 rcases g with ⟨kvs,k,e,ey,l,eH⟩|⟨kvs,k,b,e,ey,eb,l,eH⟩
 ·subst ey eH
  obtain⟨z,hd,vs,rel,dd⟩:=zoN I.hok e
  have hz:vs.length<=sizeLine:=by rw[<- rel.length];exact z
  have hl:(zf4 kvs k v).length<=sizeLine:=by have:=zc7 kvs k v;omega
  refine wpAny_setItem_pairs (hsz:=hz) (kV_is ry) dd fun h' dd' hs=>h _ ?_
  have he:∃q,h'.get? a=some q:=let ⟨q,_,_,hq,_⟩:=dd';⟨q,hq⟩
  exact zg0 I (by rw[e];exact True.intro) hs he (zl6 hl hd (rel.put k rv) dd')
 ·subst ey eH
  cases (show u=Value.ref b from ry)
  obtain⟨z,hd,xs,rel,dd⟩:=zrc I.hok e
  have hz:xs.length<=sizeLine:=by rw[<- Paired.length rel];exact z
  have hl:(zf4 kvs k v).length<=sizeLine:=by have:=zc7 kvs k v;omega
  refine wpAny_setItem_heap (hsz:=hz) (tupleKind_room_in1 hu) (zjo I.hok eb) dd fun h' dd' hs=>h _ ?_
  obtain⟨q,es,ep,hq,h2,h3,h4,_,h5⟩:=dd'
  refine zg0 I (by rw[e];exact True.intro) hs ⟨q,hq⟩ ⟨hl,hd,_,(rel.put k eb rv).keeps fun c ys ec=>?_,q,es,ep,hq,h2,h3,h4,h5⟩
  rw[zaL (zqz ec e (fun z=>nomatch z))]
  exact ec
end
section
variable {X:Cx} {pins:List (Addr×Obj)} {σ:St} {H:Hp} {s:Shared} {a:Addr} {kvs:List (Key×V)} {k:Key} {u:Value} {A:Around} {E:Value->Shared->Prop}
theorem zrd{Q:Value->Shared->Prop}(I:Inv X pins σ H s)(e:Rd H a (.dK kvs))(h:∀t s',Inv X pins σ H s'->Q (.int kvs.length t) s'):wpAny (model X.prog X.w) A (call (.builtin "len") [.ref a]) Q E s:=by
 obtain⟨z,hd,vs,rel,dd⟩:=zjn I.hok e
 refine call_len_dict hd dd (by rw[<- rel.length];rw[sizeLine_eq] at z;omega) ?_
 rw[<- rel.length]
 exact h _ _ (I.tok _)
end
def zm8(ty td:TE):TE:=fun σ H Q=>ty σ H fun y H1=>td σ H1 fun x H2=>∃a o,x=.ref a/\DGet H2 a y o/\Q (.bl (!o.isSome)) H2
def zre(td ty tv:TE):TS:=fun D σ H=>tv σ H fun v H1=>td σ H1 fun x H2=>ty σ H2 fun y H3=>∃a H4,x=.ref a/\DPut H3 a y v H4/\D.nx σ H4
section
variable {X:Cx} {o i e value:Expr} {pos pos' tpos:Pos} {td ty tv:TE}
theorem zjq(hu:X.A.units+1<cLine)(hi:PE X i ty)(ho:PE X o td):PC X .NotIn i o (zm8 ty td):=by
 intro pins s σ H Q I h
 refine thn (hi pins s σ H _ I h) fun iv s1 ⟨y,H1,I1,ry,q1⟩=>thn (ho pins s1 σ H1 _ I1 q1) fun u s2 ⟨x,H2,I2,rx,a,ov,ex,g,q2⟩=>?_
 subst ex
 obtain rfl:u=Value.ref a:=rx
 exact zm7 hu I2 g ry fun s3 I3=>⟨.bl (!ov.isSome),H2,I3,rfl,q2⟩
theorem zm9(hu:X.A.units+1<cLine)(ho:PE X o td)(hi:PE X i ty)(hv:PE X value tv)(hs:swapsWith value (some (.Subscript o i pos')) pos.line X.env=pure false) :
  PS X (.Assign [.Subscript o i pos'] value pos) (zre td ty tv):=by
 intro pins s σ H D I h
 refine wpAny_Assign_Subscript (thn (hv pins s σ H _ I h) fun r s1 ⟨v,H1,I1,rv,q1⟩=>thn (ho pins s1 σ H1 _ I1 q1) fun u s2 ⟨x,H2,I2,rx,q2⟩=>thn (hi pins s2 σ H2 _ I2 q2) fun iv s3 ⟨y,H3,I3,ry,a,H4,ex,g,q3⟩=>?_) hs
 subst ex
 obtain rfl:u=Value.ref a:=rx
 exact zjp hu I3 g ry rv fun s4 I4=>⟨σ,H4,I4,q3⟩
end
theorem zhN{P:Program}{w:World}{H:Hp}(h:Heap)(hb:sysModules<h.objs.size):ObjOk P w H (h.push { cls:=.type "dict",data:=.dict #[] }) h.objs.size (.dK []) :=
 ⟨Nat.zero_le _,beq_eq_false_iff_ne.mpr (Ne.symm (Nat.ne_of_lt hb)),[],.nil,Heap.DictOf.new h⟩
def zoP:TE:=fun _ H Q=>∀p,H p=none->Q (.ref p) (upd H p (.dK []))
section
variable {X:Cx} {pos:Pos}
theorem zla:PE X (.Dict [] [] pos) zoP:=fun pins s σ H Q I h =>
 wpAny_Dict_empty ⟨.ref s.heap.objs.size,_,I.laid (a:=s.heap.objs.size) (o:=.dK []) (t':=s.toks) (fun _ _ q=>Heap.get?_push_of_some _ q) (Nat.le_refl _) (zhN s.heap I.big),rfl,h _ (I.hok.fresh (Nat.le_refl _))⟩
end
def zjr:List (TE×TE)->St->Hp->(List (V×V)->Hp->Prop)->Prop
 | [],_,H,Q=>Q [] H
 | (tk,tv)::r,σ,H,Q=>tk σ H fun x H1=>tv σ H1 fun y H2=>zjr r σ H2 fun ps H3=>Q ((x,y)::ps) H3
abbrev VV:List (V×V)->List (Value×Value)->Prop:=Paired fun p q=>RelV p.1 q.1/\RelV p.2 q.2
def PPs(X:Cx)(pos:Pos)(keys:List (Option Expr))(values:List Expr)(trs:List (TE×TE)):Prop :=
 ∀(pins:List (Addr×Obj)) (s:Shared) (σ:St) (H:Hp) (Q:List (V×V)->Hp->Prop),Inv X pins σ H s->zjr trs σ H Q ->
  wpAny (model X.prog X.w) X.A (evalPairs (pairTrees keys values X.env pos)) (fun vs s'=>∃ps H',Inv X pins σ H' s'/\VV ps vs/\Q ps H') X.xe s
theorem zna{X:Cx}{pos:Pos}:PPs X pos [] [] []:=fun pins s σ H Q I h=>pairTrees_nil_walk ⟨[],H,I,.nil,h⟩
theorem zlb{X:Cx}{pos:Pos}{k v:Expr}{ks:List (Option Expr)}{vs:List Expr}{tk tv:TE}{trs:List (TE×TE)}(hk:PE X k tk)(hv:PE X v tv)(hr:PPs X pos ks vs trs) :
  PPs X pos (some k::ks) (v::vs) ((tk,tv)::trs):=fun pins s σ H Q I h =>
 pairTrees_cons_walk (thn (hk pins s σ H _ I h) fun u s1 ⟨x,H1,I1,rx,q1⟩=>thn (hv pins s1 σ H1 _ I1 q1) fun w2 s2 ⟨y,H2,I2,ry,q2⟩ =>
  thn (hr pins s2 σ H2 _ I2 q2) fun ws s3 ⟨ps,H3,I3,rel,q3⟩=>⟨(x,y)::ps,H3,I3,.cons ⟨rx,ry⟩ rel,q3⟩)
def zec(kvs more:List (Key×V)):List (Key×V):=more.foldl (fun acc kv=>zf4 acc kv.1 kv.2) kvs
theorem KV.merge:∀{more:List (Key×V)} {rs:List (Key×Value)} {kvs:List (Key×V)} {vs:List (Key×Value)},KV more rs->KV kvs vs->KV (zec kvs more) (merged vs rs):=by
 intro more rs kvs vs r
 unfold KV at r
 induction r generalizing kvs vs with
 | nil=>intro q;exact q
 | @cons p q ps qs h t ih =>
  intro r0
  have e:KV (zf4 kvs p.1 p.2) (stored vs q.1 q.2):=by
   have:=r0.put p.1 h.2
   rw[<- h.1];exact this
  exact ih e
theorem zdf:∀(more kvs:List (Key×V)),(zec kvs more).length<=kvs.length+more.length
 | [],kvs=>by show kvs.length<=kvs.length+0;omega
 | p::r,kvs=>by
  have h1:=zdf r (zf4 kvs p.1 p.2)
  have h2:=zc7 kvs p.1 p.2
  show(zec (zf4 kvs p.1 p.2) r).length<=_
  rw[List.length_cons];omega
theorem ze7{P:Program}{w:World}:∀{kvs:List (Key×V)} {ws:List (Value×Value)},VV (kvs.map fun kv=>(kV kv.1,kv.2)) ws->∃rs,Carries (za5 P w) ws rs/\KV kvs rs
 | [],_,r=>by rw[List.map_nil] at r;cases r;exact⟨[],True.intro,.nil⟩
 | p::kvs,_,r=>by
  rw[List.map_cons] at r
  cases r with
  | @cons a b as bs h t =>
   obtain⟨rs,c,q⟩:=ze7 (P:=P) (w:=w) t
   obtain⟨b1,b2⟩:=b
   exact⟨(p.1,b2)::rs,⟨kV_is h.1,rfl,c⟩,.cons ⟨rfl,h.2⟩ q⟩
def zrf(trs:List (TE×TE)):TE:=fun σ H Q=>∀p,H p=none->zjr trs σ (upd H p (.dK [])) fun ps H2=>H2 p=some (.dK [])/\∃kvs:List (Key×V),ps=kvs.map (fun kv=>(kV kv.1,kv.2))/\kvs.length<=15/\Q (.ref p) (upd H2 p (.dK (zec [] kvs)))
theorem znb{X:Cx}{pos:Pos}{keys:List (Option Expr)}{values:List Expr}{trs:List (TE×TE)}(h:PPs X pos keys values trs)(hall:keys.all (·.isSome)=true)(hl:keys.length=values.length)(h0:keys≠[])(h15:keys.length<=15):PE X (.Dict keys values pos) (zrf trs):=by
 intro pins s σ H Q I q
 have hn:=I.hok.fresh (Nat.le_refl s.heap.objs.size)
 have I1:=I.laid (a:=s.heap.objs.size) (o:=.dK []) (h':=s.heap.push { cls:=.type "dict",data:=.dict #[] }) (t':=s.toks) (fun _ _ q=>Heap.get?_push_of_some _ q) (Nat.le_refl _) (zhN s.heap I.big)
 refine wpAny_Dict_walk (knd:=za5 X.prog X.w) hall hl h0 h15 (thn (h pins _ σ _ _ I1 (q _ hn)) fun ws s2 ⟨ps,H2,I2,rel,e,kvs,ep,lk,q2⟩=>?_)
 subst ep
 obtain⟨rs,c,rk⟩:=ze7 (P:=X.prog) (w:=X.w) rel
 obtain⟨z,hd,vs0,r0,dd⟩:=zoN I2.hok e
 cases r0
 refine⟨rs,c,dd,fun h' dd' hs=>⟨.ref s.heap.objs.size,_,?_,rfl,q2⟩⟩
 have hz:(zec [] kvs).length<=sizeLine:=by
  have h1:=zdf kvs []
  rw[List.length_nil] at h1
  rw[sizeLine_eq];omega
 have he:∃q,h'.get? s.heap.objs.size=some q:=let ⟨q,_,_,hq,_⟩:=dd';⟨q,hq⟩
 exact zg0 I2 (by rw[e];exact True.intro) hs he (zl6 hz hd (rk.merge .nil) dd')
structure M1 (X:Cx) (o:Expr) (m:Str) (apos:Pos) (e:Expr) (cpos:Pos):Prop where
 base:attributeBase o m X.env (eval o X.env)=eval o X.env
 few:((backTo cpos (starEach [e] X.env)).all (fun x=>!x.1)&&(backToKw cpos (keywordEach [] X.env)).all (fun x=>x.1.isSome)
  && decide (([e]:List Expr).length+([]:List Keyword).length+(if ([]:List Keyword).isEmpty then 0 else 1)<30))=true
 line:(apos.endLine==cpos.line)=true
 trees:backTo cpos (starEach [e] X.env)=[(false,eval e X.env)]
section
variable {X:Cx} {pins:List (Addr×Obj)} {σ:St} {H:Hp} {s:Shared} {a:Addr} {y d:V} {u r:Value} {o:Option V} {A:Around} {E:Value->Shared->Prop}
end
section
variable {X:Cx} {o e f:Expr} {apos cpos:Pos} {td ty tx:TE}
end
section
variable {X:Cx} {pins:List (Addr×Obj)} {σ:St} {H:Hp} {s:Shared} {a:Addr} {kvs:List (Key×V)} {A:Around} {E:Value->Shared->Prop}
end
section
variable {X:Cx} {pins:List (Addr×Obj)} {σ:St} {H:Hp} {s:Shared} {a:Addr} {y:V} {u:Value} {A:Around} {E:Value->Shared->Prop}
end
end L2
namespace L2
open PySem PySem.Spec PyProof.Rows
section
variable {X:Cx}
theorem zjs:CallR X (.builtin "len") (fun xs H Q=>∃a kvs,xs=[V.ref a]/\H a=some (.dK kvs)/\Q (.int kvs.length) H):=by
 intro pins s σ H xs us Q I r h
 obtain⟨a,kvs,rfl,ha,q⟩:=h
 obtain⟨u,rfl,ru⟩:=zeO r
 cases ru
 exact zrd I (.inl ha) fun t s' I'=>⟨.int kvs.length,H,I',⟨t,rfl⟩,q⟩
section
variable {κ:Type} [DecidableEq κ]
end
end
end L2
namespace L2
open PySem PySem.Spec PyProof.Rows
section
variable {X:Cx}
theorem ze8{P:Program}{w:World}{kvs:List (Key×V)}{vs:List (Key×Value)}{ns:List Int}(rel:KV kvs vs)(hk:kvs.map (·.1)=ns.map Sum.inl){acc:Array Value}(h:ItemsOf (fun i v=>∃k x,vs[i]?=some (k,x)/\(za5 P w).is k v=true) acc vs.length):IntsAre acc.toList ns:=by
 have hl:acc.toList.length=ns.length:=by
  rw[Array.length_toList,h.1,<- List.length_map (f:=fun x:Key×Value=>x.1),<- KV.keys rel,hk,List.length_map]
 have at':∀(i:Nat) (v:Value),acc.toList[i]?=some v->∃t,v=Value.int (ns.getD i 0) t:=by
  intro i v hv
  obtain⟨k,x,h1,h2⟩:=h.2 i v (by rw[<- Array.getElem?_toList];exact hv)
  have e:(ns.map Sum.inl:List Key)[i]?=some k:=by
   rw[<- hk,KV.keys rel,List.getElem?_map,h1];rfl
  rw[List.getElem?_map] at e
  cases q:ns[i]? with
  | none=>rw[q] at e;cases e
  | some n =>
   rw[q] at e
   simp only[Option.map_some,Option.some.injEq] at e
   subst e
   rcases zaU (k:=Sum.inl n) (v:=v) h2 with ⟨j,t,e1,e2⟩|⟨j,t,e1,e2⟩
   ·cases e1
    exact⟨t,by rw[e2,List.getD_eq_getElem?_getD,q];rfl⟩
   ·cases e1
 clear h
 revert hl at'
 generalize acc.toList=us
 clear hk
 induction ns generalizing us with
 | nil=>intro hl _;cases us with|nil=>exact .nil|cons a r=>simp at hl
 | cons n ns ih =>
  intro hl h
  cases us with
  | nil=>simp at hl
  | cons a r =>
   obtain⟨t,rfl⟩:=h 0 a rfl
   exact .cons n t (ih r (by simpa using hl) fun i v hv=>h (i+1) v hv)
theorem zgg(hc:X.calm=true):CallR X (.builtin "sorted") (fun xs H Q=>∃(a:Addr) (kvs:List (Key×V)) (ns:List Int),xs=[.ref a]/\Rd H a (.dK kvs)/\kvs.map (·.1)=ns.map Sum.inl/\ns.length<64 /\
  ∀ms:List Int,ms.Perm ns->ms.Pairwise (·<=·)->∀l,H l=none->Q (.ref l) (upd H l (.lst (ms.map V.int)))):=by
 intro pins s σ H xs us Q I r h
 obtain⟨a,kvs,ns,rfl,hd,hk,h64,q⟩:=h
 obtain⟨u,rfl,rx⟩:=zeO r
 cases rx
 obtain⟨hz,hS,vs,rel,dd⟩:=zjn I.hok hd
 obtain⟨ep,hat⟩:=dd.dictAt
 have hh:X.A.in1.handled=none:=I.ok.hd hc
 have hlen:vs.length=ns.length:=by rw[<- KV.length rel,<- List.length_map (f:=fun x:Key×V=>x.1),hk,List.length_map]
 refine Calls.call_function_entry kind_sorted plain_sorted entry_sorted (args_sorted1 _) ?_
 unfold Builtin.«sorted»
 refine wpAny_bind (m:=checkCount "sorted" 1 1 _) (wpAny_pure ?_)
 refine wpAny_bind (PySem.W.kdu_collect (A:=X.A.in1) (PySem.W.kdl_dict (knd:=za5 X.prog X.w) (kvs:=vs) (ep:=ep) hS) hh hat (by rw[<- KV.length rel];exact hz) fun h' tk acc hkp hacc=>?_)
 have hI:=ze8 rel hk hacc
 have hal:acc.toList.length=ns.length:=by rw[Array.length_toList,hacc.1,hlen]
 refine wpAny_bind (wpAny_newList ?_ (by rw[hal,<- hlen,<- KV.length rel];exact hz))
 have hoL:(h'.push (seqObj "list" acc.toList.toArray 0)).get? h'.objs.size=some (seqObj "list" acc.toList.toArray 0):=Heap.get?_push_size _ rfl
 refine wpAny_bind (wpAny_holding (wpAny_call_entry slot_list_sort ⟨_,hoL,rfl⟩ entry_list_sort (list_sort_tree hoL hI (by omega) fun out ns' a1 a2 a3=>⟨_,rfl,?_⟩) (args_list_sort _)))
 refine wpAny_pure ⟨_,rfl,?_⟩
 obtain⟨e,he⟩:=sortedHeap_at (out:=out) hoL
 have I1:Inv X pins σ H { s with heap:=h',toks:=tk }:=I.kept hkp
 have rv':Vals (ns'.map V.int) out.toList:=zcw a1
 refine⟨.ref h'.objs.size,_,I1.laid (t':=tk) (a:=h'.objs.size) (o:=.lst (ns'.map V.int)) (fun b o hb=>?_) (Nat.le_refl _) ?_,rfl,q ns' a2 a3 _ I1.fresh⟩
 ·have hb:h'.get? b=some o:=hb
  have hlt:=Heap.lt_size hb
  show(sortedHeap (h'.push (seqObj "list" acc.toList.toArray 0)) h'.objs.size acc.toList out).get? b=some o
  rw[sortedHeap_old (Nat.ne_of_lt hlt) (by rw[size_push'];exact Nat.lt_succ_of_lt hlt)]
  exact Heap.get?_push_of_some _ hb
 ·refine⟨by rw[List.length_map,a2.length_eq,<- hlen,<- KV.length rel];exact hz,out.toList,e,rv',?_⟩
  rw[Array.toArray_toList]
  exact he
theorem ziy(hc:X.calm=true):CallR X (.type "list") (fun xs H Q=>∃(a:Addr) (kvs:List (Key×V)) (ns:List Int),xs=[.ref a]/\Rd H a (.dK kvs)/\kvs.map (·.1)=ns.map Sum.inl/\∀l,H l=none->Q (.ref l) (upd H l (.lst (ns.map V.int)))):=by
 intro pins s σ H xs us Q I r h
 obtain⟨a,kvs,ns,rfl,hd,hk,q⟩:=h
 obtain⟨u,rfl,rx⟩:=zeO r
 cases rx
 obtain⟨hz,hS,vs,rel,dd⟩:=zjn I.hok hd
 obtain⟨ep,hat⟩:=dd.dictAt
 have hlen:vs.length=ns.length:=by rw[<- KV.length rel,<- List.length_map (f:=fun x:Key×V=>x.1),hk,List.length_map]
 refine PySem.W.kdl_call (PySem.W.kdl_dict (knd:=za5 X.prog X.w) (kvs:=vs) (ep:=ep) hS) (I.ok.hd hc) hat (by rw[<- KV.length rel];exact hz) fun h' tk acc c hkp hD hacc=>?_
 have hI:=ze8 rel hk hacc
 refine⟨.ref s.heap.objs.size,_,I.laid (t':=tk) (a:=s.heap.objs.size) (o:=.lst (ns.map V.int)) hkp (Nat.le_refl _) ?_,rfl,q _ I.fresh⟩
 refine⟨by rw[List.length_map,<- hlen,<- KV.length rel];exact hz,acc.toList,c,zcw hI,?_⟩
 rw[Array.toArray_toList]
 exact hD
theorem zlc(hc:X.calm=true):CallR X (.builtin "any") (fun xs H Q=>∃(a:Addr) (bs:List Bool),xs=[.ref a]/\SqL X.K H a (bs.map V.bl)/\Q (.bl (bs.any id)) H):=by
 intro pins s σ H xs us Q I r h
 obtain⟨a,bs,rfl,hq,q⟩:=h
 obtain⟨u,rfl,rx⟩:=zeO r
 cases rx
 obtain⟨its,rv,pl,hz⟩:=I.list hq
 have hlt:a<s.heap.objs.size:=by obtain⟨o,n,e,_⟩:=pl;exact Heap.lt_size e
 have hlen:bs.length=its.length:=by have:=rv.length;simpa using this
 have hh:X.A.in1.handled=none:=I.ok.hd hc
 refine call_any_walk (wpAny_pyIter_list pl.isList ?_)
 have tr:TruthOf X.prog X.w X.A.in1 (fun i v=>its.toArray[i]?=some v) (fun i=>bs.getD i false):=by
  intro i v s' Q' E' hv hQ
  have hv':its[i]?=some v:=by simpa using hv
  have hi:i<its.length:=(List.getElem?_eq_some_iff.mp hv').1
  have hb:bs[i]?=some bs[i]:=by simp[hlen,hi]
  obtain⟨u,hu,ru⟩:=rv.get (i:=i) (x:=V.bl (bs[i]'(by omega))) (by rw[List.getElem?_map,hb];rfl)
  rw[hv'] at hu
  cases hu
  cases (show v=Value.bool (bs[i]'(by omega)) from ru)
  have e:bs.getD i false=bs[i]'(by omega):=by rw[List.getD_eq_getElem?_getD,hb];rfl
  have hQ':Q' (bs.getD i false) s':=hQ
  rw[e] at hQ'
  exact wpAny_truthy_bool hQ'
 refine⟨s.heap.objs.size,_,_,its.toArray.size,_,_,fun i=>bs.getD i false,rfl,Walks.list hh s.heap.objs.size a (Nat.ne_of_lt hlt) its.toArray,⟨⟨_,Heap.get?_push_size _ rfl,rfl,rfl⟩,pl.isList.push _⟩,tr,fun h' tk hk=>?_⟩
 have I1:Inv X pins σ H { s with heap:=h',toks:=tk }:=I.kept fun b o e=>hk b o (by simpa using Nat.ne_of_lt (Heap.lt_size e)) (Heap.get?_push_of_some _ e)
 refine⟨.bl _,H,I1,rfl,?_⟩
 have e:(List.range its.toArray.size).any (fun i=>bs.getD i false)=bs.any id:=by
  rw[List.size_toArray,<- hlen]
  rw[Bool.eq_iff_iff,List.any_eq_true,List.any_eq_true]
  constructor
  ·rintro⟨i,hi,z⟩
   have hi':=List.mem_range.mp hi
   refine⟨bs[i],List.getElem_mem hi',?_⟩
   rw[List.getD_eq_getElem?_getD] at z
   simpa[hi'] using z
  ·rintro⟨b,hb,z⟩
   obtain⟨i,hi,rfl⟩:=List.mem_iff_getElem.mp hb
   refine⟨i,List.mem_range.mpr hi,?_⟩
   rw[List.getD_eq_getElem?_getD]
   simpa[hi] using z
 rw[e]
 exact q
end
end L2
namespace L2
open PySem PySem.Spec PyProof.Rows
section
variable {X:Cx} {tg:Expr}
def Itd(a:Addr)(o:Obj)(ps:List (Key×V)):It where
 go:=fun i H=>H a=some (.frz o (.dK ps))/\i<ps.length
 yld:=fun i H x H'=>H'=H/\∃p,ps[i]?=some p/\x=kV p.1
 stop:=fun i H=>H a=some (.frz o (.dK ps))/\ps.length=i
end
end L2
namespace L2
open PySem PySem.Spec PyProof.Rows
section
variable {prog:Program} {w:World} {A:Around} {E:Value->Shared->Prop} {s:Shared}
end
end L2
namespace VS
open PySem PySem.Spec PyProof.Rows L2
abbrev St:=L2.St
theorem zaB{α:Type}{l:List α}{k:Nat}{a:α}(h:l[k]?=some a):k<l.length:=(List.getElem?_eq_some_iff.mp h).1
theorem zhO{α:Type}{l:List α}(h:l.Nodup){i j:Nat}(hi:i<l.length)(hj:j<l.length)(e:l[i]=l[j]):i=j:=by
 have p:=List.pairwise_iff_getElem.mp h
 rcases Nat.lt_trichotomy i j with q|q|q
 ·exact absurd e (p i j hi hj q)
 ·exact q
 ·exact absurd e.symm (p j i hj hi q)
inductive W where
 | non|bl (b:Bool)|int (i:Int)|str (x:Str)|ty (n:String)|lst (xs:List W)|tup (xs:List W)|cel (k:Nat)
inductive C where
 | lst (xs:List W)|dct (kvs:List (Key×W))|ins (c:Str) (fs:List (Str×W))|exn (c:Str)|dead|fzd (kvs:List (Key×W))|dtp (kvs:List (List Key×W))
def C.nf:C->Bool
 | .fzd _=>false
 | _=>true
def nfz:HO->Bool
 | .frz _ _=>false
 | _=>true
abbrev Ce:=List C
abbrev Sl:=List (Option W)
structure Exn where
 nm:Str
 fld:Option (Str×W)
inductive R (α:Type) where
 | ok (a:α) (ce:Ce)|ex (x:Exn) (ce:Ce)
abbrev M(α:Type):=Ce->Option (R α)
structure Ga where
 K:PySem.W.Frag
 cl:Str->Addr
 xr:Exn->Value->Option Addr->Hp->Prop
mutual
def Rep(F:Hp)(as:List Addr):W->V->Prop
 | .non,v=>v=.non
 | .bl b,v=>v=.bl b
 | .int i,v=>v=.int i
 | .str x,v=>v=.str x
 | .ty n,v=>v=.ty n
 | .lst xs,v=>∃a vs,v=.ref a/\Rd F a (.lst vs)/\Reps F as xs vs
 | .tup xs,v=>∃a vs,v=.ref a/\F a=some (.tup vs)/\Reps F as xs vs
 | .cel k,v=>∃a,v=.ref a/\as[k]?=some a
def Reps(F:Hp)(as:List Addr):List W->List V->Prop
 | [],vs=>vs=[]
 | x::xs,vs=>∃v r,vs=v::r/\Rep F as x v/\Reps F as xs r
end
structure Le (F:Hp) (as:List Addr) (F':Hp) (as':List Addr):Prop where
 f:∀a o,F a=some o->F' a=some o
 c:∀(k:Nat) (a:Addr),as[k]?=some a->as'[k]?=some a
theorem Le.refl{F:Hp}{as:List Addr}:Le F as F as:=⟨fun _ _ h=>h,fun _ _ h=>h⟩
theorem Le.trans{F F1 F2:Hp}{as as1 as2:List Addr}(h:Le F as F1 as1)(h':Le F1 as1 F2 as2):Le F as F2 as2:=⟨fun a o e=>h'.f a o (h.f a o e),fun k a e=>h'.c k a (h.c k a e)⟩
theorem Le.rd{F F':Hp}{as as':List Addr}(h:Le F as F' as'){a:Addr}{o:HO}(r:Rd F a o):Rd F' a o:=by
 rcases r with r|⟨u,r⟩
 ·exact .inl (h.f _ _ r)
 ·exact .inr ⟨u,h.f _ _ r⟩
mutual
theorem Rep.le{F F':Hp}{as as':List Addr}(h:Le F as F' as'):∀{w:W} {v:V},Rep F as w v->Rep F' as' w v
 | .non,_,r=>by simpa only[Rep] using r
 | .bl _,_,r=>by simpa only[Rep] using r
 | .int _,_,r=>by simpa only[Rep] using r
 | .str _,_,r=>by simpa only[Rep] using r
 | .ty _,_,r=>by simpa only[Rep] using r
 | .lst xs,_,r=>by
  simp only[Rep] at r ⊢
  obtain⟨a,vs,e,q,s⟩:=r
  exact⟨a,vs,e,h.rd q,Reps.le h s⟩
 | .tup xs,_,r=>by
  simp only[Rep] at r ⊢
  obtain⟨a,vs,e,q,s⟩:=r
  exact⟨a,vs,e,h.f _ _ q,Reps.le h s⟩
 | .cel k,_,r=>by
  simp only[Rep] at r ⊢
  obtain⟨a,e,q⟩:=r
  exact⟨a,e,h.c _ _ q⟩
theorem Reps.le{F F':Hp}{as as':List Addr}(h:Le F as F' as'):∀{ws:List W} {vs:List V},Reps F as ws vs->Reps F' as' ws vs
 | [],_,r=>by simpa only[Reps] using r
 | _::_,_,r=>by
  simp only[Reps] at r ⊢
  obtain⟨v,r',e,q,s⟩:=r
  exact⟨v,r',e,Rep.le h q,Reps.le h s⟩
end
section
variable {F:Hp} {as:List Addr}
theorem Reps.nil:Reps F as [] []:=by simp only[Reps]
theorem Reps.cons{w:W}{v:V}{ws:List W}{vs:List V}(h:Rep F as w v)(t:Reps F as ws vs):Reps F as (w::ws) (v::vs):=by simp only[Reps];exact⟨v,vs,rfl,h,t⟩
theorem Reps.length:∀{ws:List W} {vs:List V},Reps F as ws vs->vs.length=ws.length
 | [],_,r=>by simp only[Reps] at r;subst r;rfl
 | _::_,_,r=>by
  simp only[Reps] at r
  obtain⟨v,r',rfl,_,s⟩:=r
  simp only[List.length_cons,Reps.length s]
theorem Reps.get:∀{ws:List W} {vs:List V} {i:Nat} {w:W},Reps F as ws vs->ws[i]?=some w->∃v,vs[i]?=some v/\Rep F as w v
 | [],_,_,_,_,e=>by simp at e
 | _::_,_,0,_,r,e=>by
  simp only[Reps] at r
  obtain⟨v,r',rfl,q,s⟩:=r
  simp at e;subst e
  exact⟨v,rfl,q⟩
 | _::_,_,i+1,w,r,e=>by
  simp only[Reps] at r
  obtain⟨v,r',rfl,q,s⟩:=r
  obtain⟨u,h1,h2⟩:=Reps.get (i:=i) (w:=w) s (by simpa using e)
  exact⟨u,by simpa using h1,h2⟩
theorem Reps.get'{ws:List W}{vs:List V}{i:Nat}{v:V}(r:Reps F as ws vs)(e:vs[i]?=some v):∃w,ws[i]?=some w/\Rep F as w v:=by
 have hl:=r.length
 have hi:i<vs.length:=zaB e
 have e1:ws[i]?=some ws[i]:=List.getElem?_eq_getElem (by omega)
 obtain⟨u,h1,h2⟩:=r.get e1
 rw[e] at h1;cases h1
 exact⟨_,e1,h2⟩
theorem Reps.append:∀{ws zs:List W} {vs us:List V},Reps F as ws vs->Reps F as zs us->Reps F as (ws++zs) (vs++us)
 | [],_,_,_,r,s=>by simp only[Reps] at r;subst r;exact s
 | _::_,_,_,_,r,s=>by
  simp only[Reps] at r
  obtain⟨v,r',rfl,q,t⟩:=r
  exact .cons q (Reps.append t s)
theorem Reps.set:∀{ws:List W} {vs:List V} {w:W} {v:V} (i:Nat),Reps F as ws vs->Rep F as w v->Reps F as (ws.set i w) (vs.set i v)
 | [],_,_,_,_,r,_=>by simp only[Reps] at r;subst r;exact .nil
 | _::_,_,_,_,0,r,h=>by
  simp only[Reps] at r
  obtain⟨v,r',rfl,q,t⟩:=r
  exact .cons h t
 | _::_,_,_,_,i+1,r,h=>by
  simp only[Reps] at r
  obtain⟨v,r',rfl,q,t⟩:=r
  exact .cons q (Reps.set i t h)
theorem Reps.take:∀{ws:List W} {vs:List V} (n:Nat),Reps F as ws vs->Reps F as (ws.take n) (vs.take n)
 | _,_,0,_=>by rw[List.take_zero,List.take_zero];exact .nil
 | [],_,_+1,r=>by simp only[Reps] at r;subst r;exact .nil
 | _::_,_,n+1,r=>by
  simp only[Reps] at r
  obtain⟨v,r',rfl,q,t⟩:=r
  exact .cons q (Reps.take n t)
theorem Reps.drop:∀{ws:List W} {vs:List V} (n:Nat),Reps F as ws vs->Reps F as (ws.drop n) (vs.drop n)
 | _,_,0,r=>r
 | [],_,_+1,r=>by simp only[Reps] at r;subst r;exact .nil
 | _::_,_,n+1,r=>by
  simp only[Reps] at r
  obtain⟨v,r',rfl,q,t⟩:=r
  exact Reps.drop n t
theorem Reps.dropLast{ws:List W}{vs:List V}(r:Reps F as ws vs):Reps F as ws.dropLast vs.dropLast:=by
 rw[List.dropLast_eq_take,List.dropLast_eq_take,r.length];exact r.take _
theorem Reps.reverse:∀{ws:List W} {vs:List V},Reps F as ws vs->Reps F as ws.reverse vs.reverse
 | [],_,r=>by simp only[Reps] at r;subst r;exact .nil
 | _::_,_,r=>by
  simp only[Reps] at r
  obtain⟨v,r',rfl,q,t⟩:=r
  rw[List.reverse_cons,List.reverse_cons]
  exact(Reps.reverse t).append (.cons q .nil)
theorem Reps.eraseIdx:∀{ws:List W} {vs:List V} (n:Nat),Reps F as ws vs->Reps F as (ws.eraseIdx n) (vs.eraseIdx n)
 | [],_,_,r=>by simp only[Reps] at r;subst r;exact .nil
 | _::_,_,0,r=>by
  simp only[Reps] at r
  obtain⟨v,r',rfl,q,t⟩:=r
  exact t
 | _::_,_,n+1,r=>by
  simp only[Reps] at r
  obtain⟨v,r',rfl,q,t⟩:=r
  exact .cons q (Reps.eraseIdx n t)
theorem Reps.ints:∀(ns:List Int),Reps F as (ns.map W.int) (ns.map V.int)
 | []=>.nil
 | n::r=>.cons (by simp only[Rep]) (Reps.ints r)
theorem Reps.of_ints:∀{ns:List Int} {vs:List V},Reps F as (ns.map W.int) vs->vs=ns.map V.int
 | [],_,r=>by simpa only[List.map_nil,Reps] using r
 | n::ns,_,r=>by
  simp only[List.map_cons,Reps,Rep] at r
  obtain⟨v,r',rfl,rfl,t⟩:=r
  rw[Reps.of_ints t,List.map_cons]
theorem Reps.of_bools:∀{bs:List Bool} {vs:List V},Reps F as (bs.map W.bl) vs->vs=bs.map V.bl
 | [],_,r=>by simpa only[List.map_nil,Reps] using r
 | n::ns,_,r=>by
  simp only[List.map_cons,Reps,Rep] at r
  obtain⟨v,r',rfl,rfl,t⟩:=r
  rw[Reps.of_bools t,List.map_cons]
end
theorem el6{α β γ δ:Type}{p q:α->β->γ->δ->Prop}{g:Prop}(h:∃a b c d,p a b c d/\q a b c d)(k:∀a b c d,p a b c d->q a b c d->g):g:=by
 obtain⟨a,b,c,d,h1,h2⟩:=h
 exact k a b c d h1 h2
theorem el8{α β γ δ:Type}{p q r s:α->β->γ->δ->Prop}{g:Prop}(h:∃a b c d,p a b c d/\q a b c d/\r a b c d/\s a b c d)(k:∀a b c d,p a b c d->q a b c d->r a b c d->s a b c d->g):g:=by
 obtain⟨a,b,c,d,h1,h2,h3,h4⟩:=h
 exact k a b c d h1 h2 h3 h4
def RepKV{κ:Type}(F:Hp)(as:List Addr)(kvs:List (κ×W))(ps:List (κ×V)):Prop:=Paired (fun(p:κ×W) (q:κ×V)=>p.1=q.1/\Rep F as p.2 q.2) kvs ps
theorem RepKV.le{κ:Type}{F F':Hp}{as as':List Addr}(h:Le F as F' as'){kvs:List (κ×W)}{ps:List (κ×V)}(r:RepKV F as kvs ps):RepKV F' as' kvs ps:=Paired.mapP r fun _ _ z=>⟨z.1,z.2.le h⟩
def zsQ(a:Addr)(cls:Value)(h:Heap):Prop:=∃o vs,h.get? a=some o/\o.cls=cls/\o.data=.fields vs
def CRep(G:Ga)(F:Hp)(as:List Addr)(H:Hp)(a:Addr):C->Prop
 | .lst xs=>∃vs,H a=some (.lst vs)/\Reps F as xs vs
 | .dct kvs=>∃ps,H a=some (.dK ps)/\RepKV F as kvs ps
 | .ins c fs=>∃dx ps,H a=some (.ins (G.cl c) dx ps)/\RepKV F as fs ps
 | .exn c=>H a=some (.ext (zsQ a (.ref (G.cl c))))
 | .dead=>∃o,H a=some o
 | .fzd kvs=>∃o ps,F a=some (.frz o (.dK ps))/\H a=some (.frz o (.dK ps))/\RepKV F as kvs ps
 | .dtp kvs=>∃ps,H a=some (.dT ps)/\RepKV F as kvs ps
structure Store (G:Ga) (F:Hp) (as:List Addr) (H:Hp) (ce:Ce):Prop where
 sub:∀a o,F a=some o->H a=some o
 nd:as.Nodup
 len:as.length=ce.length
 cell:∀(k:Nat) (a:Addr) (c:C),as[k]?=some a->ce[k]?=some c->(c.nf=true->F a=none)/\CRep G F as H a c
structure SR (G:Ga) (F:Hp) (as:List Addr) (H:Hp) (σ:VS.St) (sl:Sl) (ce:Ce):Prop where
 st:Store G F as H ce
 len:σ.length=sl.length
 slot:∀(i:Nat) (w:W),sl[i]?=some (some w)->∃v,σ[i]?=some (some v)/\Rep F as w v
section
variable {G:Ga} {F F':Hp} {as as':List Addr} {H H':Hp} {σ:VS.St} {sl:Sl} {ce ce':Ce} {a p:Addr} {k:Nat} {o:HO}
theorem CRep.tracked{c:C}(h:CRep G F as H a c):∃o,H a=some o:=by
 cases c with
 | lst xs=>obtain⟨vs,e,_⟩:=h;exact⟨_,e⟩
 | dct xs=>obtain⟨vs,e,_⟩:=h;exact⟨_,e⟩
 | ins c xs=>obtain⟨dx,vs,e,_⟩:=h;exact⟨_,e⟩
 | exn c=>exact⟨_,h⟩
 | dead=>exact h
 | fzd xs=>obtain⟨o,ps,_,e,_⟩:=h;exact⟨_,e⟩
 | dtp xs=>obtain⟨vs,e,_⟩:=h;exact⟨_,e⟩
theorem CRep.le{c:C}(l:Le F as F' as')(hH:H' a=H a)(h:CRep G F as H a c):CRep G F' as' H' a c:=by
 cases c with
 | lst xs=>obtain⟨vs,e,r⟩:=h;exact⟨vs,hH.trans e,r.le l⟩
 | dct xs=>obtain⟨vs,e,r⟩:=h;exact⟨vs,hH.trans e,r.le l⟩
 | ins c xs=>obtain⟨dx,vs,e,r⟩:=h;exact⟨dx,vs,hH.trans e,r.le l⟩
 | exn c=>exact hH.trans h
 | dead=>obtain⟨o,e⟩:=h;exact⟨o,hH.trans e⟩
 | fzd xs=>obtain⟨o,ps,e1,e2,r⟩:=h;exact⟨o,ps,l.f _ _ e1,hH.trans e2,r.le l⟩
 | dtp xs=>obtain⟨vs,e,r⟩:=h;exact⟨vs,hH.trans e,r.le l⟩
theorem Store.at(S:Store G F as H ce){c:C}(h:ce[k]?=some c):∃a,as[k]?=some a/\(c.nf=true->F a=none)/\CRep G F as H a c:=by
 have hk:k<ce.length:=zaB h
 have e:as[k]?=some (as[k]'(by rw[S.len];exact hk)):=List.getElem?_eq_getElem _
 exact⟨_,e,S.cell _ _ _ e h⟩
theorem Store.tracked(S:Store G F as H ce)(h:as[k]?=some a):∃o,H a=some o:=by
 have hk:k<as.length:=zaB h
 have e:ce[k]?=some (ce[k]'(by rw[<- S.len];exact hk)):=List.getElem?_eq_getElem _
 exact(S.cell _ _ _ h e).2.tracked
theorem SR.slots(S:SR G F as H σ sl ce)(S':Store G F' as' H' ce')(l:Le F as F' as'):SR G F' as' H' σ sl ce' :=
 ⟨S',S.len,fun i w e=>let ⟨v,h1,h2⟩:=S.slot i w e;⟨v,h1,h2.le l⟩⟩
theorem SR.var(S:SR G F as H σ sl ce){i:Nat}{w:W}(h:sl[i]?=some (some w)):∃v,σ[i]?=some (some v)/\Rep F as w v:=S.slot i w h
theorem SR.put(S:SR G F as H σ sl ce){w:W}{v:V}(r:Rep F as w v)(i:Nat):SR G F as H (σ.set i (some v)) (sl.set i (some w)) ce:=by
 refine⟨S.st,by rw[List.length_set,List.length_set];exact S.len,fun j u e=>?_⟩
 by_cases hj:i=j
 ·subst hj
  have hi:i<sl.length:=by have:=zaB e;rwa [List.length_set] at this
  rw[List.getElem?_set_self hi] at e
  cases e
  exact⟨v,by rw[List.getElem?_set_self (by rw[S.len];exact hi)],r⟩
 ·rw[List.getElem?_set_ne hj] at e
  obtain⟨v',h1,h2⟩:=S.slot j u e
  exact⟨v',by rw[List.getElem?_set_ne hj];exact h1,h2⟩
theorem upd_sub(hF:F p=none):∀a u,F a=some u->upd F p o a=some u:=fun a u e=>by
 rw[zaL (zaI e hF)];exact e
theorem Store.freeze(S:Store G F as H ce)(hp:H p=none):Store G (upd F p o) as (upd H p o) ce/\Le F as (upd F p o) as:=by
 have hF:F p=none:=by
  cases e:F p with
  | none=>rfl
  | some u=>rw[S.sub _ _ e] at hp;cases hp
 have l:Le F as (upd F p o) as:=⟨upd_sub hF,fun _ _ h=>h⟩
 refine⟨⟨fun a u e=>?_,S.nd,S.len,fun k a c h1 h2=>?_⟩,l⟩
 ·by_cases ha:a=p
  ·subst ha;rw[zaM] at e ⊢;exact e
  ·rw[zaL ha] at e ⊢;exact S.sub _ _ e
 ·obtain⟨q1,q2⟩:=S.cell k a c h1 h2
  obtain⟨u,hu⟩:=q2.tracked
  have ha:a≠p:=zaI hu hp
  exact⟨fun hn=>by rw[zaL ha];exact q1 hn,q2.le l (zaL ha)⟩
theorem Store.alloc(S:Store G F as H ce)(hp:H p=none){c:C}(hc:∀as',Le F as F as'->CRep G F as' (upd H p o) p c):Store G F (as++[p]) (upd H p o) (ce++[c])/\Le F as F (as++[p]):=by
 have hF:F p=none:=by
  cases e:F p with
  | none=>rfl
  | some u=>rw[S.sub _ _ e] at hp;cases hp
 have l:Le F as F (as++[p]):=⟨fun _ _ h=>h,fun k a h=>by
  have hk:k<as.length:=zaB h
  rw[List.getElem?_append_left hk];exact h⟩
 refine⟨⟨fun a u e=>?_,?_,by rw[List.length_append,List.length_append,S.len];rfl,fun k a c' h1 h2=>?_⟩,l⟩
 ·rw[zaL (zaI (S.sub _ _ e) hp)];exact S.sub _ _ e
 ·rw[List.nodup_append]
  refine⟨S.nd,by simp,fun a ha b hb=>?_⟩
  obtain⟨k,hk⟩:=List.getElem?_of_mem ha
  obtain⟨u,hu⟩:=S.tracked hk
  rw[List.mem_singleton] at hb
  subst hb
  exact zaI hu hp
 ·by_cases hk:k<ce.length
  ·rw[List.getElem?_append_left (by rw[S.len];exact hk)] at h1
   rw[List.getElem?_append_left hk] at h2
   obtain⟨q1,q2⟩:=S.cell k a c' h1 h2
   obtain⟨u,hu⟩:=q2.tracked
   exact⟨q1,q2.le l (zaL (zaI hu hp))⟩
  ·rw[List.getElem?_append_right (by rw[S.len];omega)] at h1
   rw[List.getElem?_append_right (by omega)] at h2
   have e:k-as.length=0:=by
    cases q:k-as.length with
    | zero=>rfl
    | succ n=>rw[q] at h1;simp at h1
   rw[e] at h1
   rw[<- S.len,e] at h2
   simp at h1 h2
   subst h1;subst h2
   exact⟨fun _=>hF,hc _ l⟩
theorem Store.write(S:Store G F as H ce)(h1:as[k]?=some a){c:C}(hc:CRep G F as (upd H a o) a c)(hm:∃o',H a=some o'/\nfz o'=true:=by exact⟨_,by assumption,rfl⟩):Store G F as (upd H a o) (ce.set k c):=by
 have hk:k<ce.length:=by rw[<- S.len];exact zaB h1
 have e:ce[k]?=some ce[k]:=List.getElem?_eq_getElem hk
 obtain⟨q1,q2⟩:=S.cell k a _ h1 e
 have q1:F a=none:=by
  cases ek:ce[k] with
  | fzd xs =>
   rw[ek] at q2
   obtain⟨o1,ps,_,e2,_⟩:=q2
   obtain⟨o',e3,hn⟩:=hm
   rw[e2] at e3
   cases e3
   cases hn
  | _=>exact q1 (by rw[ek];rfl)
 refine⟨fun b u e'=>?_,S.nd,by rw[List.length_set];exact S.len,fun j b c' h1' h2'=>?_⟩
 ·rw[zaL (fun z=>by subst z;rw[q1] at e';cases e')];exact S.sub _ _ e'
 ·by_cases hj:k=j
  ·subst hj
   rw[List.getElem?_set_self hk] at h2'
   rw[h1] at h1'
   cases h1';cases h2'
   exact⟨fun _=>q1,hc⟩
  ·rw[List.getElem?_set_ne hj] at h2'
   obtain⟨p1,p2⟩:=S.cell j b c' h1' h2'
   have hb:b≠a:=fun z=>by
    subst z
    have hj':j<as.length:=zaB h1'
    have hk':k<as.length:=by rw[S.len];exact hk
    have e1:as[k]=as[j]:=by
     rw[List.getElem?_eq_getElem hk'] at h1
     rw[List.getElem?_eq_getElem hj'] at h1'
     exact(Option.some.inj h1).trans (Option.some.inj h1').symm
    exact hj (zhO S.nd hk' hj' e1)
   exact⟨p1,p2.le .refl (zaL hb)⟩
end
end VS
namespace VS
open PySem PySem.Spec PyProof.Rows L2
def bnd{α β:Type}(m:M α)(f:α->M β):M β:=fun ce=>match m ce with
 | some (.ok a ce')=>f a ce'
 | some (.ex x ce')=>some (.ex x ce')
 | none=>none
def ret{α:Type}(a:α):M α:=fun ce=>some (.ok a ce)
def look{α:Type}(f:Ce->Option α):M α:=fun ce=>(f ce).map fun a=>R.ok a ce
def zjt{α:Type}:M α:=fun _=>none
def Post{α β:Type}(G:Ga)(E:XK)(RP:Hp->List Addr->α->β->Prop)(F:Hp)(as:List Addr)(σ:VS.St)(sl:Sl)(Q:β->Hp->Prop):Option (R α)->Prop
 | some (.ok a ce')=>∀b H' F' as',Le F as F' as'->SR G F' as' H' σ sl ce'->RP F' as' a b->Q b H'
 | some (.ex x ce')=>∀H' F' as' cv od,Le F as F' as'->Store G F' as' H' ce'->G.xr x cv od H'->E cv od H'
 | none=>False
def toT{α β:Type}(G:Ga)(E:XK)(RP:Hp->List Addr->α->β->Prop)(d:Sl->M α):VS.St->Hp->(β->Hp->Prop)->Prop :=
 fun σ H Q=>∃F as sl ce,SR G F as H σ sl ce/\Post G E RP F as σ sl Q (d sl ce)
def rB:Hp->List Addr->Bool->Bool->Prop:=fun _ _ a b=>a=b
abbrev zaD(G:Ga)(E:XK)(d:Sl->M W):TE:=toT G E Rep d
abbrev zcp(G:Ga)(E:XK)(d:Sl->M Bool):TT:=toT G E rB d
abbrev ziz(G:Ga)(E:XK)(d:Sl->M (List W)):TA:=toT G E Reps d
section
variable {α β γ δ:Type} {G:Ga} {E:XK} {RP:Hp->List Addr->α->β->Prop} {RQ:Hp->List Addr->γ->δ->Prop} {F F':Hp} {as as':List Addr} {H:Hp} {σ:VS.St} {sl:Sl} {ce:Ce}
theorem Post.le{Q:β->Hp->Prop}{r:Option (R α)}(l:Le F as F' as')(P:Post G E RP F as σ sl Q r):Post G E RP F' as' σ sl Q r:=by
 cases r with
 | none=>exact P
 | some r=>cases r with
  | ok a ce'=>exact fun b H' F2 as2 l2=>P b H' F2 as2 (l.trans l2)
  | ex x ce'=>exact fun H' F2 as2 cv od l2=>P H' F2 as2 cv od (l.trans l2)
theorem toT.mono{d:Sl->M α}{Q Q':β->Hp->Prop}(h:toT G E RP d σ H Q)(q:∀b H1,Q b H1->Q' b H1):toT G E RP d σ H Q':=by
 obtain⟨F,as,sl,ce,S,P⟩:=h
 refine⟨F,as,sl,ce,S,?_⟩
 revert P
 cases d sl ce with
 | none=>exact fun P=>P
 | some r=>cases r with
  | ok a ce'=>exact fun P b H' F' as' l S' r=>q _ _ (P b H' F' as' l S' r)
  | ex x ce'=>exact fun P=>P
theorem step{d:Sl->M α}{f:α->M γ}{Q:δ->Hp->Prop}(S:SR G F as H σ sl ce)(P:Post G E RQ F as σ sl Q (bnd (d sl) f ce)) :
  toT G E RP d σ H fun b H2=>∃a F' as' ce',Le F as F' as'/\SR G F' as' H2 σ sl ce'/\RP F' as' a b/\Post G E RQ F' as' σ sl Q (f a ce'):=by
 refine⟨F,as,sl,ce,S,?_⟩
 revert P
 unfold bnd
 cases d sl ce with
 | none=>exact fun P=>P
 | some r=>cases r with
  | ok a ce'=>exact fun P b H' F' as' l S' r=>⟨a,F',as',ce',l,S',r,P.le l⟩
  | ex x ce'=>exact fun P=>P
theorem zb9{f:Ce->Option α}{Q:β->Hp->Prop}(P:Post G E RP F as σ sl Q (look f ce)):∃a,f ce=some a/\Post G E RP F as σ sl Q (some (.ok a ce)):=by
 revert P
 unfold look
 cases f ce with
 | none=>exact fun P=>P.elim
 | some a=>exact fun P=>⟨a,rfl,P⟩
theorem Post.done{a:α}{b:β}{Q:β->Hp->Prop}(S:SR G F as H σ sl ce)(P:Post G E RP F as σ sl Q (some (.ok a ce)))(r:RP F as a b):Q b H:=P b H F as .refl S r
end
theorem PE.imp{X:Cx}{e:Expr}{t t':TE}(h:PE X e t)(q:∀σ H Q,t' σ H Q->t σ H Q):PE X e t':=fun pins s σ H Q I z=>h pins s σ H Q I (q _ _ _ z)
theorem PT.imp{X:Cx}{e:Expr}{t t':TT}(h:PT X e t)(q:∀σ H Q,t' σ H Q->t σ H Q):PT X e t':=fun pins s σ H Q I z=>h pins s σ H Q I (q _ _ _ z)
theorem PW.imp{X:Cx}{e:Expr}{t t':TT}(h:PW X e t)(q:∀σ H Q,t' σ H Q->t σ H Q):PW X e t':=fun wh pins s σ H Q I z=>h wh pins s σ H Q I (q _ _ _ z)
theorem PA.imp{X:Cx}{e:List Expr}{t t':TA}(h:PA X e t)(q:∀σ H Q,t' σ H Q->t σ H Q):PA X e t':=fun pos pins s σ H Q I z=>h pos pins s σ H Q I (q _ _ _ z)
theorem PS.imp{X:Cx}{e:Stmt}{t t':TS}(h:PS X e t)(q:∀D σ H,t' D σ H->t D σ H):PS X e t':=fun pins s σ H Q I z=>h pins s σ H Q I (q _ _ _ z)
theorem PSs.imp{X:Cx}{e:List Stmt}{t t':TS}(h:PSs X e t)(q:∀D σ H,t' D σ H->t D σ H):PSs X e t':=fun pins s σ H Q I z=>h pins s σ H Q I (q _ _ _ z)
def zaf(i:Nat):Sl->M W:=fun sl ce=>match sl[i]? with
 | some (some w)=>some (.ok w ce)
 | _=>none
def dC(w:W):Sl->M W:=fun _=>ret w
def dOp(f:W->W->Option W)(a b:Sl->M W):Sl->M W:=fun sl=>bnd (a sl) fun x=>bnd (b sl) fun y=>look fun _=>f x y
def dUn(f:W->Option W)(a:Sl->M W):Sl->M W:=fun sl=>bnd (a sl) fun x=>look fun _=>f x
def scV:W->Option V
 | .non=>some .non
 | .bl b=>some (.bl b)
 | .int i=>some (.int i)
 | .str x=>some (.str x)
 | .ty n=>some (.ty n)
 | _=>none
theorem Rep.sc{F:Hp}{as:List Addr}{w:W}{v u:V}(r:Rep F as w v)(e:scV w=some u):v=u:=by
 cases w<;>simp only[scV,Option.some.injEq,reduceCtorEq] at e<;>simp only[Rep] at r<;>(subst e;exact r)
theorem Rep.of_sc{F:Hp}{as:List Addr}{w:W}{u:V}(e:scV w=some u):Rep F as w u:=by
 cases w<;>simp only[scV,Option.some.injEq,reduceCtorEq] at e<;>simp only[Rep]<;>exact e.symm
def Sc2(r:R2)(f:W->W->Option W):Prop:=∀x y w,f x y=some w->∃vx vy vw,scV x=some vx/\scV y=some vy/\scV w=some vw/\∀H Q,Q vw H->r vx vy H Q
def i2(g:Int->Int->W):W->W->Option W
 | .int i,.int j=>some (g i j)
 | _,_=>none
open Classical in
def i2c(c:Int->Int->Prop)(g:Int->Int->W):W->W->Option W
 | .int i,.int j=>if c i j then some (g i j) else none
 | _,_=>none
section
variable {X:Cx} {G:Ga} {E:XK} {a b c:Expr} {da db dc:Sl->M W} {pos:Pos}
theorem zab(i:Nat){x:Str}{pos:Pos}(hN:X.N[i]?=some x:=by rfl)(hv:Vis X.env.scope x:=by first|exact Or.inl rfl|exact Or.inr (Or.inl rfl)|exact Or.inr (Or.inr rfl))(hd:(x==("__debug__" : Str))=false:=by decide)(hcd:(x==("__classdict__" : Str))=false:=by decide):PE X (.Name x pos) (zaD G E (zaf i)):=by
 refine PE.imp (zlZ hN hv hd hcd) fun σ H Q h=>?_
 obtain⟨F,as,sl,ce,S,P⟩:=h
 revert P
 unfold zaf
 split
 ·rename_i w e
  intro P
  obtain⟨v,h1,h2⟩:=S.var e
  exact⟨v,h1,P.done S h2⟩
 ·exact fun P=>P.elim
theorem zoQ{e:Expr}{w:W}{v:V}(h:PE X e (tC v))(hs:scV w=some v):PE X e (zaD G E (dC w)):=by
 refine PE.imp h fun σ H Q h=>?_
 obtain⟨F,as,sl,ce,S,P⟩:=h
 exact P.done S (Rep.of_sc hs)
theorem zah{i j pos}:PE X (.Constant (.int i) j pos) (zaD G E (dC (.int i))):=zoQ zog rfl
theorem zc8{i j pos}:PE X (.Constant (.bool i) j pos) (zaD G E (dC (.bl i))):=zoQ zqA rfl
theorem zl7{j pos}:PE X (.Constant .none j pos) (zaD G E (dC .non)):=zoQ zoh rfl
theorem zhP{r:R2}{f:W->W->M W}{σ:VS.St}{H:Hp}{Q:VK}(h:zaD G E (fun sl=>bnd (da sl) fun x=>bnd (db sl) fun y=>f x y) σ H Q)(k:∀F as sl ce H2 x y wx wy,SR G F as H2 σ sl ce->Rep F as wx x->Rep F as wy y->Post G E Rep F as σ sl Q (f wx wy ce)->r x y H2 Q):tOp r (zaD G E da) (zaD G E db) σ H Q:=by
 obtain⟨F,as,sl,ce,S,P⟩:=h
 refine(step S P).mono fun x H1 zz_=>el8 zz_ fun wx F1 as1 ce1 l1 S1 rx P1=>(step S1 P1).mono fun y H2 zz_=>el8 zz_ fun wy F2 as2 ce2 l2 S2 ry P2=>?_
 exact k F2 as2 sl ce2 H2 x y wx wy S2 (rx.le l2) ry P2
theorem zju{op:Operator}{r:R2}{f:W->W->Option W}(ho:OpR X (binaryOp op) r)(hf:Sc2 r f)(ha:PE X a (zaD G E da))(hb:PE X b (zaD G E db)):PE X (.BinOp a op b pos) (zaD G E (dOp f da db)):=by
 refine PE.imp (zoy ho ha hb) fun σ H Q h=>zhP h fun F as sl ce H2 x y wx wy S rx ry P=>?_
 revert P
 unfold look
 cases e:f wx wy with
 | none=>exact fun P=>P.elim
 | some w =>
  intro P
  obtain⟨vx,vy,vw,e1,e2,e3,k⟩:=hf _ _ _ e
  rw[rx.sc e1,ry.sc e2]
  exact k _ _ (P.done S (Rep.of_sc e3))
theorem zoR{op:CmpOp}{r:R2}{f:W->W->Option W}(ho:OpR X (compareOp op) r)(hf:Sc2 r f)(ha:PE X a (zaD G E da))(hb:PE X b (zaD G E db))(hm:behindInMarks op b=false):PE X (.Compare a [op] [b] pos) (zaD G E (dOp f da db)):=by
 refine PE.imp (zfs ho ha hb hm) fun σ H Q h=>zhP h fun F as sl ce H2 x y wx wy S rx ry P=>?_
 revert P
 unfold look
 cases e:f wx wy with
 | none=>exact fun P=>P.elim
 | some w =>
  intro P
  obtain⟨vx,vy,vw,e1,e2,e3,k⟩:=hf _ _ _ e
  rw[rx.sc e1,ry.sc e2]
  exact k _ _ (P.done S (Rep.of_sc e3))
theorem zjv{g:Int->Int->W}{h:Int->Int->V}(q:∀i j,scV (g i j)=some (h i j)):Sc2 (rI0 h) (i2 g):=by
 intro x y w e
 cases x<;>cases y<;>simp only[i2,Option.some.injEq,reduceCtorEq] at e
 subst e
 exact⟨_,_,_,rfl,rfl,q _ _,fun H Q hq=>⟨_,_,rfl,rfl,hq⟩⟩
theorem zjw{c:Int->Int->Prop}{g:Int->Int->W}{h:Int->Int->V}(q:∀i j,scV (g i j)=some (h i j)):Sc2 (rI c h) (i2c c g):=by
 intro x y w e
 cases x<;>cases y<;>simp only[i2c,reduceCtorEq] at e
 split at e
 ·rename_i hc
  cases e
  exact⟨_,_,_,rfl,rfl,q _ _,fun H Q hq=>⟨_,_,rfl,rfl,hc,hq⟩⟩
 ·cases e
def zdg:W->W->Option W:=i2 fun i j=>.int (i+j)
def zg1:W->W->Option W:=i2 fun i j=>.int (i-j)
def ze9:W->W->Option W:=i2c CMul fun i j=>.int (i*j)
def zbT:W->W->Option W:=i2c (fun _ j=>0<j) fun i j=>.int (i % j)
def zjx:W->W->Option W:=i2c zqR fun i j=>.int (i / j)
def fLt:W->W->Option W:=i2 fun i j=>.bl (decide (i<j))
def fLe:W->W->Option W:=i2 fun i j=>.bl (decide (i<=j))
def fGt:W->W->Option W:=i2 fun i j=>.bl (decide (j<i))
def fGe:W->W->Option W:=i2 fun i j=>.bl (decide (j<=i))
theorem zbp(ha:PE X a (zaD G E da))(hb:PE X b (zaD G E db)):PE X (.BinOp a .Add b pos) (zaD G E (dOp zdg da db)):=zju zoz (zjv fun _ _=>rfl) ha hb
theorem zc1(ha:PE X a (zaD G E da))(hb:PE X b (zaD G E db)):PE X (.BinOp a .Sub b pos) (zaD G E (dOp zg1 da db)):=zju zoA (zjv fun _ _=>rfl) ha hb
theorem zca(ha:PE X a (zaD G E da))(hb:PE X b (zaD G E db)):PE X (.BinOp a .Mult b pos) (zaD G E (dOp ze9 da db)):=zju zoB (zjw fun _ _=>rfl) ha hb
theorem zaY(ha:PE X a (zaD G E da))(hb:PE X b (zaD G E db)):PE X (.BinOp a .Mod b pos) (zaD G E (dOp zbT da db)):=zju zoC (zjw fun _ _=>rfl) ha hb
theorem zgh(ha:PE X a (zaD G E da))(hb:PE X b (zaD G E db)):PE X (.BinOp a .FloorDiv b pos) (zaD G E (dOp zjx da db)):=zju zmQ (zjw fun _ _=>rfl) ha hb
theorem zrg(ha:PE X a (zaD G E da))(hb:PE X b (zaD G E db)):PE X (.Compare a [.GtE] [b] pos) (zaD G E (dOp fGe da db)):=zoR zqV (zjv fun _ _=>rfl) ha hb (zcv _)
def ziA:W->Option W
 | .int i=>some (.int (-i))
 | _=>none
theorem zjy(ha:PE X a (zaD G E da)):PE X (.UnaryOp .USub a pos) (zaD G E (dUn ziA da)):=by
 refine PE.imp (zqP zoD ha) fun σ H Q zz_=>el6 zz_ fun F as sl ce S P=>(step S P).mono fun x H1 zz_=>el8 zz_ fun wx F1 as1 ce1 l1 S1 rx P1=>?_
 revert P1
 unfold look ziA
 cases wx<;>first|exact fun P=>P.elim|skip
 simp only[Rep] at rx
 subst rx
 exact fun P=>⟨_,rfl,P.done S1 (by simp only[Rep])⟩
def isNon:W->Bool
 | .non=>true
 | _=>false
def zld:W->Option W:=fun w=>some (.bl (!isNon w))
theorem Rep.isN{F:Hp}{as:List Addr}{w:W}{v:V}(r:Rep F as w v):decide (v=.non)=isNon w:=by
 cases w<;>simp only[Rep] at r<;>first|(subst r;rfl)|(obtain⟨_,_,rfl,_⟩:=r;rfl)|(obtain⟨_,rfl,_⟩:=r;rfl)
def zhQ(ce:Ce):W->Option Bool
 | .non=>some false
 | .bl b=>some b
 | .int i=>some (i != 0)
 | .str x=>if x.length<=sizeLine then some ((x.length:Int) != 0) else none
 | .lst xs=>some (!xs.isEmpty)
 | .tup xs=>some (!xs.isEmpty)
 | .cel k=>match ce[k]? with
  | some (.lst xs)=>some (!xs.isEmpty)
  | some (.dct xs)=>some (!xs.isEmpty)
  | _=>none
 | _=>none
theorem Reps.empty{F:Hp}{as:List Addr}{ws:List W}{vs:List V}(r:Reps F as ws vs):vs.isEmpty=ws.isEmpty:=by
 have:=r.length
 cases ws<;>cases vs<;>simp_all
theorem Rd.sub{G:Ga}{F:Hp}{as:List Addr}{H:Hp}{ce:Ce}(S:Store G F as H ce){a:Addr}{o:HO}(r:Rd F a o):Rd H a o:=by
 rcases r with r|⟨u,r⟩
 ·exact .inl (S.sub _ _ r)
 ·exact .inr ⟨u,S.sub _ _ r⟩
theorem znc{F:Hp}{as:List Addr}{H:Hp}{ce:Ce}{w:W}{v:V}{k:Bool}(S:Store G F as H ce)(r:Rep F as w v)(e:zhQ ce w=some k)(K:PySem.W.Frag):zqn K v H k:=by
 cases w with
 | non=>simp only[Rep] at r;simp only[zhQ,Option.some.injEq] at e;subst r;exact e.symm
 | bl b=>simp only[Rep] at r;simp only[zhQ,Option.some.injEq] at e;subst r;exact e.symm
 | int i=>simp only[Rep] at r;simp only[zhQ,Option.some.injEq] at e;subst r;exact e.symm
 | str x =>
  simp only[Rep] at r
  subst r
  simp only[zhQ] at e
  split at e
  ·rename_i h
   exact⟨h,(Option.some.inj e).symm⟩
  ·cases e
 | ty n=>simp only[zhQ,reduceCtorEq] at e
 | lst xs =>
  simp only[Rep] at r
  obtain⟨a,vs,rfl,h,rs⟩:=r
  simp only[zhQ,Option.some.injEq] at e
  exact .inl ⟨vs,.inl (Rd.sub S h),by rw[<- e,rs.empty]⟩
 | tup xs =>
  simp only[Rep] at r
  obtain⟨a,vs,rfl,h,rs⟩:=r
  simp only[zhQ,Option.some.injEq] at e
  exact .inr (.inl ⟨vs,.inl (.inl (S.sub _ _ h)),by rw[<- e,rs.empty]⟩)
 | cel n =>
  simp only[Rep] at r
  obtain⟨a,rfl,h⟩:=r
  simp only[zhQ] at e
  split at e
  ·rename_i xs hc
   obtain⟨_,vs,h2,rs⟩:=S.cell _ _ _ h hc
   exact .inl ⟨vs,.inl (.inl h2),by rw[<- Option.some.inj e,rs.empty]⟩
  ·rename_i xs hc
   obtain⟨_,vs,h2,rs⟩:=S.cell _ _ _ h hc
   refine .inr (.inr ⟨vs,h2,?_⟩)
   rw[<- Option.some.inj e]
   cases rs<;>rfl
  ·cases e
def znd(d:Sl->M W):Sl->M Bool:=fun sl=>bnd (d sl) fun w=>look fun ce=>zhQ ce w
theorem zjz{da:Sl->M W}(ha:PE X a (zaD G E da))(he:∀whole,isTrue a X.env whole=(do let v <- whole;standAt a.pos;holding [v] (truthy v)):=by intro _;rfl):PT X a (zcp G E (znd da)):=by
 refine PT.imp (zrb (K:=X.K) ha he) fun σ H Q zz_=>el6 zz_ fun F as sl ce S P=>(step S P).mono fun x H1 zz_=>el8 zz_ fun wx F1 as1 ce1 l1 S1 rx P1=>?_
 obtain⟨k,e,P⟩:=zb9 P1
 exact⟨k,znc S1.st rx e _,Post.done (RP:=rB) S1 P rfl⟩
def dB(d:Sl->M W):Sl->M Bool:=fun sl=>bnd (d sl) fun w=>look fun _=>match w with|.bl b=>some b|_=>none
theorem zne{t:TE}{σ:VS.St}{H:Hp}{Q:Bool->Hp->Prop}{d:Sl->M W}(h:zcp G E (dB d) σ H Q):tB (zaD G E d) σ H Q:=by
 obtain⟨F,as,sl,ce,S,P⟩:=h
 refine(step S P).mono fun x H1 zz_=>el8 zz_ fun wx F1 as1 ce1 l1 S1 rx P1=>?_
 revert P1
 unfold look
 cases wx<;>first|exact fun P=>P.elim|skip
 simp only[Rep] at rx
 subst rx
 exact fun P=>⟨_,rfl,P.done S1 rfl⟩
theorem zcy{e:Expr}{d:Sl->M W}(h:PE X e (zaD G E d))(he:∀whole,isTrue e X.env whole=(do let v <- whole;standAt e.pos;holding [v] (truthy v)):=by intro _;rfl):PT X e (zcp G E (dB d)) :=
 PT.imp (zoj h he) fun σ H Q q=>zne (t:=zaD G E d) q
theorem zfv{op:CmpOp}{d:Sl->M W}{r:R2}(ho:OpR X (compareOp op) r)(ha:PE X a (zaD G E da))(hb:PE X b (zaD G E db))(hm:behindInMarks op b=false)(q:∀σ H Q,zaD G E d σ H Q->tOp r (zaD G E da) (zaD G E db) σ H Q):PT X (.Compare a [op] [b] pos) (zcp G E (dB d)):=by
 refine PT.imp (zmU ho ha hb hm) fun σ H Q h=>?_
 exact q σ H _ (zne (t:=zaD G E d) h)
theorem zoS{op:CmpOp}{d:Sl->M W}(h:∃t,PC X op a b t/\∀σ H Q,zaD G E d σ H Q->t σ H Q)(h1:behindInMarks op b=false):PT X (.Compare a [op] [b] pos) (zcp G E (dB d)):=by
 obtain⟨t,h,q⟩:=h
 exact PT.imp (zoi h h1) fun σ H Q z=>q _ _ _ (zne (t:=zaD G E d) z)
end
end VS
namespace VS
open PySem PySem.Spec PyProof.Rows L2
mutual
def peq:W->W->Bool
 | .non,y=>match y with|.non=>true|_=>false
 | .bl a,y=>match y with|.bl b=>a==b|.int b=>(if a then 1 else 0)==b|_=>false
 | .int a,y=>match y with|.int b=>a==b|.bl b=>a==(if b then 1 else 0)|_=>false
 | .str a,y=>match y with|.str b=>a==b|_=>false
 | .lst xs,y=>match y with|.lst ys=>peqs xs ys|_=>false
 | .tup xs,y=>match y with|.tup ys=>peqs xs ys|_=>false
 | .ty _,_=>false
 | .cel _,_=>false
def peqs:List W->List W->Bool
 | [],ys=>match ys with|[]=>true|_=>false
 | x::xs,ys=>match ys with|y::ys=>peq x y&&peqs xs ys|[]=>false
end
def cln:Nat->W->Bool
 | _,.non=>true
 | _,.bl _=>true
 | _,.int _=>true
 | _,.str _=>true
 | _,.ty _=>false
 | _,.cel _=>false
 | 0,.lst _=>false
 | 0,.tup _=>false
 | n+1,.lst xs=>xs.all (cln n)
 | n+1,.tup xs=>xs.all (cln n)
theorem ziB{F:Hp}{a:Addr}{vs us:List V}(h:Rd F a (.lst vs))(h':Rd F a (.lst us)):vs=us:=by
 rcases h with h|⟨o,h⟩<;>rcases h' with h'|⟨o',h'⟩<;>(first|(rw[h] at h';cases h';rfl)|(rw[h] at h';cases h'))
theorem ziC{F:Hp}{a:Addr}{vs us:List V}(h:Rd F a (.tup vs))(h':Rd F a (.tup us)):vs=us:=by
 rcases h with h|⟨o,h⟩<;>rcases h' with h'|⟨o',h'⟩<;>(first|(rw[h] at h';cases h';rfl)|(rw[h] at h';cases h'))
theorem zhR{F:Hp}{a:Addr}{vs us:List V}(h:Rd F a (.lst vs))(h':Rd F a (.tup us)):False:=by
 rcases h with h|⟨o,h⟩<;>rcases h' with h'|⟨o',h'⟩<;>(rw[h] at h';cases h')
theorem zg2{F:Hp}{as:List Addr}:∀(n:Nat) {w w':W} {v:V},cln n w=true->cln n w'=true->Rep F as w v->Rep F as w' v->w=w':=by
 intro n
 induction n with
 | zero =>
  intro w w' v c c' r r'
  cases w<;>cases w'<;>simp only[cln,reduceCtorEq] at c c'<;>simp only[Rep] at r r'<;>(subst r;cases r')<;>rfl
 | succ n ih =>
  have its:∀{ws ws':List W} {vs:List V},ws.all (cln n)=true->ws'.all (cln n)=true->Reps F as ws vs->Reps F as ws' vs->ws=ws':=by
   intro ws
   induction ws with
   | nil =>
    intro ws' vs _ _ r r'
    simp only[Reps] at r
    subst r
    cases ws' with
    | nil=>rfl
    | cons y ys=>simp only[Reps] at r';obtain⟨v,r,e,_⟩:=r';cases e
   | cons x xs ihx =>
    intro ws' vs c c' r r'
    simp only[Reps] at r
    obtain⟨v,vs',rfl,h1,h2⟩:=r
    cases ws' with
    | nil=>simp only[Reps] at r';cases r'
    | cons y ys =>
     simp only[Reps] at r'
     obtain⟨v',r',e,h3,h4⟩:=r'
     cases e
     simp only[List.all_cons,Bool.and_eq_true] at c c'
     rw[ih c.1 c'.1 h1 h3,ihx c.2 c'.2 h2 h4]
  intro w w' v c c' r r'
  cases w<;>cases w'<;>simp only[cln,reduceCtorEq] at c c'<;>simp only[Rep] at r r'<;>first
   | (subst r;cases r';rfl)
   | (subst r;cases r';done)
   | (subst r;obtain⟨_,_,e,_⟩:=r';cases e)
   | (subst r';obtain⟨_,_,e,_⟩:=r;cases e)
   | (obtain⟨a,vs,rfl,q,s⟩:=r
      obtain⟨b,us,e,q',s'⟩:=r'
      cases e
      first
       | exact(zhR q (.inl q')).elim
       | exact(zhR q' (.inl q)).elim
       | (cases ziB q q';rw[its c c' s s'])
       | (cases ziC (.inl q) (.inl q');rw[its c c' s s']))
theorem zle:∀(n:Nat) {w:W},cln n w=true->peq w w=true:=by
 intro n
 induction n with
 | zero=>intro w c;cases w<;>simp_all[cln,peq]
 | succ n ih =>
  have its:∀{ws:List W},ws.all (cln n)=true->peqs ws ws=true:=by
   intro ws
   induction ws with
   | nil=>intro _;simp[peqs]
   | cons x xs ihx =>
    intro c
    simp only[List.all_cons,Bool.and_eq_true] at c
    simp only[peqs,ih c.1,ihx c.2,Bool.and_self]
  intro w c
  cases w<;>simp only[cln,reduceCtorEq] at c<;>first|(simp only[peq];exact its c)|simp[peq]
theorem zfw:∀(xs ys:List W),xs.length=ys.length->peqs xs ys=(List.range xs.length).all fun j=>match xs[j]?,ys[j]? with|some a,some b=>peq a b|_,_=>false
 | [],[],_=>by simp[peqs]
 | x::xs,y::ys,h=>by
  have e:xs.length=ys.length:=by simpa using h
  simp only[peqs]
  rw[zfw xs ys e,List.length_cons,List.range_succ_eq_map,List.all_cons,List.all_map]
  rfl
 | [],_::_,h=>by simp at h
 | _::_,[],h=>by simp at h
theorem zhS:∀{xs ys:List W},peqs xs ys=true->xs.length=ys.length
 | [],[],_=>rfl
 | x::xs,y::ys,h=>by
  simp only[peqs,Bool.and_eq_true] at h
  simp only[List.length_cons,zhS h.2]
 | [],_::_,h=>by simp[peqs] at h
 | _::_,[],h=>by simp[peqs] at h
theorem zjA{xs ys:List W}(h:xs.length≠ys.length):peqs xs ys=false:=by
 cases e:peqs xs ys with
 | false=>rfl
 | true=>exact absurd (zhS e) h
section
variable {X:Cx} {pins:List (Addr×Obj)} {σ:VS.St} {H F:Hp} {as:List Addr} {s:Shared}
theorem zjB{A:Around}{ws zs:List W}{vs us:List V}{ps qs:List Value}(it:∀{w z:W} {v u:V} {p q:Value},w∈ws->z∈zs->Rep F as w v->Rep F as z u->L2.RelV v p->L2.RelV u q->SeqAt.EqAt A s p q (peq w z))(h1:Reps F as ws vs)(h2:Reps F as zs us)(r1:Vals vs ps)(r2:Vals us qs) :
  ∀j (k1:j<ps.toArray.size) (k2:j<qs.toArray.size),SeqAt.EqAt A s ps.toArray[j] qs.toArray[j] (match ws[j]?,zs[j]? with|some a,some b=>peq a b|_,_=>false):=by
 intro j k1 k2
 have k1':j<ps.length:=by simpa using k1
 have k2':j<qs.length:=by simpa using k2
 have l1:=r1.length
 have l2:=r2.length
 have e1:vs[j]?=some (vs[j]'(by omega)):=by simp
 have e2:us[j]?=some (us[j]'(by omega)):=by simp
 obtain⟨u,hu1,ru⟩:=r1.get e1
 obtain⟨z,hz1,rz⟩:=r2.get e2
 obtain⟨a,ha,ra⟩:=h1.get' e1
 obtain⟨b,hb,rb⟩:=h2.get' e2
 have eu:ps.toArray[j]=u:=by
  have:ps[j]?=some ps[j]:=by simp
  rw[hu1] at this
  simpa using (Option.some.inj this).symm
 have ez:qs.toArray[j]=z:=by
  have:qs[j]?=some qs[j]:=by simp
  rw[hz1] at this
  simpa using (Option.some.inj this).symm
 rw[eu,ez,ha,hb]
 exact it (List.mem_of_getElem? ha) (List.mem_of_getElem? hb) ra rb ru rz
theorem zlf{A:Around}{ws zs:List W}{vs us:List V}{a b:Addr}(I:Inv X pins σ H s)(hu:A.units<cLine)(ha:SqL X.K H a vs)(hb:SqL X.K H b us)(h1:Reps F as ws vs)(h2:Reps F as zs us)(it:∀{w z:W} {v u:V} {p q:Value},w∈ws->z∈zs->Rep F as w v->Rep F as z u->L2.RelV v p->L2.RelV u q->SeqAt.EqAt A.in1 s p q (peq w z)) :
  SeqAt.RcAt A s (.ref a) (.ref b) (peqs ws zs)/\SeqAt.RcNeAt A s (.ref a) (.ref b) (!peqs ws zs):=by
 obtain⟨ps,r1,p1,z1⟩:=I.list ha
 obtain⟨qs,r2,p2,z2⟩:=I.list hb
 have l1:=r1.length
 have l2:=r2.length
 have l3:=h1.length
 have l4:=h2.length
 by_cases hl:ws.length=zs.length
 ·have hsz:ps.toArray.size=qs.toArray.size:=by rw[List.size_toArray,List.size_toArray];omega
  have ia:=zjB (A:=A.in1) it h1 h2 r1 r2
  have a1:=SeqAt.RcAt.lists p1.isList p2.isList hsz hu ia
  have a2:=SeqAt.RcNeAt.lists p1.isList p2.isList hsz hu ia
  rw[List.size_toArray,show ps.length=ws.length by omega,<- zfw ws zs hl] at a1 a2
  exact⟨a1,a2⟩
 ·have hne:(ps.toArray.size != qs.toArray.size)=true:=by
   rw[List.size_toArray,List.size_toArray]
   simp
   omega
  rw[zjA hl]
  exact⟨SeqAt.RcAt.lists_lengths p1.isList p2.isList hne hu,SeqAt.RcNeAt.lists_lengths p1.isList p2.isList hne hu⟩
theorem znf{A:Around}{ws zs:List W}{vs us:List V}{a b:Addr}(I:Inv X pins σ H s)(hu:A.units<cLine)(ha:SqT X.K H a vs)(hb:SqT X.K H b us)(h1:Reps F as ws vs)(h2:Reps F as zs us)(it:∀{w z:W} {v u:V} {p q:Value},w∈ws->z∈zs->Rep F as w v->Rep F as z u->L2.RelV v p->L2.RelV u q->SeqAt.EqAt A.in1 s p q (peq w z)) :
  SeqAt.RcAt A s (.ref a) (.ref b) (peqs ws zs)/\SeqAt.RcNeAt A s (.ref a) (.ref b) (!peqs ws zs):=by
 obtain⟨ps,r1,p1,z1⟩:=I.tuple ha
 obtain⟨qs,r2,p2,z2⟩:=I.tuple hb
 have l1:=r1.length
 have l2:=r2.length
 have l3:=h1.length
 have l4:=h2.length
 have ia:=zjB (A:=A.in1) it h1 h2 r1 r2
 have e:((List.range (min ps.toArray.size qs.toArray.size)).all (fun j=>match ws[j]?,zs[j]? with|some a,some b=>peq a b|_,_=>false)&&ps.toArray.size==qs.toArray.size)=peqs ws zs:=by
  rw[List.size_toArray,List.size_toArray]
  by_cases hl:ws.length=zs.length
  ·have h1:ps.length=ws.length:=by omega
   have h2:qs.length=ws.length:=by omega
   rw[h1,h2,Nat.min_self,zfw ws zs hl]
   simp
  ·have e1:(ps.length==qs.length)=false:=by simp;omega
   rw[e1,Bool.and_false,zjA hl]
 have a1:=SeqAt.RcAt.tuples p1 p2 hu ia
 have a2:=SeqAt.RcNeAt.tuples p1 p2 hu ia
 rw[e] at a1 a2
 exact⟨a1,a2⟩
inductive Sh (F:Hp) (as:List Addr):W->V->Value->Prop where
 | non:Sh F as .non .non .none
 | bl (b:Bool):Sh F as (.bl b) (.bl b) (.bool b)
 | int (i:Int) (t:Tok):Sh F as (.int i) (.int i) (.int i t)
 | str (x:Str) (t:Tok):Sh F as (.str x) (.str x) (.str x t)
 | lst {xs:List W} {a:Addr} {vs:List V} (h:Rd F a (.lst vs)) (r:Reps F as xs vs):Sh F as (.lst xs) (.ref a) (.ref a)
 | tup {xs:List W} {a:Addr} {vs:List V} (h:Rd F a (.tup vs)) (r:Reps F as xs vs):Sh F as (.tup xs) (.ref a) (.ref a)
theorem zlg{n:Nat}{w:W}{v:V}{p:Value}(c:cln n w=true)(r:Rep F as w v)(rv:L2.RelV v p):Sh F as w v p:=by
 cases w with
 | non=>simp only[Rep] at r;subst r;cases rv;exact .non
 | bl b=>simp only[Rep] at r;subst r;cases rv;exact .bl b
 | int i=>simp only[Rep] at r;subst r;obtain⟨t,rfl⟩:=rv;exact .int i t
 | str i=>simp only[Rep] at r;subst r;obtain⟨t,rfl⟩:=rv;exact .str i t
 | ty i=>cases n<;>simp only[cln,reduceCtorEq] at c
 | cel i=>cases n<;>simp only[cln,reduceCtorEq] at c
 | lst xs=>simp only[Rep] at r;obtain⟨a,vs,rfl,h,q⟩:=r;cases rv;exact .lst h q
 | tup xs=>simp only[Rep] at r;obtain⟨a,vs,rfl,h,q⟩:=r;cases rv;exact .tup (.inl h) q
set_option maxHeartbeats 0 in
theorem zqp(hs:∀a o,F a=some o->H a=some o)(I:Inv X pins σ H s):∀(n:Nat) {A:Around} {w z:W} {v u:V} {p q:Value},A.units+n<cLine->cln n w=true->cln n z=true->Rep F as w v->Rep F as z u->L2.RelV v p->L2.RelV u q ->
  SeqAt.RcAt A s p q (peq w z)/\SeqAt.RcNeAt A s p q (!peq w z)/\SeqAt.EqAt A s p q (peq w z):=by
 have sub:∀{a:Addr} {o:HO},Rd F a o->Rd H a o:=fun {a o} r=>by
  rcases r with r|⟨u,r⟩
  ·exact .inl (hs _ _ r)
  ·exact .inr ⟨u,hs _ _ r⟩
 have isL:∀{a:Addr} {vs:List V},Rd F a (.lst vs)->∃its,s.heap.IsList a its:=fun {a vs} h=>by
  obtain⟨its,_,p,_⟩:=I.list (.inl (sub h))
  exact⟨_,p.isList⟩
 have isT:∀{a:Addr} {vs:List V},Rd F a (.tup vs)->∃its,s.heap.IsTuple a its:=fun {a vs} h=>by
  obtain⟨its,_,p,_⟩:=I.tuple (.inl (sub h))
  exact⟨_,p⟩
 intro n
 induction n with
 | zero =>
  intro A w z v u p q hu c c' r r' rv ru
  have sh:=zlg c r rv
  have sh':=zlg c' r' ru
  cases sh with
  | non =>
   cases sh' with
   | non =>
    simp only[peq]
    exact⟨SeqAt.RcAt.none_none ,SeqAt.RcNeAt.none_none ,SeqAt.EqAt.same _⟩
   | bl b2 =>
    simp only[peq]
    exact⟨SeqAt.RcAt.none_bool _,SeqAt.RcNeAt.none_bool _,SeqAt.EqAt.none_bool _⟩
   | int i2 t2 =>
    simp only[peq]
    exact⟨SeqAt.RcAt.none_int _ _,SeqAt.RcNeAt.none_int _ _,SeqAt.EqAt.none_int _ _⟩
   | str x2 t2 =>
    simp only[peq]
    exact⟨SeqAt.RcAt.none_str _ _,SeqAt.RcNeAt.none_str _ _,SeqAt.EqAt.none_str _ _⟩
   | lst q2 s2 =>
    simp only[cln,reduceCtorEq] at c'
   | tup q2 s2 =>
    simp only[cln,reduceCtorEq] at c'
  | bl b =>
   cases sh' with
   | non =>
    simp only[peq]
    exact⟨SeqAt.RcAt.bool_none _,SeqAt.RcNeAt.bool_none _,SeqAt.EqAt.bool_none _⟩
   | bl b2 =>
    simp only[peq]
    exact⟨SeqAt.RcAt.bool_bool _ _,SeqAt.RcNeAt.bool_bool _ _,SeqAt.EqAt.bool_bool _ _⟩
   | int i2 t2 =>
    simp only[peq]
    exact⟨SeqAt.RcAt.bool_int _ _ _,SeqAt.RcNeAt.bool_int _ _ _,SeqAt.EqAt.bool_int _ _ _⟩
   | str x2 t2 =>
    simp only[peq]
    exact⟨SeqAt.RcAt.bool_str _ _ _,SeqAt.RcNeAt.bool_str _ _ _,SeqAt.EqAt.bool_str _ _ _⟩
   | lst q2 s2 =>
    simp only[cln,reduceCtorEq] at c'
   | tup q2 s2 =>
    simp only[cln,reduceCtorEq] at c'
  | int i t =>
   cases sh' with
   | non =>
    simp only[peq]
    exact⟨SeqAt.RcAt.int_none _ _,SeqAt.RcNeAt.int_none _ _,SeqAt.EqAt.int_none _ _⟩
   | bl b2 =>
    simp only[peq]
    exact⟨SeqAt.RcAt.int_bool _ _ _,SeqAt.RcNeAt.int_bool _ _ _,SeqAt.EqAt.int_bool _ _ _⟩
   | int i2 t2 =>
    simp only[peq]
    exact⟨SeqAt.RcAt.int_int _ _ _ _,SeqAt.RcNeAt.int_int _ _ _ _,SeqAt.EqAt.int_int _ _ _ _⟩
   | str x2 t2 =>
    simp only[peq]
    exact⟨SeqAt.RcAt.int_str _ _ _ _,SeqAt.RcNeAt.int_str _ _ _ _,SeqAt.EqAt.int_str _ _ _ _⟩
   | lst q2 s2 =>
    simp only[cln,reduceCtorEq] at c'
   | tup q2 s2 =>
    simp only[cln,reduceCtorEq] at c'
  | str x t =>
   cases sh' with
   | non =>
    simp only[peq]
    exact⟨SeqAt.RcAt.str_none _ _,SeqAt.RcNeAt.str_none _ _,SeqAt.EqAt.str_none _ _⟩
   | bl b2 =>
    simp only[peq]
    exact⟨SeqAt.RcAt.str_bool _ _ _,SeqAt.RcNeAt.str_bool _ _ _,SeqAt.EqAt.str_bool _ _ _⟩
   | int i2 t2 =>
    simp only[peq]
    exact⟨SeqAt.RcAt.str_int _ _ _ _,SeqAt.RcNeAt.str_int _ _ _ _,SeqAt.EqAt.str_int _ _ _ _⟩
   | str x2 t2 =>
    simp only[peq]
    exact⟨SeqAt.RcAt.str_str _ _ _ _,SeqAt.RcNeAt.str_str _ _ _ _,SeqAt.EqAt.str_str _ _ _ _⟩
   | lst q2 s2 =>
    simp only[cln,reduceCtorEq] at c'
   | tup q2 s2 =>
    simp only[cln,reduceCtorEq] at c'
  | lst q1 s1 =>
   simp only[cln,reduceCtorEq] at c
  | tup q1 s1 =>
   simp only[cln,reduceCtorEq] at c
 | succ n ih =>
  intro A w z v u p q hu c c' r r' rv ru
  have hu0:A.units<cLine:=by omega
  have hu1:A.in1.units+n<cLine:=by show A.units+1+n<cLine;omega
  have ref:∀{a b:Addr},v=.ref a->u=.ref b->(SeqAt.RcAt A s (.ref a) (.ref b) (peq w z)/\SeqAt.RcNeAt A s (.ref a) (.ref b) (!peq w z))->SeqAt.RcAt A s (.ref a) (.ref b) (peq w z)/\SeqAt.RcNeAt A s (.ref a) (.ref b) (!peq w z)/\SeqAt.EqAt A s (.ref a) (.ref b) (peq w z):=by
   intro a b e1 e2 ⟨h1,h2⟩
   subst e1 e2
   refine⟨h1,h2,?_⟩
   by_cases e:a=b
   ·subst e
    rw[zg2 (n+1) c c' r r',zle (n+1) c']
    exact SeqAt.EqAt.same _
   ·exact SeqAt.EqAt.of_refs e h1
  have sh:=zlg c r rv
  have sh':=zlg c' r' ru
  cases sh with
  | non =>
   cases sh' with
   | non =>
    simp only[peq]
    exact⟨SeqAt.RcAt.none_none ,SeqAt.RcNeAt.none_none ,SeqAt.EqAt.same _⟩
   | bl b2 =>
    simp only[peq]
    exact⟨SeqAt.RcAt.none_bool _,SeqAt.RcNeAt.none_bool _,SeqAt.EqAt.none_bool _⟩
   | int i2 t2 =>
    simp only[peq]
    exact⟨SeqAt.RcAt.none_int _ _,SeqAt.RcNeAt.none_int _ _,SeqAt.EqAt.none_int _ _⟩
   | str x2 t2 =>
    simp only[peq]
    exact⟨SeqAt.RcAt.none_str _ _,SeqAt.RcNeAt.none_str _ _,SeqAt.EqAt.none_str _ _⟩
   | lst q2 s2 =>
    obtain⟨_,p1⟩:=isL q2
    simp only[peq]
    exact⟨SeqAt.RcAt.none_list p1 hu0,SeqAt.RcNeAt.none_list p1 hu0,SeqAt.EqAt.none_list p1 hu0⟩
   | tup q2 s2 =>
    obtain⟨_,p1⟩:=isT q2
    simp only[peq]
    exact⟨SeqAt.RcAt.none_tuple p1 hu0,SeqAt.RcNeAt.none_tuple p1 hu0,SeqAt.EqAt.none_tuple p1 hu0⟩
  | bl b =>
   cases sh' with
   | non =>
    simp only[peq]
    exact⟨SeqAt.RcAt.bool_none _,SeqAt.RcNeAt.bool_none _,SeqAt.EqAt.bool_none _⟩
   | bl b2 =>
    simp only[peq]
    exact⟨SeqAt.RcAt.bool_bool _ _,SeqAt.RcNeAt.bool_bool _ _,SeqAt.EqAt.bool_bool _ _⟩
   | int i2 t2 =>
    simp only[peq]
    exact⟨SeqAt.RcAt.bool_int _ _ _,SeqAt.RcNeAt.bool_int _ _ _,SeqAt.EqAt.bool_int _ _ _⟩
   | str x2 t2 =>
    simp only[peq]
    exact⟨SeqAt.RcAt.bool_str _ _ _,SeqAt.RcNeAt.bool_str _ _ _,SeqAt.EqAt.bool_str _ _ _⟩
   | lst q2 s2 =>
    obtain⟨_,p1⟩:=isL q2
    simp only[peq]
    exact⟨SeqAt.RcAt.bool_list _ p1 hu0,SeqAt.RcNeAt.bool_list _ p1 hu0,SeqAt.EqAt.bool_list _ p1 hu0⟩
   | tup q2 s2 =>
    obtain⟨_,p1⟩:=isT q2
    simp only[peq]
    exact⟨SeqAt.RcAt.bool_tuple _ p1 hu0,SeqAt.RcNeAt.bool_tuple _ p1 hu0,SeqAt.EqAt.bool_tuple _ p1 hu0⟩
  | int i t =>
   cases sh' with
   | non =>
    simp only[peq]
    exact⟨SeqAt.RcAt.int_none _ _,SeqAt.RcNeAt.int_none _ _,SeqAt.EqAt.int_none _ _⟩
   | bl b2 =>
    simp only[peq]
    exact⟨SeqAt.RcAt.int_bool _ _ _,SeqAt.RcNeAt.int_bool _ _ _,SeqAt.EqAt.int_bool _ _ _⟩
   | int i2 t2 =>
    simp only[peq]
    exact⟨SeqAt.RcAt.int_int _ _ _ _,SeqAt.RcNeAt.int_int _ _ _ _,SeqAt.EqAt.int_int _ _ _ _⟩
   | str x2 t2 =>
    simp only[peq]
    exact⟨SeqAt.RcAt.int_str _ _ _ _,SeqAt.RcNeAt.int_str _ _ _ _,SeqAt.EqAt.int_str _ _ _ _⟩
   | lst q2 s2 =>
    obtain⟨_,p1⟩:=isL q2
    simp only[peq]
    exact⟨SeqAt.RcAt.int_list _ _ p1 hu0,SeqAt.RcNeAt.int_list _ _ p1 hu0,SeqAt.EqAt.int_list _ _ p1 hu0⟩
   | tup q2 s2 =>
    obtain⟨_,p1⟩:=isT q2
    simp only[peq]
    exact⟨SeqAt.RcAt.int_tuple _ _ p1 hu0,SeqAt.RcNeAt.int_tuple _ _ p1 hu0,SeqAt.EqAt.int_tuple _ _ p1 hu0⟩
  | str x t =>
   cases sh' with
   | non =>
    simp only[peq]
    exact⟨SeqAt.RcAt.str_none _ _,SeqAt.RcNeAt.str_none _ _,SeqAt.EqAt.str_none _ _⟩
   | bl b2 =>
    simp only[peq]
    exact⟨SeqAt.RcAt.str_bool _ _ _,SeqAt.RcNeAt.str_bool _ _ _,SeqAt.EqAt.str_bool _ _ _⟩
   | int i2 t2 =>
    simp only[peq]
    exact⟨SeqAt.RcAt.str_int _ _ _ _,SeqAt.RcNeAt.str_int _ _ _ _,SeqAt.EqAt.str_int _ _ _ _⟩
   | str x2 t2 =>
    simp only[peq]
    exact⟨SeqAt.RcAt.str_str _ _ _ _,SeqAt.RcNeAt.str_str _ _ _ _,SeqAt.EqAt.str_str _ _ _ _⟩
   | lst q2 s2 =>
    obtain⟨_,p1⟩:=isL q2
    simp only[peq]
    exact⟨SeqAt.RcAt.str_list _ _ p1 hu0,SeqAt.RcNeAt.str_list _ _ p1 hu0,SeqAt.EqAt.str_list _ _ p1 hu0⟩
   | tup q2 s2 =>
    obtain⟨_,p1⟩:=isT q2
    simp only[peq]
    exact⟨SeqAt.RcAt.str_tuple _ _ p1 hu0,SeqAt.RcNeAt.str_tuple _ _ p1 hu0,SeqAt.EqAt.str_tuple _ _ p1 hu0⟩
  | lst q1 s1 =>
   cases sh' with
   | non =>
    obtain⟨_,p1⟩:=isL q1
    simp only[peq]
    exact⟨SeqAt.RcAt.list_none p1 hu0,SeqAt.RcNeAt.list_none p1 hu0,SeqAt.EqAt.list_none p1 hu0⟩
   | bl b2 =>
    obtain⟨_,p1⟩:=isL q1
    simp only[peq]
    exact⟨SeqAt.RcAt.list_bool _ p1 hu0,SeqAt.RcNeAt.list_bool _ p1 hu0,SeqAt.EqAt.list_bool _ p1 hu0⟩
   | int i2 t2 =>
    obtain⟨_,p1⟩:=isL q1
    simp only[peq]
    exact⟨SeqAt.RcAt.list_int _ _ p1 hu0,SeqAt.RcNeAt.list_int _ _ p1 hu0,SeqAt.EqAt.list_int _ _ p1 hu0⟩
   | str x2 t2 =>
    obtain⟨_,p1⟩:=isL q1
    simp only[peq]
    exact⟨SeqAt.RcAt.list_str _ _ p1 hu0,SeqAt.RcNeAt.list_str _ _ p1 hu0,SeqAt.EqAt.list_str _ _ p1 hu0⟩
   | lst q2 s2 =>
    refine ref rfl rfl ?_
    simp only[peq]
    simp only[cln] at c c'
    exact zlf I hu0 (.inl (sub q1)) (.inl (sub q2)) s1 s2 fun {w z v u p q} m m' r r' rv ru=>(ih hu1 (List.all_eq_true.mp c _ m) (List.all_eq_true.mp c' _ m') r r' rv ru).2.2
   | tup q2 s2 =>
    refine ref rfl rfl ?_
    simp only[peq]
    obtain⟨_,p1⟩:=isL q1
    obtain⟨_,p2⟩:=isT q2
    exact⟨SeqAt.RcAt.list_tuple p1 p2 hu0,SeqAt.RcNeAt.list_tuple p1 p2 hu0⟩
  | tup q1 s1 =>
   cases sh' with
   | non =>
    obtain⟨_,p1⟩:=isT q1
    simp only[peq]
    exact⟨SeqAt.RcAt.tuple_none p1 hu0,SeqAt.RcNeAt.tuple_none p1 hu0,SeqAt.EqAt.tuple_none p1 hu0⟩
   | bl b2 =>
    obtain⟨_,p1⟩:=isT q1
    simp only[peq]
    exact⟨SeqAt.RcAt.tuple_bool _ p1 hu0,SeqAt.RcNeAt.tuple_bool _ p1 hu0,SeqAt.EqAt.tuple_bool _ p1 hu0⟩
   | int i2 t2 =>
    obtain⟨_,p1⟩:=isT q1
    simp only[peq]
    exact⟨SeqAt.RcAt.tuple_int _ _ p1 hu0,SeqAt.RcNeAt.tuple_int _ _ p1 hu0,SeqAt.EqAt.tuple_int _ _ p1 hu0⟩
   | str x2 t2 =>
    obtain⟨_,p1⟩:=isT q1
    simp only[peq]
    exact⟨SeqAt.RcAt.tuple_str _ _ p1 hu0,SeqAt.RcNeAt.tuple_str _ _ p1 hu0,SeqAt.EqAt.tuple_str _ _ p1 hu0⟩
   | lst q2 s2 =>
    refine ref rfl rfl ?_
    simp only[peq]
    obtain⟨_,p1⟩:=isT q1
    obtain⟨_,p2⟩:=isL q2
    exact⟨SeqAt.RcAt.tuple_list p1 p2 hu0,SeqAt.RcNeAt.tuple_list p1 p2 hu0⟩
   | tup q2 s2 =>
    refine ref rfl rfl ?_
    simp only[peq]
    simp only[cln] at c c'
    exact znf I hu0 (.inl (sub q1)) (.inl (sub q2)) s1 s2 fun {w z v u p q} m m' r r' rv ru=>(ih hu1 (List.all_eq_true.mp c _ m) (List.all_eq_true.mp c' _ m') r r' rv ru).2.2
end
end VS
namespace VS
open PySem PySem.Spec PyProof.Rows L2
def drf(ce:Ce):W->W
 | .cel k=>match ce[k]? with
  | some (.lst xs)=>.lst xs
  | _=>.cel k
 | w=>w
def zcz(ce:Ce):W->Option (List W)
 | .lst xs=>some xs
 | .cel k=>match ce[k]? with
  | some (.lst xs)=>some xs
  | _=>none
 | _=>none
def zeN(ce:Ce):W->Option (List W)
 | .tup xs=>some xs
 | w=>zcz ce w
def zn7(ce:Ce):W->Option (List (Key×W))
 | .cel k=>match ce[k]? with
  | some (.dct xs)=>some xs
  | _=>none
 | _=>none
def zn8(ce:Ce):W->Option (List (Key×W))
 | .cel k=>match ce[k]? with
  | some (.dct xs)=>some xs
  | some (.fzd xs)=>some xs
  | _=>none
 | _=>none
def zi0:W->Option Key
 | .int i=>some (.inl i)
 | .str x=>some (.inr x)
 | _=>none
section
variable {G:Ga} {F:Hp} {as:List Addr} {H:Hp} {ce:Ce} {w:W} {v:V}
theorem Store.toH(S:Store G F as H ce):Le F as H as:=⟨S.sub,fun _ _ h=>h⟩
theorem zfx(S:Store G F as H ce)(r:Rep F as w v):Rep H as (drf ce w) v:=by
 cases w with
 | cel k =>
  simp only[drf]
  split
  ·rename_i xs hc
   simp only[Rep] at r ⊢
   obtain⟨a,rfl,h⟩:=r
   obtain⟨_,vs,h2,rs⟩:=S.cell _ _ _ h hc
   exact⟨a,vs,rfl,.inl h2,rs.le S.toH⟩
  ·exact r.le S.toH
 | _=>exact r.le S.toH
theorem zbB{xs:List W}(S:Store G F as H ce)(r:Rep F as w v)(e:zcz ce w=some xs):∃a vs,v=.ref a/\Rd H a (.lst vs)/\Reps F as xs vs:=by
 cases w<;>simp only[zcz,reduceCtorEq,Option.some.injEq] at e
 ·subst e
  simp only[Rep] at r
  obtain⟨a,vs,rfl,h,q⟩:=r
  exact⟨a,vs,rfl,Rd.sub S h,q⟩
 ·split at e
  ·rename_i xs' hc
   cases e
   simp only[Rep] at r
   obtain⟨a,rfl,h⟩:=r
   obtain⟨_,vs,h2,rs⟩:=S.cell _ _ _ h hc
   exact⟨a,vs,rfl,.inl h2,rs⟩
  ·cases e
theorem zfy{xs:List W}(S:Store G F as H ce)(r:Rep F as w v)(e:zeN ce w=some xs):∃a vs,v=.ref a/\(Rd H a (.lst vs)\/Rd H a (.tup vs))/\Reps F as xs vs:=by
 cases w with
 | tup ys =>
  simp only[zeN,Option.some.injEq] at e
  subst e
  simp only[Rep] at r
  obtain⟨a,vs,rfl,h,q⟩:=r
  exact⟨a,vs,rfl,.inr (.inl (S.sub _ _ h)),q⟩
 | _ =>
  obtain⟨a,vs,h1,h2,h3⟩:=zbB S r e
  exact⟨a,vs,h1,.inl h2,h3⟩
theorem zjC{xs:List (Key×W)}(S:Store G F as H ce)(r:Rep F as w v)(e:zn7 ce w=some xs):∃k a ps,w=.cel k/\v=.ref a/\as[k]?=some a/\H a=some (.dK ps)/\RepKV F as xs ps:=by
 cases w<;>simp only[zn7,reduceCtorEq] at e
 split at e
 ·rename_i k xs' hc
  cases e
  simp only[Rep] at r
  obtain⟨a,rfl,h⟩:=r
  obtain⟨_,ps,h2,rs⟩:=S.cell _ _ _ h hc
  exact⟨_,a,ps,rfl,rfl,h,h2,rs⟩
 ·cases e
theorem zhT{xs:List (Key×W)}(S:Store G F as H ce)(r:Rep F as w v)(e:zn8 ce w=some xs):∃k a ps,w=.cel k/\v=.ref a/\as[k]?=some a/\Rd H a (.dK ps)/\RepKV F as xs ps:=by
 cases w<;>simp only[zn8,reduceCtorEq] at e
 split at e
 ·rename_i k xs' hc
  cases e
  simp only[Rep] at r
  obtain⟨a,rfl,h⟩:=r
  obtain⟨_,ps,h2,rs⟩:=S.cell _ _ _ h hc
  exact⟨_,a,ps,rfl,rfl,h,.inl h2,rs⟩
 ·rename_i k xs' hc
  cases e
  simp only[Rep] at r
  obtain⟨a,rfl,h⟩:=r
  obtain⟨_,o,ps,_,h2,rs⟩:=S.cell _ _ _ h hc
  exact⟨_,a,ps,rfl,rfl,h,.inr ⟨o,h2⟩,rs⟩
 ·cases e
theorem zg3{k:Key}(r:Rep F as w v)(e:zi0 w=some k):v=kV k:=by
 cases w<;>simp only[zi0,reduceCtorEq,Option.some.injEq] at e<;>subst e<;>simp only[Rep] at r<;>exact r
end
def zqq(ng:Bool):R2:=fun x y H Q=>∃as w z,Rep H as w x/\Rep H as z y/\cln 8 w=true/\cln 8 z=true/\Q (.bl (if ng then !peq w z else peq w z)) H
def zrh(K:PySem.W.Frag)(ng:Bool):R2:=fun x y H Q=>∃as w ys a vs,Rep H as w x/\y=.ref a/\(SqL K H a vs\/SqT K H a vs)/\Reps H as ys vs/\cln 8 w=true/\ys.all (cln 8)=true/\Q (.bl (if ng then !ys.any (peq · w) else ys.any (peq · w))) H
section
variable {X:Cx}
theorem zhU(hu:X.A.units+8<cLine):OpR X (compareOp .Eq) (zqq false):=by
 intro pins s σ H x y v u Q I rx ry ⟨as,w,z,r1,r2,c1,c2,q⟩
 exact(zqp (fun _ _ h=>h) I 8 hu c1 c2 r1 r2 rx ry).1 X.prog X.w X.xe _ ⟨.bl _,H,I,rfl,q⟩
theorem zl8(hu:X.A.units+8<cLine):OpR X (compareOp .NotEq) (zqq true):=by
 intro pins s σ H x y v u Q I rx ry ⟨as,w,z,r1,r2,c1,c2,q⟩
 exact(zqp (fun _ _ h=>h) I 8 hu c1 c2 r1 r2 rx ry).2.1 X.prog X.w X.xe _ ⟨.bl _,H,I,rfl,q⟩
open Classical in
theorem zcg{pins:List (Addr×Obj)}{σ:VS.St}{H:Hp}{s:Shared}{as:List Addr}{A:Around}{w:W}{x:V}{u:Value}{ys:List W}{vs:List V}{ps:List Value}(I:Inv X pins σ H s)(hu:A.units+8<cLine)(rw':Rep H as w x)(c:cln 8 w=true)(cs:ys.all (cln 8)=true)(ru:L2.RelV x u)(rs:Reps H as ys vs)(rp:Vals vs ps):∃e:Value->Bool,(∀y,y∈ps.toArray->SeqAt.EqAt A s y u (e y))/\ps.toArray.any e=ys.any (peq · w):=by
 have hl:=rs.length
 have hl2:=rp.length
 have key:∀{j:Nat} {p:Value},ps[j]?=some p->∃y v,ys[j]?=some y/\Rep H as y v/\L2.RelV v p/\cln 8 y=true:=fun {j p} hp=>by
  have hj:=zaB hp
  have e1:vs[j]?=some (vs[j]'(by omega)):=by simp
  obtain⟨q,hq,rq⟩:=rp.get e1
  rw[hp] at hq
  cases hq
  obtain⟨y,hy,ry⟩:=rs.get' e1
  exact⟨y,_,hy,ry,rq,List.all_eq_true.mp cs _ (List.mem_of_getElem? hy)⟩
 have uniq:∀{j j':Nat} {p:Value} {y y':W},ps[j]?=some p->ps[j']?=some p->ys[j]?=some y->ys[j']?=some y'->y=y':=fun {j j' p y y'} h1 h2 h3 h4=>by
  obtain⟨z,v,hz,rz,rv,cz⟩:=key h1
  obtain⟨z',v',hz',rz',rv',cz'⟩:=key h2
  rw[h3] at hz;cases hz
  rw[h4] at hz';cases hz'
  cases rv.inj rv'
  exact zg2 8 cz cz' rz rz'
 refine⟨fun p=>decide (∃(j:Nat) (y:W),ps[j]?=some p/\ys[j]?=some y/\peq y w=true),fun p hp=>?_,?_⟩
 ·have hp':p∈ps:=by simpa using hp
  obtain⟨j,hj⟩:=List.getElem?_of_mem hp'
  obtain⟨y,v,hy,ry,rv,cy⟩:=key hj
  have q:=(zqp (fun _ _ h=>h) I 8 hu cy c ry rw' rv ru).2.2
  have e:decide (∃(j:Nat) (y:W),ps[j]?=some p/\ys[j]?=some y/\peq y w=true)=peq y w:=by
   rw[Bool.eq_iff_iff,decide_eq_true_iff]
   constructor
   ·rintro⟨j',y',h1,h2,h3⟩
    rw[uniq hj h1 hy h2];exact h3
   ·intro h
    exact⟨j,y,hj,hy,h⟩
  show SeqAt.EqAt A s p u (decide (∃(j:Nat) (y:W),ps[j]?=some p/\ys[j]?=some y/\peq y w=true))
  rw[e];exact q
 ·rw[Bool.eq_iff_iff,Array.any_eq_true',List.any_eq_true]
  constructor
  ·rintro⟨p,_,hp⟩
   obtain⟨j,y,h1,h2,h3⟩:=of_decide_eq_true hp
   exact⟨y,List.mem_of_getElem? h2,h3⟩
  ·rintro⟨y,hy,h⟩
   obtain⟨j,hj⟩:=List.getElem?_of_mem hy
   have hlt:=zaB hj
   have e1:ps[j]?=some (ps[j]'(by omega)):=by simp
   refine⟨ps[j]'(by omega),by simp,decide_eq_true ⟨j,y,e1,hj,h⟩⟩
theorem zl9{K:PySem.W.Frag}(hu:X.A.units+9<cLine)(hK:X.K=K:=by rfl):OpR X (compareOp .In) (zrh K false):=by
 subst hK
 intro pins s σ H x y v u Q I rx ry ⟨as,w,ys,a,vs,r1,ey,sq,rs,c1,c2,q⟩
 subst ey
 cases ry
 rcases sq with sq|sq
 ·obtain⟨ps,rp,pl,_⟩:=I.list sq
  obtain⟨e,he,ea⟩:=zcg (A:=X.A.in1) I (by show X.A.units+1+8<cLine;omega) r1 c1 c2 rx rs rp
  exact SeqAt.in_listAt e pl.isList he ⟨.bl _,H,I,rfl,by rw[ea];exact q⟩
 ·obtain⟨ps,rp,pl,_⟩:=I.tuple sq
  obtain⟨e,he,ea⟩:=zcg (A:=X.A.in1) I (by show X.A.units+1+8<cLine;omega) r1 c1 c2 rx rs rp
  exact SeqAt.in_tupleAt e pl he ⟨.bl _,H,I,rfl,by rw[ea];exact q⟩
theorem zjD{K:PySem.W.Frag}(hu:X.A.units+9<cLine)(hK:X.K=K:=by rfl):OpR X (compareOp .NotIn) (zrh K true):=by
 subst hK
 intro pins s σ H x y v u Q I rx ry ⟨as,w,ys,a,vs,r1,ey,sq,rs,c1,c2,q⟩
 subst ey
 cases ry
 rcases sq with sq|sq
 ·obtain⟨ps,rp,pl,_⟩:=I.list sq
  obtain⟨e,he,ea⟩:=zcg (A:=X.A.in1) I (by show X.A.units+1+8<cLine;omega) r1 c1 c2 rx rs rp
  exact SeqAt.notIn_listAt e pl.isList he ⟨.bl _,H,I,rfl,by rw[ea];exact q⟩
 ·obtain⟨ps,rp,pl,_⟩:=I.tuple sq
  obtain⟨e,he,ea⟩:=zcg (A:=X.A.in1) I (by show X.A.units+1+8<cLine;omega) r1 c1 c2 rx rs rp
  exact SeqAt.notIn_tupleAt e pl he ⟨.bl _,H,I,rfl,by rw[ea];exact q⟩
end
def eqW(ng:Bool)(ce:Ce)(x y:W):Option W:=if (cln 8 (drf ce x)&&cln 8 (drf ce y))=true then some (.bl (if ng then !peq (drf ce x) (drf ce y) else peq (drf ce x) (drf ce y))) else none
def inW(ng:Bool)(ce:Ce)(x y:W):Option W:=match zeN ce y with
 | some ys=>if (cln 8 (drf ce x)&&ys.all (cln 8))=true then some (.bl (if ng then !ys.any (peq · (drf ce x)) else ys.any (peq · (drf ce x)))) else none
 | none=>none
def zay(f:Ce->W->W->Option W)(a b:Sl->M W):Sl->M W:=fun sl=>bnd (a sl) fun x=>bnd (b sl) fun y=>look fun ce=>f ce x y
section
variable {X:Cx} {G:Ga} {E:XK} {a b c:Expr} {da db dc:Sl->M W} {pos:Pos}
def OpC(r:R2)(f:Ce->W->W->Option W):Prop:=∀(G:Ga) F as H ce x y wx wy w,Store G F as H ce->Rep F as wx x->Rep F as wy y->f ce wx wy=some w->∀Q:VK,(∀v,Rep F as w v->Q v H)->r x y H Q
theorem zbC{r:R2}{f:Ce->W->W->Option W}(hf:OpC r f)(σ:L2.St)(H:Hp)(Q:VK)(h:zaD G E (zay f da db) σ H Q):tOp r (zaD G E da) (zaD G E db) σ H Q:=by
 refine zhP h fun F as sl ce H2 x y wx wy S rx ry P=>?_
 obtain⟨w,e,P⟩:=zb9 P
 exact hf G F as H2 ce x y wx wy w S.st rx ry e Q fun v r=>P.done S r
theorem zjE(ng:Bool):OpC (zqq ng) (eqW ng):=by
 intro G F as H ce x y wx wy w S rx ry e Q q
 unfold eqW at e
 split at e
 ·rename_i hc
  rw[Bool.and_eq_true] at hc
  cases e
  exact⟨as,_,_,zfx S rx,zfx S ry,hc.1,hc.2,q _ (by simp only[Rep])⟩
 ·cases e
theorem zjF(K:PySem.W.Frag)(ng:Bool):OpC (zrh K ng) (inW ng):=by
 intro G F as H ce x y wx wy w S rx ry e Q q
 unfold inW at e
 split at e
 ·rename_i ys hy
  split at e
  ·rename_i hc
   rw[Bool.and_eq_true] at hc
   cases e
   obtain⟨a,vs,rfl,h,rs⟩:=zfy S ry hy
   exact⟨as,_,ys,a,vs,zfx S rx,rfl,h.imp .inl .inl,rs.le S.toH,hc.1,hc.2,q _ (by simp only[Rep])⟩
  ·cases e
 ·cases e
theorem zoT(hu:X.A.units+8<cLine)(ha:PE X a (zaD G E da))(hb:PE X b (zaD G E db)):PE X (.Compare a [.Eq] [b] pos) (zaD G E (zay (eqW false) da db)):=PE.imp (zfs (zhU hu) ha hb (zcv _)) (zbC (zjE false))
theorem zng(hu:X.A.units+9<cLine)(ha:PE X a (zaD G E da))(hb:PE X b (zaD G E db))(hm:behindInMarks .In b=false):PE X (.Compare a [.In] [b] pos) (zaD G E (zay (inW false) da db)):=PE.imp (zfs (zl9 hu rfl) ha hb hm) (zbC (zjF _ false))
theorem zfz(hu:X.A.units+8<cLine)(ha:PE X a (zaD G E da))(hb:PE X b (zaD G E db)):PT X (.Compare a [.Eq] [b] pos) (zcp G E (dB (zay (eqW false) da db))):=zfv (zhU hu) ha hb (zcv _) (zbC (zjE false))
theorem zlh(hu:X.A.units+8<cLine)(ha:PE X a (zaD G E da))(hb:PE X b (zaD G E db)):PT X (.Compare a [.NotEq] [b] pos) (zcp G E (dB (zay (eqW true) da db))):=zfv (zl8 hu) ha hb (zcv _) (zbC (zjE true))
theorem znh(hu:X.A.units+9<cLine)(ha:PE X a (zaD G E da))(hb:PE X b (zaD G E db))(hm:behindInMarks .In b=false):PT X (.Compare a [.In] [b] pos) (zcp G E (dB (zay (inW false) da db))):=zfv (zl9 hu rfl) ha hb hm (zbC (zjF _ false))
theorem zd4(hu:X.A.units+9<cLine)(ha:PE X a (zaD G E da))(hb:PE X b (zaD G E db))(hm:behindInMarks .NotIn b=false):PT X (.Compare a [.NotIn] [b] pos) (zcp G E (dB (zay (inW true) da db))):=zfv (zjD hu rfl) ha hb hm (zbC (zjF _ true))
theorem zjG{r:R2}{f:W->W->Option W}(hf:Sc2 r f):OpC r (fun _=>f):=by
 intro G F as H ce x y wx wy w S rx ry e Q q
 obtain⟨vx,vy,vw,e1,e2,e3,k⟩:=hf _ _ _ e
 rw[rx.sc e1,ry.sc e2]
 exact k _ _ (q _ (Rep.of_sc e3))
theorem ziD(ha:PE X a (zaD G E da))(hb:PE X b (zaD G E db)):PT X (.Compare a [.Lt] [b] pos) (zcp G E (dB (dOp fLt da db))):=zfv zqT ha hb (zcv _) (zbC (zjG (zjv fun _ _=>rfl)))
theorem zjH(ha:PE X a (zaD G E da))(hb:PE X b (zaD G E db)):PT X (.Compare a [.Gt] [b] pos) (zcp G E (dB (dOp fGt da db))):=zfv zqU ha hb (zcv _) (zbC (zjG (zjv fun _ _=>rfl)))
theorem zni{j pos'}(ha:PE X a (zaD G E da)):PT X (.Compare a [.IsNot] [.Constant .none j pos'] pos) (zcp G E (dB (dUn zld da))) :=
 zoS ⟨_,zmI ha,fun σ H Q zz_=>el6 zz_ fun F as sl ce S P=>(step S P).mono fun x H1 zz_=>el8 zz_ fun wx F1 as1 ce1 l1 S1 rx P1=>Post.done S1 (a:=W.bl _) P1 (by simp only[Rep];rw[rx.isN])⟩ (zcv _)
def zi1(a b:Sl->M W):Sl->M W:=fun sl=>bnd (a sl) fun x=>match x with
 | .bl true=>b sl
 | .bl false=>ret (.bl false)
 | _=>zjt
def zr1(a:Sl->M W):Sl->M W:=fun sl=>bnd (a sl) fun x=>match x with
 | .bl b=>ret (.bl (!b))
 | _=>zjt
def zdU(a b:Sl->M Bool):Sl->M Bool:=fun sl=>bnd (a sl) fun x=>match x with
 | true=>b sl
 | false=>ret false
def zli(a b:Sl->M Bool):Sl->M Bool:=fun sl=>bnd (a sl) fun x=>match x with
 | true=>ret true
 | false=>b sl
def zdV(a:Sl->M Bool):Sl->M Bool:=fun sl=>bnd (a sl) fun x=>ret (!x)
def ztf(c:Sl->M Bool)(a b:Sl->M W):Sl->M W:=fun sl=>bnd (c sl) fun x=>match x with
 | true=>a sl
 | false=>b sl
variable {zeM:List Expr} {ta tb:Sl->M Bool}
theorem zjI{op}(h:PE X a (zaD G E da)):PE X (.BoolOp op [a] pos) (zaD G E da):=zon h
theorem zhV(ha:PE X a (zaD G E da))(hb:PE X (.BoolOp .And (b::zeM) pos) (zaD G E db)):PE X (.BoolOp .And (a::b::zeM) pos) (zaD G E (zi1 da db)):=by
 refine PE.imp (zoo ha hb) fun σ H Q zz_=>el6 zz_ fun F as sl ce S P=>(step S P).mono fun x H1 zz_=>el8 zz_ fun wx F1 as1 ce1 l1 S1 rx P1=>?_
 cases wx<;>first|exact(show False from P1).elim|skip
 rename_i k
 simp only[Rep] at rx
 subst rx
 cases k
 ·exact⟨false,rfl,by rw[if_neg Bool.false_ne_true];exact Post.done S1 (a:=W.bl false) P1 (by simp only[Rep])⟩
 ·exact⟨true,rfl,by rw[if_pos rfl];exact⟨F1,as1,sl,ce1,S1,P1⟩⟩
theorem zoU(ha:PE X a (zaD G E da)):PE X (.UnaryOp .Not a pos) (zaD G E (zr1 da)):=by
 refine PE.imp (zop ha) fun σ H Q zz_=>el6 zz_ fun F as sl ce S P=>(step S P).mono fun x H1 zz_=>el8 zz_ fun wx F1 as1 ce1 l1 S1 rx P1=>?_
 cases wx<;>first|exact(show False from P1).elim|skip
 rename_i k
 simp only[Rep] at rx
 subst rx
 exact⟨k,rfl,Post.done S1 (a:=W.bl (!k)) P1 (by simp only[Rep])⟩
theorem zc9(ha:PT X a (zcp G E ta)):PW X (.BoolOp .And [a] pos) (zcp G E ta):=zmJ ha
theorem zhW(ha:PT X a (zcp G E ta)):PW X (.BoolOp .Or [a] pos) (zcp G E ta):=zok ha
theorem zed(ha:PT X a (zcp G E ta))(hb:PW X (.BoolOp .And (b::zeM) pos) (zcp G E tb)):PW X (.BoolOp .And (a::b::zeM) pos) (zcp G E (zdU ta tb)):=by
 refine PW.imp (zol ha hb) fun σ H Q zz_=>el6 zz_ fun F as sl ce S P=>(step (RP:=rB) S P).mono fun x H1 zz_=>el8 zz_ fun wx F1 as1 ce1 l1 S1 rx P1=>?_
 have rx:wx=x:=rx
 subst rx
 cases wx
 ·rw[if_neg Bool.false_ne_true];exact Post.done (RP:=rB) S1 (a:=false) P1 rfl
 ·rw[if_pos rfl];exact⟨F1,as1,sl,ce1,S1,P1⟩
theorem zlj(ha:PT X a (zcp G E ta))(hb:PW X (.BoolOp .Or (b::zeM) pos) (zcp G E tb)):PW X (.BoolOp .Or (a::b::zeM) pos) (zcp G E (zli ta tb)):=by
 refine PW.imp (zqC ha hb) fun σ H Q zz_=>el6 zz_ fun F as sl ce S P=>(step (RP:=rB) S P).mono fun x H1 zz_=>el8 zz_ fun wx F1 as1 ce1 l1 S1 rx P1=>?_
 have rx:wx=x:=rx
 subst rx
 cases wx
 ·rw[if_neg Bool.false_ne_true];exact⟨F1,as1,sl,ce1,S1,P1⟩
 ·rw[if_pos rfl];exact Post.done (RP:=rB) S1 (a:=true) P1 rfl
theorem zdF(ha:PT X a (zcp G E ta)):PT X (.UnaryOp .Not a pos) (zcp G E (zdV ta)):=by
 refine PT.imp (zom ha) fun σ H Q zz_=>el6 zz_ fun F as sl ce S P=>(step (RP:=rB) S P).mono fun x H1 zz_=>el8 zz_ fun wx F1 as1 ce1 l1 S1 rx P1=>?_
 have rx:wx=x:=rx
 subst rx
 exact Post.done (RP:=rB) S1 (a:=!wx) P1 rfl
end
end VS
namespace VS
open PySem PySem.Spec PyProof.Rows L2
section
def zal:Sl->M (List W):=fun _=>ret []
def zac(a:Sl->M W)(r:Sl->M (List W)):Sl->M (List W):=fun sl=>bnd (a sl) fun x=>bnd (r sl) fun xs=>ret (x::xs)
open Classical in
def mkF(w:W)(n:Nat):M W:=fun ce=>if n<=sizeLine then some (.ok w ce) else none
open Classical in
def mkC(c:C)(n:Nat):M W:=fun ce=>if n<=sizeLine then some (.ok (.cel ce.length) (ce++[c])) else none
def zeP(r:Sl->M (List W)):Sl->M W:=fun sl=>bnd (r sl) fun xs=>mkF (.tup xs) xs.length
def zbO(r:Sl->M (List W)):Sl->M W:=fun sl=>bnd (r sl) fun xs=>mkF (.lst xs) xs.length
def zb4(r:Sl->M (List W)):Sl->M W:=fun sl=>bnd (r sl) fun xs=>mkC (.lst xs) xs.length
section
variable {X:Cx} {G:Ga} {E:XK} {e:Expr} {es:List Expr} {da:Sl->M W} {dr:Sl->M (List W)} {pos:Pos} {F:Hp} {as:List Addr} {H:Hp} {σ:VS.St} {sl:Sl} {ce:Ce} {Q:VK}
theorem zad:PA X [] (ziz G E zal):=PA.imp zoG fun σ H Q zz_=>el6 zz_ fun F as sl ce S P=>Post.done (RP:=Reps) S (a:=[]) P Reps.nil
theorem zaa(ha:PE X e (zaD G E da))(hr:PA X es (ziz G E dr))(hs:starEach (e::es) X.env=(false,eval e X.env)::starEach es X.env:=by rfl):PA X (e::es) (ziz G E (zac da dr)):=by
 refine PA.imp (zmW ha hr hs) fun σ H Q zz_=>el6 zz_ fun F as sl ce S P=>(step S P).mono fun x H1 zz_=>el8 zz_ fun wx F1 as1 ce1 l1 S1 rx P1=>(step (RP:=Reps) S1 P1).mono fun y H2 zz_=>el8 zz_ fun wy F2 as2 ce2 l2 S2 ry P2=>?_
 exact Post.done (RP:=Reps) S2 (a:=wx::wy) P2 (.cons (rx.le l2) ry)
theorem zjJ{xs:List W}{vs:List V}{n:Nat}(S:SR G F as H σ sl ce)(rs:Reps F as xs vs)(P:Post G E Rep F as σ sl Q (mkF (.lst xs) n ce)):n<=sizeLine/\∀p,H p=none->Q (.ref p) (upd H p (.lst vs)):=by
 revert P
 unfold mkF
 split
 ·rename_i h
  intro P
  refine⟨h,fun p hp=>?_⟩
  obtain⟨S',l⟩:=S.st.freeze (o:=.lst vs) hp
  exact P _ _ _ _ l (S.slots S' l) (by simp only[Rep];exact⟨p,vs,rfl,.inl zaM,rs.le l⟩)
 ·exact fun P=>P.elim
theorem zjK{xs:List W}{vs:List V}{n:Nat}(S:SR G F as H σ sl ce)(rs:Reps F as xs vs)(P:Post G E Rep F as σ sl Q (mkF (.tup xs) n ce)):n<=sizeLine/\∀p,H p=none->Q (.ref p) (upd H p (.tup vs)):=by
 revert P
 unfold mkF
 split
 ·rename_i h
  intro P
  refine⟨h,fun p hp=>?_⟩
  obtain⟨S',l⟩:=S.st.freeze (o:=.tup vs) hp
  exact P _ _ _ _ l (S.slots S' l) (by simp only[Rep];exact⟨p,vs,rfl,zaM,rs.le l⟩)
 ·exact fun P=>P.elim
theorem zjL{c:C}{o:HO}{n:Nat}(S:SR G F as H σ sl ce)(hc:∀p as',Le F as F as'->CRep G F as' (upd H p o) p c)(P:Post G E Rep F as σ sl Q (mkC c n ce)):n<=sizeLine/\∀p,H p=none->Q (.ref p) (upd H p o):=by
 revert P
 unfold mkC
 split
 ·rename_i h
  intro P
  refine⟨h,fun p hp=>?_⟩
  obtain⟨S',l⟩:=S.st.alloc (c:=c) hp (hc p)
  exact P _ _ _ _ l (S.slots S' l) (by simp only[Rep];exact⟨p,rfl,by rw[<- S.st.len];simp⟩)
 ·exact fun P=>P.elim
theorem zjM{xs:List W}{vs:List V}{n:Nat}(S:SR G F as H σ sl ce)(rs:Reps F as xs vs)(P:Post G E Rep F as σ sl Q (mkC (.lst xs) n ce)):n<=sizeLine/\∀p,H p=none->Q (.ref p) (upd H p (.lst vs)) :=
 zjL (c:=.lst xs) S (fun p as' l=>⟨vs,zaM,rs.le l⟩) P
theorem zb0{x1}(h:PA X es (ziz G E dr)):PE X (.Tuple es x1 pos) (zaD G E (zeP dr)):=by
 refine PE.imp (zoH h) fun σ H Q zz_=>el6 zz_ fun F as sl ce S P=>(step (RP:=Reps) S P).mono fun x H1 zz_=>el8 zz_ fun wx F1 as1 ce1 l1 S1 rx P1=>?_
 have:=zjK S1 rx P1
 rwa [<- Reps.length rx] at this
theorem zaJ(h:PA X es (ziz G E dr)):PE X (.List es pos) (zaD G E (zbO dr)):=by
 refine PE.imp (zl1 h) fun σ H Q zz_=>el6 zz_ fun F as sl ce S P=>(step (RP:=Reps) S P).mono fun x H1 zz_=>el8 zz_ fun wx F1 as1 ce1 l1 S1 rx P1=>?_
 have:=zjJ S1 rx P1
 rwa [<- Reps.length rx] at this
theorem zbU(h:PA X es (ziz G E dr)):PE X (.List es pos) (zaD G E (zb4 dr)):=by
 refine PE.imp (zl1 h) fun σ H Q zz_=>el6 zz_ fun F as sl ce S P=>(step (RP:=Reps) S P).mono fun x H1 zz_=>el8 zz_ fun wx F1 as1 ce1 l1 S1 rx P1=>?_
 have:=zjM S1 rx P1
 rwa [<- Reps.length rx] at this
def zg4:Sl->M W:=fun _=>mkC (.dct []) 0
theorem zg5:PE X (.Dict [] [] pos) (zaD G E zg4):=by
 refine PE.imp zla fun σ H Q zz_=>el6 zz_ fun F as sl ce S P=>?_
 exact(zjL (c:=.dct []) (o:=.dK []) S (fun p as' l=>⟨[],zaM,.nil⟩) P).2
end
def ziE(kvs:List (Key×W))(k:Key):Option W:=(kvs.find? fun kv=>decide (kv.1=k)).map (·.2)
def zg6(kvs:List (Key×W))(k:Key)(v:W):List (Key×W) :=
 if (kvs.any fun kv=>decide (kv.1=k))=true then kvs.map (fun kv=>if kv.1=k then (kv.1,v) else kv) else kvs++[(k,v)]
section
variable {F:Hp} {as:List Addr} {kvs:List (Key×W)} {ps:List (Key×V)}
theorem RepKV.val(r:RepKV F as kvs ps)(k:Key):(ziE kvs k=none/\zix ps k=none)\/∃w v,ziE kvs k=some w/\zix ps k=some v/\Rep F as w v:=by
 induction r with
 | nil=>exact .inl ⟨rfl,rfl⟩
 | @cons p q l1 l2 h t ih =>
  obtain⟨e,rv⟩:=h
  by_cases hk:p.1=k
  ·refine .inr ⟨p.2,q.2,?_,zd2 (by rw[<- e];exact hk),rv⟩
   simp[ziE,List.find?_cons,hk]
  ·have e1:ziE (p::l1) k=ziE l1 k:=by simp only[ziE,List.find?_cons,hk,decide_false]
   rw[e1,zd3 (by rw[<- e];exact hk)]
   exact ih
theorem RepKV.any(r:RepKV F as kvs ps)(k:Key):(kvs.any fun kv=>decide (kv.1=k))=(ps.any fun kv=>decide (kv.1=k)):=by
 induction r with
 | nil=>rfl
 | cons h t ih=>rw[List.any_cons,List.any_cons,ih,h.1]
theorem RepKV.mapPut{w:W}{v:V}(k:Key)(rv:Rep F as w v)(r:RepKV F as kvs ps):RepKV F as (kvs.map fun kv=>if kv.1=k then (kv.1,w) else kv) (ps.map fun kv=>if kv.1=k then (kv.1,v) else kv):=by
 induction r with
 | nil=>exact .nil
 | @cons p q l1 l2 h t ih =>
  rw[List.map_cons,List.map_cons]
  refine .cons ?_ ih
  by_cases hk:p.1=k
  ·rw[if_pos hk,if_pos (by rw[<- h.1];exact hk)]
   exact⟨h.1,rv⟩
  ·rw[if_neg hk,if_neg (by rw[<- h.1];exact hk)]
   exact h
theorem RepKV.put{w:W}{v:V}(r:RepKV F as kvs ps)(k:Key)(rv:Rep F as w v):RepKV F as (zg6 kvs k w) (zf4 ps k v):=by
 unfold zg6 zf4
 rw[r.any k]
 split
 ·exact r.mapPut k rv
 ·exact Paired.app r (.cons ⟨rfl,rv⟩ .nil)
theorem RepKV.length(r:RepKV F as kvs ps):kvs.length=ps.length:=Paired.length r
end
def zlk(ng:Bool)(ce:Ce)(x y:W):Option W:=match zi0 x,zn7 ce y with
 | some k,some kvs=>some (.bl (if ng then !(ziE kvs k).isSome else (ziE kvs k).isSome))
 | _,_=>none
section
variable {X:Cx} {G:Ga} {E:XK} {a b c:Expr} {da db dc:Sl->M W} {pos:Pos}
theorem znj(ng:Bool)(σ:L2.St)(H:Hp)(Q:VK)(h:zaD G E (zay (zlk ng) da db) σ H Q) :
  zaD G E da σ H fun y H1=>zaD G E db σ H1 fun x H2=>∃a o,x=.ref a/\DGet H2 a y o/\Q (.bl (if ng then !o.isSome else o.isSome)) H2:=by
 obtain⟨F,as,sl,ce,S,P⟩:=h
 refine(step S P).mono fun x H1 zz_=>el8 zz_ fun wx F1 as1 ce1 l1 S1 rx P1=>(step S1 P1).mono fun y H2 zz_=>el8 zz_ fun wy F2 as2 ce2 l2 S2 ry P2=>?_
 obtain⟨w,e,P3⟩:=zb9 P2
 unfold zlk at e
 split at e
 ·rename_i k kvs hk hd
  cases e
  obtain⟨n,a,ps,rfl,rfl,ha,hH,rk⟩:=zjC S2.st ry hd
  rw[zg3 rx hk]
  refine⟨a,_,rfl,DGet.k hH,?_⟩
  rcases rk.val k with ⟨e1,e2⟩|⟨w,v,e1,e2,_⟩
  ·rw[e1] at P3;rw[e2];exact P3.done S2 (by simp only[Rep];cases ng<;>rfl)
  ·rw[e1] at P3;rw[e2];exact P3.done S2 (by simp only[Rep];cases ng<;>rfl)
 ·cases e
theorem zee(hu:X.A.units+1<cLine)(ha:PE X a (zaD G E da))(hb:PE X b (zaD G E db))(h1:behindInMarks .NotIn b=false):PT X (.Compare a [.NotIn] [b] pos) (zcp G E (dB (zay (zlk true) da db))):=zoS ⟨_,zjq hu ha hb,znj true⟩ h1
def ixW(ce:Ce)(x y:W):Option W:=match zeN ce x,y with
 | some xs,.int i=>atI xs i
 | _,_=>none
theorem Reps.atI{F:Hp}{as:List Addr}{ws:List W}{vs:List V}{i:Int}{w:W}(r:Reps F as ws vs)(h:L2.atI ws i=some w):∃v,L2.atI vs i=some v/\Rep F as w v:=by
 unfold L2.atI at h ⊢
 rw[r.length]
 cases e:ixN ws.length i with
 | none=>rw[e] at h;cases h
 | some j=>rw[e] at h;exact r.get h
theorem zoV(K:PySem.W.Frag):OpC (fun x y H Q=>zq2 K x y H Q\/zq3 K x y H Q) ixW:=by
 intro G F as H ce x y wx wy w S rx ry e Q q
 unfold ixW at e
 split at e
 ·rename_i xs i hs
  obtain⟨a,vs,rfl,h,rs⟩:=zfy S rx hs
  obtain⟨v,hv,rv⟩:=rs.atI e
  simp only[Rep] at ry
  subst ry
  rcases h with h|h
  ·exact .inl ⟨a,vs,i,v,rfl,rfl,.inl h,hv,q _ rv⟩
  ·exact .inr ⟨a,vs,i,v,rfl,rfl,.inl h,hv,q _ rv⟩
 ·cases e
theorem zaC(ha:PE X a (zaD G E da))(hb:PE X b (zaD G E db))(hs:zjh b):PE X (.Subscript a b pos) (zaD G E (zay ixW da db)):=PE.imp (zq1 (IxR.or (ixL X.K rfl) (ixT X.K rfl)) ha hb hs) (zbC (zoV _))
def zdt:Sl->M (Option Int):=fun _=>ret none
def zef(d:Sl->M W):Sl->M (Option Int):=fun sl=>bnd (d sl) fun w=>match w with
 | .int i=>ret (some i)
 | _=>zjt
def rO:Hp->List Addr->Option Int->Option Int->Prop:=fun _ _ a b=>a=b
abbrev zoW(G:Ga)(E:XK)(d:Sl->M (Option Int)):TO:=toT G E rO d
theorem PO.imp{e:Option Expr}{t t':TO}(h:PO X e t)(q:∀σ H Q,t' σ H Q->t σ H Q):PO X e t':=fun pins s σ H Q I z=>h pins s σ H Q I (q _ _ _ z)
theorem znk:PO X none (zoW G E zdt):=PO.imp zmZ fun σ H Q zz_=>el6 zz_ fun F as sl ce S P=>Post.done (RP:=rO) S (a:=none) P rfl
theorem zjN(h:PE X a (zaD G E da)):PO X (some a) (zoW G E (zef da)):=by
 refine PO.imp (zm0 h) fun σ H Q zz_=>el6 zz_ fun F as sl ce S P=>(step S P).mono fun x H1 zz_=>el8 zz_ fun wx F1 as1 ce1 l1 S1 rx P1=>?_
 cases wx<;>first|exact(show False from P1).elim|skip
 simp only[Rep] at rx
 exact⟨_,rx,Post.done (RP:=rO) S1 (a:=some _) P1 rfl⟩
def zma(xs:List W)(lo hi:Option Int):List W:=(xs.drop (HT.sIx xs.length 0 lo)).take (HT.sIx xs.length xs.length hi-HT.sIx xs.length 0 lo)
theorem Reps.cut{F:Hp}{as:List Addr}{ws:List W}{vs:List V}(r:Reps F as ws vs)(lo hi:Option Int):Reps F as (zma ws lo hi) (zn6 vs lo hi):=by
 unfold zma zn6
 rw[r.length]
 exact(r.drop _).take _
def slW(mk:List W->M W)(x:W)(lo hi:Option Int):M W:=fun ce=>match zcz ce x with
 | some xs=>mk (zma xs lo hi) ce
 | none=>none
def zaT(xs:List W):M W:=mkF (.lst xs) xs.length
def zgi(xs:List W):M W:=mkC (.lst xs) xs.length
def zri(xs:List W):M W:=mkF (.tup xs) xs.length
def dSl(mk:List W->M W)(d:Sl->M W)(l h:Sl->M (Option Int)):Sl->M W:=fun sl=>bnd (d sl) fun x=>bnd (l sl) fun lo=>bnd (h sl) fun hi=>slW mk x lo hi
def MkL(G:Ga)(E:XK)(mk:List W->M W):Prop:=∀{F:Hp} {as:List Addr} {H:Hp} {σ:VS.St} {sl:Sl} {ce:Ce} {Q:VK} {xs:List W} {vs:List V},SR G F as H σ sl ce->Reps F as xs vs->Post G E Rep F as σ sl Q (mk xs ce)->xs.length<=sizeLine/\∀p,H p=none->Q (.ref p) (upd H p (.lst vs))
theorem zb5:MkL G E zaT:=fun S rs P=>zjJ S rs P
theorem zkK:MkL G E zgi:=fun S rs P=>zjM S rs P
theorem zrj{lo hi:Option Expr}{dl dh:Sl->M (Option Int)}{mk:List W->M W}{p2:Pos}(hm:MkL G E mk)(he:PE X a (zaD G E da))(hl:PO X lo (zoW G E dl))(hu:PO X hi (zoW G E dh)):PE X (.Subscript a (.Slice lo hi none p2) pos) (zaD G E (dSl mk da dl dh)):=by
 refine PE.imp (zk0 (L2.slL X.K) he hl hu) fun σ H Q zz_=>el6 zz_ fun F as sl ce S P=>(step S P).mono fun x H1 zz_=>el8 zz_ fun wx F1 as1 ce1 l1 S1 rx P1=>(step (RP:=rO) S1 P1).mono fun y H2 zz_=>el8 zz_ fun wy F2 as2 ce2 l2 S2 ry P2=>(step (RP:=rO) S2 P2).mono fun z H3 zz_=>el8 zz_ fun wz F3 as3 ce3 l3 S3 rz P3=>?_
 have ry:wy=y:=ry
 have rz:wz=z:=rz
 subst ry rz
 unfold slW at P3
 cases e:zcz ce3 wx with
 | none=>rw[e] at P3;exact(show False from P3).elim
 | some xs =>
  rw[e] at P3
  obtain⟨p,vs,rfl,h,rs⟩:=zbB S3.st ((rx.le l2).le l3) e
  exact⟨p,vs,rfl,.inl h,(hm S3 (rs.cut wy wz) P3).2⟩
open Classical in
def zrk(mk:List W->M W)(x y:W):M W:=fun ce=>match zcz ce x,zcz ce y with
 | some xs,some ys=>if xs.length+ys.length<=sizeLine then mk (xs++ys) ce else none
 | _,_=>none
def znl(mk:List W->M W)(a b:Sl->M W):Sl->M W:=fun sl=>bnd (a sl) fun x=>bnd (b sl) fun y=>zrk mk x y
def zrl:R2:=fun x y H Q=>∃l b xs zs,x=.ref l/\y=.ref b/\Rd H l (.lst xs)/\Rd H b (.lst zs)/\xs.length+zs.length<=sizeLine/\∀p,H p=none->Q (.ref p) (upd H p (.lst (xs++zs)))
theorem Inv.lstR{pins:List (Addr×Obj)}{σ:VS.St}{H:Hp}{s:Shared}{l:Addr}{xs:List V}(I:Inv X pins σ H s)(hH:Rd H l (.lst xs)):xs.length<=sizeLine/\∃(its:List Value) (n:Nat),Vals xs its/\xs.length=its.length/\s.heap.get? l=some { cls:=.type "list",data:=.seq its.toArray n }:=by
 obtain⟨z,its,n,r,e⟩:=hH.ok I.hok
 exact⟨z,its,n,r,r.length,e⟩
theorem znm:OpR X (binaryOp .Add) zrl:=by
 intro pins s σ H x y v u Q I rx ry h
 obtain⟨l,b,xs,zs,rfl,rfl,hH,hB,hz,q⟩:=h
 cases rx
 cases ry
 obtain⟨z,its,n,r,hl,e⟩:=Inv.lstR I hH
 obtain⟨z2,its2,n2,r2,hl2,e2⟩:=Inv.lstR I hB
 refine PySem.P.add_list e e2 ?_ (by rw[List.size_toArray,List.size_toArray];omega)
 have ea:its.toArray++its2.toArray=(its++its2).toArray:=by simp
 rw[ea]
 exact⟨.ref _,_,I.lnew (t':=s.toks) (r.append r2) (by rw[List.length_append];omega),rfl,q _ I.fresh⟩
theorem zhX{mk:List W->M W}(hm:MkL G E mk)(ha:PE X a (zaD G E da))(hb:PE X b (zaD G E db)):PE X (.BinOp a .Add b pos) (zaD G E (znl mk da db)):=by
 refine PE.imp (zoy znm ha hb) fun σ H Q h=>zhP h fun F as sl ce H2 x y wx wy S rx ry P=>?_
 unfold zrk at P
 split at P
 ·rename_i xs ys h1 h2
  split at P
  ·rename_i hl
   obtain⟨p,vs,rfl,q1,r1⟩:=zbB S.st rx h1
   obtain⟨p',us,rfl,q2,r2⟩:=zbB S.st ry h2
   exact⟨p,p',vs,us,rfl,rfl,q1,q2,by rw[r1.length,r2.length];exact hl,(hm S (r1.append r2) P).2⟩
  ·exact(show False from P).elim
 ·exact(show False from P).elim
end
end
end VS
namespace VS
open PySem PySem.Spec PyProof.Rows L2
section
inductive Fl where
 | nx|bk|ct|rt (w:W)
inductive O where
 | go (f:Fl) (sl:Sl) (ce:Ce)|ex (x:Exn) (ce:Ce)
abbrev DS:=Sl->Ce->Option O
def zrm(D:Ends)(F:Hp)(as:List Addr)(σ:VS.St)(H:Hp):Fl->Prop
 | .nx=>D.nx σ H
 | .bk=>D.bk σ H
 | .ct=>D.ct σ H
 | .rt w=>∀v,Rep F as w v->D.rt v H
def PostS(G:Ga)(E:XK)(D:Ends)(F:Hp)(as:List Addr):Option O->Prop
 | some (.go f sl' ce')=>∀σ' H' F' as',Le F as F' as'->SR G F' as' H' σ' sl' ce'->zrm D F' as' σ' H' f
 | some (.ex x ce')=>∀H' F' as' cv od,Le F as F' as'->Store G F' as' H' ce'->G.xr x cv od H'->E cv od H'
 | none=>False
def toTS(G:Ga)(E:XK)(d:DS):TS:=fun D σ H=>∃F as sl ce,SR G F as H σ sl ce/\PostS G E D F as (d sl ce)
def lft{α:Type}(m:Option (R α))(k:α->Ce->Option O):Option O:=match m with
 | some (.ok a ce')=>k a ce'
 | some (.ex x ce')=>some (.ex x ce')
 | none=>none
section
variable {α β:Type} {G:Ga} {E:XK} {RP:Hp->List Addr->α->β->Prop} {F F':Hp} {as as':List Addr} {H:Hp} {σ:VS.St} {sl:Sl} {ce:Ce} {D D':Ends}
theorem PostS.le{r:Option O}(l:Le F as F' as')(P:PostS G E D F as r):PostS G E D F' as' r:=by
 cases r with
 | none=>exact P
 | some r=>cases r with
  | go f sl' ce'=>exact fun σ' H' F2 as2 l2=>P σ' H' F2 as2 (l.trans l2)
  | ex x ce'=>exact fun H' F2 as2 cv od l2=>P H' F2 as2 cv od (l.trans l2)
theorem zeg{d:Sl->M α}{k:α->Ce->Option O}(S:SR G F as H σ sl ce)(P:PostS G E D F as (lft (d sl ce) k)) :
  toT G E RP d σ H fun b H2=>∃a F' as' ce',Le F as F' as'/\SR G F' as' H2 σ sl ce'/\RP F' as' a b/\PostS G E D F' as' (k a ce'):=by
 refine⟨F,as,sl,ce,S,?_⟩
 revert P
 unfold lft
 cases d sl ce with
 | none=>exact fun P=>P
 | some r=>cases r with
  | ok a ce'=>exact fun P b H' F' as' l S' r=>⟨a,F',as',ce',l,S',r,P.le l⟩
  | ex x ce'=>exact fun P=>P
theorem PostS.nxt(S:SR G F as H σ sl ce)(P:PostS G E D F as (some (.go .nx sl ce))):D.nx σ H:=P σ H F as .refl S
end
def zba:DS:=fun sl ce=>some (.go .nx sl ce)
def zr2:DS:=fun sl ce=>some (.go .ct sl ce)
def zaz(a b:DS):DS:=fun sl ce=>match a sl ce with
 | some (.go .nx sl' ce')=>b sl' ce'
 | r=>r
def dEx(d:Sl->M W):DS:=fun sl ce=>lft (d sl ce) fun _ ce'=>some (.go .nx sl ce')
def zbg(d:Sl->M W):DS:=fun sl ce=>lft (d sl ce) fun w ce'=>some (.go (.rt w) sl ce')
def dIf(c:Sl->M Bool)(a b:DS):DS:=fun sl ce=>lft (c sl ce) fun t ce'=>match t with
 | true=>a sl ce'
 | false=>b sl ce'
abbrev DG:=W->Sl->Ce->Option (Sl×Ce)
def gN(i:Nat):DG:=fun w sl ce=>some (sl.set i (some w),ce)
def zg7(d:Sl->M W)(g:DG):DS:=fun sl ce=>lft (d sl ce) fun w ce'=>match g w sl ce' with
 | some (sl',ce'')=>some (.go .nx sl' ce'')
 | none=>none
def zaV(i:Nat)(d:Sl->M W):DS:=fun sl ce=>lft (d sl ce) fun w ce'=>some (.go .nx (sl.set i (some w)) ce')
def PGv(G:Ga)(X:Cx)(tg:Expr)(g:DG):Prop:=∃t:TG,PG X tg t/\∀F as H σ sl ce w v sl' ce' (Q:VS.St->Hp->Prop),SR G F as H σ sl ce->Rep F as w v->g w sl ce=some (sl',ce') ->
 (∀σ' H' F' as',Le F as F' as'->SR G F' as' H' σ' sl' ce'->Q σ' H')->t v σ H Q
def zqr(G:Ga)(X:Cx)(tgs:List Expr)(g:List W->Sl->Ce->Option (Sl×Ce)):Prop:=∃t:TGs,PGs X tgs t/\∀F as H σ sl ce ws vs sl' ce' (Q:VS.St->Hp->Prop),SR G F as H σ sl ce->Reps F as ws vs->g ws sl ce=some (sl',ce') ->
 (∀σ' H' F' as',Le F as F' as'->SR G F' as' H' σ' sl' ce'->Q σ' H')->t vs σ H Q
def zjO:List W->Sl->Ce->Option (Sl×Ce):=fun ws sl ce=>match ws with
 | []=>some (sl,ce)
 | _=>none
def zc2(g:DG)(r:List W->Sl->Ce->Option (Sl×Ce)):List W->Sl->Ce->Option (Sl×Ce):=fun ws sl ce=>match ws with
 | w::ws=>match g w sl ce with
  | some (sl',ce')=>r ws sl' ce'
  | none=>none
 | []=>none
def gT(n:Nat)(r:List W->Sl->Ce->Option (Sl×Ce)):DG:=fun w sl ce=>match w with
 | .tup ws=>if ws.length=n then r ws sl ce else none
 | _=>none
section
variable {X:Cx} {G:Ga} {E:XK} {st:Stmt} {zeM:List Stmt} {a b:DS} {e tg:Expr} {d da db dc:Sl->M W} {c:Sl->M Bool} {g:DG} {pos:Pos}
theorem zaH:PSs X [] (toTS G E zba):=PSs.imp zmK fun D σ H zz_=>el6 zz_ fun F as sl ce S P=>P.nxt S
theorem zg8:PS X (.Continue pos) (toTS G E zr2):=PS.imp zgW fun D σ H zz_=>el6 zz_ fun F as sl ce S P=>P σ H F as .refl S
theorem zai(h:PS X st (toTS G E a)):PSs X [st] (toTS G E a):=zmL h
theorem zag(h1:PS X st (toTS G E a))(h2:PSs X zeM (toTS G E b)):PSs X (st::zeM) (toTS G E (zaz a b)):=by
 refine PSs.imp (zkS h1 h2) fun D σ H zz_=>el6 zz_ fun F as sl ce S P=>⟨F,as,sl,ce,S,?_⟩
 revert P
 unfold zaz
 cases a sl ce with
 | none=>exact fun P=>P.elim
 | some r=>cases r with
  | ex x ce'=>exact fun P=>P
  | go f sl' ce'=>cases f with
   | nx=>exact fun P σ' H' F' as' l S'=>⟨F',as',sl',ce',S',P.le l⟩
   | bk=>exact fun P=>P
   | ct=>exact fun P=>P
   | rt w=>exact fun P=>P
theorem zbn(he:PE X e (zaD G E d))(hs:swapsWith e none pos.line X.env=pure false:=by rfl):PS X (.Expr e pos) (toTS G E (dEx d)) :=
 PS.imp (zmM he hs) fun D σ H zz_=>el6 zz_ fun F as sl ce S P=>(zeg S P).mono fun x H1 zz_=>el8 zz_ fun wx F1 as1 ce1 l1 S1 rx P1=>P1.nxt S1
theorem zau(he:PE X e (zaD G E d)):PS X (.Return (some e) pos) (toTS G E (zbg d)) :=
 PS.imp (zoq he) fun D σ H zz_=>el6 zz_ fun F as sl ce S P=>(zeg S P).mono fun x H1 zz_=>el8 zz_ fun wx F1 as1 ce1 l1 S1 rx P1=>P1 σ H1 F1 as1 .refl S1 x rx
theorem zbl{t:Expr}{sa sb:List Stmt}(hc:PT X t (zcp G E c))(ha:PSs X sa (toTS G E a))(hb:PSs X sb (toTS G E b)):PS X (.If t sa sb pos) (toTS G E (dIf c a b)):=by
 refine PS.imp (zqI hc ha hb) fun D σ H zz_=>el6 zz_ fun F as sl ce S P=>(zeg (RP:=rB) S P).mono fun x H1 zz_=>el8 zz_ fun wx F1 as1 ce1 l1 S1 rx P1=>?_
 have rx:wx=x:=rx
 subst rx
 cases wx
 ·rw[if_neg Bool.false_ne_true];exact⟨F1,as1,sl,ce1,S1,P1⟩
 ·rw[if_pos rfl];exact⟨F1,as1,sl,ce1,S1,P1⟩
theorem zas{i:Nat}{x:Str}{pos':Pos}(hN:X.N.Nodup)(hi:X.N[i]?=some x)(hx:Loc X.env.scope x)(he:PE X e (zaD G E d))(hs:swapsWith e (some (.Name x pos')) pos.line X.env=pure false:=by rfl)(hf:X.fn x=true\/X.env.scope.names.lookup x=some .local:=by first|exact .inl rfl|exact .inr rfl|assumption):PS X (.Assign [.Name x pos'] e pos) (toTS G E (zaV i d)) :=
 PS.imp (zou hN hi hx he hs hf) fun D σ H zz_=>el6 zz_ fun F as sl ce S P=>(zeg S P).mono fun x H1 zz_=>el8 zz_ fun wx F1 as1 ce1 l1 S1 rx P1=>P1 _ H1 F1 as1 .refl (S1.put rx i)
theorem zaK{i:Nat}{x:Str}(hN:X.N.Nodup)(hi:X.N[i]?=some x)(hx:Loc X.env.scope x)(hf:X.fn x=true\/X.env.scope.names.lookup x=some .local:=by first|exact .inl rfl|exact .inr rfl|assumption):PGv G X (.Name x pos) (gN i) :=
 ⟨gName i,zgX hN hi hx hf,fun F as H σ sl ce w v sl' ce' Q S r e k=>by
  cases e
  exact k _ _ _ _ .refl (S.put r i)⟩
theorem zg9:zqr G X [] zjO:=⟨_,zmN,fun F as H σ sl ce ws vs sl' ce' Q S r e k=>by
 cases ws with
 | nil=>cases e;simp only[Reps] at r;exact⟨r,k _ _ _ _ .refl S⟩
 | cons w ws=>cases e⟩
theorem zcJ{es:List Expr}{r:List W->Sl->Ce->Option (Sl×Ce)}(h1:PGv G X e g)(h2:zqr G X es r)(hs:(assignEach (e::es) X.env).map (·.2)=assign e X.env::(assignEach es X.env).map (·.2):=by rfl):zqr G X (e::es) (zc2 g r):=by
 obtain⟨t,h1,q1⟩:=h1
 obtain⟨u,h2,q2⟩:=h2
 refine⟨_,zkT h1 h2 hs,fun F as H σ sl ce ws vs sl' ce' Q S rs e k=>?_⟩
 cases ws with
 | nil=>cases e
 | cons w ws =>
  simp only[Reps] at rs
  obtain⟨v,vs',rfl,rv,rs⟩:=rs
  simp only[zc2] at e
  split at e
  ·rename_i sl1 ce1 eg
   refine⟨v,vs',rfl,q1 F as H σ sl ce w v sl1 ce1 _ S rv eg fun σ' H' F' as' l S'=>?_⟩
   exact q2 F' as' H' σ' sl1 ce1 ws vs' sl' ce' Q S' (rs.le l) e fun σ2 H2 F2 as2 l2 S2=>k _ _ _ _ (l.trans l2) S2
  ·cases e
theorem zjP{es:List Expr}{k n:Nat}{r:List W->Sl->Ce->Option (Sl×Ce)}(hc:X.calm=true)(h:zqr G X es r)(hn:(assignEach es X.env).length=n:=by rfl)(hst:(assignEach es X.env).findIdx? (·.1)=none:=by rfl):PGv G X (.Tuple es k pos) (gT n r):=by
 obtain⟨t,h,q⟩:=h
 refine⟨_,zor hc h hn hst,fun F as H σ sl ce w v sl' ce' Q S rw' e k=>?_⟩
 cases w<;>simp only[gT,reduceCtorEq] at e
 split at e
 ·rename_i ws hl
  simp only[Rep] at rw'
  obtain⟨a,vs,rfl,ha,rs⟩:=rw'
  exact⟨a,vs,rfl,.inl (.inl (S.st.sub _ _ ha)),by rw[rs.length];exact hl,q F as H σ sl ce _ vs sl' ce' Q S rs e k⟩
 ·cases e
theorem zdG(he:PE X e (zaD G E d))(hg:PGv G X tg g)(hs:swapsWithSole [tg] e pos.line X.env=pure false:=by rfl)(hw:swappedStores [tg] e X.env=pure none:=by rfl)(h1:(assignEach [tg] X.env).map (·.2)=[assign tg X.env]:=by rfl):PS X (.Assign [tg] e pos) (toTS G E (zg7 d g)):=by
 obtain⟨t,hg,q⟩:=hg
 refine PS.imp (zot he hg hs hw h1) fun D σ H zz_=>el6 zz_ fun F as sl ce S P=>(zeg S P).mono fun x H1 zz_=>el8 zz_ fun wx F1 as1 ce1 l1 S1 rx P1=>?_
 split at P1
 ·rename_i sl' ce'' eg
  exact q F1 as1 H1 σ sl ce1 wx x sl' ce'' _ S1 rx eg fun σ' H' F' as' l S'=>P1 σ' H' F' as' l S'
 ·exact(show False from P1).elim
def zha(ce:Ce):W->Option (Nat×List W)
 | .cel k=>match ce[k]? with
  | some (.lst xs)=>some (k,xs)
  | _=>none
 | _=>none
def zmb(ce:Ce):W->Option (Nat×List (Key×W))
 | .cel k=>match ce[k]? with
  | some (.dct xs)=>some (k,xs)
  | _=>none
 | _=>none
theorem zdh{F:Hp}{as:List Addr}{H:Hp}{ce:Ce}{w:W}{v:V}{k:Nat}{xs:List W}(S:Store G F as H ce)(r:Rep F as w v)(e:zha ce w=some (k,xs)):∃a vs,v=.ref a/\as[k]?=some a/\H a=some (.lst vs)/\Reps F as xs vs:=by
 cases w<;>simp only[zha,reduceCtorEq] at e
 split at e
 ·rename_i hc
  cases e
  simp only[Rep] at r
  obtain⟨a,rfl,h⟩:=r
  obtain⟨_,vs,h2,rs⟩:=S.cell _ _ _ h hc
  exact⟨a,vs,rfl,h,h2,rs⟩
 ·cases e
theorem zll{F:Hp}{as:List Addr}{H:Hp}{ce:Ce}{w:W}{v:V}{k:Nat}{xs:List (Key×W)}(S:Store G F as H ce)(r:Rep F as w v)(e:zmb ce w=some (k,xs)):∃a ps,v=.ref a/\as[k]?=some a/\H a=some (.dK ps)/\RepKV F as xs ps:=by
 cases w<;>simp only[zmb,reduceCtorEq] at e
 split at e
 ·rename_i hc
  cases e
  simp only[Rep] at r
  obtain⟨a,rfl,h⟩:=r
  obtain⟨_,ps,h2,rs⟩:=S.cell _ _ _ h hc
  exact⟨a,ps,rfl,h,h2,rs⟩
 ·cases e
def zdW(o i:Sl->M W):DG:=fun w sl ce=>match o sl ce with
 | some (.ok ow ce1)=>match i sl ce1 with
  | some (.ok (.int j) ce2)=>match zha ce2 ow with
   | some (k,xs)=>match ixN xs.length j with
    | some n=>some (sl,ce2.set k (.lst (xs.set n w)))
    | none=>none
   | none=>none
  | _=>none
 | _=>none
theorem zdu{o i:Expr}(ho:PE X o (zaD G E da))(hi:PE X i (zaD G E db))(hA:∀v,assign (.Subscript o i pos) X.env v=(do
   let ov <- holding [v] (eval o X.env)
   let iv <- holding [v,ov] (eval i X.env)
   standAt pos
   holding [v,ov,iv] (setItem ov iv v)
   release [v,ov,iv] []):=by intro _;rfl):PGv G X (.Subscript o i pos) (zdW da db):=by
 refine⟨_,zos ho hi zk1 hA,fun F as H σ sl ce w v sl' ce' Q S rw' e k=>?_⟩
 unfold zdW at e
 refine⟨F,as,sl,ce,S,?_⟩
 cases e1:da sl ce with
 | none=>rw[e1] at e;cases e
 | some r1=>cases r1 with
  | ex x c=>rw[e1] at e;cases e
  | ok ow ce1 =>
   rw[e1] at e
   intro ov H1 F1 as1 l1 S1 ro
   refine⟨F1,as1,sl,ce1,S1,?_⟩
   dsimp only at e
   cases e2:db sl ce1 with
   | none=>rw[e2] at e;cases e
   | some r2=>cases r2 with
    | ex x c=>rw[e2] at e;cases e
    | ok iw ce2 =>
     rw[e2] at e
     intro iv H2 F2 as2 l2 S2 ri
     cases iw<;>simp only[reduceCtorEq] at e
     rename_i j
     split at e
     ·rename_i kk xs hk
      split at e
      ·rename_i n hn
       cases e
       simp only[Rep] at ri
       subst ri
       obtain⟨a,vs,rfl,ha,hH,rs⟩:=zdh S2.st (ro.le l2) hk
       have rset:=rs.set n ((rw'.le l1).le l2)
       refine⟨a,vs,j,n,rfl,rfl,hH,by rw[rs.length];exact hn,?_⟩
       exact k _ _ _ _ (l1.trans l2) (S2.slots (S2.st.write (o:=.lst (vs.set n v)) (c:=.lst (xs.set n w)) ha ⟨_,zaM,rset⟩) .refl)
      ·cases e
     ·cases e
open Classical in
def zkL(o i v:Sl->M W):DS:=fun sl ce=>lft (v sl ce) fun w ce1=>lft (o sl ce1) fun ow ce2=>lft (i sl ce2) fun iw ce3=>match zi0 iw,zmb ce3 ow with
 | some key,some (k,kvs)=>if kvs.length<sizeLine then some (.go .nx sl (ce3.set k (.dct (zg6 kvs key w)))) else none
 | _,_=>none
theorem zgj{o i value:Expr}{pos':Pos}(hu:X.A.units+1<cLine)(ho:PE X o (zaD G E da))(hi:PE X i (zaD G E db))(hv:PE X value (zaD G E dc))(hs:swapsWith value (some (.Subscript o i pos')) pos.line X.env=pure false:=by rfl) :
  PS X (.Assign [.Subscript o i pos'] value pos) (toTS G E (zkL da db dc)):=by
 refine PS.imp (zm9 hu ho hi hv hs) fun D σ H zz_=>el6 zz_ fun F as sl ce S P=>(zeg S P).mono fun x H1 zz_=>el8 zz_ fun wx F1 as1 ce1 l1 S1 rx P1=>(zeg S1 P1).mono fun y H2 zz_=>el8 zz_ fun wy F2 as2 ce2 l2 S2 ry P2=>(zeg S2 P2).mono fun z H3 zz_=>el8 zz_ fun wz F3 as3 ce3 l3 S3 rz P3=>?_
 split at P3
 ·rename_i key kk kvs hk hc
  split at P3
  ·rename_i hl
   obtain⟨a,ps,rfl,ha,hH,rk⟩:=zll S3.st (ry.le l3) hc
   rw[zg3 rz hk]
   have rput:=rk.put key ((rx.le l2).le l3)
   refine⟨a,_,rfl,DPut.k hH (by rw[<- rk.length];exact hl),?_⟩
   exact P3 _ _ _ _ .refl (S3.slots (S3.st.write (o:=.dK (zf4 ps key x)) (c:=.dct (zg6 kvs key wx)) ha ⟨_,zaM,rput⟩) .refl)
  ·exact(show False from P3).elim
 ·exact(show False from P3).elim
end
end
end VS
namespace VS
open PySem PySem.Spec PyProof.Rows L2
section
inductive Src where
 | lst (xs:List W)|tup (xs:List W)|cell (k:Nat) (xs:List W)|rng (lo:Int) (n:Nat)|dky (xs:List W)
def kW:Key->W
 | .inl i=>.int i
 | .inr x=>.str x
def Src.items:Src->List W
 | .lst xs=>xs
 | .tup xs=>xs
 | .cell _ xs=>xs
 | .rng lo n=>(List.range n).map fun(i:Nat)=>W.int (lo+(i:Int))
 | .dky xs=>xs
def Src.Stays(ce:Ce):Src->Prop
 | .cell k xs=>ce[k]?=some (.lst xs)
 | _=>True
def IRep(K:PySem.W.Frag)(F:Hp)(as:List Addr):Src->It->Prop
 | .lst xs,J=>∃a vs,J=Itl K a/\Rd F a (.lst vs)/\Reps F as xs vs
 | .tup xs,J=>∃a vs,J=Itt K a/\Rd F a (.tup vs)/\Reps F as xs vs
 | .cell k _,J=>∃a,J=Itl K a/\as[k]?=some a
 | .rng lo n,J=>J=Itr lo n
 | .dky xs,J=>∃a o ps,J=Itd a o ps/\F a=some (.frz o (.dK ps))/\xs=ps.map fun p=>kW p.1
theorem IRep.le{K:PySem.W.Frag}{F F':Hp}{as as':List Addr}{s:Src}{J:It}(l:Le F as F' as')(h:IRep K F as s J):IRep K F' as' s J:=by
 cases s with
 | lst xs=>obtain⟨a,vs,e,h,r⟩:=h;exact⟨a,vs,e,l.rd h,r.le l⟩
 | tup xs=>obtain⟨a,vs,e,h,r⟩:=h;exact⟨a,vs,e,l.rd h,r.le l⟩
 | cell k xs=>obtain⟨a,e,h⟩:=h;exact⟨a,e,l.c _ _ h⟩
 | rng lo n=>exact h
 | dky xs=>obtain⟨a,o,ps,e,h,q⟩:=h;exact⟨a,o,ps,e,l.f _ _ h,q⟩
theorem IRep.turn{G:Ga}{K:PySem.W.Frag}{F:Hp}{as:List Addr}{H:Hp}{ce:Ce}{s:Src}{J:It}(S:Store G F as H ce)(h:IRep K F as s J)(hs:s.Stays ce)(i:Nat) :
  (i<s.items.length->J.go i H/\∀x H',J.yld i H x H'->H'=H/\∃w,s.items[i]?=some w/\Rep F as w x)/\(i=s.items.length->J.stop i H):=by
 have lst:∀{a:Addr} {vs:List V} {xs:List W},SqL K H a vs->Reps F as xs vs->(i<xs.length->(Itl K a).go i H/\∀x H',(Itl K a).yld i H x H'->H'=H/\∃w,xs[i]?=some w/\Rep F as w x)/\(i=xs.length->(Itl K a).stop i H):=by
  intro a vs xs hq rs
  have hl:=rs.length
  refine⟨fun hi=>⟨⟨vs,vs[i]'(by omega),hq,by simp⟩,fun x H' y=>?_⟩,fun hi=>⟨vs,hq,by omega⟩⟩
  obtain⟨e,y⟩:=y
  exact⟨e,rs.get' (y vs hq)⟩
 cases s with
 | lst xs=>obtain⟨a,vs,rfl,h,r⟩:=h;exact lst (.inl (Rd.sub S h)) r
 | cell k xs =>
  obtain⟨a,rfl,h⟩:=h
  obtain⟨_,vs,h2,rs⟩:=S.cell _ _ _ h hs
  exact lst (.inl (.inl h2)) rs
 | tup xs =>
  obtain⟨a,vs,rfl,h,rs⟩:=h
  have hq:SqT K H a vs:=.inl (Rd.sub S h)
  have hl:=rs.length
  refine⟨fun hi=>⟨⟨vs,vs[i]'(by show i<_;simp only[Src.items] at hi;omega),hq,by simp⟩,fun x H' y=>?_⟩,fun hi=>⟨vs,hq,by simp only[Src.items] at hi;omega⟩⟩
  obtain⟨e,y⟩:=y
  exact⟨e,rs.get' (y vs hq)⟩
 | rng lo n =>
  cases h
  have hl:(Src.rng lo n).items.length=n:=by simp[Src.items]
  rw[hl]
  refine⟨fun hi=>⟨hi,fun x H' y=>?_⟩,fun hi=>by rw[hi];exact Nat.le_refl _⟩
  obtain⟨e,rfl⟩:=y
  refine⟨e,.int (lo+i),?_,by simp only[Rep]⟩
  simp[Src.items,hi]
 | dky xs =>
  obtain⟨a,o,ps,rfl,h,rfl⟩:=h
  have hH:=S.sub _ _ h
  have hl:(Src.dky (ps.map fun p=>kW p.1)).items.length=ps.length:=by simp[Src.items]
  rw[hl]
  refine⟨fun hi=>⟨⟨hH,hi⟩,fun x H' y=>?_⟩,fun hi=>⟨hH,hi.symm⟩⟩
  obtain⟨e,p,hp,rfl⟩:=y
  refine⟨e,kW p.1,by simp only[Src.items,List.getElem?_map,hp,Option.map_some],?_⟩
  cases p.1<;>simp only[kW,kV,Rep]
abbrev znn(G:Ga)(E:XK)(K:PySem.W.Frag)(d:Sl->M Src):TI:=toT G E (IRep K) d
theorem PI.imp{X:Cx}{tg e:Expr}{t t':TI}(h:PI X tg e t)(q:∀σ H R,t' σ H R->t σ H R):PI X tg e t':=fun pins s σ H Q I z=>h pins s σ H Q I (q _ _ _ z)
def zkM(ce:Ce):W->Option Src
 | .lst xs=>some (.lst xs)
 | .cel k=>match ce[k]? with
  | some (.lst xs)=>some (.cell k xs)
  | _=>none
 | _=>none
def zrn:W->Option Src
 | .tup xs=>some (.tup xs)
 | _=>none
def dIL(d:Sl->M W):Sl->M Src:=fun sl=>bnd (d sl) fun w=>look fun ce=>zkM ce w
def dIT(d:Sl->M W):Sl->M Src:=fun sl=>bnd (d sl) fun w=>look fun _=>zrn w
open Classical in
def zno:List W->Option Src
 | [.int j]=>@ite _ (-4611686018427387904<=j/\j<4611686018427387904) (Classical.propDecidable _) (some (.rng 0 j.toNat)) none
 | _=>none
def zgS(d:Sl->M (List W)):Sl->M Src:=fun sl=>bnd (d sl) fun ws=>look fun _=>zno ws
section
variable {X:Cx} {G:Ga} {E:XK} {tg a b:Expr} {da:Sl->M W} {dr:Sl->M (List W)} {p pos:Pos}
theorem zch(hl:PE X a (zaD G E da)):PI X tg a (znn G E X.K (dIL da)):=by
 refine PI.imp (zmP hl) fun σ H R zz_=>el6 zz_ fun F as sl ce S P=>(step S P).mono fun x H1 zz_=>el8 zz_ fun wx F1 as1 ce1 l1 S1 rx P1=>?_
 obtain⟨src,e,P2⟩:=zb9 P1
 cases wx<;>simp only[zkM,reduceCtorEq,Option.some.injEq] at e
 ·subst e
  simp only[Rep] at rx
  obtain⟨a,vs,rfl,h,rs⟩:=rx
  exact⟨a,rfl,⟨vs,.inl (Rd.sub S1.st h)⟩,Post.done (RP:=IRep X.K) S1 P2 ⟨a,vs,rfl,h,rs⟩⟩
 ·split at e
  ·rename_i hc
   cases e
   simp only[Rep] at rx
   obtain⟨a,rfl,h⟩:=rx
   obtain⟨_,vs,h2,rs⟩:=S1.st.cell _ _ _ h hc
   exact⟨a,rfl,⟨vs,.inl (.inl h2)⟩,Post.done (RP:=IRep X.K) S1 P2 ⟨a,rfl,h⟩⟩
  ·cases e
theorem zoX(hl:PE X a (zaD G E da)):PI X tg a (znn G E X.K (dIT da)):=by
 refine PI.imp (zow hl) fun σ H R zz_=>el6 zz_ fun F as sl ce S P=>(step S P).mono fun x H1 zz_=>el8 zz_ fun wx F1 as1 ce1 l1 S1 rx P1=>?_
 obtain⟨src,e,P2⟩:=zb9 P1
 cases wx<;>simp only[zrn,reduceCtorEq,Option.some.injEq] at e
 subst e
 simp only[Rep] at rx
 obtain⟨a,vs,rfl,h,rs⟩:=rx
 exact⟨a,rfl,⟨vs,.inl (.inl (S1.st.sub _ _ h))⟩,Post.done (RP:=IRep X.K) S1 P2 ⟨a,vs,rfl,.inl h,rs⟩⟩
theorem zdX(hg:Gl X "range")(hm:X.mg "range" = none)(ha:PA X [a] (ziz G E dr))(hs:starEach [a] X.env=[(false,eval a X.env)]:=by rfl):PI X tg (.Call (.Name "range" p) [a] [] pos) (znn G E X.K (zgS dr)):=by
 refine PI.imp (zi7 hg hm ha hs) fun σ H R zz_=>el6 zz_ fun F as sl ce S P=>(step (RP:=Reps) S P).mono fun x H1 zz_=>el8 zz_ fun wx F1 as1 ce1 l1 S1 rx P1=>?_
 obtain⟨src,e,P2⟩:=zb9 P1
 unfold zno at e
 split at e
 ·rename_i j
  split at e
  ·rename_i hj
   cases e
   simp only[Reps,Rep] at rx
   obtain⟨v,r,rfl,rfl,rfl⟩:=rx
   exact⟨j,rfl,by omega,by omega,Post.done (RP:=IRep X.K) S1 P2 rfl⟩
  ·cases e
 ·cases e
end
open Classical in
def zhY(s:Src)(g:DG)(body:DS):List W->DS
 | []=>fun sl ce=>if s.Stays ce then some (.go .nx sl ce) else none
 | x::r=>fun sl ce=>if s.Stays ce then (match g x sl ce with
  | some (sl1,ce1)=>match body sl1 ce1 with
   | some (.go .nx sl2 ce2)=>zhY s g body r sl2 ce2
   | some (.go .ct sl2 ce2)=>zhY s g body r sl2 ce2
   | some (.go .bk sl2 ce2)=>some (.go .nx sl2 ce2)
   | o=>o
  | none=>none) else none
def zda(i:Sl->M Src)(g:DG)(body:DS):DS:=fun sl ce=>lft (i sl ce) fun s ce'=>zhY s g body s.items sl ce'
def zb1(c:Sl->M Bool)(body:DS):Nat->DS
 | 0=>fun _ _=>none
 | n+1=>fun sl ce=>lft (c sl ce) fun t ce1=>match t with
  | false=>some (.go .nx sl ce1)
  | true=>match body sl ce1 with
   | some (.go .nx sl2 ce2)=>zb1 c body n sl2 ce2
   | some (.go .ct sl2 ce2)=>zb1 c body n sl2 ce2
   | some (.go .bk sl2 ce2)=>some (.go .nx sl2 ce2)
   | o=>o
section
variable {X:Cx} {G:Ga} {E:XK} {tg iter t:Expr} {body:List Stmt} {di:Sl->M Src} {g:DG} {b:DS} {c:Sl->M Bool} {pos:Pos}
theorem zgk{D:Ends}{F:Hp}{as:List Addr}{N:VS.St->Hp->Prop}{k:DS}{r:Option O}(P:PostS G E D F as (match r with
   | some (.go .nx sl2 ce2)=>k sl2 ce2
   | some (.go .ct sl2 ce2)=>k sl2 ce2
   | some (.go .bk sl2 ce2)=>some (.go .nx sl2 ce2)
   | o=>o))(hN:∀σ H F' as' sl ce,Le F as F' as'->SR G F' as' H σ sl ce->PostS G E D F' as' (k sl ce)->N σ H):PostS G E { D with nx:=N,ct:=N,bk:=D.nx } F as r:=by
 cases r with
 | none=>exact P
 | some r=>cases r with
  | ex x ce'=>exact P
  | go f sl' ce'=>cases f with
   | nx=>exact fun σ' H' F' as' l S'=>hN σ' H' F' as' sl' ce' l S' (P.le l)
   | ct=>exact fun σ' H' F' as' l S'=>hN σ' H' F' as' sl' ce' l S' (P.le l)
   | bk=>exact fun σ' H' F' as' l S'=>P σ' H' F' as' l S'
   | rt w=>exact fun σ' H' F' as' l S'=>P σ' H' F' as' l S'
theorem zbh(hp:PassesOwn (model X.prog X.w) X.A X.env X.xe)(hc:X.calm=true)(hi:PI X tg iter (znn G E X.K di))(hg:PGv G X tg g)(hb:PSs X body (toTS G E b))(hs:∀x,foldedSetIterable iter X.env x=pure x:=by intro _;rfl):PS X (.For tg iter body [] pos) (toTS G E (zda di g b)):=by
 obtain⟨tgt,hg,qg⟩:=hg
 refine PS.imp (zox hp hc hi hg hb hs) fun D σ H zz_=>el6 zz_ fun F as sl ce S P=>(zeg (RP:=IRep X.K) S P).mono fun J H1 zz_=>el8 zz_ fun s F1 as1 ce1 l1 S1 rJ P1=>?_
 refine⟨fun i m σ H=>∃F as sl ce,SR G F as H σ sl ce/\IRep X.K F as s J/\m=s.items.length-i/\i<=s.items.length/\PostS G E D F as (zhY s g b (s.items.drop i) sl ce),⟨s.items.length,F1,as1,sl,ce1,S1,rJ,rfl,Nat.zero_le _,P1⟩,?_⟩
 rintro i m σ H ⟨F,as,sl,ce,S,rJ,rfl,hi,P⟩
 by_cases hlt:i<s.items.length
 ·rw[List.drop_eq_getElem_cons hlt] at P
  simp only[zhY] at P
  split at P
  ·rename_i hst
   obtain⟨t1,t2⟩:=rJ.turn S.st hst i
   obtain⟨go,yl⟩:=t1 hlt
   refine .inr ⟨go,_,fun σ' H' h=>h,fun x H' y=>?_⟩
   obtain⟨rfl,w,hw,rw'⟩:=yl x H' y
   rw[List.getElem?_eq_getElem hlt] at hw
   cases hw
   split at P
   ·rename_i sl1 ce1 eg
    refine qg F as H' σ sl ce _ x sl1 ce1 _ S rw' eg fun σ' H2 F' as' l S'=>⟨F',as',sl1,ce1,S',?_⟩
    refine zgk (P.le l) fun σ3 H3 F3 as3 sl3 ce3 l3 S3 P3=>?_
    exact⟨s.items.length-(i+1),by omega,F3,as3,sl3,ce3,S3,rJ.le (l.trans l3),rfl,hlt,P3⟩
   ·exact(show False from P).elim
  ·exact(show False from P).elim
 ·have e:i=s.items.length:=by omega
  subst e
  rw[List.drop_length] at P
  simp only[zhY] at P
  split at P
  ·rename_i hst
   exact .inl ⟨(rJ.turn S.st hst _).2 rfl,P.nxt S⟩
  ·exact(show False from P).elim
theorem zd5(n:Nat)(hp:PassesOwn (model X.prog X.w) X.A X.env X.xe)(hc:PT X t (zcp G E c))(hb:PSs X body (toTS G E b)):PS X (.While t body [] pos) (toTS G E (zb1 c b n)):=by
 refine PS.imp (zkU hp hc hb) fun D σ H zz_=>el6 zz_ fun F as sl ce S P=>?_
 refine⟨fun m σ H=>∃F as sl ce,SR G F as H σ sl ce/\PostS G E D F as (zb1 c b m sl ce),⟨n,F,as,sl,ce,S,P⟩,?_⟩
 rintro m σ H ⟨F,as,sl,ce,S,P⟩
 cases m with
 | zero=>exact(show False from P).elim
 | succ m =>
  refine(zeg (RP:=rB) S P).mono fun x H1 zz_=>el8 zz_ fun wx F1 as1 ce1 l1 S1 rx P1=>?_
  have rx:wx=x:=rx
  subst rx
  cases wx
  ·rw[if_neg Bool.false_ne_true];exact P1.nxt S1
  ·rw[if_pos rfl]
   refine⟨fun σ' H'=>∃F as sl ce,SR G F as H' σ' sl ce/\PostS G E D F as (zb1 c b m sl ce),fun σ' H' h=>⟨m,Nat.lt_succ_self _,h⟩,F1,as1,sl,ce1,S1,?_⟩
   exact zgk P1 fun σ3 H3 F3 as3 sl3 ce3 l3 S3 P3=>⟨F3,as3,sl3,ce3,S3,P3⟩
end
def zcu(js:List Nat)(sl:Sl):Sl:=js.map fun j=>sl.getD j none
open Classical in
def lcL(s:Src)(cs:Sl)(c:Sl->M Bool)(e:Sl->M W):List W->List W->M (List W)
 | [],ys=>fun ce=>if s.Stays ce then some (.ok ys ce) else none
 | x::r,ys=>fun ce=>if s.Stays ce/\ys.length<sizeLine then bnd (c (some x::cs)) (fun t=>match t with
   | true=>bnd (e (some x::cs)) fun y=>lcL s cs c e r (ys++[y])
   | false=>lcL s cs c e r ys) ce else none
def dLC(mk:List W->M W)(js:List Nat)(i:Sl->M Src)(c:Sl->M Bool)(e:Sl->M W):Sl->M W:=fun sl=>bnd (i sl) fun s=>bnd (lcL s (zcu js sl) c e s.items []) mk
def zcK:Sl->M Bool:=fun _=>ret true
section
variable {X:Cx} {G:Ga} {E:XK} {elt iter:Expr} {x:Str} {px pos:Pos} {ifs:List Expr} {scope:Scope} {js:List Nat} {caps:List Str} {di:Sl->M Src} {c:Sl->M Bool} {e:Sl->M W} {mk:List W->M W}
theorem PIfs.imp{Y:Cx}{ifs:List Expr}{t t':TT}(h:PIfs Y ifs t)(q:∀σ H Q,t' σ H Q->t σ H Q):PIfs Y ifs t':=fun pins s σ H Q I z=>h pins s σ H Q I (q _ _ _ z)
theorem zbf{Y:Cx}:PIfs Y [] (zcp G E zcK):=PIfs.imp zk5 fun σ H Q zz_=>el6 zz_ fun F as sl ce S P=>Post.done (RP:=rB) S (a:=true) P rfl
theorem zaP{Y:Cx}{t:Expr}(h:PT Y t (zcp G E c)):PIfs Y [t] (zcp G E c):=zk6 h
theorem SR.cap{F:Hp}{as:List Addr}{H:Hp}{σ:VS.St}{sl:Sl}{ce:Ce}(S:SR G F as H σ sl ce)(js:List Nat){w:W}{v:V}(r:Rep F as w v):SR G F as H (some v::ziv js σ) (some w::zcu js sl) ce:=by
 refine⟨S.st,by simp[ziv,zcu],fun i u h=>?_⟩
 cases i with
 | zero=>simp at h;subst h;exact⟨v,rfl,r⟩
 | succ i =>
  simp only[zcu,List.getElem?_cons_succ,List.getElem?_map] at h
  cases e:js[i]? with
  | none=>rw[e] at h;cases h
  | some j =>
   rw[e] at h
   have hj:sl[j]?=some (some u):=by
    have h':sl.getD j none=some u:=by simpa using h
    rw[List.getD_eq_getElem?_getD] at h'
    cases q:sl[j]? with
    | none=>rw[q] at h';cases h'
    | some z=>rw[q] at h';simp at h';rw[h']
   obtain⟨v',h1,h2⟩:=S.slot j u hj
   refine⟨v',?_,h2⟩
   simp only[ziv,List.getElem?_cons_succ,List.getElem?_map,e,Option.map_some,List.getD_eq_getElem?_getD,h1,Option.getD_some]
theorem zoY{α β γ δ:Type}{RP:Hp->List Addr->α->β->Prop}{RQ:Hp->List Addr->γ->δ->Prop}{F:Hp}{as:List Addr}{H:Hp}{σ σ':VS.St}{sl sl':Sl}{ce:Ce}{d:Sl->M α}{f:α->M γ}{Q:δ->Hp->Prop}(S:SR G F as H σ sl ce)(S':SR G F as H σ' sl' ce)(P:Post G E RQ F as σ sl Q (bnd (d sl') f ce)) :
  toT G E RP d σ' H fun b H2=>∃a F' as' ce',Le F as F' as'/\SR G F' as' H2 σ sl ce'/\SR G F' as' H2 σ' sl' ce'/\RP F' as' a b/\Post G E RQ F' as' σ sl Q (f a ce'):=by
 refine⟨F,as,sl',ce,S',?_⟩
 revert P
 unfold bnd
 cases d sl' ce with
 | none=>exact fun P=>P
 | some r=>cases r with
  | ok a ce'=>exact fun P b H' F' as' l S2 r=>⟨a,F',as',ce',l,S.slots S2.st l,S2,r,P.le l⟩
  | ex x ce'=>exact fun P=>P
theorem zgl{α β γ:Type}(m:M α)(f:α->M β)(g:β->M γ):bnd (bnd m f) g=bnd m fun a=>bnd (f a) g:=by
 funext ce
 unfold bnd
 cases m ce with
 | none=>rfl
 | some r=>cases r<;>rfl
theorem zjQ{α β:Type}{m m':M α}{g:α->M β}{ce:Ce}(h:m ce=m' ce):bnd m g ce=bnd m' g ce:=by simp only[bnd,h]
theorem zeh{s:Src}{cs:Sl}{c:Sl->M Bool}{e:Sl->M W}{x:W}{r ys:List W}{ce:Ce}(h:s.Stays ce/\ys.length<sizeLine):lcL s cs c e (x::r) ys ce=bnd (c (some x::cs)) (fun t=>match t with
   | true=>bnd (e (some x::cs)) fun y=>lcL s cs c e r (ys++[y])
   | false=>lcL s cs c e r ys) ce:=by simp only[lcL,if_pos h]
theorem zoZ{s:Src}{cs:Sl}{c:Sl->M Bool}{e:Sl->M W}{x:W}{r ys:List W}{ce:Ce}(h:¬(s.Stays ce/\ys.length<sizeLine)):lcL s cs c e (x::r) ys ce=none:=by simp only[lcL,if_neg h]
theorem zmc(hm:MkL G E mk)(σ:L2.St)(H:Hp)(Q:VK)(h:zaD G E (dLC mk js di c e) σ H Q):tLC js (znn G E X.K di) (zcp G E c) (zaD G E e) σ H Q:=by
 obtain⟨F,as,sl,ce,S,P⟩:=h
 refine(step (RP:=IRep X.K) S P).mono fun J H1 zz_=>el8 zz_ fun s F1 as1 ce1 l1 S1 rJ P1=>?_
 refine⟨fun i m ys H=>∃F as ce ws,SR G F as H σ sl ce/\IRep X.K F as s J/\m=s.items.length-i/\i<=s.items.length/\Reps F as ws ys/\Post G E Rep F as σ sl Q (bnd (lcL s (zcu js sl) c e (s.items.drop i) ws) mk ce),⟨s.items.length,F1,as1,ce1,[],S1,rJ,rfl,Nat.zero_le _,.nil,P1⟩,?_⟩
 rintro i m ys H ⟨F,as,ce,ws,S,rJ,rfl,hi,rs,P⟩
 by_cases hlt:i<s.items.length
 ·rw[List.drop_eq_getElem_cons hlt] at P
  by_cases hst:s.Stays ce/\ws.length<sizeLine
  ·obtain⟨go,yl⟩:=(rJ.turn S.st hst.1 i).1 hlt
   refine .inr ⟨go,by rw[rs.length];exact hst.2,_,fun ys' H' h=>h,fun x H' y=>?_⟩
   obtain⟨rfl,w,hw,rw'⟩:=yl x H' y
   rw[List.getElem?_eq_getElem hlt] at hw
   cases hw
   have P':=P
   rw[zjQ (zeh hst)] at P'
   rw[zgl] at P'
   refine(zoY (RP:=rB) S (S.cap js rw') P').mono fun b H2 ⟨t,F2,as2,ce2,l2,S2,S2',rt,P2⟩=>?_
   have rt:t=b:=rt
   subst rt
   cases t
   ·rw[if_neg Bool.false_ne_true]
    exact⟨s.items.length-(i+1),by omega,F2,as2,ce2,ws,S2,rJ.le l2,rfl,hlt,rs.le l2,P2⟩
   ·rw[if_pos rfl]
    dsimp only at P2
    rw[zgl] at P2
    refine(zoY (RP:=Rep) S2 S2' P2).mono fun y H3 ⟨wy,F3,as3,ce3,l3,S3,S3',ry,P3⟩=>?_
    exact⟨s.items.length-(i+1),by omega,F3,as3,ce3,ws++[wy],S3,rJ.le (l2.trans l3),rfl,hlt,(rs.le (l2.trans l3)).append (.cons ry .nil),P3⟩
  ·have P':=P
   simp only[bnd,zoZ hst] at P'
   exact(show False from P').elim
 ·have e':i=s.items.length:=by omega
  subst e'
  rw[List.drop_length] at P
  by_cases hst:s.Stays ce
  ·have eq:bnd (lcL s (zcu js sl) c e [] ws) mk ce=mk ws ce:=by simp only[bnd,lcL,if_pos hst]
   rw[eq] at P
   exact .inl ⟨(rJ.turn S.st hst _).2 rfl,(hm S rs P).2⟩
  ·have eq:bnd (lcL s (zcu js sl) c e [] ws) mk ce=none:=by simp only[bnd,lcL,if_neg hst]
   rw[eq] at P
   exact(show False from P).elim
theorem zcb(hm:MkL G E mk)(B:BlkS X.N X.env.scope js (x::caps) scope)(hc:X.calm=true)(hx:scope.names.lookup x=some .local)(hi:PI X (.Name x px) iter (znn G E X.K di))(ht:∀C fp s₀ H₀,PIfs (blk X (x::caps) scope C fp s₀ H₀) ifs (zcp G E c))(he:∀C fp s₀ H₀,PE (blk X (x::caps) scope C fp s₀ H₀) elt (zaD G E e))(hs:∀v,foldedSetIterable iter X.env v=pure v:=by intro _;rfl):PE X (.ListComp elt [⟨.Name x px,iter,ifs,0⟩] scope pos) (zaD G E (dLC mk js di c e)):=PE.imp (zq7 B hc hx hi ht he hs) (zmc hm)
theorem zdv{y:Str}{py spos:Pos}{k:Nat}(hm:MkL G E mk)(B:BlkS X.N X.env.scope js (x::caps) scope)(hc:X.calm=true)(hx:scope.names.lookup x=some .local)(hi:PI X (.Name x px) iter (znn G E X.K di))(ht:∀C fp s₀ H₀,PIfs (blk X (x::caps) scope C fp s₀ H₀) ifs (zcp G E c))(he:∀C fp s₀ H₀,PE (blk X (x::caps) scope C fp s₀ H₀) elt (zaD G E e))(hN:X.N.Nodup)(hk:X.N[k]?=some y)(hy:X.env.scope.names.lookup y=some .local)(hsw:swapsWith (.ListComp elt [⟨.Name x px,iter,ifs,0⟩] scope pos) (some (.Name y py)) spos.line X.env=pure true)(hs:∀v,foldedSetIterable iter X.env v=pure v:=by intro _;rfl):PS X (.Assign [.Name y py] (.ListComp elt [⟨.Name x px,iter,ifs,0⟩] scope pos) spos) (toTS G E (zaV k (dLC mk js di c e))):=by
 refine PS.imp (zq8 B hc hx hi ht he hN hk hy hsw hs) fun D σ H zz_=>el6 zz_ fun F as sl ce S P=>?_
 refine zmc (X:=X) hm σ H _ ((zeg S P).mono fun x H1 zz_=>el8 zz_ fun wx F1 as1 ce1 l1 S1 rx P1=>?_)
 exact P1 _ H1 F1 as1 .refl (S1.put rx k)
end
end
end VS
namespace VS
open PySem PySem.Spec PyProof.Rows L2
section
mutual
def Bel(n:Nat):W->Prop
 | .cel k=>k<n
 | .lst xs=>zdd n xs
 | .tup xs=>zdd n xs
 | .non=>True
 | .bl _=>True
 | .int _=>True
 | .str _=>True
 | .ty _=>True
def zdd(n:Nat):List W->Prop
 | []=>True
 | x::xs=>Bel n x/\zdd n xs
end
mutual
theorem Rep.bel{F:Hp}{as:List Addr}:∀{w:W} {v:V},Rep F as w v->Bel as.length w
 | .non,_,_=>by simp only[Bel]
 | .bl _,_,_=>by simp only[Bel]
 | .int _,_,_=>by simp only[Bel]
 | .str _,_,_=>by simp only[Bel]
 | .ty _,_,_=>by simp only[Bel]
 | .lst xs,_,r=>by
  simp only[Rep] at r
  obtain⟨a,vs,_,_,s⟩:=r
  simp only[Bel]
  exact Reps.bel s
 | .tup xs,_,r=>by
  simp only[Rep] at r
  obtain⟨a,vs,_,_,s⟩:=r
  simp only[Bel]
  exact Reps.bel s
 | .cel k,_,r=>by
  simp only[Rep] at r
  obtain⟨a,_,h⟩:=r
  simp only[Bel]
  exact zaB h
theorem Reps.bel{F:Hp}{as:List Addr}:∀{ws:List W} {vs:List V},Reps F as ws vs->zdd as.length ws
 | [],_,_=>by simp only[zdd]
 | _::_,_,r=>by
  simp only[Reps] at r
  obtain⟨v,vs',_,h,t⟩:=r
  simp only[zdd]
  exact⟨Rep.bel h,Reps.bel t⟩
end
mutual
theorem Rep.cut{F:Hp}{as as':List Addr}{n:Nat}(hl:∀k,k<n->as'[k]?=as[k]?):∀{w:W} {v:V},Bel n w->Rep F as w v->Rep F as' w v
 | .non,_,_,r=>by simpa only[Rep] using r
 | .bl _,_,_,r=>by simpa only[Rep] using r
 | .int _,_,_,r=>by simpa only[Rep] using r
 | .str _,_,_,r=>by simpa only[Rep] using r
 | .ty _,_,_,r=>by simpa only[Rep] using r
 | .lst xs,_,b,r=>by
  simp only[Rep] at r ⊢
  simp only[Bel] at b
  obtain⟨a,vs,h1,h2,s⟩:=r
  exact⟨a,vs,h1,h2,Reps.cutS hl b s⟩
 | .tup xs,_,b,r=>by
  simp only[Rep] at r ⊢
  simp only[Bel] at b
  obtain⟨a,vs,h1,h2,s⟩:=r
  exact⟨a,vs,h1,h2,Reps.cutS hl b s⟩
 | .cel k,_,b,r=>by
  simp only[Rep] at r ⊢
  simp only[Bel] at b
  obtain⟨a,h1,h⟩:=r
  exact⟨a,h1,by rw[hl k b];exact h⟩
theorem Reps.cutS{F:Hp}{as as':List Addr}{n:Nat}(hl:∀k,k<n->as'[k]?=as[k]?):∀{ws:List W} {vs:List V},zdd n ws->Reps F as ws vs->Reps F as' ws vs
 | [],_,_,r=>by simpa only[Reps] using r
 | _::_,_,b,r=>by
  simp only[Reps] at r ⊢
  simp only[zdd] at b
  obtain⟨v,vs',h1,h,t⟩:=r
  exact⟨v,vs',h1,Rep.cut hl b.1 h,Reps.cutS hl b.2 t⟩
end
def zgm(n:Nat):C->Prop
 | .lst xs=>zdd n xs
 | .dct kvs=>∀p∈kvs,Bel n p.2
 | .ins _ fs=>∀p∈fs,Bel n p.2
 | .exn _=>True
 | .dead=>True
 | .fzd kvs=>∀p∈kvs,Bel n p.2
 | .dtp kvs=>∀p∈kvs,Bel n p.2
theorem RepKV.bel{κ:Type}{F:Hp}{as:List Addr}{kvs:List (κ×W)}{ps:List (κ×V)}(r:RepKV F as kvs ps):∀p∈kvs,Bel as.length p.2:=by
 induction r with
 | nil=>simp
 | cons h t ih =>
  intro p hp
  rcases List.mem_cons.mp hp with rfl|hp
  ·exact h.2.bel
  ·exact ih p hp
theorem RepKV.cut{κ:Type}{F:Hp}{as as':List Addr}{n:Nat}(hl:∀k,k<n->as'[k]?=as[k]?){kvs:List (κ×W)}{ps:List (κ×V)}(b:∀p∈kvs,Bel n p.2)(r:RepKV F as kvs ps):RepKV F as' kvs ps:=by
 induction r with
 | nil=>exact .nil
 | cons h t ih=>exact .cons ⟨h.1,h.2.cut hl (b _ List.mem_cons_self)⟩ (ih fun p hp=>b p (List.mem_cons_of_mem _ hp))
section
variable {G:Ga} {F:Hp} {as as':List Addr} {H:Hp} {a:Addr} {c:C} {n:Nat}
theorem CRep.bel(h:CRep G F as H a c):zgm as.length c:=by
 cases c with
 | lst xs=>obtain⟨vs,_,r⟩:=h;exact r.bel
 | dct xs=>obtain⟨vs,_,r⟩:=h;exact r.bel
 | ins c xs=>obtain⟨dx,vs,_,r⟩:=h;exact r.bel
 | exn c=>trivial
 | dead=>trivial
 | fzd xs=>obtain⟨o,ps,_,_,r⟩:=h;exact r.bel
 | dtp xs=>obtain⟨vs,_,r⟩:=h;exact r.bel
theorem CRep.cut(hl:∀k,k<n->as'[k]?=as[k]?)(b:zgm n c)(h:CRep G F as H a c):CRep G F as' H a c:=by
 cases c with
 | lst xs=>obtain⟨vs,e,r⟩:=h;exact⟨vs,e,r.cutS hl b⟩
 | dct xs=>obtain⟨vs,e,r⟩:=h;exact⟨vs,e,RepKV.cut hl b r⟩
 | ins c xs=>obtain⟨dx,vs,e,r⟩:=h;exact⟨dx,vs,e,RepKV.cut hl b r⟩
 | exn c=>exact h
 | dead=>exact h
 | fzd xs=>obtain⟨o,ps,e1,e2,r⟩:=h;exact⟨o,ps,e1,e2,RepKV.cut hl b r⟩
 | dtp xs=>obtain⟨vs,e,r⟩:=h;exact⟨vs,e,RepKV.cut hl b r⟩
end
def zeQ(ce ce':Ce):Prop:=ce.length<=ce'.length/\∀(k:Nat) (c:C),k<ce.length->ce'[k]?=some c->ce[k]?=some c\/zgm ce.length c
section
variable {G:Ga} {F F':Hp} {as as':List Addr} {H H':Hp} {ce ce':Ce}
theorem zbH{α:Type}{l:List α}{n k:Nat}(h:k<n):(l.take n)[k]?=l[k]?:=List.getElem?_take_of_lt h
theorem Store.cut(S:Store G F as H ce)(S':Store G F' as' H' ce')(l:Le F as F' as')(h:zeQ ce ce'):Store G F' (as'.take ce.length) H' (ce'.take ce.length)/\Le F as F' (as'.take ce.length):=by
 have hl:∀k,k<ce.length->(as'.take ce.length)[k]?=as'[k]?:=fun k hk=>zbH hk
 refine⟨⟨S'.sub,S'.nd.sublist (List.take_sublist _ _),by rw[List.length_take,List.length_take,S'.len],fun k a c h1 h2=>?_⟩,l.f,fun k a e=>?_⟩
 ·have hk:k<ce.length:=by have:=zaB h2;rw[List.length_take] at this;omega
  rw[zbH hk] at h1 h2
  obtain⟨q1,q2⟩:=S'.cell k a c h1 h2
  refine⟨q1,q2.cut hl ?_⟩
  rcases h.2 k c hk h2 with h3|h3
  ·obtain⟨a0,e0,_,q0⟩:=S.at h3
   rw[<- S.len];exact q0.bel
  ·exact h3
 ·have hk:k<ce.length:=by rw[<- S.len];exact zaB e
  rw[zbH hk];exact l.c k a e
end
open Classical in
def finC(ce ce':Ce)(w:W):Option (R W):=if zeQ ce ce'/\Bel ce.length w then some (.ok w (ce'.take ce.length)) else none
open Classical in
def finO(ce ce':Ce)(w:W):Option (R W):=match w with
 | .cel k=>match ce'[k]? with
  | some c=>if zeQ ce ce'/\ce.length<=k/\zgm ce.length c then some (.ok (.cel ce.length) (ce'.take ce.length++[c])) else none
  | none=>none
 | _=>none
def zo0(_ce ce':Ce)(w:W):Option (R W):=some (.ok w ce')
def zlm(G:Ga)(fin:Ce->Ce->W->Option (R W)):Prop:=∀(F F':Hp) (as as':List Addr) (H H':Hp) (ce ce':Ce) (w:W) (v:V) (r:R W),Store G F as H ce->Store G F' as' H' ce'->Le F as F' as'->Rep F' as' w v->fin ce ce' w=some r ->
 ∃w2 ce2 as2,r=.ok w2 ce2/\Le F as F' as2/\Store G F' as2 H' ce2/\Rep F' as2 w2 v
theorem znp{G:Ga}:zlm G zo0:=fun F F' as as' H H' ce ce' w v r S S' l rw' e=>by
 cases e
 exact⟨w,ce',as',rfl,l,S',rw'⟩
theorem zbo{G:Ga}:zlm G finC:=fun F F' as as' H H' ce ce' w v r S S' l rw' e=>by
 unfold finC at e
 split at e
 ·rename_i h
  cases e
  obtain⟨S2,l2⟩:=S.cut S' l h.1
  exact⟨w,_,_,rfl,l2,S2,rw'.cut (fun k hk=>zbH hk) h.2⟩
 ·cases e
theorem zgn{G:Ga}:zlm G finO:=fun F F' as as' H H' ce ce' w v r S S' l rw' e=>by
 cases w<;>simp only[finO,reduceCtorEq] at e
 rename_i k
 split at e
 ·rename_i c hc
  split at e
  ·rename_i h
   obtain⟨h1,h2,h3⟩:=h
   cases e
   obtain⟨S2,l2⟩:=S.cut S' l h1
   simp only[Rep] at rw'
   obtain⟨a,rfl,ha⟩:=rw'
   obtain⟨q1,q2⟩:=S'.cell k a c ha hc
   have hlen:(as'.take ce.length).length=ce.length:=by rw[List.length_take,S'.len];exact Nat.min_eq_left h1.1
   have hlen2:(ce'.take ce.length).length=ce.length:=by rw[List.length_take];exact Nat.min_eq_left h1.1
   have l3:Le F' (as'.take ce.length) F' (as'.take ce.length++[a]):=⟨fun _ _ h=>h,fun j b hb=>by rw[List.getElem?_append_left (zaB hb)];exact hb⟩
   refine⟨_,_,as'.take ce.length++[a],rfl,l2.trans l3,⟨S'.sub,?_,by rw[List.length_append,List.length_append,hlen,hlen2];rfl,fun j b c' e1 e2=>?_⟩,?_⟩
   ·rw[List.nodup_append]
    refine⟨S2.nd,by simp,fun b hb d hd=>?_⟩
    rw[List.mem_singleton] at hd
    subst hd
    rintro rfl
    obtain⟨j,hj⟩:=List.getElem?_of_mem hb
    have hj1:j<ce.length:=by have:=zaB hj;omega
    rw[zbH hj1] at hj
    have ha':=zaB ha
    have hj':=zaB hj
    rw[List.getElem?_eq_getElem ha'] at ha
    rw[List.getElem?_eq_getElem hj'] at hj
    have:=zhO S'.nd ha' hj' ((Option.some.inj ha).trans (Option.some.inj hj).symm)
    omega
   ·by_cases hj:j<ce.length
    ·rw[List.getElem?_append_left (by omega)] at e1 e2
     obtain⟨p1,p2⟩:=S2.cell j b c' e1 e2
     exact⟨p1,p2.le l3 rfl⟩
    ·rw[List.getElem?_append_right (by omega),hlen] at e1
     rw[List.getElem?_append_right (by omega),hlen2] at e2
     have hz:j-ce.length=0:=by
      cases q:j-ce.length with
      | zero=>rfl
      | succ m=>rw[q] at e1;simp at e1
     rw[hz] at e1 e2
     simp at e1 e2
     subst e1;subst e2
     exact⟨q1,(q2.cut (n:=ce.length) (fun i hi=>zbH hi) h3).le l3 rfl⟩
   ·simp only[Rep]
    exact⟨a,rfl,by rw[List.getElem?_append_right (by omega),hlen];simp⟩
  ·cases e
 ·cases e
open Classical in
def dFn(fin:Ce->Ce->W->Option (R W))(n:Nat)(body:DS):List W->M W:=fun ws ce=>match body (ws.map some++List.replicate (n-ws.length) none) ce with
 | some (.go (.rt w) _ ce')=>fin ce ce' w
 | some (.go .nx _ ce')=>fin ce ce' .non
 | some (.ex x ce')=>if zeQ ce ce' then some (.ex x (ce'.take ce.length)) else none
 | _=>none
def PostF(G:Ga)(E:XK)(F:Hp)(as:List Addr)(Q:VK):Option (R W)->Prop
 | some (.ok w ce')=>∀v H' F' as',Le F as F' as'->Store G F' as' H' ce'->Rep F' as' w v->Q v H'
 | some (.ex x ce')=>∀H' F' as' cv od,Le F as F' as'->Store G F' as' H' ce'->G.xr x cv od H'->E cv od H'
 | none=>False
def spV(G:Ga)(fe:XK->XK)(n:Nat)(d:List W->M W):Sp:=fun vs H Q E=>vs.length=n/\∃F as ws ce,Store G F as H ce/\Reps F as ws vs/\PostF G (fe E) F as Q (d ws ce)
theorem zln{G:Ga}{F:Hp}{as:List Addr}{H:Hp}{ce:Ce}{ws:List W}{vs:List V}(S:Store G F as H ce)(rs:Reps F as ws vs)(N:List Str):SR G F as H (L2.start N vs) (ws.map some++List.replicate (N.length-ws.length) none) ce:=by
 have hl:=rs.length
 refine⟨S,by unfold L2.start;simp[hl],fun i w h=>?_⟩
 have hi:i<ws.length:=by
  by_cases hi:i<ws.length
  ·exact hi
  ·rw[List.getElem?_append_right (by simpa using hi),List.getElem?_replicate] at h
   split at h<;>cases h
 rw[List.getElem?_append_left (by simpa using hi),List.getElem?_map] at h
 cases e:ws[i]? with
 | none=>rw[e] at h;cases h
 | some w' =>
  rw[e] at h
  simp only[Option.map_some,Option.some.injEq] at h
  subst h
  obtain⟨v,h1,h2⟩:=rs.get e
  refine⟨v,?_,h2⟩
  unfold L2.start
  rw[List.getElem?_append_left (by simp;omega),List.getElem?_map,h1]
  rfl
theorem zav{G:Ga}{E:XK}{F:Hp}{as:List Addr}{H:Hp}{ce:Ce}{ws:List W}{vs:List V}{Q:VK}{fin:Ce->Ce->W->Option (R W)}{body:DS}(hf:zlm G fin)(N:List Str)(S:Store G F as H ce)(rs:Reps F as ws vs)(P:PostF G E F as Q (dFn fin N.length body ws ce)) :
  toTS G E body { nx:=fun _ H'=>Q .non H',rt:=Q } (L2.start N vs) H:=by
 refine⟨F,as,_,ce,zln S rs N,?_⟩
 revert P
 unfold dFn
 have key:∀{w:W} {ce':Ce},PostF G E F as Q (fin ce ce' w)->∀v H' F' as',Le F as F' as'->Store G F' as' H' ce'->Rep F' as' w v->Q v H':=by
  intro w ce' P v H' F' as' l S' rw'
  cases e:fin ce ce' w with
  | none=>rw[e] at P;exact P.elim
  | some r =>
   obtain⟨w2,ce2,as2,rfl,l2,S2,r2⟩:=hf F F' as as' H H' ce ce' w v r S S' l rw' e
   rw[e] at P
   exact P v H' F' as2 l2 S2 r2
 cases body (ws.map some++List.replicate (N.length-ws.length) none) ce with
 | none=>exact fun P=>P
 | some o=>cases o with
  | ex x ce' =>
   intro P H' F' as' cv od l S' hx
   dsimp only at P
   split at P
   ·rename_i h
    obtain⟨S2,l2⟩:=S.cut S' l h
    exact P H' F' _ cv od l2 S2 hx
   ·exact P.elim
  | go f sl' ce'=>cases f with
   | nx=>exact fun P σ' H' F' as' l S'=>key P .non H' F' as' l S'.st (by simp only[Rep])
   | bk=>exact fun P=>P.elim
   | ct=>exact fun P=>P.elim
   | rt w=>exact fun P σ' H' F' as' l S' v r=>key P v H' F' as' l S'.st r
def zao(n:Nat)(f:List W->M W)(args:Sl->M (List W)):Sl->M W:=fun sl=>bnd (args sl) fun ws=>if ws.length=n then f ws else zjt
section
variable {X:Cx} {G:Ga} {E E1:XK} {CX:CXT} {k n:Nat} {f:Addr} {fd:FuncData} {ps:List Str} {df:List W->M W} {x:Str} {p pos:Pos} {e:Expr} {es:List Expr} {dr:Sl->M (List W)} {fe:XK->XK}
theorem PostF.of{F:Hp}{as:List Addr}{H:Hp}{σ:VS.St}{sl:Sl}{ce:Ce}{Q:VK}{r:Option (R W)}(S:SR G F as H σ sl ce)(P:Post G E Rep F as σ sl Q r):PostF G E F as Q r:=by
 cases r with
 | none=>exact P
 | some r=>cases r with
  | ok w ce'=>exact fun v H' F' as' l S' rv=>P v H' F' as' l (S.slots S' l) rv
  | ex y ce'=>exact P
theorem zaj(Fk:FnOk X.prog X.w X.K X.mg X.base CX k f fd ps (spV G fe n df))(hr:Room k X.A)(hg:Gl X x)(hm:X.mg x=some (.ref f))(hk:PySem.W.keepIn X.K (.ref f)=true)(hb:Binds X.K fd ps [])(hx:zf6 CX X E1)(ha:PA X (e::es) (ziz G E dr))(hfe:fe E1=E:=by rfl)(hdb:(x==("__debug__" : Str))=false:=by decide)(he:starEach (e::es) X.env=(false,eval e X.env)::starEach es X.env:=by rfl)(hpl:(backTo pos (starEach es X.env)).any (·.1)=false:=by rfl) :
  PE X (.Call (.Name x p) (e::es) [] pos) (zaD G E (zao n df dr)):=by
 refine PE.imp (zmX Fk hr hg hm hk hb .nil hx ha hdb he hpl) fun σ H Q zz_=>el6 zz_ fun F as sl ce S P=>(step (RP:=Reps) S P).mono fun vs H1 zz_=>el8 zz_ fun ws F1 as1 ce1 l1 S1 rs P1=>?_
 split at P1
 ·rename_i hn
  rw[List.append_nil]
  exact⟨by rw[rs.length];exact hn,F1,as1,ws,ce1,S1.st,rs,by rw[hfe];exact PostF.of S1 P1⟩
 ·exact(show False from P1).elim
end
open Classical in
def zcL(d:List W->M W):List W->M W:=fun ws ce=>match d ws ce with
 | some (.ok (.cel k) ce')=>match ce'[k]? with
  | some (.lst xs)=>if zeQ ce ce'/\k=ce.length/\zdd ce.length xs then some (.ok (.lst xs) (ce'.take ce.length)) else none
  | _=>none
 | some (.ok w ce')=>some (.ok w ce')
 | r=>r
theorem zbz{P:Program}{w:World}{K:PySem.W.Frag}{mg:Str->Option Value}{base:Heap}{CX:CXT}{k n:Nat}{f:Addr}{fd:FuncData}{ps:List Str}{G:Ga}{fe:XK->XK}{d:List W->M W}(h:FnOk P w K mg base CX k f fd ps (spV G fe n d)):FnOk P w K mg base CX k f fd ps (spV G fe n (zcL d)):=by
 refine h.imp fun vs H Q E ⟨hl,F,as,ws,ce,S,rs,Pf⟩=>⟨hl,F,as,ws,ce,S,rs,?_⟩
 revert Pf
 unfold zcL
 cases d ws ce with
 | none=>exact fun P=>P
 | some r=>cases r with
  | ex x ce'=>exact fun P=>P
  | ok w ce' =>
   cases w<;>first|exact fun P=>P|skip
   rename_i j
   dsimp only
   intro Pf v H' F' as' l S' rv
   simp only[Rep] at rv
   obtain⟨a,rfl,ha⟩:=rv
   split at Pf
   ·rename_i xs hc
    split at Pf
    ·rename_i h
     obtain⟨h1,h2,h3⟩:=h
     obtain⟨q1,vs',hH,rs'⟩:=S'.cell j a _ ha hc
     have q1:=q1 rfl
     obtain⟨S2,l2⟩:=S.cut S' l h1
     have rs2:Reps F' (as'.take ce.length) xs vs':=rs'.cutS (fun i hi=>zbH hi) h3
     have l3:Le F' (as'.take ce.length) (upd F' a (.lst vs')) (as'.take ce.length):=⟨upd_sub q1,fun _ _ h=>h⟩
     refine Pf (.ref a) H' (upd F' a (.lst vs')) (as'.take ce.length) (l2.trans l3) ⟨fun b o e=>?_,S2.nd,S2.len,fun i b c e1 e2=>?_⟩ (by simp only[Rep];exact⟨a,vs',rfl,.inl zaM,rs2.le l3⟩)
     ·by_cases hb:b=a
      ·subst hb;rw[zaM] at e;cases e;exact hH
      ·rw[zaL hb] at e;exact S2.sub _ _ e
     ·obtain⟨p1,p2⟩:=S2.cell i b c e1 e2
      have hb:b≠a:=by
       rintro rfl
       have hi:i<ce.length:=by have:=zaB e2;rw[List.length_take] at this;omega
       rw[zbH hi] at e1
       have a1:=zaB ha
       have a2:=zaB e1
       rw[List.getElem?_eq_getElem a1] at ha
       rw[List.getElem?_eq_getElem a2] at e1
       have:=zhO S'.nd a1 a2 ((Option.some.inj ha).trans (Option.some.inj e1).symm)
       omega
      exact⟨fun hn=>by rw[zaL hb];exact p1 hn,p2.le l3 rfl⟩
    ·exact Pf.elim
   ·exact Pf.elim
end
end VS
namespace VS
open PySem PySem.Spec PyProof.Rows L2
section
def zfA:List W->Option (List Int)
 | []=>some []
 | .int i::r=>(zfA r).map (i::·)
 | _=>none
def zdH:List W->Option (List Bool)
 | []=>some []
 | .bl i::r=>(zdH r).map (i::·)
 | _=>none
def zgo:List (Key×W)->Option (List Int)
 | []=>some []
 | (.inl i,_)::r=>(zgo r).map (i::·)
 | _=>none
theorem zei:∀ns:List Int,zfA (ns.map W.int)=some ns
 | []=>rfl
 | n::r=>by simp only[List.map_cons,zfA,zei r,Option.map_some]
theorem zdw:∀ns:List Bool,zdH (ns.map W.bl)=some ns
 | []=>rfl
 | n::r=>by simp only[List.map_cons,zdH,zdw r,Option.map_some]
theorem zhZ:∀{ws:List W} {ns:List Int},zfA ws=some ns->ws=ns.map W.int
 | [],ns,h=>by simp only[zfA,Option.some.injEq] at h;subst h;rfl
 | w::r,ns,h=>by
  cases w<;>simp only[zfA,reduceCtorEq,Option.map_eq_some_iff] at h
  obtain⟨ms,h1,rfl⟩:=h
  rw[zhZ h1,List.map_cons]
theorem zej:∀{ws:List W} {ns:List Bool},zdH ws=some ns->ws=ns.map W.bl
 | [],ns,h=>by simp only[zdH,Option.some.injEq] at h;subst h;rfl
 | w::r,ns,h=>by
  cases w<;>simp only[zdH,reduceCtorEq,Option.map_eq_some_iff] at h
  obtain⟨ms,h1,rfl⟩:=h
  rw[zej h1,List.map_cons]
theorem zfB:∀{kvs:List (Key×W)} {ns:List Int},zgo kvs=some ns->kvs.map (·.1)=ns.map Sum.inl
 | [],ns,h=>by simp only[zgo,Option.some.injEq] at h;subst h;rfl
 | (k,w)::r,ns,h=>by
  cases k<;>simp only[zgo,reduceCtorEq,Option.map_eq_some_iff] at h
  obtain⟨ms,h1,rfl⟩:=h
  rw[List.map_cons,zfB h1,List.map_cons]
def srt(ns:List Int):List Int:=ns.mergeSort fun a b=>decide (a<=b)
theorem zbq(ns:List Int):(srt ns).Perm ns:=List.mergeSort_perm ns _
theorem zcM(ns:List Int):(srt ns).Pairwise (·<=·):=by
 have:=List.pairwise_mergeSort (le:=fun a b:Int=>decide (a<=b)) (fun a b c=>by simp;omega) (fun a b=>by simp;omega) ns
 exact this.imp fun h=>by simpa using h
theorem zci:∀{a b:List Int},a.Perm b->a.Pairwise (·<=·)->b.Pairwise (·<=·)->a=b
 | [],b,p,_,_=>by rw[List.nil_perm] at p;exact p.symm
 | x::a,[],p,_,_=>by have:=p.length_eq;simp at this
 | x::a,y::b,p,sa,sb=>by
  rw[List.pairwise_cons] at sa sb
  have h1:x=y:=by
   have hx:x∈y::b:=p.subset List.mem_cons_self
   have hy:y∈x::a:=p.symm.subset List.mem_cons_self
   rcases List.mem_cons.mp hx with e|hx
   ·exact e
   ·rcases List.mem_cons.mp hy with e|hy
    ·exact e.symm
    ·have:=sb.1 x hx
     have:=sa.1 y hy
     omega
  subst h1
  rw[zci (List.Perm.cons_inv p) sa.2 sb.2]
theorem zmd{ms ns:List Int}(p:ms.Perm ns)(s:ms.Pairwise (·<=·)):ms=srt ns:=zci (p.trans (zbq ns).symm) s (zcM ns)
def dBi(f:List W->M W)(args:Sl->M (List W)):Sl->M W:=fun sl=>bnd (args sl) f
def Bi(G:Ga)(E:XK)(r:List V->Hp->VK->Prop)(f:List W->M W):Prop:=∀F as H σ sl ce ws vs Q,SR G F as H σ sl ce->Reps F as ws vs->Post G E Rep F as σ sl Q (f ws ce)->r vs H Q
open Classical in
def zc3:List W->M W:=fun ws ce=>match ws with
 | [.str x]=>if x.length<=sizeLine then some (.ok (.int x.length) ce) else none
 | [w]=>match zeN ce w with
  | some xs=>some (.ok (.int xs.length) ce)
  | none=>match zn7 ce w with
   | some kvs=>some (.ok (.int kvs.length) ce)
   | none=>none
 | _=>none
open Classical in
def za6(mk:List W->M W):List W->M W:=fun ws ce=>match ws with
 | [w]=>match zcz ce w with
  | some xs=>match zfA xs with
   | some ns=>if ns.length<64 then mk ((srt ns).map W.int) ce else none
   | none=>none
  | none=>match zn8 ce w with
   | some kvs=>match zgo kvs with
    | some ns=>if ns.length<64 then mk ((srt ns).map W.int) ce else none
    | none=>none
   | none=>none
 | _=>none
def zcV(mk:List W->M W):List W->M W:=fun ws ce=>match ws with
 | [w]=>match zeN ce w with
  | some xs=>mk xs ce
  | none=>match zn8 ce w with
   | some kvs=>match zgo kvs with
    | some ns=>mk (ns.map W.int) ce
    | none=>none
   | none=>none
 | _=>none
def zbt:List W->M W:=fun ws ce=>match ws with
 | [.tup xs]=>some (.ok (.tup xs) ce)
 | [w]=>match zcz ce w with
  | some xs=>zri xs ce
  | none=>none
 | _=>none
def zme:List W->M W:=fun ws ce=>match ws with
 | [w]=>match zcz ce w with
  | some xs=>match zdH xs with
   | some bs=>some (.ok (.bl (bs.all id)) ce)
   | none=>none
  | none=>none
 | _=>none
def zo1:List W->M W:=fun ws ce=>match ws with
 | [w]=>match zcz ce w with
  | some xs=>match zdH xs with
   | some bs=>some (.ok (.bl (bs.any id)) ce)
   | none=>none
  | none=>none
 | _=>none
def zqs:List W->M W:=fun ws ce=>match ws with
 | [.int i,.int j]=>some (.ok (.int (if j<i then j else i)) ce)
 | _=>none
def zqt:List W->M W:=fun ws ce=>match ws with
 | [.int i,.int j]=>some (.ok (.int (if j>i then j else i)) ce)
 | _=>none
def tyW(ce:Ce):W->Option String
 | .non=>some "NoneType"
 | .bl _=>some "bool"
 | .int _=>some "int"
 | .str _=>some "str"
 | .lst _=>some "list"
 | .tup _=>some "tuple"
 | .cel k=>match ce[k]? with
  | some (.lst _)=>some "list"
  | some (.dct _)=>some "dict"
  | _=>none
 | .ty _=>none
def znq(a b:String):Bool:=a==b||(a == "bool" && b == "int")
def kinds:List String:=["NoneType", "bool", "int", "str", "list", "tuple", "dict"]
theorem zjR(K:PySem.W.Frag):∀a∈kinds,∀b∈["int", "bool", "list", "tuple", "str", "dict"],PySem.W.kitOne K (.type a) (.type b)=some (znq a b):=by
 have h:∀a∈kinds,∀b∈["int", "bool", "list", "tuple", "str", "dict"],(fun _:Unit=>PySem.W.kitOne K (.type a) (.type b)) ()=some (znq a b):=by
  intro a ha b hb
  simp only[kinds,List.mem_cons,List.not_mem_nil,or_false] at ha hb
  rcases ha with rfl|rfl|rfl|rfl|rfl|rfl|rfl<;>rcases hb with rfl|rfl|rfl|rfl|rfl|rfl<;>kernel_rfl
 exact h
def zlo:List W->M W:=fun ws ce=>match ws with
 | [w,.ty T]=>match tyW ce w with
  | some t=>if (kinds.contains t&&["int", "bool", "list", "tuple", "str", "dict"].contains T)=true then some (.ok (.bl (znq t T)) ce) else none
  | none=>none
 | _=>none
section
variable {X:Cx} {G:Ga} {E:XK} {F:Hp} {as:List Addr} {H:Hp} {ce:Ce} {w:W} {v:V}
theorem CallR.or{f:Value}{r r':List V->Hp->VK->Prop}(h:CallR X f r)(h':CallR X f r'):CallR X f (fun xs H Q=>r xs H Q\/r' xs H Q):=by
 intro pins s σ H xs us Q I rx q
 rcases q with q|q
 ·exact h pins s σ H xs us Q I rx q
 ·exact h' pins s σ H xs us Q I rx q
theorem zbK{vs:List V}(h:Reps F as [w] vs):∃v,vs=[v]/\Rep F as w v:=by
 simp only[Reps] at h
 obtain⟨v,r,rfl,h1,rfl⟩:=h
 exact⟨v,rfl,h1⟩
theorem zfC{w':W}{vs:List V}(h:Reps F as [w,w'] vs):∃v v',vs=[v,v']/\Rep F as w v/\Rep F as w' v':=by
 simp only[Reps] at h
 obtain⟨v,r,rfl,h1,v',r',rfl,h2,rfl⟩:=h
 exact⟨v,v',rfl,h1,h2⟩
def zo2(K:PySem.W.Frag):List V->Hp->VK->Prop:=fun xs H Q=>(∃x n,xs=[x]/\zrV K x H n/\Q (.int n) H)\/∃a kvs,xs=[V.ref a]/\H a=some (.dK kvs)/\Q (.int kvs.length) H
theorem zcW{K:PySem.W.Frag}(hK:X.K=K:=by rfl):CallR X (.builtin "len") (zo2 K):=by subst hK;exact CallR.or zkY zjs
theorem zcX(K:PySem.W.Frag):Bi G E (zo2 K) zc3:=by
 intro F as H σ sl ce ws vs Q S rs P
 unfold zc3 at P
 split at P
 ·rename_i x
  split at P
  ·rename_i hl
   obtain⟨v,rfl,r⟩:=zbK rs
   simp only[Rep] at r
   subst r
   exact .inl ⟨_,_,rfl,⟨hl,rfl⟩,P.done S (by simp only[Rep])⟩
  ·exact P.elim
 ·rename_i w _
  obtain⟨v,rfl,r⟩:=zbK rs
  split at P
  ·rename_i xs hx
   obtain⟨a,us,rfl,h,rs'⟩:=zfy S.st r hx
   refine .inl ⟨_,us.length,rfl,?_,P.done S (by simp only[Rep];rw[rs'.length])⟩
   rcases h with h|h
   ·exact .inl ⟨us,.inl h,rfl⟩
   ·exact .inr ⟨us,.inl h,rfl⟩
  ·split at P
   ·rename_i kvs hd
    obtain⟨n,a,ps,rfl,rfl,ha,hH,rk⟩:=zjC S.st r hd
    exact .inr ⟨a,ps,rfl,hH,P.done S (by simp only[Rep];rw[rk.length])⟩
   ·exact P.elim
 ·exact P.elim
def zr3(K:PySem.W.Frag):List V->Hp->VK->Prop:=fun xs H Q=>zm5 K xs H Q\/∃(a:Addr) (kvs:List (Key×V)) (ns:List Int),xs=[.ref a]/\Rd H a (.dK kvs)/\kvs.map (·.1)=ns.map Sum.inl/\ns.length<64 /\
  ∀ms:List Int,ms.Perm ns->ms.Pairwise (·<=·)->∀l,H l=none->Q (.ref l) (upd H l (.lst (ms.map V.int)))
theorem zhb{K:PySem.W.Frag}(hc:X.calm=true:=by rfl)(hK:X.K=K:=by rfl):CallR X (.builtin "sorted") (zr3 K):=by subst hK;exact CallR.or zgZ (zgg hc)
theorem RepKV.keys{kvs:List (Key×W)}{ps:List (Key×V)}(r:RepKV F as kvs ps):ps.map (·.1)=kvs.map (·.1):=by
 induction r with
 | nil=>rfl
 | cons h t ih=>rw[List.map_cons,List.map_cons,ih,h.1]
theorem zhc{mk:List W->M W}(K:PySem.W.Frag)(hm:MkL G E mk):Bi G E (zr3 K) (za6 mk):=by
 intro F as H σ sl ce ws vs Q S rs P
 unfold za6 at P
 split at P
 ·rename_i w
  obtain⟨v,rfl,r⟩:=zbK rs
  split at P
  ·rename_i xs hx
   split at P
   ·rename_i ns hi
    split at P
    ·rename_i h64
     obtain⟨a,us,rfl,h,rs'⟩:=zbB S.st r hx
     cases zhZ hi
     cases rs'.of_ints
     refine .inl ⟨a,ns,rfl,.inl h,h64,fun ms p s l hl=>?_⟩
     rw[zmd p s]
     exact(hm S (Reps.ints (srt ns)) P).2 l hl
    ·exact P.elim
   ·exact P.elim
  ·split at P
   ·rename_i kvs hd
    split at P
    ·rename_i ns hk
     split at P
     ·rename_i h64
      obtain⟨n,a,ps,rfl,rfl,ha,hH,rk⟩:=zhT S.st r hd
      refine .inr ⟨a,ps,ns,rfl,hH,by rw[rk.keys];exact zfB hk,h64,fun ms p s l hl=>?_⟩
      rw[zmd p s]
      exact(hm S (Reps.ints (srt ns)) P).2 l hl
     ·exact P.elim
    ·exact P.elim
   ·exact P.elim
 ·exact P.elim
def zo3(K:PySem.W.Frag):List V->Hp->VK->Prop:=fun xs H Q=>zm6 K xs H Q\/∃(a:Addr) (kvs:List (Key×V)) (ns:List Int),xs=[.ref a]/\Rd H a (.dK kvs)/\kvs.map (·.1)=ns.map Sum.inl/\∀l,H l=none->Q (.ref l) (upd H l (.lst (ns.map V.int)))
theorem zek{K:PySem.W.Frag}(hc:X.calm=true:=by rfl)(hK:X.K=K:=by rfl):CallR X (.type "list") (zo3 K):=by subst hK;exact CallR.or zgc (ziy hc)
theorem zel{mk:List W->M W}(K:PySem.W.Frag)(hm:MkL G E mk):Bi G E (zo3 K) (zcV mk):=by
 intro F as H σ sl ce ws vs Q S rs P
 unfold zcV at P
 split at P
 ·rename_i w
  obtain⟨v,rfl,r⟩:=zbK rs
  split at P
  ·rename_i xs hx
   obtain⟨a,us,rfl,h,rs'⟩:=zfy S.st r hx
   exact .inl ⟨a,us,rfl,h.imp .inl .inl,(hm S rs' P).2⟩
  ·split at P
   ·rename_i kvs hd
    split at P
    ·rename_i ns hk
     obtain⟨n,a,ps,rfl,rfl,ha,hH,rk⟩:=zhT S.st r hd
     exact .inr ⟨a,ps,ns,rfl,hH,by rw[rk.keys];exact zfB hk,(hm S (Reps.ints ns) P).2⟩
    ·exact P.elim
   ·exact P.elim
 ·exact P.elim
theorem zdx(K:PySem.W.Frag):Bi G E (zl5 K) zbt:=by
 intro F as H σ sl ce ws vs Q S rs P
 unfold zbt at P
 split at P
 ·rename_i xs
  obtain⟨v,rfl,r⟩:=zbK rs
  have r':=r
  simp only[Rep] at r
  obtain⟨a,us,rfl,h,rs'⟩:=r
  exact⟨a,us,rfl,.inr ⟨.inl (.inl (S.st.sub _ _ h)),P.done S r'⟩⟩
 ·rename_i w _
  obtain⟨v,rfl,r⟩:=zbK rs
  split at P
  ·rename_i xs hx
   obtain⟨a,us,rfl,h,rs'⟩:=zbB S.st r hx
   exact⟨a,us,rfl,.inl ⟨.inl h,(zjK S rs' P).2⟩⟩
  ·exact P.elim
 ·exact P.elim
theorem zlp(K:PySem.W.Frag):Bi G E (zr0 K) zme:=by
 intro F as H σ sl ce ws vs Q S rs P
 unfold zme at P
 split at P
 ·obtain⟨v,rfl,r⟩:=zbK rs
  split at P
  ·rename_i xs hx
   split at P
   ·rename_i bs hb
    obtain⟨a,us,rfl,h,rs'⟩:=zbB S.st r hx
    cases zej hb
    cases rs'.of_bools
    exact⟨a,bs,rfl,.inl h,P.done S (by simp only[Rep])⟩
   ·exact P.elim
  ·exact P.elim
 ·exact P.elim
def zr4(K:PySem.W.Frag):List V->Hp->VK->Prop:=fun xs H Q=>∃(a:Addr) (bs:List Bool),xs=[.ref a]/\SqL K H a (bs.map V.bl)/\Q (.bl (bs.any id)) H
theorem zro{K:PySem.W.Frag}(hc:X.calm=true:=by rfl)(hK:X.K=K:=by rfl):CallR X (.builtin "any") (zr4 K):=by subst hK;exact zlc hc
theorem zrp(K:PySem.W.Frag):Bi G E (zr4 K) zo1:=by
 intro F as H σ sl ce ws vs Q S rs P
 unfold zo1 at P
 split at P
 ·obtain⟨v,rfl,r⟩:=zbK rs
  split at P
  ·rename_i xs hx
   split at P
   ·rename_i bs hb
    obtain⟨a,us,rfl,h,rs'⟩:=zbB S.st r hx
    cases zej hb
    cases rs'.of_bools
    exact⟨a,bs,rfl,.inl h,P.done S (by simp only[Rep])⟩
   ·exact P.elim
  ·exact P.elim
 ·exact P.elim
theorem zrq:Bi G E (fun xs H Q=>∃i j,xs=[.int i,.int j]/\Q (.int (if j<i then j else i)) H) zqs:=by
 intro F as H σ sl ce ws vs Q S rs P
 unfold zqs at P
 split at P
 ·obtain⟨v,v',rfl,r,r'⟩:=zfC rs
  simp only[Rep] at r r'
  subst r;subst r'
  exact⟨_,_,rfl,P.done S (by simp only[Rep])⟩
 ·exact P.elim
theorem zrr:Bi G E (fun xs H Q=>∃i j,xs=[.int i,.int j]/\Q (.int (if j>i then j else i)) H) zqt:=by
 intro F as H σ sl ce ws vs Q S rs P
 unfold zqt at P
 split at P
 ·obtain⟨v,v',rfl,r,r'⟩:=zfC rs
  simp only[Rep] at r r'
  subst r;subst r'
  exact⟨_,_,rfl,P.done S (by simp only[Rep])⟩
 ·exact P.elim
theorem zo4(S:Store G F as H ce)(r:Rep F as w v){t:String}(e:tyW ce w=some t)(K:PySem.W.Frag):TyOf K H v (.type t):=by
 have lst:∀{a:Addr} {vs:List V},Rd H a (.lst vs)->TyOf K H (.ref a) (.type "list"):=fun {a vs} h=>by
  rcases h with h|⟨o,h⟩
  ·exact .lst h
  ·exact .frz h
 cases w with
 | non=>simp only[tyW,Option.some.injEq] at e;simp only[Rep] at r;subst e r;exact .non
 | bl b=>simp only[tyW,Option.some.injEq] at e;simp only[Rep] at r;subst e r;exact .bl b
 | int b=>simp only[tyW,Option.some.injEq] at e;simp only[Rep] at r;subst e r;exact .int b
 | str b=>simp only[tyW,Option.some.injEq] at e;simp only[Rep] at r;subst e r;exact .str b
 | ty b=>simp only[tyW,reduceCtorEq] at e
 | lst xs =>
  simp only[tyW,Option.some.injEq] at e
  simp only[Rep] at r
  obtain⟨a,vs,rfl,h,_⟩:=r
  subst e
  exact lst (Rd.sub S h)
 | tup xs =>
  simp only[tyW,Option.some.injEq] at e
  simp only[Rep] at r
  obtain⟨a,vs,rfl,h,_⟩:=r
  subst e
  exact .tup (S.sub _ _ h)
 | cel k =>
  simp only[Rep] at r
  obtain⟨a,rfl,h⟩:=r
  simp only[tyW] at e
  split at e
  ·rename_i hc
   cases e
   obtain⟨_,vs,h2,rs⟩:=S.cell _ _ _ h hc
   exact .lst h2
  ·rename_i hc
   cases e
   obtain⟨_,vs,h2,rs⟩:=S.cell _ _ _ h hc
   exact .dK h2
  ·cases e
end
end
end VS
namespace VS
open PySem PySem.Spec PyProof.Rows L2
section
section
variable {X:Cx} {G:Ga} {E:XK} {x:Str} {p pos:Pos} {e:Expr} {es:List Expr} {dr:Sl->M (List W)} {id T:String} {r:List V->Hp->VK->Prop} {f:List W->M W}
theorem zjS(K:PySem.W.Frag):Bi G E (zq9 K) zlo:=by
 intro F as H σ sl ce ws vs Q S rs P
 unfold zlo at P
 split at P
 ·rename_i w T
  obtain⟨v,v',rfl,r,r'⟩:=zfC rs
  simp only[Rep] at r'
  subst r'
  split at P
  ·rename_i t ht
   split at P
   ·rename_i hk
    rw[Bool.and_eq_true,List.contains_iff_mem,List.contains_iff_mem] at hk
    exact⟨v,T,_,_,rfl,zo4 S.st r ht K,zjR K t hk.1 T hk.2,P.done S (by simp only[Rep])⟩
   ·exact P.elim
  ·exact P.elim
 ·exact P.elim
theorem zaw(hc:CallR X (.builtin id) r)(hf:Bi G E r f)(hg:Gl X x)(hm:X.mg x=none)(hv:bootBuiltins x=some (.builtin id))(ha:PA X (e::es) (ziz G E dr))(hn:x ≠ "__name__" := by decide)(hdb:(x==("__debug__" : Str))=false:=by decide)(he:starEach (e::es) X.env=(false,eval e X.env)::starEach es X.env:=by rfl)(hpl:(backTo pos (starEach es X.env)).any (·.1)=false:=by rfl):PE X (.Call (.Name x p) (e::es) [] pos) (zaD G E (dBi f dr)) :=
 PE.imp (zkZ hc hg hm hv ha hn hdb he hpl) fun σ H Q zz_=>el6 zz_ fun F as sl ce S P=>(step (RP:=Reps) S P).mono fun vs H1 zz_=>el8 zz_ fun ws F1 as1 ce1 l1 S1 rs P1=>hf F1 as1 H1 σ sl ce1 ws vs Q S1 rs P1
theorem zaZ(hc:CallR X (.type T) r)(hf:Bi G E r f)(hg:Gl X x)(hm:X.mg x=none)(hv:bootBuiltins x=some (.type T))(ha:PA X (e::es) (ziz G E dr))(hn:x ≠ "__name__" := by decide)(hdb:(x==("__debug__" : Str))=false:=by decide)(he:starEach (e::es) X.env=(false,eval e X.env)::starEach es X.env:=by rfl)(hpl:(backTo pos (starEach es X.env)).any (·.1)=false:=by rfl):PE X (.Call (.Name x p) (e::es) [] pos) (zaD G E (dBi f dr)) :=
 PE.imp (zje hc hg hm hv ha hn hdb he hpl) fun σ H Q zz_=>el6 zz_ fun F as sl ce S P=>(step (RP:=Reps) S P).mono fun vs H1 zz_=>el8 zz_ fun ws F1 as1 ce1 l1 S1 rs P1=>hf F1 as1 H1 σ sl ce1 ws vs Q S1 rs P1
open Classical in
def zsR(mk:List W->M W):List W->M W:=fun ws ce=>match zno ws with
 | some (.rng lo n)=>if n<=sizeLine then mk ((List.range n).map fun(i:Nat)=>W.int (lo+(i:Int))) ce else none
 | _=>none
def zkN(ce:Ce)(w:W):Option Unit:=(zcz ce w).map fun _=>()
def dMt(f:W->List W->M W)(o:Sl->M W)(args:Sl->M (List W)):Sl->M W:=fun sl=>bnd (o sl) fun x=>bnd (look fun ce=>zkN ce x) fun _=>bnd (args sl) fun ws=>f x ws
def Mt(G:Ga)(E:XK)(r:V->List V->Hp->VK->Prop)(f:W->List W->M W):Prop:=∀F as H σ sl ce w v ws vs Q,SR G F as H σ sl ce->Rep F as w v->Reps F as ws vs->Post G E Rep F as σ sl Q (f w ws ce)->r v vs H Q
variable {o:Expr} {name:Str} {apos cpos:Pos} {do':Sl->M W} {rm:V->List V->Hp->VK->Prop} {fm:W->List W->M W}
theorem zgp{F:Hp}{as:List Addr}{σ:VS.St}{sl:Sl}{ce:Ce}{Q:VK}{w:W}{k:Unit->M W}(P:Post G E Rep F as σ sl Q (bnd (look fun ce=>zkN ce w) k ce)):∃xs,zcz ce w=some xs/\Post G E Rep F as σ sl Q (k () ce):=by
 revert P
 simp only[bnd,look,zkN]
 cases zcz ce w with
 | none=>exact fun P=>P.elim
 | some xs=>exact fun P=>⟨xs,rfl,P⟩
theorem zcY(slot:Slot "list" name id)(hty:typeOf (.builtin id)=pure (.type "method_descriptor"))(hm:MtR X id rm)(hf:Mt G E rm fm)(ho:PE X o (zaD G E do'))(ha:PA X (e::es) (ziz G E dr))(hbase:attributeBase o name X.env (eval o X.env)=eval o X.env:=by rfl)(hfew:((backTo cpos (starEach (e::es) X.env)).all (fun x=>!x.1)&&(backToKw cpos (keywordEach [] X.env)).all (fun x=>x.1.isSome)
   && decide ((e::es).length+([]:List Keyword).length+(if ([]:List Keyword).isEmpty then 0 else 1)<30))=true:=by rfl)(hline:(apos.endLine==cpos.line)=true:=by rfl)(hs:starEach (e::es) X.env=(false,eval e X.env)::starEach es X.env:=by rfl)(hplain:(backTo cpos (starEach es X.env)).any (·.1)=false:=by rfl) :
  PE X (.Call (.Attribute o name apos) (e::es) [] cpos) (zaD G E (dMt fm do' dr)):=by
 refine PE.imp (zq5 PySem.F.plainAttrs_list slot hty hm ho ha hbase hfew hline hs hplain) fun σ H Q zz_=>el6 zz_ fun F as sl ce S P=>(step S P).mono fun x H1 zz_=>el8 zz_ fun wx F1 as1 ce1 l1 S1 rx P1=>?_
 obtain⟨xs,hx,P2⟩:=zgp P1
 obtain⟨a,us,rfl,h,_⟩:=zbB S1.st rx hx
 refine⟨.inl ⟨rfl,us,.inl h⟩,(step (RP:=Reps) S1 P2).mono fun vs H2 zz_=>el8 zz_ fun ws F2 as2 ce2 l2 S2 rs P3=>?_⟩
 exact hf F2 as2 H2 σ sl ce2 wx _ ws vs Q S2 (rx.le l2) rs P3
def znr(f:W->List W->M W)(o:Sl->M W):Sl->M W:=fun sl=>bnd (o sl) fun x=>bnd (look fun ce=>zkN ce x) fun _=>f x []
theorem zjT(slot:Slot "list" name id)(hty:typeOf (.builtin id)=pure (.type "method_descriptor"))(hm:MtR X id rm)(hf:Mt G E rm fm)(ho:PE X o (zaD G E do'))(hbase:attributeBase o name X.env (eval o X.env)=eval o X.env:=by rfl)(hline:(apos.endLine==cpos.line)=true:=by rfl):PE X (.Call (.Attribute o name apos) [] [] cpos) (zaD G E (znr fm do')):=by
 refine PE.imp (zoJ PySem.F.plainAttrs_list slot hty hm ho hbase hline) fun σ H Q zz_=>el6 zz_ fun F as sl ce S P=>(step S P).mono fun x H1 zz_=>el8 zz_ fun wx F1 as1 ce1 l1 S1 rx P1=>?_
 obtain⟨xs,hx,P2⟩:=zgp P1
 obtain⟨a,us,rfl,h,_⟩:=zbB S1.st rx hx
 exact⟨.inl ⟨rfl,us,.inl h⟩,hf F1 as1 H1 σ sl ce1 wx _ [] [] Q S1 rx Reps.nil P2⟩
open Classical in
def zeR:W->List W->M W:=fun w ws ce=>match zha ce w,ws with
 | some (k,xs),[y]=>if xs.length<sizeLine then some (.ok .non (ce.set k (.lst (xs++[y])))) else none
 | _,_=>none
def zn9:W->List W->M W:=fun w ws ce=>match zha ce w,ws with
 | some (k,xs),[]=>match xs[xs.length-1]? with
  | some y=>some (.ok y (ce.set k (.lst xs.dropLast)))
  | none=>none
 | _,_=>none
open Classical in
def zrs:W->List W->M W:=fun w ws ce=>match zha ce w,ws with
 | some (k,xs),[y]=>match zcz ce y with
  | some ys=>if xs.length+ys.length<=sizeLine then some (.ok .non (ce.set k (.lst (xs++ys)))) else none
  | none=>none
 | _,_=>none
theorem zdY:Mt G E zji zeR:=by
 intro F as H σ sl ce w v ws vs Q S rw' rs P
 unfold zeR at P
 split at P
 ·rename_i k xs y hk
  split at P
  ·rename_i hl
   obtain⟨a,us,rfl,ha,hH,r⟩:=zdh S.st rw' hk
   obtain⟨u,rfl,ry⟩:=zbK rs
   refine⟨a,us,u,rfl,rfl,hH,by rw[r.length];exact hl,?_⟩
   exact P .non _ F as .refl (S.slots (S.st.write (o:=.lst (us++[u])) (c:=.lst (xs++[y])) ha ⟨_,zaM,r.append (.cons ry .nil)⟩) .refl) (by simp only[Rep])
  ·exact(show False from P).elim
 ·exact(show False from P).elim
theorem zo5:Mt G E zrX zn9:=by
 intro F as H σ sl ce w v ws vs Q S rw' rs P
 unfold zn9 at P
 split at P
 ·rename_i k xs hk
  split at P
  ·rename_i y hy
   obtain⟨a,us,rfl,ha,hH,r⟩:=zdh S.st rw' hk
   simp only[Reps] at rs
   obtain⟨u,hu,ru⟩:=r.get hy
   refine⟨a,us,u,rfl,rs,hH,by rw[r.length];exact hu,?_⟩
   exact P u _ F as .refl (S.slots (S.st.write (o:=.lst us.dropLast) (c:=.lst xs.dropLast) ha ⟨_,zaM,r.dropLast⟩) .refl) ru
  ·exact(show False from P).elim
 ·exact(show False from P).elim
def zo6:V->List V->Hp->VK->Prop:=fun x vs H Q=>∃l b xs zs,x=.ref l/\vs=[.ref b]/\H l=some (.lst xs)/\Rd H b (.lst zs)/\xs.length+zs.length<=sizeLine/\Q .non (upd H l (.lst (xs++zs)))
theorem zns:MtR X "list.extend" zo6:=by
 intro pins s σ H x vs v us Q I rx rv h
 obtain⟨l,b,xs,zs,rfl,rfl,hH,hB,hz,q⟩:=h
 cases rx
 obtain⟨u,rfl,ru⟩:=rv.one
 cases ru
 obtain⟨z,its,n,r,hl,e⟩:=I.lstM hH
 obtain⟨z2,its2,n2,r2,hl2,e2⟩:=Inv.lstR I hB
 have hsz:its.toArray.size+its2.toArray.size<=sizeLine:=by rw[List.size_toArray,List.size_toArray];omega
 have hlong:¬(!its.toArray.isEmpty&&Builtin.List.listTooLong (its.toArray.size+its2.toArray.size))=true:=by
  rw[zk2 hsz,Bool.and_false]
  exact Bool.false_ne_true
 refine call_meets F.slot_list_extend ⟨_,e,rfl⟩ F.entry_list_extend (F.args_list_extend_2 _ _)
  (AutoSeq1.list_extend_list_list_0 l its.toArray n b its2.toArray n2 hlong (by rw[List.size_toArray];omega) (by omega)) ⟨e,e2,?_⟩
 refine⟨.non,_,I.lset (its':=its++its2) hH e (by simp) (r.append r2) ?_,rfl,q⟩
 rw[List.length_append]
 omega
theorem zrt:Mt G E zo6 zrs:=by
 intro F as H σ sl ce w v ws vs Q S rw' rs P
 unfold zrs at P
 split at P
 ·rename_i k xs y hk
  split at P
  ·rename_i ys hy
   split at P
   ·rename_i hl
    obtain⟨a,us,rfl,ha,hH,r⟩:=zdh S.st rw' hk
    obtain⟨u,rfl,ry⟩:=zbK rs
    obtain⟨b,zs,rfl,hb,r2⟩:=zbB S.st ry hy
    refine⟨a,b,us,zs,rfl,rfl,hH,hb,by rw[r.length,r2.length];exact hl,?_⟩
    exact P .non _ F as .refl (S.slots (S.st.write (o:=.lst (us++zs)) (c:=.lst (xs++ys)) ha ⟨_,zaM,r.append r2⟩) .refl) (by simp only[Rep])
   ·exact(show False from P).elim
  ·exact(show False from P).elim
 ·exact(show False from P).elim
variable {a b:Expr} {da db:Sl->M W}
theorem zlq{i:Int}(hg:Gl X x)(hm:∃t,X.mg x=some (.int i t))(hd:(x==("__debug__" : Str))=false:=by decide):PE X (.Name x pos) (zaD G E (dC (.int i))):=by
 obtain⟨t,hm⟩:=hm
 exact zoQ (zmG (v:=.int i) hg hm ⟨t,rfl⟩ hd) rfl
theorem zjU{n:String}(hg:Gl X x)(hm:X.mg x=none)(hv:bootBuiltins x=some (.type n))(hn:x ≠ "__name__" := by decide)(hd:(x==("__debug__" : Str))=false:=by decide):PE X (.Name x pos) (zaD G E (dC (.ty n))):=zoQ (zmH (v:=.ty n) hg hm hv rfl hn hd) rfl
end
end
end VS
namespace VS
open PySem PySem.Spec PyProof.Rows L2
section
section
variable {X:Cx} {G:Ga} {E:XK} {a b:Expr} {da db:Sl->M W} {pos:Pos}
def zgT:W->W->Option W:=i2 fun i j=>.bl (decide (i=j))
def zsS:W->W->Option W:=i2 fun i j=>.bl (!decide (i=j))
theorem zo7:Sc2 rEq zgT:=by
 intro x y w e
 cases x<;>cases y<;>simp only[zgT,i2,Option.some.injEq,reduceCtorEq] at e
 subst e
 exact⟨_,_,_,rfl,rfl,rfl,fun H Q hq=>⟨rfl,by simpa using hq⟩⟩
theorem zcA(ha:PE X a (zaD G E da))(hb:PE X b (zaD G E db)):PT X (.Compare a [.Eq] [b] pos) (zcp G E (dB (dOp zgT da db))):=zfv zqS ha hb (zcv _) (zbC (zjG zo7))
def zfa(k v:Sl->M W):Sl->M W:=fun sl ce=>match bnd (k sl) (fun kw=>bnd (v sl) fun vw=>ret (kw,vw)) (ce++[.dct []]) with
 | some (.ok (kw,vw) ce2)=>match zi0 kw,ce2[ce.length]? with
  | some key,some (.dct [])=>some (.ok (.cel ce.length) (ce2.set ce.length (.dct [(key,vw)])))
  | _,_=>none
 | some (.ex x ce2)=>some (.ex x ce2)
 | none=>none
theorem zh0{k v:Expr}{dk dv:Sl->M W}(hk:PE X k (zaD G E dk))(hv:PE X v (zaD G E dv)):PE X (.Dict [some k] [v] pos) (zaD G E (zfa dk dv)):=by
 refine PE.imp (znb (zlb hk hv zna) rfl rfl (by intro h;cases h) (by simp)) fun σ H Q zz_=>el6 zz_ fun F as sl ce S P=>?_
 intro p hp
 obtain⟨S1,l1⟩:=S.st.alloc (o:=.dK []) (c:=.dct []) hp (fun as' l=>⟨[],zaM,.nil⟩)
 have hlen:as.length=ce.length:=S.st.len
 have P':Post G E (fun F as (a:W×W) (b:V×V)=>Rep F as a.1 b.1/\Rep F as a.2 b.2) F (as++[p]) σ sl (fun b H2=>H2 p=some (.dK [])/\∃kvs:List (Key×V),[b]=kvs.map (fun kv=>(kV kv.1,kv.2))/\kvs.length<=15/\Q (.ref p) (upd H2 p (.dK (zec [] kvs))))
   (bnd (dk sl) (fun kw=>bnd (dv sl) fun vw=>ret (kw,vw)) (ce++[.dct []])):=by
  unfold zfa at P
  cases e:bnd (dk sl) (fun kw=>bnd (dv sl) fun vw=>ret (kw,vw)) (ce++[.dct []]) with
  | none=>rw[e] at P;exact P.elim
  | some r=>cases r with
   | ex x ce2=>rw[e] at P;exact fun H' F' as' cv od l=>P H' F' as' cv od (l1.trans l)
   | ok a ce2 =>
    obtain⟨kw,vw⟩:=a
    rw[e] at P
    dsimp only at P
    split at P
    ·rename_i key hkey hcell
     intro b H' F' as' l S' r
     obtain⟨kv,vv⟩:=b
     have hp':as'[ce.length]?=some p:=l.c _ _ (by rw[<- hlen];simp)
     obtain⟨_,ps,h2,rk⟩:=S'.st.cell _ _ _ hp' hcell
     cases rk
     have rput:RepKV F' as' [(key,vw)] [(key,vv)]:=.cons ⟨rfl,r.2⟩ .nil
     refine⟨h2,[(key,vv)],?_,by simp,?_⟩
     ·simp only[List.map_cons,List.map_nil];rw[show kv=kV key from zg3 r.1 hkey]
     ·exact P (.ref p) _ F' as' (l1.trans l) (S'.slots (S'.st.write (o:=.dK (zec [] [(key,vv)])) (c:=.dct [(key,vw)]) hp' ⟨_,zaM,rput⟩) .refl) (by simp only[Rep];exact⟨p,rfl,hp'⟩)
    ·exact P.elim
 refine(step (S.slots S1 l1) P').mono fun x H1 zz_=>el8 zz_ fun wx F1 as1 ce1 l2 S2 rx P1=>(step S2 P1).mono fun y H2 zz_=>el8 zz_ fun wy F2 as2 ce2 l3 S3 ry P2=>?_
 exact Post.done (RP:=fun F as (a:W×W) (b:V×V)=>Rep F as a.1 b.1/\Rep F as a.2 b.2) (a:=(wx,wy)) (b:=(x,y)) S3 P2 ⟨rx.le l3,ry⟩
end
end
end VS
namespace VS
open PySem PySem.Spec PyProof.Rows L2
section
def noL(K:PySem.W.Frag):Bool:=K.all fun p=>match p.2.cls with
 | .type "list" => false
 | _=>true
theorem zo8{K:PySem.W.Frag}(h:noL K=true){a:Addr}{o:Obj}(e:K.lookup a=some o):o.cls≠.type "list" := by
 intro hc
 have hm:∀{l:PySem.W.Frag},l.lookup a=some o->(a,o)∈l:=by
  intro l
  induction l with
  | nil=>intro e;cases e
  | cons p r ih =>
   intro e
   obtain⟨b,q⟩:=p
   by_cases hb:a=b
   ·subst hb
    have:List.lookup a ((a,q)::r)=some q:=by simp[List.lookup]
    rw[this] at e;cases e;exact List.mem_cons_self
   ·have:List.lookup a ((b,q)::r)=List.lookup a r:=by
     have hb':(a==b)=false:=by simpa using hb
     simp[List.lookup,hb']
    rw[this] at e
    exact List.mem_cons_of_mem _ (ih e)
 have:=List.all_eq_true.mp h _ (hm e)
 simp only[hc] at this
 cases this
def spLaw(G:PySem.W.Frag->Ga)(d:List W->M W)(K:PySem.W.Frag):Sp:=fun vs H Q E=>noL K=true->spV (G K) (fun _=>E0) 1 d vs H Q E
theorem law_sp{G:PySem.W.Frag->Ga}{d:List W->M W}{n:Nat}(main:∀ns:List Int,ns.length<=n->∃ce',d [.lst (ns.map W.int)] []=some (.ok (.bl true) ce'))(K:PySem.W.Frag)(H:Hp)(a:Addr)(ns:List Int)(hl:ns.length<=n)(_hO:zoK H)(hS:SqL K H a (ns.map V.int)):spLaw G d K [.ref a] H (fun v _=>v=.bl true) fun _ _ _=>False:=by
 intro nl
 rcases hS with hS|⟨o,its,m,hk,hc,_⟩
 ·obtain⟨ce',e⟩:=main ns hl
  refine⟨rfl,H,[],[.lst (ns.map W.int)],[],⟨fun _ _ h=>h,by simp,rfl,fun k a c h _=>by simp at h⟩,.cons (by simp only[Rep];exact⟨a,_,rfl,hS,Reps.ints ns⟩) .nil,?_⟩
  rw[e]
  intro v H' F' as' _ _ r
  simpa only[Rep] using r
 ·exact absurd hc (zo8 nl hk)
section
variable {α β:Type}
theorem zbJ{m:M α}{f:α->M β}{ce ce':Ce}{a:α}(h:m ce=some (.ok a ce')):bnd m f ce=f a ce':=by simp only[bnd,h]
theorem zjV{a b:DS}{sl sl':Sl}{ce ce':Ce}(h:a sl ce=some (.go .nx sl' ce')):zaz a b sl ce=b sl' ce':=by simp only[zaz,h]
end
section
variable {ce l:Ce} {c:C} {n:Nat}
theorem zqu(ce l:Ce)(j:Nat):(ce++l)[ce.length+j]?=l[j]?:=by rw[List.getElem?_append_right (Nat.le_add_right _ _),Nat.add_sub_cancel_left]
theorem zo9(ce l:Ce):(ce++l)[ce.length]?=l[0]?:=zqu ce l 0
theorem zr5(ce l:Ce)(j:Nat)(c:C):(ce++l).set (ce.length+j) c=ce++l.set j c:=by rw[List.set_append_right _ _ (Nat.le_add_right _ _),Nat.add_sub_cancel_left]
theorem zru(ce l:Ce)(c:C):(ce++l).set ce.length c=ce++l.set 0 c:=zr5 ce l 0 c
theorem cutOk_app(ce l:Ce):zeQ ce (ce++l):=⟨by rw[List.length_append];omega,fun k c hk h=>.inl (by rwa [List.getElem?_append_left hk] at h)⟩
theorem zfD(ce l:Ce):(ce++l).take ce.length=ce:=List.take_left
theorem belInts(n:Nat):∀ns:List Int,zdd n (ns.map W.int)
 | []=>by simp only[List.map_nil,zdd]
 | a::r=>by simp only[List.map_cons,zdd,Bel];exact⟨trivial,belInts n r⟩
end
theorem zlr{ce l:Ce}{j:Nat}{c:C}(h:l[j]?=some c)(hb:zgm ce.length c):finO ce (ce++l) (.cel (ce.length+j))=some (.ok (.cel ce.length) (ce++[c])):=by
 have e:(ce++l)[ce.length+j]?=some c:=by rw[zqu];exact h
 simp only[finO,e]
 rw[if_pos ⟨cutOk_app ce l,Nat.le_add_right _ _,hb⟩,zfD]
theorem zh1{ce l:Ce}{w:W}(hb:Bel ce.length w):finC ce (ce++l) w=some (.ok w ce):=by
 unfold finC
 rw[if_pos ⟨cutOk_app ce l,hb⟩,zfD]
theorem zaF{ce:Ce}{w:W}(hb:Bel ce.length w):finC ce ce w=some (.ok w ce):=by
 have:=zh1 (l:=[]) hb
 rwa [List.append_nil] at this
theorem zem{d:List W->M W}{ws:List W}{ce:Ce}{xs:List W}(h:d ws ce=some (.ok (.cel ce.length) (ce++[.lst xs])))(hb:zdd ce.length xs):zcL d ws ce=some (.ok (.lst xs) ce):=by
 have e:(ce++[C.lst xs])[ce.length]?=some (.lst xs):=by rw[zo9];rfl
 simp only[zcL,h,e]
 rw[if_pos ⟨cutOk_app ce _,rfl,hb⟩,zfD]
end
end VS
namespace VS
open PySem PySem.Spec PyProof.Rows L2
theorem relabel_lookup{env:Env}:∀{names:List (Str×NameKind)} {x:Str},(names.lookup x=some .cell\/names.lookup x=some .free) ->
  ((names.map fun(n,k)=>if (k==NameKind.free&&env.scope.kind==.function&&env.kindOf n==some .cell) then (n,NameKind.cell) else (n,k)).lookup x=some .cell \/
    (names.map fun(n,k)=>if (k==NameKind.free&&env.scope.kind==.function&&env.kindOf n==some .cell) then (n,NameKind.cell) else (n,k)).lookup x=some .free)
 | [],_,h=>by simp at h
 | (n,k)::r,x,h=>by
  have ih:=@relabel_lookup env r x
  rw[List.map_cons]
  cases hx:x==n with
  | true =>
   simp only[List.lookup_cons,hx] at h
   by_cases hc:(k==NameKind.free&&env.scope.kind==.function&&env.kindOf n==some .cell)=true
   ·simp only[hc,if_true,List.lookup_cons,hx];exact .inl trivial
   ·simp only[hc,Bool.false_eq_true,if_false,List.lookup_cons,hx];exact h
  | false =>
   simp only[List.lookup_cons,hx] at h
   by_cases hc:(k==NameKind.free&&env.scope.kind==.function&&env.kindOf n==some .cell)=true
   ·simp only[hc,if_true,List.lookup_cons,hx];exact ih h
   ·simp only[hc,Bool.false_eq_true,if_false,List.lookup_cons,hx];exact ih h
theorem zpa{X:Cx}{N:List Str}{psc:Scope}{C:Addr}{fp:List Addr}{s:Shared}{H:Hp}{js:List Nat}{N':List Str}{scope:Scope}(h:zm4 N psc js N' scope=true) :
  BlkS (blk X N psc C fp s H).N (blk X N psc C fp s H).env.scope js N' scope:=by
 have B:=zaN h
 exact⟨B.cell,B.kind,B.names,fun y hy hf=>relabel_lookup (B.frees y hy hf),B.nd,B.len,B.cap⟩
end VS
namespace VS
open L2
section
variable {α β:Type}
@[simp] theorem zls(m:M α)(f:α->M β)(ce:Ce):bnd m f ce=match m ce with|some (.ok a ce')=>f a ce'|some (.ex x ce')=>some (.ex x ce')|none=>none:=rfl
@[simp] theorem zrv(m:Option (R α))(k:α->Ce->Option O):lft m k=match m with|some (.ok a ce')=>k a ce'|some (.ex x ce')=>some (.ex x ce')|none=>none:=rfl
@[simp] theorem zpb(a:α)(ce:Ce):ret a ce=some (.ok a ce):=rfl
@[simp] theorem zmf(f:Ce->Option α)(ce:Ce):look f ce=(f ce).map fun a=>R.ok a ce:=rfl
end
variable (a b c:Sl->M W) (ta tb:Sl->M Bool) (s t:DS) (sl:Sl) (ce:Ce) (i:Nat) (w:W)
@[simp] theorem zh2:zaf i sl ce=match sl[i]? with|some (some w)=>some (.ok w ce)|_=>none:=rfl
@[simp] theorem ztg:dC w sl ce=some (.ok w ce):=rfl
@[simp] theorem zsT(f:W->W->Option W):dOp f a b sl ce=bnd (a sl) (fun x=>bnd (b sl) fun y=>look fun _=>f x y) ce:=rfl
@[simp] theorem zpc(f:Ce->W->W->Option W):zay f a b sl ce=bnd (a sl) (fun x=>bnd (b sl) fun y=>look fun ce=>f ce x y) ce:=rfl
@[simp] theorem zsU(f:W->Option W):dUn f a sl ce=bnd (a sl) (fun x=>look fun _=>f x) ce:=rfl
@[simp] theorem zth:dB a sl ce=bnd (a sl) (fun w=>look fun _=>match w with|.bl b=>some b|_=>none) ce:=rfl
@[simp] theorem zr6:znd a sl ce=bnd (a sl) (fun w=>look fun ce=>zhQ ce w) ce:=rfl
@[simp] theorem zrw:zdU ta tb sl ce=bnd (ta sl) (fun x=>match x with|true=>tb sl|false=>ret false) ce:=rfl
@[simp] theorem zr7:zli ta tb sl ce=bnd (ta sl) (fun x=>match x with|true=>ret true|false=>tb sl) ce:=rfl
@[simp] theorem zrx:zdV ta sl ce=bnd (ta sl) (fun x=>ret (!x)) ce:=rfl
@[simp] theorem zr8:zaz s t sl ce=match s sl ce with|some (.go .nx sl' ce')=>t sl' ce'|r=>r:=rfl
@[simp] theorem zry:zba sl ce=some (.go .nx sl ce):=rfl
@[simp] theorem zr9:zaV i a sl ce=lft (a sl ce) fun w ce'=>some (.go .nx (sl.set i (some w)) ce'):=rfl
@[simp] theorem zsa:zbg a sl ce=lft (a sl ce) fun w ce'=>some (.go (.rt w) sl ce'):=rfl
@[simp] theorem zrz:dEx a sl ce=lft (a sl ce) fun _ ce'=>some (.go .nx sl ce'):=rfl
@[simp] theorem zsV:dIf ta s t sl ce=lft (ta sl ce) fun x ce'=>match x with|true=>s sl ce'|false=>t sl ce':=rfl
@[simp] theorem zmg:zal sl ce=some (.ok [] ce):=rfl
@[simp] theorem zjW(r:Sl->M (List W)):zac a r sl ce=bnd (a sl) (fun x=>bnd (r sl) fun xs=>ret (x::xs)) ce:=rfl
@[simp] theorem zrA(f:List W->M W)(r:Sl->M (List W)):dBi f r sl ce=bnd (r sl) f ce:=rfl
@[simp] theorem zrB(n:Nat)(f:List W->M W)(r:Sl->M (List W)):zao n f r sl ce=bnd (r sl) (fun ws=>if ws.length=n then f ws else zjt) ce:=rfl
@[simp] theorem zsb(r:Sl->M (List W)):zeP r sl ce=bnd (r sl) (fun xs=>mkF (.tup xs) xs.length) ce:=rfl
@[simp] theorem zsc(r:Sl->M (List W)):zbO r sl ce=bnd (r sl) (fun xs=>mkF (.lst xs) xs.length) ce:=rfl
@[simp] theorem zrC(r:Sl->M (List W)):zb4 r sl ce=bnd (r sl) (fun xs=>mkC (.lst xs) xs.length) ce:=rfl
@[simp] theorem zrD:zg4 sl ce=mkC (.dct []) 0 ce:=rfl
@[simp] theorem zsW{n:Nat}(h:n<=PySem.sizeLine):mkF w n ce=some (.ok w ce):=if_pos h
@[simp] theorem zsX(c:C){n:Nat}(h:n<=PySem.sizeLine):mkC c n ce=some (.ok (.cel ce.length) (ce++[c])):=if_pos h
@[simp] theorem zjX{xs:List W}(h:xs.length<=PySem.sizeLine):zaT xs ce=some (.ok (.lst xs) ce):=if_pos h
@[simp] theorem zsd{xs:List W}(h:xs.length<=PySem.sizeLine):zgi xs ce=some (.ok (.cel ce.length) (ce++[.lst xs])):=if_pos h
@[simp] theorem zpd{xs:List W}(h:xs.length<=PySem.sizeLine):zri xs ce=some (.ok (.tup xs) ce):=if_pos h
@[simp] theorem zrE(f:W->List W->M W)(r:Sl->M (List W)):dMt f a r sl ce=bnd (a sl) (fun x=>bnd (look fun ce=>zkN ce x) fun _=>bnd (r sl) fun ws=>f x ws) ce:=rfl
@[simp] theorem zse(f:W->List W->M W):znr f a sl ce=bnd (a sl) (fun x=>bnd (look fun ce=>zkN ce x) fun _=>f x []) ce:=rfl
@[simp] theorem zti:gN i w sl ce=some (sl.set i (some w),ce):=rfl
theorem zmh{o i v:Sl->M W}{sl:Sl}{ce ce1 ce2 ce3:Ce}{w ow iw:W}{key:Key}{k:Nat}{kvs:List (Key×W)}(h1:v sl ce=some (.ok w ce1))(h2:o sl ce1=some (.ok ow ce2))(h3:i sl ce2=some (.ok iw ce3))(h4:zi0 iw=some key)(h5:zmb ce3 ow=some (k,kvs))(h6:kvs.length<PySem.sizeLine) :
  zkL o i v sl ce=some (.go .nx sl (ce3.set k (.dct (zg6 kvs key w)))):=by
 simp only[zkL,lft,h1,h2,h3,h4,h5,if_pos h6]
theorem zpe{w y:W}{ce:Ce}{k:Nat}{xs:List W}(h:zha ce w=some (k,xs))(hl:xs.length<PySem.sizeLine):zeR w [y] ce=some (.ok .non (ce.set k (.lst (xs++[y])))):=by simp only[zeR,h,if_pos hl]
@[simp] theorem zsf(x y:Int):zdg (.int x) (.int y)=some (.int (x+y)):=rfl
@[simp] theorem zsg(x y:Int):zg1 (.int x) (.int y)=some (.int (x-y)):=rfl
@[simp] theorem zsY(x y:Int):fLt (.int x) (.int y)=some (.bl (decide (x<y))):=rfl
@[simp] theorem zsZ(x y:Int):fLe (.int x) (.int y)=some (.bl (decide (x<=y))):=rfl
@[simp] theorem zs0(x y:Int):fGt (.int x) (.int y)=some (.bl (decide (y<x))):=rfl
@[simp] theorem zs1(x y:Int):fGe (.int x) (.int y)=some (.bl (decide (y<=x))):=rfl
@[simp] theorem zsh(x y:Int):zgT (.int x) (.int y)=some (.bl (decide (x=y))):=rfl
@[simp] theorem zsi(x y:Int):zsS (.int x) (.int y)=some (.bl (!decide (x=y))):=rfl
@[simp] theorem zsj(x:Int):ziA (.int x)=some (.int (-x)):=rfl
theorem zmi{x y:Int}(h:CMul x y):ze9 (.int x) (.int y)=some (.int (x*y)):=by simp only[ze9,i2c,if_pos h]
theorem zmj{x y:Int}(h:0<y):zbT (.int x) (.int y)=some (.int (x % y)):=by simp only[zbT,i2c,if_pos h]
theorem zpf{x y:Int}(h:0<y/\y<1073741824):zjx (.int x) (.int y)=some (.int (x / y)):=by
 have h':zqR x y:=h
 simp only[zjx,i2c,if_pos h']
theorem zgq{x y:Int}(h:(-(2 ^ 64)<x/\x<2 ^ 64)\/(-(2 ^ 64)<y/\y<2 ^ 64)):CMul x y:=h
@[simp] theorem zsk(xs:List W):zeN ce (.tup xs)=some xs:=rfl
@[simp] theorem zsl(xs:List W):zeN ce (.lst xs)=some xs:=rfl
@[simp] theorem zpg(xs:List W):zcz ce (.lst xs)=some xs:=rfl
theorem zc4{ce:Ce}{k:Nat}{xs:List W}(h:ce[k]?=some (.lst xs)):zcz ce (.cel k)=some xs:=by simp only[zcz,h]
theorem zdI{ce:Ce}{k:Nat}{xs:List W}(h:ce[k]?=some (.lst xs)):zeN ce (.cel k)=some xs:=by simp only[zeN,zcz,h]
theorem zph{ce:Ce}{k:Nat}{xs:List (Key×W)}(h:ce[k]?=some (.dct xs)):zn7 ce (.cel k)=some xs:=by simp only[zn7,h]
theorem zen{ce:Ce}{k:Nat}{xs:List W}(h:ce[k]?=some (.lst xs)):zha ce (.cel k)=some (k,xs):=by simp only[zha,h]
theorem zgr{ce:Ce}{k:Nat}{xs:List (Key×W)}(h:ce[k]?=some (.dct xs)):zmb ce (.cel k)=some (k,xs):=by simp only[zmb,h]
@[simp] theorem zsm(j:Int):zi0 (.int j)=some (.inl j):=rfl
theorem zlt{α:Type}{xs:List α}{j:Nat}:atI xs (j:Int)=xs[j]?:=by
 unfold atI ixN
 by_cases h:j<xs.length
 ·rw[if_pos (by omega),if_pos (by omega)];simp
 ·rw[if_pos (by omega),if_neg (by omega),List.getElem?_eq_none (by omega)];rfl
theorem zh3{xs:List W}{x y:W}{ce:Ce}{j:Nat}(h:zeN ce x=some xs)(hy:y=.int j):ixW ce x y=xs[j]?:=by
 subst hy
 simp only[ixW,h]
 exact zlt
theorem zmk(c0:C):(ce++[c0])[ce.length]?=some c0:=by rw[zo9];rfl
end VS
namespace VS
open L2
def nW(n:Nat):W:=.int (n:Int)
def wT(l:List Nat):W:=.tup (l.map nW)
def wB(b:List (List Nat)):W:=.tup (b.map wT)
def kvs(F:List Nat):List (Key×W):=F.map fun(x:Nat)=>((Sum.inl (x:Int):Key),W.bl true)
def toI(F:List Nat):List Int:=F.map fun(x:Nat)=>(x:Int)
theorem znt(F:List Nat)(y:Nat):(ziE (kvs F) (.inl (y:Int))).isSome=decide (y∈F):=by
 induction F with
 | nil=>rfl
 | cons x F ih =>
  by_cases h:x=y
  ·subst h;simp[kvs,ziE]
  ·have h':¬((x:Int)=(y:Int)):=by omega
   have e:ziE (kvs (x::F)) (.inl (y:Int))=ziE (kvs F) (.inl (y:Int)):=by simp[kvs,ziE,List.find?_cons,h']
   have hm:(y∈x::F)↔y∈F:=by simp[Ne.symm h]
   rw[e,ih]
   simp[hm]
theorem zeo(F:List Nat)(y:Nat)(h:y∉F):zg6 (kvs F) (.inl (y:Int)) (.bl true)=kvs (F++[y]):=by
 have e:((kvs F).any fun kv=>decide (kv.1=(.inl (y:Int):Key)))=false:=by
  rw[Bool.eq_false_iff]
  intro q
  obtain⟨p,hp,e⟩:=List.any_eq_true.mp q
  obtain⟨x,hx,rfl⟩:=List.mem_map.mp hp
  have e:=of_decide_eq_true e
  have:(x:Int)=y:=Sum.inl.inj e
  exact h (by rw[<- Int.ofNat_inj.mp this];exact hx)
 unfold zg6
 rw[e]
 simp[kvs]
theorem zcc(F:List Nat):(kvs F).length=F.length:=by simp[kvs]
theorem zlu(F:List Nat):zgo (kvs F)=some (toI F):=by
 induction F with
 | nil=>rfl
 | cons x F ih=>simp only[kvs,toI,List.map_cons,zgo] at ih ⊢;rw[ih];rfl
theorem zcN(F:List Nat):(toI F).length=F.length:=by simp[toI]
theorem zep(F:List Nat):F.map nW=(toI F).map W.int:=by simp[toI,nW]
theorem zlv(F:List Nat):zfA (F.map nW)=some (toI F):=by rw[zep,zei]
theorem zjY{F F':List Nat}(h:F.Perm F'):srt (toI F)=srt (toI F') :=
 zci ((zbq _).trans ((show(toI F).Perm (toI F') from h.map _).trans (zbq _).symm)) (zcM _) (zcM _)
theorem zfE{F F':List Nat}(h:F.Nodup)(h':F'.Nodup)(e:∀x,x∈F↔x∈F'):F.Perm F':=by
 rw[List.perm_iff_count]
 intro x
 rw[h.count,h'.count]
 simp[e x]
theorem zaO:∀{n:Nat} {F:List Nat},F.Nodup->(∀x∈F,x<n)->F.length<=n
 | 0,F,_,hl=>by
  cases F with
  | nil=>simp
  | cons a r=>exact absurd (hl a List.mem_cons_self) (Nat.not_lt_zero _)
 | n+1,F,h,hl=>by
  by_cases hn:n∈F
  ·have h1:=zaO (n:=n) (h.erase n) fun x hx=>by
    have hx':=(List.Nodup.mem_erase_iff h).mp hx
    have:=hl x hx'.2
    have:=hx'.1
    omega
   rw[List.length_erase_of_mem hn] at h1
   have:=List.length_pos_of_mem hn
   omega
  ·have h1:=zaO (n:=n) h fun x hx=>by
    have:=hl x hx
    have:x≠n:=fun e=>hn (e▸hx)
    omega
   omega
inductive Reach (b:List (List Nat)) (ok:Nat->Prop) (s:Nat):Nat->Prop where
 | refl:Reach b ok s s
 | step {x y:Nat} (h:Reach b ok s x) (hy:y∈b.getD x []) (o:ok y):Reach b ok s y
structure Comp (b:List (List Nat)) (ok:Nat->Prop) (s:Nat) (F:List Nat):Prop where
 nd:F.Nodup
 st:s∈F
 lt:∀x∈F,x<b.length
 cl:∀x∈F,∀y∈b.getD x [],ok y->y∈F
 re:∀x∈F,Reach b ok s x
theorem Comp.mem{b:List (List Nat)}{ok:Nat->Prop}{s:Nat}{F:List Nat}(h:Comp b ok s F)(x:Nat):x∈F↔Reach b ok s x:=by
 refine⟨h.re x,fun r=>?_⟩
 induction r with
 | refl=>exact h.st
 | step _ hy o ih=>exact h.cl _ ih _ hy o
def Bd(b:List (List Nat)):Prop:=∀r∈b,∀x∈r,x<b.length
theorem Bd.get{b:List (List Nat)}(h:Bd b){x y:Nat}(hy:y∈b.getD x []):y<b.length:=by
 rw[List.getD_eq_getElem?_getD] at hy
 cases e:b[x]? with
 | none=>rw[e] at hy;simp at hy
 | some r=>rw[e] at hy;exact h r (List.mem_of_getElem? e) y (by simpa using hy)
structure Row (row:List Nat) (ok:Nat->Prop) (F F':List Nat) (r new:List Nat):Prop where
 app:F'=F++new
 nd:F'.Nodup
 mem:∀y∈new,y∈row/\ok y
 done:∃d,row=d++r/\∀y∈d,ok y->y∈F'
theorem zeS{ce:Ce}{x:W}{xs:List W}{j:Nat}(h:zeN ce x=some xs):ixW ce x (nW j)=xs[j]?:=zh3 h rfl
theorem zpi(T:List Nat)(y:Nat):(T.map nW).any (fun z=>peq z (nW y))=decide (y∈T):=by
 induction T with
 | nil=>rfl
 | cons x T ih =>
  rw[List.map_cons,List.any_cons,ih]
  by_cases h:x=y
  ·subst h;simp[nW,peq]
  ·have h':¬((x:Int)=(y:Int)):=by omega
   simp[nW,peq,h',Ne.symm h]
theorem zpj(T:List Nat):(T.map nW).all (cln 8)=true:=by
 rw[List.all_eq_true]
 intro w hw
 obtain⟨x,_,rfl⟩:=List.mem_map.mp hw
 rfl
theorem zcO(T:List Int)(n:Nat):(T.map W.int).all (cln n)=true:=by
 rw[List.all_eq_true]
 intro w hw
 obtain⟨x,_,rfl⟩:=List.mem_map.mp hw
 cases n<;>rfl
theorem zpk{ce:Ce}{x:W}{T:List Nat}{y:Nat}(h:zeN ce x=some (T.map nW))(ng:Bool):inW ng ce (nW y) x=some (.bl (if ng then !decide (y∈T) else decide (y∈T))):=by
 have c:cln 8 (nW y)=true:=rfl
 have e:drf ce (nW y)=nW y:=rfl
 simp only[inW,h,e,c,zpj,Bool.and_self,if_true,zpi]
theorem zfF(a b:Int):peq (.int a) (.int b)=decide (a=b):=by simp[peq];rfl
theorem zeq:∀(l m:List Int),peqs (l.map W.int) (m.map W.int)=decide (l=m)
 | [],[]=>by simp[peqs]
 | [],_::_=>by simp[peqs]
 | _::_,[]=>by simp[peqs]
 | a::l,b::m=>by
  simp only[List.map_cons,peqs,zfF,zeq l m]
  by_cases h1:a=b<;>by_cases h2:l=m<;>simp[h1,h2]
theorem zlw(l m:List Int):peq (.lst (l.map W.int)) (.lst (m.map W.int))=decide (l=m):=by simp only[peq,zeq]
theorem sl36:(36:Nat)<PySem.sizeLine:=by decide
end VS
namespace VS
open L2
theorem zml{s:Src}{cs:Sl}{e:Sl->M W}{ce:Ce}(hst:s.Stays ce)(P:W->W->Prop):∀(l ys:List W),(∀x∈l,∃y,P x y/\e (some x::cs) ce=some (.ok y ce))->ys.length+l.length<=PySem.sizeLine ->
  ∃zs,lcL s cs zcK e l ys ce=some (.ok (ys++zs) ce)/\PySem.Paired P l zs
 | [],ys,_,_=>⟨[],by simp only[lcL,if_pos hst,List.append_nil],.nil⟩
 | x::r,ys,h,hz=>by
  have hl:ys.length<PySem.sizeLine:=by simp only[List.length_cons] at hz;omega
  obtain⟨y,py,ey⟩:=h x List.mem_cons_self
  obtain⟨zs,ez,pz⟩:=zml hst P r (ys++[y]) (fun z hz=>h z (List.mem_cons_of_mem _ hz)) (by simp only[List.length_append,List.length_cons,List.length_nil] at hz ⊢;omega)
  refine⟨y::zs,?_,.cons py pz⟩
  rw[zeh ⟨hst,hl⟩]
  show bnd (ret true) _ ce=_
  rw[zbJ (m:=ret true) rfl]
  show bnd (e (some x::cs)) (fun y=>lcL s cs zcK e r (ys++[y])) ce=_
  rw[zbJ ey,ez,List.append_assoc]
  rfl
theorem zpl{mk:List W->M W}{js:List Nat}{di:Sl->M Src}{e:Sl->M W}{sl:Sl}{ce ce0:Ce}{s:Src}(hi:di sl ce0=some (.ok s ce))(hst:s.Stays ce)(P:W->W->Prop)(h:∀x∈s.items,∃y,P x y/\e (some x::zcu js sl) ce=some (.ok y ce))(hz:s.items.length<=PySem.sizeLine) :
  ∃zs,dLC mk js di zcK e sl ce0=mk zs ce/\PySem.Paired P s.items zs:=by
 obtain⟨zs,e1,p⟩:=zml hst P s.items [] h (by simpa using hz)
 refine⟨zs,?_,p⟩
 show bnd (di sl) (fun s=>bnd (lcL s (zcu js sl) zcK e s.items []) mk) ce0=_
 rw[zbJ hi,zbJ e1,List.nil_append]
theorem zgs{s:Src}{cs:Sl}(hst:∀ce,s.Stays ce):∀(l ys:List W) (ce:Ce),ys.length+l.length<=PySem.sizeLine ->
  lcL s cs zcK (zb4 zal) l ys ce=some (.ok (ys++(List.range l.length).map fun i=>W.cel (ce.length+i)) (ce++List.replicate l.length (C.lst [])))
 | [],ys,ce,_=>by simp[lcL,if_pos (hst ce)]
 | x::r,ys,ce,hz=>by
  have hl:ys.length<PySem.sizeLine:=by simp only[List.length_cons] at hz;omega
  have ih:=zgs (s:=s) (cs:=cs) hst r (ys++[W.cel ce.length]) (ce++[C.lst []]) (by simp only[List.length_append,List.length_cons,List.length_nil] at hz ⊢;omega)
  rw[zeh ⟨hst ce,hl⟩]
  show bnd (ret true) _ ce=_
  rw[zbJ (m:=ret true) rfl]
  have ex:zb4 zal (some x::cs) ce=some (.ok (W.cel ce.length) (ce++[C.lst []])):=by simp
  show bnd (zb4 zal (some x::cs)) (fun y=>lcL s cs zcK (zb4 zal) r (ys++[y])) ce=_
  rw[zbJ ex,ih]
  have e1:(List.range (r.length+1)).map (fun i=>W.cel (ce.length+i))=W.cel ce.length::(List.range r.length).map fun i=>W.cel ((ce++[C.lst []]).length+i):=by
   rw[List.range_succ_eq_map,List.map_cons,List.map_map]
   congr 1
   apply List.map_congr_left
   intro i _
   simp only[Function.comp,List.length_append,List.length_cons,List.length_nil]
   congr 1
   omega
  have e2:ce++List.replicate (r.length+1) (C.lst [])=ce++[C.lst []]++List.replicate r.length (C.lst []):=by
   rw[List.replicate_succ,List.append_assoc];rfl
  rw[List.length_cons,e1,e2,List.append_assoc]
  rfl
theorem zpm{n:Nat}(h:n<=1000):zno [nW n]=some (.rng 0 n):=by
 have h1:(-4611686018427387904:Int)<=(n:Int)/\(n:Int)<4611686018427387904:=by omega
 simp only[zno,nW,if_pos h1,Int.toNat_natCast]
theorem zpn{d:Sl->M (List W)}{sl:Sl}{ce ce':Ce}{n:Nat}(hd:d sl ce=some (.ok [nW n] ce'))(h:n<=1000):zgS d sl ce=some (.ok (.rng 0 n) ce'):=by
 show bnd (d sl) (fun ws=>look (fun _=>zno ws)) ce=_
 rw[zbJ hd]
 show(zno [nW n]).map _=_
 rw[zpm h]
 rfl
theorem zjZ(k:Int){n:Nat}(h:0<n):∃j:Nat,j<n/\k % (n:Int)=j:=by
 have h1:=Int.emod_nonneg k (b:=(n:Int)) (by omega)
 have h2:=Int.emod_lt_of_pos k (b:=(n:Int)) (by omega)
 exact⟨(k % (n:Int)).toNat,by omega,by omega⟩
theorem zmm{k:Int}{n j:Nat}(h:0<n)(e:k % (n:Int)=j):zbT (.int k) (.int (n:Int))=some (nW j):=by rw[zmj (by omega),e];rfl
theorem zmn{fin:Ce->Ce->W->Option (R W)}{n:Nat}{body:DS}{ws:List W}{ce ce':Ce}{sl:Sl}{w:W}{r:Option (R W)}(h:body (ws.map some++List.replicate (n-ws.length) none) ce=some (.go (.rt w) sl ce'))(hf:fin ce ce' w=r):dFn fin n body ws ce=r:=by
 unfold dFn
 rw[h]
 exact hf
theorem zlx{s:Src}{g:DG}{body:DS}{sl:Sl}{ce:Ce}(hst:s.Stays ce):zhY s g body [] sl ce=some (.go .nx sl ce):=by
 simp only[zhY,if_pos hst]
theorem zj0{di:Sl->M Src}{g:DG}{body:DS}{sl:Sl}{ce ce0:Ce}{src:Src}(hi:di sl ce=some (.ok src ce0)):zda di g body sl ce=zhY src g body src.items sl ce0:=by simp only[zda,lft,hi]
theorem zj1{i:Nat}{d:Sl->M W}{sl:Sl}{ce ce':Ce}{w:W}(h:d sl ce=some (.ok w ce')):zaV i d sl ce=some (.go .nx (sl.set i (some w)) ce'):=by simp only[zaV,lft,h]
theorem zpo{c:Sl->M Bool}{a b:DS}{sl:Sl}{ce ce':Ce}(h:c sl ce=some (.ok true ce')):dIf c a b sl ce=a sl ce':=by simp only[dIf,lft,h]
theorem zpp{c:Sl->M Bool}{a b:DS}{sl:Sl}{ce ce':Ce}(h:c sl ce=some (.ok false ce')):dIf c a b sl ce=b sl ce':=by simp only[dIf,lft,h]
theorem zer(n:Nat):(Src.rng 0 n).items=(List.range n).map nW:=by
 simp only[Src.items,Int.zero_add]
 rfl
theorem bels_nW(n:Nat):∀l:List Nat,zdd n (l.map nW)
 | []=>by simp only[List.map_nil,zdd]
 | a::r=>by simp only[List.map_cons,zdd,nW,Bel];exact⟨trivial,bels_nW n r⟩
theorem bel_wB(n:Nat)(b:List (List Nat)):Bel n (wB b):=by
 simp only[wB,Bel]
 induction b with
 | nil=>simp only[List.map_nil,zdd]
 | cons r b ih=>simp only[List.map_cons,zdd,wT,Bel];exact⟨bels_nW n r,ih⟩
def zcj(r:List Nat):List Nat:=(srt (toI r)).map Int.toNat
theorem zd6(r:List Nat):(srt (toI r)).map W.int=(zcj r).map nW:=by
 unfold zcj
 rw[List.map_map]
 apply List.map_congr_left
 intro x hx
 have hx':=(zbq (toI r)).subset hx
 obtain⟨y,_,rfl⟩:=List.mem_map.mp hx'
 show W.int (y:Int)=W.int (((y:Int).toNat:Nat):Int)
 simp
theorem zcP(r:List Nat)(x:Nat):x∈zcj r↔x∈r:=by
 unfold zcj
 constructor
 ·intro h
  obtain⟨z,hz,rfl⟩:=List.mem_map.mp h
  obtain⟨y,hy,rfl⟩:=List.mem_map.mp ((zbq (toI r)).subset hz)
  simpa using hy
 ·intro h
  refine List.mem_map.mpr ⟨(x:Int),(zbq (toI r)).symm.subset (List.mem_map.mpr ⟨x,h,rfl⟩),by simp⟩
theorem Reach.trans{b:List (List Nat)}{ok:Nat->Prop}{s x y:Nat}(h:Reach b ok s x)(h':Reach b ok x y):Reach b ok s y:=by
 induction h' with
 | refl=>exact h
 | step _ hy o ih=>exact .step ih hy o
theorem Reach.okOf{b:List (List Nat)}{ok:Nat->Prop}{s x:Nat}(hs:ok s)(h:Reach b ok s x):ok x:=by
 cases h with
 | refl=>exact hs
 | step _ _ o=>exact o
theorem Reach.symm{b:List (List Nat)}{ok:Nat->Prop}{s x:Nat}(sym:∀i j,j∈b.getD i []->i∈b.getD j [])(hs:ok s)(h:Reach b ok s x):Reach b ok x s:=by
 induction h with
 | refl=>exact .refl
 | step h hy o ih=>exact Reach.trans (.step .refl (sym _ _ hy) (h.okOf hs)) ih
theorem Paired.nth{α β:Type}{P:α->β->Prop}{l:List α}{m:List β}(h:PySem.Paired P l m):l.length=m.length/\∀(i:Nat) (a:α) (b:β),l[i]?=some a->m[i]?=some b->P a b:=by
 refine⟨PySem.Paired.length h,fun i a b h1 h2=>?_⟩
 obtain⟨b',e,p⟩:=L2.Paired.at2 h i a h1
 rw[h2] at e;cases e;exact p
end VS
namespace VS
open L2
def Run(s:DS)(sl:Sl)(ce:Ce)(Q:O->Prop):Prop:=∃o,s sl ce=some o/\Q o
def Nx(P:Sl->Ce->Prop):O->Prop
 | .go .nx sl ce=>P sl ce
 | .go .ct sl ce=>P sl ce
 | _=>False
def Rt(P:W->Ce->Prop):O->Prop
 | .go (.rt w) _ ce=>P w ce
 | _=>False
def NR(P:Sl->Ce->Prop)(T:W->Ce->Prop):O->Prop
 | .go .nx sl ce=>P sl ce
 | .go .ct sl ce=>P sl ce
 | .go (.rt w) _ ce=>T w ce
 | _=>False
section
variable {s a b:DS} {sl sl':Sl} {ce ce' c1 c2 c3:Ce} {Q Q':O->Prop} {d e:Sl->M W} {w x y:W} {i:Nat} {p q:Bool} {ta tb:Sl->M Bool}
theorem Run.mono(h:Run s sl ce Q)(m:∀o,Q o->Q' o):Run s sl ce Q':=by
 obtain⟨o,e,q⟩:=h;exact⟨o,e,m o q⟩
theorem zpq{o:O}(h:s sl ce=some o)(q:Q o):Run s sl ce Q:=⟨o,h,q⟩
theorem zdi(q:Q (.go .nx sl ce)):Run zba sl ce Q:=⟨_,rfl,q⟩
theorem zj2(h:e sl ce=some (.ok w ce'))(q:Q (.go .nx (sl.set i (some w)) ce')):Run (zaV i e) sl ce Q:=⟨_,zj1 h,q⟩
theorem zaA(h:e sl ce=some (.ok w ce'))(q:Q (.go (.rt w) sl ce')):Run (zbg e) sl ce Q:=⟨_,by simp only[zbg,lft,h],q⟩
theorem zfb(h:e sl ce=some (.ok w ce'))(q:Q (.go .nx sl ce')):Run (dEx e) sl ce Q:=⟨_,by simp only[dEx,lft,h],q⟩
theorem zcq(h:ta sl ce=some (.ok p ce'))(ht:p=true->Run a sl ce' Q)(hf:p=false->Run b sl ce' Q):Run (dIf ta a b) sl ce Q:=by
 cases p with
 | true=>obtain⟨o,e,q⟩:=ht rfl;exact⟨o,by rw[zpo h];exact e,q⟩
 | false=>obtain⟨o,e,q⟩:=hf rfl;exact⟨o,by rw[zpp h];exact e,q⟩
theorem zdJ(h:a sl ce=some (.go .nx sl' ce'))(q:Run b sl' ce' Q):Run (zaz a b) sl ce Q:=by
 obtain⟨o,e,q⟩:=q;exact⟨o,by rw[zjV h];exact e,q⟩
theorem zan(h:e sl ce=some (.ok w ce'))(q:Run b (sl.set i (some w)) ce' Q):Run (zaz (zaV i e) b) sl ce Q:=zdJ (zj1 h) q
theorem zpr(h:e sl ce=some (.ok w ce'))(q:Run b sl ce' Q):Run (zaz (dEx e) b) sl ce Q:=zdJ (by simp only[dEx,lft,h]) q
theorem ziF{c:DS}:zaz (zaz a b) c=zaz a (zaz b c):=by
 funext sl ce
 simp only[zaz]
 cases a sl ce with
 | none=>rfl
 | some o=>cases o with
  | ex x c=>rfl
  | go f sl' ce'=>cases f<;>rfl
theorem zdy{c:DS}(h:Run (zaz a (zaz b c)) sl ce Q):Run (zaz (zaz a b) c) sl ce Q:=by rw[ziF];exact h
theorem za7{c:DS}(h:Run c sl ce Q):Run (zaz zba c) sl ce Q:=h
theorem zck{c:DS}(h:Run (zbg e) sl ce Q):Run (zaz (zbg e) c) sl ce Q:=by
 obtain⟨o,e',q⟩:=h
 refine⟨o,?_,q⟩
 simp only[zaz]
 simp only[zbg,lft] at e' ⊢
 cases h:e sl ce with
 | none=>rw[h] at e';cases e'
 | some r=>rw[h] at e';cases r<;>exact e'
theorem zbu{c:DS}(h:ta sl ce=some (.ok p ce'))(ht:p=true->Run (zaz a c) sl ce' Q)(hf:p=false->Run (zaz b c) sl ce' Q):Run (zaz (dIf ta a b) c) sl ce Q:=by
 cases p with
 | true=>obtain⟨o,e,q⟩:=ht rfl;exact⟨o,by rw[<- e];simp only[zaz,zpo h],q⟩
 | false=>obtain⟨o,e,q⟩:=hf rfl;exact⟨o,by rw[<- e];simp only[zaz,zpp h],q⟩
end
section
variable {α:Type} {en:α->W} {src:Src} {g:DG} {body b:DS} {Q:O->Prop}
theorem zfG(xs:List α)(R:List α->Sl->Ce->Prop)(T:W->Ce->Prop)(step:∀d x r sl ce,d++x::r=xs->R d sl ce->src.Stays ce/\∃sl1,g (en x) sl ce=some (sl1,ce)/\Run body sl1 ce (NR (R (d++[x])) T))(hst:∀sl ce,R xs sl ce->src.Stays ce) :
  ∀(r d:List α) (sl:Sl) (ce:Ce),d++r=xs->R d sl ce->Run (zhY src g body (r.map en)) sl ce fun o=>(∃sl' ce',o=.go .nx sl' ce'/\R xs sl' ce')\/∃w sl' ce',o=.go (.rt w) sl' ce'/\T w ce'
 | [],d,sl,ce,e,h=>by
  rw[List.append_nil] at e
  subst e
  exact⟨_,zlx (hst _ _ h),.inl ⟨_,_,rfl,h⟩⟩
 | x::r,d,sl,ce,e,h=>by
  obtain⟨hs,sl1,e1,o,e2,q⟩:=step d x r sl ce e h
  have go:∀sl2 ce2,R (d++[x]) sl2 ce2->Run (zhY src g body (r.map en)) sl2 ce2 fun o=>(∃sl' ce',o=.go .nx sl' ce'/\R xs sl' ce')\/∃w sl' ce',o=.go (.rt w) sl' ce'/\T w ce':=fun sl2 ce2 h2=>zfG xs R T step hst r (d++[x]) sl2 ce2 (by rw[List.append_assoc];exact e) h2
  cases o with
  | ex x c=>exact q.elim
  | go f sl2 ce2 =>
   cases f with
   | nx =>
    obtain⟨o,e3,q3⟩:=go sl2 ce2 q
    exact⟨o,by simp only[List.map_cons,zhY,if_pos hs,e1,e2];exact e3,q3⟩
   | ct =>
    obtain⟨o,e3,q3⟩:=go sl2 ce2 q
    exact⟨o,by simp only[List.map_cons,zhY,if_pos hs,e1,e2];exact e3,q3⟩
   | bk=>exact q.elim
   | rt w=>exact⟨.go (.rt w) sl2 ce2,by simp only[List.map_cons,zhY,if_pos hs,e1,e2],.inr ⟨w,sl2,ce2,rfl,q⟩⟩
theorem zj3{di:Sl->M Src}{sl:Sl}{ce ce0:Ce}{i:Nat}{xs:List α}(hi:di sl ce=some (.ok src ce0))(hx:src.items=xs.map en)(R:List α->Sl->Ce->Prop)(h0:R [] sl ce0)(step:∀d x r sl ce,d++x::r=xs->x∈xs->R d sl ce->src.Stays ce/\Run body (sl.set i (some (en x))) ce (Nx (R (d++[x]))))(hst:∀sl ce,R xs sl ce->src.Stays ce)(fin:∀sl ce,R xs sl ce->Q (.go .nx sl ce)):Run (zda di (gN i) body) sl ce Q:=by
 obtain⟨o,e,q⟩:=zfG (g:=gN i) (body:=body) (en:=en) (src:=src) xs R (fun _ _=>False) (fun d x r sl ce e h=>by
  obtain⟨h1,h2⟩:=step d x r sl ce e (by rw[<- e];simp) h
  exact⟨h1,_,rfl,h2.mono fun o q=>by
   cases o with
   | ex x c=>exact q.elim
   | go f sl2 ce2=>cases f<;>first|exact q|exact q.elim⟩) hst xs [] sl ce0 rfl h0
 rcases q with ⟨sl',ce',rfl,h⟩|⟨w,sl',ce',rfl,h⟩
 ·exact⟨_,by rw[zj0 hi,hx];exact e,fin _ _ h⟩
 ·exact h.elim
theorem zj4{di:Sl->M Src}{sl:Sl}{ce ce0:Ce}{i:Nat}{xs:List α}(hi:di sl ce=some (.ok src ce0))(hx:src.items=xs.map en)(R:List α->Sl->Ce->Prop)(h0:R [] sl ce0)(step:∀d x r sl ce,d++x::r=xs->x∈xs->R d sl ce->src.Stays ce/\Run body (sl.set i (some (en x))) ce (Nx (R (d++[x]))))(hst:∀sl ce,R xs sl ce->src.Stays ce)(fin:∀sl ce,R xs sl ce->Run b sl ce Q):Run (zaz (zda di (gN i) body) b) sl ce Q:=by
 obtain⟨o,e,q⟩:=zj3 (Q:=fun o=>∃sl' ce',o=.go .nx sl' ce'/\Run b sl' ce' Q) (body:=body) (i:=i) hi hx R h0 step hst fun sl ce h=>⟨sl,ce,rfl,fin sl ce h⟩
 obtain⟨sl',ce',rfl,h⟩:=q
 exact zdJ e h
theorem zj5{σ:Type}{c:Sl->M Bool}{sl:Sl}{ce:Ce}{fu:Nat}(R:σ->Sl->Ce->Prop)(m:σ->Nat)(s0:σ)(h0:R s0 sl ce)(hm:m s0<fu)(step:∀s sl ce,R s sl ce->∃p,c sl ce=some (.ok p ce)/\(p=true->Run body sl ce (Nx fun sl2 ce2=>∃s2,m s2<m s/\R s2 sl2 ce2))/\(p=false->Q (.go .nx sl ce))):Run (zb1 c body fu) sl ce Q:=by
 induction fu generalizing s0 sl ce with
 | zero=>exact absurd hm (Nat.not_lt_zero _)
 | succ fu ih =>
  obtain⟨p,e,ht,hf⟩:=step s0 sl ce h0
  cases p with
  | false=>exact⟨_,by simp only[zb1,lft,e],hf rfl⟩
  | true =>
   obtain⟨o,e2,q⟩:=ht rfl
   cases o with
   | ex x c=>exact q.elim
   | go f sl2 ce2 =>
    cases f with
    | nx =>
     obtain⟨s2,hs,r⟩:=q
     obtain⟨o,e3,q3⟩:=ih s2 r (by omega)
     exact⟨o,by simp only[zb1,lft,e,e2];exact e3,q3⟩
    | ct =>
     obtain⟨s2,hs,r⟩:=q
     obtain⟨o,e3,q3⟩:=ih s2 r (by omega)
     exact⟨o,by simp only[zb1,lft,e,e2];exact e3,q3⟩
    | bk=>exact q.elim
    | rt w=>exact q.elim
theorem zj6{a b:DS}{sl:Sl}{ce:Ce}(h:Run a sl ce fun o=>∃sl' ce',o=.go .nx sl' ce'/\Run b sl' ce' Q):Run (zaz a b) sl ce Q:=by
 obtain⟨o,e,sl',ce',rfl,q⟩:=h
 exact zdJ e q
end
section
variable {sl:Sl} {ce c1 c2 c3:Ce} {a b:Sl->M W} {w x y:W} {i:Nat} {p q:Bool} {ta tb:Sl->M Bool} {ra:Sl->M (List W)} {xs ws:List W} {src:Src}
theorem zam(h:sl[i]?=some (some w)):zaf i sl ce=some (.ok w ce):=by simp only[zaf,h]
theorem zcZ:dC w sl ce=some (.ok w ce):=rfl
theorem zdj{f:W->W->Option W}(ha:a sl ce=some (.ok x c1))(hb:b sl c1=some (.ok y c2))(h:f x y=some w):dOp f a b sl ce=some (.ok w c2):=by simp only[dOp,bnd,look,ha,hb,h,Option.map_some]
theorem zaG{f:Ce->W->W->Option W}(ha:a sl ce=some (.ok x c1))(hb:b sl c1=some (.ok y c2))(h:f c2 x y=some w):zay f a b sl ce=some (.ok w c2):=by simp only[zay,bnd,look,ha,hb,h,Option.map_some]
theorem zly{f:W->Option W}(ha:a sl ce=some (.ok x c1))(h:f x=some w):dUn f a sl ce=some (.ok w c1):=by simp only[dUn,bnd,look,ha,h,Option.map_some]
theorem zfH(ha:a sl ce=some (.ok (.bl p) c1)):dB a sl ce=some (.ok p c1):=by simp only[dB,bnd,look,ha,Option.map_some]
theorem zps(ha:a sl ce=some (.ok x c1))(h:zhQ c1 x=some p):znd a sl ce=some (.ok p c1):=by simp only[znd,bnd,look,ha,h,Option.map_some]
theorem zhd(ha:ta sl ce=some (.ok p c1))(hb:p=true->tb sl c1=some (.ok q c1)):zdU ta tb sl ce=some (.ok (p&&q) c1):=by
 cases p with
 | true=>simp only[zdU,bnd,ha,hb rfl,Bool.true_and]
 | false=>simp only[zdU,bnd,ha,Bool.false_and];rfl
theorem zmo(ha:ta sl ce=some (.ok p c1))(hb:p=false->tb sl c1=some (.ok q c1)):zli ta tb sl ce=some (.ok (p||q) c1):=by
 cases p with
 | true=>simp only[zli,bnd,ha,Bool.true_or];rfl
 | false=>simp only[zli,bnd,ha,hb rfl,Bool.false_or]
theorem zfI(ha:ta sl ce=some (.ok p c1)):zdV ta sl ce=some (.ok (!p) c1):=by simp only[zdV,bnd,ha];rfl
theorem zat:zal sl ce=some (.ok [] ce):=rfl
theorem zak(ha:a sl ce=some (.ok x c1))(hr:ra sl c1=some (.ok xs c2)):zac a ra sl ce=some (.ok (x::xs) c2):=by simp only[zac,bnd,ha,hr];rfl
theorem zbL{f:List W->M W}(hr:ra sl ce=some (.ok ws c1))(h:f ws c1=some (.ok w c2)):dBi f ra sl ce=some (.ok w c2):=by simp only[dBi,bnd,hr,h]
theorem zax{f:List W->M W}{n:Nat}(hr:ra sl ce=some (.ok ws c1))(hl:ws.length=n)(h:f ws c1=some (.ok w c2)):zao n f ra sl ce=some (.ok w c2):=by simp only[zao,bnd,hr,if_pos hl,h]
theorem zc5(hr:ra sl ce=some (.ok ws c1))(hl:ws.length<=PySem.sizeLine):zeP ra sl ce=some (.ok (.tup ws) c1):=by simp only[zeP,bnd,hr,mkF,if_pos hl]
theorem za0(hr:ra sl ce=some (.ok ws c1))(hl:ws.length<=PySem.sizeLine):zbO ra sl ce=some (.ok (.lst ws) c1):=by simp only[zbO,bnd,hr,mkF,if_pos hl]
theorem zes(hr:ra sl ce=some (.ok ws c1))(hl:ws.length<=PySem.sizeLine):zb4 ra sl ce=some (.ok (.cel c1.length) (c1++[.lst ws])):=by simp only[zb4,bnd,hr,mkC,if_pos hl]
theorem znu:zg4 sl ce=some (.ok (.cel ce.length) (ce++[.dct []])):=by simp[zg4,mkC]
theorem ziG{f:W->List W->M W}{ys:List W}(ha:a sl ce=some (.ok x c1))(hl:zcz c1 x=some ys)(hr:ra sl c1=some (.ok ws c2))(h:f x ws c2=some (.ok w c3)):dMt f a ra sl ce=some (.ok w c3):=by simp only[dMt,bnd,ha,look,zkN,hl,hr,h,Option.map_some]
theorem zmp{f:W->List W->M W}{ys:List W}(ha:a sl ce=some (.ok x c1))(hl:zcz c1 x=some ys)(h:f x [] c1=some (.ok w c3)):znr f a sl ce=some (.ok w c3):=by simp only[znr,bnd,ha,look,zkN,hl,h,Option.map_some]
theorem znv(ha:a sl ce=some (.ok x c1))(h:zkM c1 x=some src):dIL a sl ce=some (.ok src c1):=by simp only[dIL,bnd,ha,look,h,Option.map_some]
theorem zpt(ha:a sl ce=some (.ok x c1))(h:zrn x=some src):dIT a sl ce=some (.ok src c1):=by simp only[dIT,bnd,ha,look,h,Option.map_some]
theorem zj7{n:Nat}(ha:ra sl ce=some (.ok [nW n] c1))(h:n<=1000):zgS ra sl ce=some (.ok (.rng 0 n) c1):=zpn ha h
theorem zpu{α:Type}{mk:List W->M W}{js:List Nat}{di:Sl->M Src}{c:Sl->M Bool}{e:Sl->M W}{en:α->W}{zs:List α}{t:α->Bool}{g:α->W}(hi:di sl ce=some (.ok src c1))(hx:src.items=zs.map en)(hst:src.Stays c1)(hc:∀x∈zs,c (some (en x)::zcu js sl) c1=some (.ok (t x) c1))(he:∀x∈zs,t x=true->e (some (en x)::zcu js sl) c1=some (.ok (g x) c1))(hz:zs.length<=PySem.sizeLine)(hm:mk ((zs.filter t).map g) c1=some (.ok w c2)):dLC mk js di c e sl ce=some (.ok w c2):=by
 have key:∀(l:List α) (ys:List W),(∀x∈l,x∈zs)->ys.length+l.length<=PySem.sizeLine->lcL src (zcu js sl) c e (l.map en) ys c1=some (.ok (ys++(l.filter t).map g) c1):=by
  intro l
  induction l with
  | nil=>intro ys _ _;simp only[List.map_nil,lcL,if_pos hst,List.filter_nil,List.append_nil]
  | cons x r ih =>
   intro ys hl hz
   simp only[List.length_cons] at hz
   rw[List.map_cons,zeh ⟨hst,by omega⟩,zbJ (hc x (hl x List.mem_cons_self))]
   cases ht:t x with
   | true =>
    show bnd (e (some (en x)::zcu js sl)) (fun y=>lcL src (zcu js sl) c e (r.map en) (ys++[y])) c1=_
    rw[zbJ (he x (hl x List.mem_cons_self) ht),ih _ (fun y hy=>hl y (List.mem_cons_of_mem _ hy)) (by simp only[List.length_append,List.length_cons,List.length_nil];omega),List.filter_cons_of_pos ht,List.map_cons,List.append_assoc]
    rfl
   | false =>
    show lcL src (zcu js sl) c e (r.map en) ys c1=_
    rw[ih _ (fun y hy=>hl y (List.mem_cons_of_mem _ hy)) (by omega),List.filter_cons_of_neg (by simp[ht])]
 show bnd (di sl) (fun s=>bnd (lcL s (zcu js sl) c e s.items []) mk) ce=_
 rw[zbJ hi,hx,zbJ (key zs [] (fun _ h=>h) (by simpa using hz)),List.nil_append]
 exact hm
theorem zb6(h:xs.length<=PySem.sizeLine):zaT xs ce=some (.ok (.lst xs) ce):=if_pos h
theorem zhe(h:xs.length<=PySem.sizeLine):zgi xs ce=some (.ok (.cel ce.length) (ce++[.lst xs])):=if_pos h
theorem zpv{o i v:Sl->M W}{ow iw:W}{key:Key}{k:Nat}{kvs:List (Key×W)}{Q:O->Prop}(h1:v sl ce=some (.ok w c1))(h2:o sl c1=some (.ok ow c2))(h3:i sl c2=some (.ok iw c3))(h4:zi0 iw=some key)(h5:zmb c3 ow=some (k,kvs))(h6:kvs.length<PySem.sizeLine)(q:Q (.go .nx sl (c3.set k (.dct (zg6 kvs key w))))):Run (zkL o i v) sl ce Q:=⟨_,zmh h1 h2 h3 h4 h5 h6,q⟩
theorem znw{o i v:Sl->M W}{s:DS}{ow iw:W}{key:Key}{k:Nat}{kvs:List (Key×W)}{Q:O->Prop}(h1:v sl ce=some (.ok w c1))(h2:o sl c1=some (.ok ow c2))(h3:i sl c2=some (.ok iw c3))(h4:zi0 iw=some key)(h5:zmb c3 ow=some (k,kvs))(h6:kvs.length<PySem.sizeLine)(q:Run s sl (c3.set k (.dct (zg6 kvs key w))) Q):Run (zaz (zkL o i v) s) sl ce Q:=zdJ (zmh h1 h2 h3 h4 h5 h6) q
end
structure Own (b ce:Ce) (l:List (Nat×C)):Prop where
 cut:∃t,ce=b++t
 get:∀p∈l,ce[p.1]?=some p.2
 ge:∀p∈l,b.length<=p.1
 nd:(l.map Prod.fst).Nodup
namespace Own
variable {b ce:Ce} {l:List (Nat×C)} {k k1 k2 k3:Nat} {c c' q1 q2 q3:C}
theorem start(b:Ce):Own b b []:=⟨⟨[],by simp⟩,by simp,by simp,by simp⟩
theorem alloc(h:Own b ce l)(c:C):Own b (ce++[c]) ((ce.length,c)::l):=by
 obtain⟨⟨t,e⟩,h2,h3,h4⟩:=h
 have lt:∀p∈l,p.1<ce.length:=fun p hp=>by
  have:=h2 p hp
  exact(List.getElem?_eq_some_iff.mp this).1
 refine⟨⟨t++[c],by rw[e,List.append_assoc]⟩,fun p hp=>?_,fun p hp=>?_,?_⟩
 ·rcases List.mem_cons.mp hp with rfl|hp
  ·exact zmk _ _
  ·rw[List.getElem?_append_left (lt p hp)];exact h2 p hp
 ·rcases List.mem_cons.mp hp with rfl|hp
  ·simp[e]
  ·exact h3 p hp
 ·simp only[List.map_cons,List.nodup_cons]
  exact⟨fun q=>by obtain⟨p,hp,e⟩:=List.mem_map.mp q;have:=lt p hp;omega,h4⟩
theorem perm{l':List (Nat×C)}(h:Own b ce l)(p:l.Perm l'):Own b ce l' :=
 ⟨h.cut,fun q hq=>h.get q (p.symm.subset hq),fun q hq=>h.ge q (p.symm.subset hq),(p.map _).nodup h.nd⟩
theorem g0(h:Own b ce ((k,c)::l)):ce[k]?=some c:=h.get _ List.mem_cons_self
theorem g1(h:Own b ce ((k1,q1)::(k,c)::l)):ce[k]?=some c:=h.get (k,c) (by simp)
theorem set0(h:Own b ce ((k,c)::l))(c':C):Own b (ce.set k c') ((k,c')::l):=by
 have hk:k<ce.length:=(List.getElem?_eq_some_iff.mp h.g0).1
 obtain⟨⟨t,e⟩,h2,h3,h4⟩:=h
 have hb:=h3 (k,c) List.mem_cons_self
 have hn:∀p∈l,p.1≠k:=fun p hp q=>(List.nodup_cons.mp h4).1 (List.mem_map.mpr ⟨p,hp,q⟩)
 refine⟨⟨t.set (k-b.length) c',?_⟩,fun p hp=>?_,fun p hp=>?_,h4⟩
 ·rw[e,List.set_append_right _ _ hb]
 ·rcases List.mem_cons.mp hp with rfl|hp
  ·simp[hk]
  ·rw[List.getElem?_set_ne (Ne.symm (hn p hp))];exact h2 p (List.mem_cons_of_mem _ hp)
 ·rcases List.mem_cons.mp hp with rfl|hp
  ·exact hb
  ·exact h3 p (List.mem_cons_of_mem _ hp)
theorem set1(h:Own b ce ((k1,q1)::(k,c)::l))(c':C):Own b (ce.set k c') ((k1,q1)::(k,c')::l):=((h.perm (.swap _ _ _)).set0 c').perm (.swap _ _ _)
theorem finC(h:Own b ce l){w:W}(hb:Bel b.length w):finC b ce w=some (.ok w b):=by
 obtain⟨t,rfl⟩:=h.cut
 exact zh1 hb
theorem finO(h:Own b ce ((k,c)::l))(hb:zgm b.length c):finO b ce (.cel k)=some (.ok (.cel b.length) (b++[c])):=by
 have g:=h.g0
 have ge:=h.ge _ List.mem_cons_self
 obtain⟨t,rfl⟩:=h.cut
 obtain⟨j,hj⟩:=Nat.exists_eq_add_of_le ge
 have hj':k=b.length+j:=hj
 subst hj'
 exact zlr (by rw[<- zqu b t j];exact g) hb
end Own
theorem zhI{fin:Ce->Ce->W->Option (R W)}{n:Nat}{body:DS}{ws:List W}{ce:Ce}{r:Option (R W)}(h:Run body (ws.map some++List.replicate (n-ws.length) none) ce (Rt fun w ce'=>fin ce ce' w=r)):dFn fin n body ws ce=r:=by
 obtain⟨o,e,q⟩:=h
 cases o with
 | ex x c=>exact q.elim
 | go f sl c=>cases f with
  | rt w=>exact zmn e q
  | nx=>exact q.elim
  | bk=>exact q.elim
  | ct=>exact q.elim
section
variable {ce:Ce} {k n p j:Nat} {b:List (List Nat)} {is:List Int} {l:List Nat} {xs:List W}
abbrev wS(is:List Int):W:=.tup (is.map W.int)
abbrev wL(l:List Nat):W:=.lst (l.map nW)
abbrev sW(ns:List Int):W:=.lst (ns.map W.int)
theorem zpw(h:p<b.length):ixW ce (wB b) (nW p)=some (wT (b.getD p [])):=by
 rw[zeS (xs:=b.map wT) rfl,List.getElem?_map,List.getD_eq_getElem?_getD,List.getElem?_eq_getElem h];rfl
theorem zmq(h:p<l.length):ixW ce (wL l) (nW p)=some (nW (l.getD p 0)):=by
 rw[zeS (xs:=l.map nW) rfl,List.getElem?_map,List.getD_eq_getElem?_getD,List.getElem?_eq_getElem h];rfl
theorem zdK(h:p<is.length):ixW ce (wS is) (nW p)=some (.int (is.getD p 0)):=by
 rw[zeS (xs:=is.map W.int) rfl,List.getElem?_map,List.getD_eq_getElem?_getD,List.getElem?_eq_getElem h];rfl
theorem znx(g:ce[k]?=some (.lst (l.map nW))):zc3 [.cel k] ce=some (.ok (nW l.length) ce):=by simp only[zc3,zdI g,List.length_map];rfl
theorem zj8:zc3 [wB b] ce=some (.ok (nW b.length) ce):=by simp[zc3,wB];rfl
theorem zpx{ng:Bool}:inW ng ce (nW p) (wL l)=some (.bl (if ng then !decide (p∈l) else decide (p∈l))):=zpk rfl ng
theorem zny{F:List Nat}(g:ce[k]?=some (.dct (kvs F))){ng:Bool}:zlk ng ce (nW p) (.cel k)=some (.bl (if ng then !decide (p∈F) else decide (p∈F))):=by
 have ky:zi0 (nW p)=some (.inl (p:Int)):=rfl
 simp only[zlk,ky,zph g,znt]
theorem zj9{y:W}(g:ce[k]?=some (.lst xs))(h:xs.length<PySem.sizeLine):zeR (.cel k) [y] ce=some (.ok .non (ce.set k (.lst (xs++[y])))):=zpe (zen g) h
end
end VS
namespace VS
open L2
def ins(F:List Nat)(y:Nat):List Nat:=if y∈F then F else F++[y]
theorem ins_mem{F:List Nat}{y x:Nat}:x∈ins F y↔x∈F\/x=y:=by
 unfold ins
 split
 ·rename_i h
  exact⟨.inl,fun q=>q.elim id fun e=>e▸h⟩
 ·simp
theorem zka{F:List Nat}{y:Nat}(h:F.Nodup):(ins F y).Nodup:=by
 unfold ins
 split
 ·exact h
 ·rename_i hn
  rw[List.nodup_append]
  exact⟨h,by simp,fun a ha b hb=>by rw[List.mem_singleton] at hb;subst hb;intro q;subst q;exact hn ha⟩
theorem zhf(F:List Nat)(y:Nat):zg6 (kvs F) (.inl (y:Int)) (.bl true)=kvs (ins F y):=by
 unfold ins
 split
 ·rename_i h
  have e:((kvs F).any fun kv=>decide (kv.1=(.inl (y:Int):Key)))=true:=List.any_eq_true.mpr ⟨(.inl (y:Int),.bl true),List.mem_map.mpr ⟨y,h,rfl⟩,by simp⟩
  unfold zg6
  rw[e]
  simp only[if_true]
  conv=>rhs;rw[<- List.map_id (kvs F)]
  apply List.map_congr_left
  intro p hp
  obtain⟨x,hx,rfl⟩:=List.mem_map.mp hp
  simp only[id]
  split
  ·rename_i q;simp at q;rw[q]
  ·rfl
 ·rename_i h;exact zeo F y h
theorem Own.lt{b ce:Ce}{l:List (Nat×C)}{k:Nat}{c:C}(h:Own b ce ((k,c)::l)):k<ce.length:=(List.getElem?_eq_some_iff.mp h.g0).1
theorem zfJ{F:List Nat}{n:Nat}(nd:F.Nodup)(lt:∀x∈F,x<n):zcj F=(List.range n).filter fun x=>decide (x∈F):=by
 have h:srt (toI F)=toI ((List.range n).filter fun x=>decide (x∈F)):=by
  refine zci ((zbq _).trans ?_) (zcM _) ?_
  ·refine List.Perm.map _ (zfE nd (List.Pairwise.filter _ List.nodup_range) fun x=>?_)
   simp only[List.mem_filter,List.mem_range,decide_eq_true_eq]
   exact⟨fun h=>⟨lt x h,h⟩,fun h=>h.2⟩
  ·unfold toI
   rw[List.pairwise_map]
   exact(List.Pairwise.filter _ List.pairwise_lt_range).imp fun h=>by omega
 unfold zcj
 rw[h]
 unfold toI
 rw[List.map_map]
 conv=>rhs;rw[<- List.map_id (List.filter _ _)]
 apply List.map_congr_left
 intro x _
 simp
theorem zd7{ce:Ce}{k:Nat}{F:List Nat}{mk:List W->M W}(g:ce[k]?=some (.dct (kvs F)))(h:F.length<64):za6 mk [.cel k] ce=mk ((zcj F).map nW) ce:=by
 have l:zcz ce (.cel k)=none:=by simp only[zcz,g]
 have g':zn8 ce (.cel k)=some (kvs F):=by simp only[zn8,g]
 simp only[za6,l,g',zlu,zcN,if_pos h,zd6]
inductive LstOf (ce:Ce):W->List W->Prop where
 | fr (xs:List W):LstOf ce (.lst xs) xs
 | cl {k:Nat} {xs:List W} (h:ce[k]?=some (.lst xs)):LstOf ce (.cel k) xs
namespace LstOf
variable {ce:Ce} {w:W} {xs:List W}
theorem drf(h:LstOf ce w xs):drf ce w=.lst xs:=by
 cases h with
 | fr=>rfl
 | cl h=>simp only[VS.drf,h]
theorem ty(h:LstOf ce w xs):tyW ce w=some "list" := by
 cases h with
 | fr=>rfl
 | cl h=>simp only[tyW,h]
theorem src(h:LstOf ce w xs):∃s,zkM ce w=some s/\s.items=xs/\s.Stays ce:=by
 cases h with
 | fr=>exact⟨.lst xs,rfl,rfl,trivial⟩
 | cl h=>exact⟨.cell _ xs,by simp only[zkM,h],rfl,h⟩
theorem isL(h:LstOf ce w xs):zlo [w,.ty "list"] ce=some (.ok (.bl true) ce):=by
 simp only[zlo,h.ty]
 rfl
theorem eqI{w':W}{l m:List Int}(h:LstOf ce w (l.map W.int))(h':LstOf ce w' (m.map W.int))(ng:Bool):eqW ng ce w w'=some (.bl (if ng then !decide (l=m) else decide (l=m))):=by
 have c1:cln 8 (.lst (l.map W.int))=true:=zcO l 7
 have c2:cln 8 (.lst (m.map W.int))=true:=zcO m 7
 simp only[eqW,h.drf,h'.drf,c1,c2,zlw,Bool.and_self,if_true]
theorem eqN{w':W}{l m:List Nat}(h:LstOf ce w (l.map nW))(h':LstOf ce w' (m.map nW))(ng:Bool):eqW ng ce w w'=some (.bl (if ng then !decide (l=m) else decide (l=m))):=by
 rw[zep] at h h'
 rw[h.eqI h' ng]
 have inj:(toI l=toI m)↔l=m:=by
  unfold toI
  exact⟨fun h=>by simpa using List.map_inj_right (f:=fun(x:Nat)=>(x:Int)) (fun x y h=>by have h:(x:Int)=(y:Int):=h;omega) |>.mp h,fun h=>by rw[h]⟩
 simp only[inj]
end LstOf
theorem zfK{ce:Ce}{w:W}{xs:List W}(h:LstOf ce w xs)(hz:xs.length<=PySem.sizeLine):zbt [w] ce=some (.ok (.tup xs) ce):=by
 cases h with
 | fr=>exact if_pos hz
 | cl h=>simp only[zbt,zc4 h];exact if_pos hz
theorem zkb{ce:Ce}{w:W}{xs:List W}{mk:List W->M W}(h:zeN ce w=some xs):zcV mk [w] ce=mk xs ce:=by simp only[zcV,h]
theorem z64:(64:Nat)<=PySem.sizeLine:=by decide
def zdZ(di:Sl->M Src)(sl:Sl)(ce c1:Ce)(xs:List W):Prop:=∃s,di sl ce=some (.ok s c1)/\s.items=xs/\s.Stays c1
def SrcFix(di:Sl->M Src)(sl:Sl)(ce c1:Ce)(xs:List W):Prop:=∃s,di sl ce=some (.ok s c1)/\s.items=xs/\∀c,s.Stays c
section
variable {di:Sl->M Src} {sl:Sl} {ce c1 c2:Ce} {xs:List W} {a:Sl->M W} {ra:Sl->M (List W)} {w:W}
theorem SrcFix.is(h:SrcFix di sl ce c1 xs):zdZ di sl ce c1 xs:=by obtain⟨s,h1,h2,h3⟩:=h;exact⟨s,h1,h2,h3 _⟩
theorem zd0(h:a sl ce=some (.ok (.lst xs) c1)):SrcFix (dIL a) sl ce c1 xs:=⟨.lst xs,znv h rfl,rfl,fun _=>trivial⟩
theorem znz(h:a sl ce=some (.ok (.tup xs) c1)):SrcFix (dIT a) sl ce c1 xs:=⟨.tup xs,zpt h rfl,rfl,fun _=>trivial⟩
theorem zgt{l:List Nat}(h:a sl ce=some (.ok (wT l) c1)):SrcFix (dIT a) sl ce c1 (l.map nW):=znz h
theorem zet{n:Nat}(h:ra sl ce=some (.ok [nW n] c1))(hn:n<=1000):SrcFix (zgS ra) sl ce c1 ((List.range n).map nW):=⟨.rng 0 n,zj7 h hn,zer n,fun _=>trivial⟩
theorem zcl(h:a sl ce=some (.ok w c1))(hw:LstOf c1 w xs):zdZ (dIL a) sl ce c1 xs:=by
 obtain⟨s,h1,h2,h3⟩:=hw.src
 exact⟨s,znv h h1,h2,h3⟩
variable {α:Type} {en:α->W} {zs:List α} {t:α->Bool} {g:α->W} {js:List Nat} {c:Sl->M Bool} {e:Sl->M W}
theorem lcF(hi:zdZ di sl ce c1 (zs.map en))(hz:zs.length<=PySem.sizeLine)(hc:∀x∈zs,c (some (en x)::zcu js sl) c1=some (.ok (t x) c1))(he:∀x∈zs,t x=true->e (some (en x)::zcu js sl) c1=some (.ok (g x) c1)) :
  dLC zaT js di c e sl ce=some (.ok (.lst ((zs.filter t).map g)) c1):=by
 obtain⟨s,h1,h2,h3⟩:=hi
 exact zpu h1 h2 h3 hc he hz (zb6 (by rw[List.length_map];exact Nat.le_trans (List.length_filter_le _ _) hz))
theorem lcC(hi:zdZ di sl ce c1 (zs.map en))(hz:zs.length<=PySem.sizeLine)(hc:∀x∈zs,c (some (en x)::zcu js sl) c1=some (.ok (t x) c1))(he:∀x∈zs,t x=true->e (some (en x)::zcu js sl) c1=some (.ok (g x) c1)) :
  dLC zgi js di c e sl ce=some (.ok (.cel c1.length) (c1++[.lst ((zs.filter t).map g)])):=by
 obtain⟨s,h1,h2,h3⟩:=hi
 exact zpu h1 h2 h3 hc he hz (zhe (by rw[List.length_map];exact Nat.le_trans (List.length_filter_le _ _) hz))
theorem zh4(zs:List α):zs.filter (fun _=>true)=zs:=List.filter_eq_self.mpr fun _ _=>rfl
theorem zpy(hi:zdZ di sl ce c1 (zs.map en))(hz:zs.length<=PySem.sizeLine)(he:∀x∈zs,e (some (en x)::zcu js sl) c1=some (.ok (g x) c1)) :
  dLC zaT js di zcK e sl ce=some (.ok (.lst (zs.map g)) c1):=by
 have h:=lcF (t:=fun _=>true) (js:=js) hi hz (c:=zcK) (fun _ _=>rfl) (fun x hx _=>he x hx)
 rwa [zh4] at h
theorem zqv(hi:zdZ di sl ce c1 (zs.map en))(hz:zs.length<=PySem.sizeLine)(he:∀x∈zs,e (some (en x)::zcu js sl) c1=some (.ok (g x) c1)) :
  dLC zgi js di zcK e sl ce=some (.ok (.cel c1.length) (c1++[.lst (zs.map g)])):=by
 have h:=lcC (t:=fun _=>true) (js:=js) hi hz (c:=zcK) (fun _ _=>rfl) (fun x hx _=>he x hx)
 rwa [zh4] at h
theorem zpz{f:α->Int}(hi:zdZ di sl ce c1 (zs.map en))(hz:zs.length<=PySem.sizeLine)(he:∀x∈zs,e (some (en x)::zcu js sl) c1=some (.ok (.int (f x)) c1)):dLC zaT js di zcK e sl ce=some (.ok (sW (zs.map f)) c1):=by
 rw[zpy hi hz he,sW,List.map_map];rfl
theorem zrF{f:α->List Nat}(hi:zdZ di sl ce c1 (zs.map en))(hz:zs.length<=PySem.sizeLine)(he:∀x∈zs,e (some (en x)::zcu js sl) c1=some (.ok (wT (f x)) c1)):dLC zaT js di zcK e sl ce=some (.ok (.lst ((zs.map f).map wT)) c1):=by
 rw[zpy hi hz he,List.map_map];rfl
theorem zh5(hi:zdZ di sl ce c1 (zs.map en))(hz:zs.length<=PySem.sizeLine)(hc:∀x∈zs,c (some (en x)::zcu js sl) c1=some (.ok (t x) c1)):dLC zaT js di c (zaf 0) sl ce=some (.ok (.lst ((zs.filter t).map en)) c1) :=
 lcF hi hz hc fun _ _ _=>rfl
theorem zsn(hi:zdZ di sl ce c1 (zs.map en))(hz:zs.length<=PySem.sizeLine)(hc:∀x∈zs,c (some (en x)::zcu js sl) c1=some (.ok (t x) c1)):dLC zgi js di c (zaf 0) sl ce=some (.ok (.cel c1.length) (c1++[.lst ((zs.filter t).map en)])) :=
 lcC hi hz hc fun _ _ _=>rfl
theorem zbM{body:DS}{i:Nat}{Q:O->Prop}(hi:SrcFix di sl ce c1 (zs.map en))(R:List α->Sl->Ce->Prop)(h0:R [] sl c1)(step:∀d x r sl ce,d++x::r=zs->x∈zs->R d sl ce->Run body (sl.set i (some (en x))) ce (Nx (R (d++[x]))))(fin:∀sl ce,R zs sl ce->Q (.go .nx sl ce)):Run (zda di (gN i) body) sl ce Q:=by
 obtain⟨s,h1,h2,h3⟩:=hi
 exact zj3 h1 h2 R h0 (fun d x r sl ce e m h=>⟨h3 _,step d x r sl ce e m h⟩) (fun _ _ _=>h3 _) fin
theorem zcm{body b:DS}{i:Nat}{Q:O->Prop}(hi:SrcFix di sl ce c1 (zs.map en))(R:List α->Sl->Ce->Prop)(h0:R [] sl c1)(step:∀d x r sl ce,d++x::r=zs->x∈zs->R d sl ce->Run body (sl.set i (some (en x))) ce (Nx (R (d++[x]))))(fin:∀sl ce,R zs sl ce->Run b sl ce Q):Run (zaz (zda di (gN i) body) b) sl ce Q:=by
 obtain⟨s,h1,h2,h3⟩:=hi
 exact zj4 h1 h2 R h0 (fun d x r sl ce e m h=>⟨h3 _,step d x r sl ce e m h⟩) (fun _ _ _=>h3 _) fin
end
theorem zkc(ce:Ce)(x y:Int)(ng:Bool):eqW ng ce (.int x) (.int y)=some (.bl (if ng then !decide (x=y) else decide (x=y))):=by
 have d1:drf ce (.int x)=.int x:=rfl
 have d2:drf ce (.int y)=.int y:=rfl
 have c:∀i:Int,cln 8 (.int i)=true:=fun _=>rfl
 simp only[eqW,d1,d2,c,Bool.and_self,if_true,zfF]
theorem zlz{ce:Ce}{w:W}{l:List Int}{i:Int}(h:zeN ce w=some (l.map W.int))(ng:Bool):inW ng ce (.int i) w=some (.bl (if ng then !decide (i∈l) else decide (i∈l))):=by
 have c:cln 8 (.int i)=true:=rfl
 have d:drf ce (.int i)=.int i:=rfl
 have a:(l.map W.int).any (fun z=>peq z (.int i))=decide (i∈l):=by
  rw[Bool.eq_iff_iff,List.any_eq_true]
  constructor
  ·rintro⟨z,hz,q⟩
   obtain⟨x,hx,rfl⟩:=List.mem_map.mp hz
   rw[zfF] at q
   have:=of_decide_eq_true q
   subst this
   simpa using hx
  ·intro q
   exact⟨.int i,List.mem_map.mpr ⟨i,of_decide_eq_true q,rfl⟩,by rw[zfF];simp⟩
 simp only[inW,h,d,c,zcO,Bool.and_self,if_true,a]
theorem zs2{ce:Ce}{l:List Int}{i:Int}{ng:Bool}:inW ng ce (.int i) (sW l)=some (.bl (if ng then !decide (i∈l) else decide (i∈l))):=zlz rfl ng
theorem zbA{fin:Ce->Ce->W->Option (R W)}{n:Nat}{body:DS}{ws:List W}{ce:Ce}{w:W}{c':Ce}(sl:Sl)(e:ws.map some++List.replicate (n-ws.length) none=sl)(h:Run body sl ce (Rt fun v ce'=>fin ce ce' v=some (.ok w c'))):dFn fin n body ws ce=some (.ok w c'):=by
 subst e
 exact zhI h
section
variable {ce:Ce} {k p:Nat} {l:List Nat} {m:List Int} {i j:Int} {w w':W}
theorem eqI0:eqW false ce (.int i) (.int j)=some (.bl (decide (i=j))):=zkc _ _ _ _
theorem zs3:eqW true ce (.int i) (.int j)=some (.bl (!decide (i=j))):=zkc _ _ _ _
theorem zrG:inW false ce (.int i) (sW m)=some (.bl (decide (i∈m))):=zs2
theorem zs4:inW false ce (nW p) (wL l)=some (.bl (decide (p∈l))):=zpx
theorem zrH(g:ce[k]?=some (.dct (kvs l))):zlk true ce (nW p) (.cel k)=some (.bl (!decide (p∈l))):=zny g
end
section
variable {x y:W} {i j:Int} {n k:Nat} {ce:Ce}
theorem zdz(hx:x=.int i)(hy:y=.int j):zdg x y=some (.int (i+j)):=by subst hx;subst hy;rfl
theorem zhg(hx:x=.int i)(hy:y=.int j):zg1 x y=some (.int (i-j)):=by subst hx;subst hy;rfl
theorem zpA(hx:x=.int i)(hy:y=.int j):fLt x y=some (.bl (decide (i<j))):=by subst hx;subst hy;rfl
theorem zpB(hx:x=.int i)(hy:y=.int j):fGt x y=some (.bl (decide (j<i))):=by subst hx;subst hy;rfl
theorem zpC(hx:x=.int i)(hy:y=.int j):fGe x y=some (.bl (decide (j<=i))):=by subst hx;subst hy;rfl
theorem znA(hx:x=.int i)(hy:y=.int j):zgT x y=some (.bl (decide (i=j))):=by subst hx;subst hy;rfl
theorem zbV(hx:x=.int i)(hy:y=.int j)(h:0<j):zbT x y=some (.int (i % j)):=by subst hx;subst hy;exact zmj h
theorem zhh(hx:x=.int i)(hy:y=.int j)(h:0<j/\j<1073741824):zjx x y=some (.int (i / j)):=by subst hx;subst hy;exact zpf h
theorem znB(hx:x=.int i)(hy:y=.int j)(h:CMul i j):ze9 x y=some (.int (i*j)):=by subst hx;subst hy;exact zmi h
theorem zhi(hx:x=.int i):ziA x=some (.int (-i)):=by subst hx;rfl
theorem zpD(hx:x=.int i):zi0 x=some (.inl i):=by subst hx;rfl
theorem zpE(hx:x=.int i)(hy:y=.int j):zqs [x,y] ce=some (.ok (.int (if j<i then j else i)) ce):=by subst hx;subst hy;rfl
theorem zpF(hx:x=.int i)(hy:y=.int j):zqt [x,y] ce=some (.ok (.int (if j>i then j else i)) ce):=by subst hx;subst hy;rfl
end
section
variable {ce:Ce} {l:List Nat} {m:List Int} {w:W}
theorem zrI:eqW false ce (.lst (l.map nW)) (.lst [])=some (.bl (decide (l=[]))):=(LstOf.fr _).eqN (m:=[]) (.fr _) false
theorem znC{P:W->Ce->Prop}{sl:Sl}(h:P w ce):Rt P (.go (.rt w) sl ce):=h
end
section
variable {ce c1:Ce} {l:List Nat} {k:Nat} {sl:Sl} {a:Sl->M W} {α:Type} {en:α->W} {zs:List α}
theorem zcn(l:List Nat):(zcj l).length=l.length:=by rw[zcj,List.length_map,(zbq _).length_eq,zcN]
theorem zeu{σ:Type}{c:Sl->M Bool}{body b:DS}{fu:Nat}{Q:O->Prop}(R:σ->Sl->Ce->Prop)(m:σ->Nat)(s0:σ)(h0:R s0 sl ce)(hm:m s0<fu)(step:∀s sl ce,R s sl ce->∃p,c sl ce=some (.ok p ce)/\(p=true->Run body sl ce (Nx fun sl2 ce2=>∃s2,m s2<m s/\R s2 sl2 ce2))/\(p=false->Run b sl ce Q)):Run (zaz (zb1 c body fu) b) sl ce Q :=
 zj6 (zj5 R m s0 h0 hm fun s sl ce h=>by
  obtain⟨p,e,ht,hf⟩:=step s sl ce h
  exact⟨p,e,ht,fun q=>⟨sl,ce,rfl,hf q⟩⟩)
end
theorem bels_wL(n:Nat):∀cs:List (List Nat),zdd n (cs.map wL)
 | []=>by simp only[List.map_nil,zdd]
 | a::r=>by simp only[List.map_cons,zdd,wL,Bel];exact⟨bels_nW n a,bels_wL n r⟩
section
variable {ce:Ce} {k:Nat} {l:List Nat} {b:List (List Nat)} {m:List Int}
theorem zrJ(g:ce[k]?=some (.lst (m.map W.int)))(h:m.length<=PySem.sizeLine):zbt [.cel k] ce=some (.ok (wS m) ce):=zfK (.cl g) (by rw[List.length_map];exact h)
theorem znD(h:b.length<=PySem.sizeLine):zbt [.lst (b.map wT)] ce=some (.ok (wB b) ce):=zfK (.fr _) (by rw[List.length_map];exact h)
theorem zpG(h:m.length<=PySem.sizeLine):zbt [sW m] ce=some (.ok (wS m) ce):=zfK (.fr _) (by rw[List.length_map];exact h)
end
section
variable {ce:Ce} {k:Nat} {l l':List Nat} {m:List Int}
theorem zd8(h:l.length<=PySem.sizeLine):zcV zaT [wL l] ce=some (.ok (wL l) ce):=by rw[zkb (xs:=l.map nW) rfl,zb6 (by rw[List.length_map];exact h)]
theorem zh6(h:m.length<64):za6 zaT [sW m] ce=some (.ok (sW (srt m)) ce):=by
 simp only[za6,zpg,zei,if_pos h]
 exact zb6 (by rw[List.length_map,(zbq _).length_eq];have:=z64;omega)
end
end VS
namespace VS
open PySem PySem.Spec PyProof.Rows L2
section
variable {X:Cx}
end
section
variable {X:Cx} {G:Ga} {E:XK} {a b:Expr} {da db:Sl->M W} {pos:Pos}
def ztj(ng:Bool):W->W->Option W
 | .bl c,.bl d=>some (.bl (if ng then c != d else c==d))
 | _,_=>none
end
end VS
namespace VS
open L2
section
variable {sl:Sl} {ce c1 c2:Ce} {a b:Sl->M W} {w x y:W} {xs ys:List W} {k n:Nat} {i:Int} {p q:Bool}
theorem zlA{key:Key}(ha:a sl (ce++[.dct []])=some (.ok x (ce++[.dct []])))(hb:b sl (ce++[.dct []])=some (.ok y (ce++[.dct []])))(hk:zi0 x=some key):zfa a b sl ce=some (.ok (.cel ce.length) (ce++[.dct [(key,y)]])):=by
 have g:(ce++[C.dct []])[ce.length]?=some (.dct []):=zmk _ _
 have s:(ce++[C.dct []]).set ce.length (.dct [(key,y)])=ce++[.dct [(key,y)]]:=by rw[zru];rfl
 simp only[zfa,bnd,ha,hb,ret,hk,g,s]
theorem zmr(g:ce[k]?=some (.lst xs))(e:xs=ys++[y]):zn9 (.cel k) [] ce=some (.ok y (ce.set k (.lst ys))):=by
 subst e
 simp[zn9,zen g]
theorem znE(g:ce[k]?=some (.lst xs)):zhQ ce (.cel k)=some (!xs.isEmpty):=by simp only[zhQ,g]
theorem zgu{bs:List Bool}:zme [.lst (bs.map W.bl)] ce=some (.ok (.bl (bs.all id)) ce):=by simp only[zme,zcz,zdw]
theorem zpH{bs:List Bool}:zo1 [.lst (bs.map W.bl)] ce=some (.ok (.bl (bs.any id)) ce):=by simp only[zo1,zcz,zdw]
theorem zso:eqW false ce (.bl p) (.bl q)=some (.bl (p==q)):=by cases p<;>cases q<;>rfl
variable {α:Type} {en:α->W} {zs:List α} {di:Sl->M Src} {e:Sl->M W} {js:List Nat}
theorem zkd{f:α->Bool}(hi:zdZ di sl ce c1 (zs.map en))(hz:zs.length<=PySem.sizeLine)(he:∀x∈zs,e (some (en x)::zcu js sl) c1=some (.ok (.bl (f x)) c1)):dLC zaT js di zcK e sl ce=some (.ok (.lst ((zs.map f).map W.bl)) c1):=by
 rw[zpy hi hz he,List.map_map];rfl
end
inductive SetAt:Sl->Nat->Option W->Sl->Prop where
 | zero {x w:Option W} {r:Sl}:SetAt (x::r) 0 w (w::r)
 | succ {x w:Option W} {r r':Sl} {i:Nat} (h:SetAt r i w r'):SetAt (x::r) (i+1) w (x::r')
theorem SetAt.eq{sl sl':Sl}{i:Nat}{w:Option W}(h:SetAt sl i w sl'):sl.set i w=sl':=by
 induction h with
 | zero=>rfl
 | succ _ ih=>rw[List.set_cons_succ,ih]
theorem zbI{b:DS}{sl sl':Sl}{i:Nat}{w:Option W}{ce:Ce}{Q:O->Prop}(hs:SetAt sl i w sl')(h:Run b sl' ce Q):Run b (sl.set i w) ce Q:=by rw[hs.eq];exact h
section
variable {b:List (List Nat)} {vl:Nat->Int} {s x y:Nat}
abbrev okV(vl:Nat->Int)(s y:Nat):Prop:=vl y=vl s
abbrev Sym(b:List (List Nat)):Prop:=∀i j,j∈b.getD i []->i∈b.getD j []
open Classical in
def cpt(b:List (List Nat))(vl:Nat->Int)(s:Nat):List Nat:=(List.range b.length).filter fun y=>decide (Reach b (okV vl s) s y)
def zbb(b:List (List Nat))(vl:Nat->Int)(s:Nat):Bool:=(cpt b vl s).all fun y=>decide (s<=y)
def ptc(b:List (List Nat))(vl:Nat->Int):List (List Nat):=((List.range b.length).filter (zbb b vl)).map (cpt b vl)
theorem Reach.lt(hb:Bd b)(hs:s<b.length){ok:Nat->Prop}(h:Reach b ok s x):x<b.length:=by
 cases h with
 | refl=>exact hs
 | step _ hy _=>exact hb.get hy
open Classical in
theorem zev(hb:Bd b)(hs:s<b.length):x∈cpt b vl s↔Reach b (okV vl s) s x:=by
 unfold cpt
 rw[List.mem_filter,List.mem_range,decide_eq_true_eq]
 exact⟨fun h=>h.2,fun h=>⟨h.lt hb hs,h⟩⟩
theorem zdL(h:x∈cpt b vl s):x<b.length:=List.mem_range.mp (List.mem_filter.mp h).1
theorem zke:(cpt b vl s).length<=b.length:=by
 have:=List.length_filter_le (fun y=>@decide (Reach b (okV vl s) s y) (Classical.propDecidable _)) (List.range b.length)
 rw[List.length_range] at this
 exact this
theorem zb2(hb:Bd b)(hs:s<b.length):s∈cpt b vl s:=(zev hb hs).mpr .refl
theorem cpt_val(hb:Bd b)(hs:s<b.length)(h:x∈cpt b vl s):vl x=vl s:=Reach.okOf (ok:=okV vl s) rfl ((zev hb hs).mp h)
open Classical in
theorem zkf{F:List Nat}(c:Comp b (okV vl s) s F):zcj F=cpt b vl s:=by
 rw[zfJ c.nd c.lt]
 unfold cpt
 apply List.filter_congr
 intro x _
 rw[Bool.eq_iff_iff,decide_eq_true_eq,decide_eq_true_eq]
 exact c.mem x
theorem zpI(h:vl x=vl s):okV vl x=okV vl s:=by funext y;unfold okV;rw[h]
open Classical in
theorem zgv(hb:Bd b)(sym:Sym b)(hs:s<b.length)(h:x∈cpt b vl s):cpt b vl x=cpt b vl s:=by
 have v:=cpt_val hb hs h
 have r:=(zev hb hs).mp h
 unfold cpt
 apply List.filter_congr
 intro y _
 rw[Bool.eq_iff_iff,decide_eq_true_eq,decide_eq_true_eq,zpI v]
 exact⟨fun q=>r.trans q,fun q=>(Reach.symm (ok:=okV vl s) sym rfl r).trans q⟩
theorem zfL(hb:Bd b)(sym:Sym b)(hs:s<b.length)(h:x∈cpt b vl s):s∈cpt b vl x:=by rw[zgv hb sym hs h];exact zb2 hb hs
theorem zdk(hb:Bd b)(sym:Sym b)(hs:s<b.length):∃m,m∈cpt b vl s/\zbb b vl m=true/\cpt b vl m=cpt b vl s:=by
 have key:∀(k:Nat) (s:Nat),s<=k->s<b.length->∃m,m∈cpt b vl s/\zbb b vl m=true/\cpt b vl m=cpt b vl s:=by
  intro k
  induction k with
  | zero =>
   intro s hk hs
   refine⟨s,zb2 hb hs,?_,rfl⟩
   unfold zbb
   rw[List.all_eq_true]
   intro y _
   exact decide_eq_true (by omega)
  | succ k ih =>
   intro s hk hs
   by_cases h:zbb b vl s=true
   ·exact⟨s,zb2 hb hs,h,rfl⟩
   ·unfold zbb at h
    rw[List.all_eq_true] at h
    obtain⟨y,hy⟩:=Classical.not_forall.mp h
    obtain⟨hy,hn⟩:=Classical.not_imp.mp hy
    have hn':¬s<=y:=fun q=>hn (decide_eq_true q)
    obtain⟨m,h1,h2,h3⟩:=ih y (by omega) (zdL hy)
    have e:=zgv hb sym hs hy
    exact⟨m,by rw[<- e];exact h1,h2,by rw[h3,e]⟩
 exact key s s (Nat.le_refl _) hs
theorem zhj(hb:Bd b){c:List Nat}:c∈ptc b vl↔∃s,s<b.length/\zbb b vl s=true/\c=cpt b vl s:=by
 unfold ptc
 rw[List.mem_map]
 constructor
 ·rintro⟨s,hs,rfl⟩
  obtain⟨h1,h2⟩:=List.mem_filter.mp hs
  exact⟨s,List.mem_range.mp h1,h2,rfl⟩
 ·rintro⟨s,h1,h2,rfl⟩
  exact⟨s,List.mem_filter.mpr ⟨List.mem_range.mpr h1,h2⟩,rfl⟩
theorem ptc_len:(ptc b vl).length<=b.length:=by
 unfold ptc
 rw[List.length_map]
 have:=List.length_filter_le (zbb b vl) (List.range b.length)
 rw[List.length_range] at this
 exact this
theorem zcQ(hb:Bd b)(hs:s<b.length)(h:zbb b vl s=true):(cpt b vl s).getD 0 0=s:=by
 have hmem:=zb2 (vl:=vl) hb hs
 unfold zbb at h
 rw[List.all_eq_true] at h
 have srt:(cpt b vl s).Pairwise (·<·):=List.Pairwise.filter _ List.pairwise_lt_range
 cases e:cpt b vl s with
 | nil=>rw[e] at hmem;simp at hmem
 | cons a r =>
  rw[e] at hmem h srt
  have h1:s<=a:=of_decide_eq_true (h a (by simp))
  rcases List.mem_cons.mp hmem with h2|h2
  ·simp[h2]
  ·have:=(List.pairwise_cons.mp srt).1 s h2
   omega
end
end VS
namespace VS
open PySem PySem.Spec PyProof.Rows L2
mutual
def zeT(n:Nat)(ce:Ce):Nat->W->Option W
 | 0,.cel k=>if k<n then some (.cel k) else none
 | 0,.lst _=>none
 | 0,.tup _=>none
 | d+1,.cel k=>if k<n then some (.cel k) else match ce[k]? with
  | some (.lst xs)=>(zb7 n ce d xs).map .lst
  | _=>none
 | d+1,.lst xs=>(zb7 n ce d xs).map .lst
 | d+1,.tup xs=>(zb7 n ce d xs).map .tup
 | _,w=>some w
def zb7(n:Nat)(ce:Ce):Nat->List W->Option (List W)
 | _,[]=>some []
 | d,x::xs=>match zeT n ce d x,zb7 n ce d xs with
  | some y,some ys=>some (y::ys)
  | _,_=>none
end
section
variable {G:Ga} {F F2:Hp} {as as2:List Addr} {H:Hp} {ce:Ce} {n:Nat}
theorem zh7(h:∀{w w2:W} {v:V},zeT n ce d w=some w2->Rep F as w v->Rep F2 as2 w2 v):∀{ws ws2:List W} {vs:List V},zb7 n ce d ws=some ws2->Reps F as ws vs->Reps F2 as2 ws2 vs
 | [],ws2,vs,e,r=>by
  simp only[zb7,Option.some.injEq] at e
  subst e
  simp only[Reps] at r
  subst r
  exact .nil
 | x::xs,ws2,vs,e,r=>by
  simp only[zb7] at e
  simp only[Reps] at r
  obtain⟨v,r',rfl,q,s⟩:=r
  split at e
  ·rename_i y ys e1 e2
   cases e
   exact .cons (h e1 q) (zh7 h e2 s)
  ·cases e
theorem zh8(S:Store G F as H ce)(hF:∀a o,F a=some o->F2 a=some o)(hc:∀(k:Nat) (a:Addr) (xs:List W) (vs:List V),n<=k->as[k]?=some a->ce[k]?=some (.lst xs)->H a=some (.lst vs)->F2 a=some (.lst vs))(ha:∀(k:Nat) (a:Addr),k<n->as[k]?=some a->as2[k]?=some a):∀(d:Nat) {w w2:W} {v:V},zeT n ce d w=some w2->Rep F as w v->Rep F2 as2 w2 v:=by
 have rd:∀{a:Addr} {o:HO},Rd F a o->Rd F2 a o:=fun r=>by
  rcases r with r|⟨u,r⟩
  ·exact .inl (hF _ _ r)
  ·exact .inr ⟨u,hF _ _ r⟩
 have low:∀{k:Nat} {v:V},k<n->Rep F as (.cel k) v->Rep F2 as2 (.cel k) v:=fun hk r=>by
  simp only[Rep] at r ⊢
  obtain⟨a,rfl,q⟩:=r
  exact⟨a,rfl,ha _ _ hk q⟩
 intro d
 induction d with
 | zero =>
  intro w w2 v e r
  cases w<;>simp only[zeT,Option.some.injEq,reduceCtorEq] at e
  case cel k =>
   split at e
   ·rename_i hk
    cases e
    exact low hk r
   ·cases e
  all_goals (subst e;simp only[Rep] at r ⊢;exact r)
 | succ d ih =>
  have ihs:∀{ws ws2:List W} {vs:List V},zb7 n ce d ws=some ws2->Reps F as ws vs->Reps F2 as2 ws2 vs:=fun e r=>zh7 ih e r
  intro w w2 v e r
  cases w<;>simp only[zeT,Option.some.injEq] at e
  case cel k =>
   split at e
   ·rename_i hk
    cases e
    exact low hk r
   ·rename_i hk
    split at e
    ·rename_i xs hx
     obtain⟨ys,e1,rfl⟩:=Option.map_eq_some_iff.mp e
     simp only[Rep] at r
     obtain⟨a,rfl,q⟩:=r
     obtain⟨_,vs,h2,rs⟩:=S.cell _ _ _ q hx
     simp only[Rep]
     exact⟨a,vs,rfl,.inl (hc k a xs vs (by omega) q hx h2),ihs e1 rs⟩
    ·cases e
  case lst xs =>
   obtain⟨ys,e1,rfl⟩:=Option.map_eq_some_iff.mp e
   simp only[Rep] at r ⊢
   obtain⟨a,vs,rfl,h2,rs⟩:=r
   exact⟨a,vs,rfl,rd h2,ihs e1 rs⟩
  case tup xs =>
   obtain⟨ys,e1,rfl⟩:=Option.map_eq_some_iff.mp e
   simp only[Rep] at r ⊢
   obtain⟨a,vs,rfl,h2,rs⟩:=r
   exact⟨a,vs,rfl,hF _ _ h2,ihs e1 rs⟩
  all_goals (subst e;simp only[Rep] at r ⊢;exact r)
end
open Classical in
def zlB(d:List W->M W):List W->M W:=fun ws ce=>match d ws ce with
 | some (.ok w ce')=>if zeQ ce ce' then match zeT ce.length ce' 6 w with
  | some w2=>some (.ok w2 (ce'.take ce.length))
  | none=>none
  else none
 | r=>r
open Classical in
theorem zkg{P:Program}{w:World}{K:PySem.W.Frag}{mg:Str->Option Value}{base:Heap}{CX:CXT}{k n:Nat}{f:Addr}{fd:FuncData}{ps:List Str}{G:Ga}{fe:XK->XK}{d:List W->M W}(h:FnOk P w K mg base CX k f fd ps (spV G fe n d)):FnOk P w K mg base CX k f fd ps (spV G fe n (zlB d)):=by
 refine h.imp fun vs H Q E ⟨hl,F,as,ws,ce,S,rs,Pf⟩=>⟨hl,F,as,ws,ce,S,rs,?_⟩
 revert Pf
 unfold zlB
 cases d ws ce with
 | none=>exact fun P=>P
 | some r=>cases r with
  | ex x ce'=>exact fun P=>P
  | ok w ce' =>
   dsimp only
   intro Pf v H' F' as' l S' rv
   split at Pf
   ·rename_i h1
    split at Pf
    ·rename_i w2 e2
     obtain⟨S2,l2⟩:=S.cut S' l h1
     let isC:Addr->Prop:=fun a=>∃(k:Nat) (xs:List W),ce.length<=k/\as'[k]?=some a/\ce'[k]?=some (.lst xs)
     let F2:Hp:=fun a=>if isC a then H' a else F' a
     have sub:∀a o,F' a=some o->F2 a=some o:=fun a o e=>by
      have:¬isC a:=by
       rintro⟨k,xs,_,e1,e3⟩
       have:=(S'.cell k a _ e1 e3).1 rfl
       rw[this] at e
       cases e
      show(if isC a then H' a else F' a)=_
      rw[if_neg this];exact e
     have l3:Le F' (as'.take ce.length) F2 (as'.take ce.length):=⟨sub,fun _ _ h=>h⟩
     refine Pf v H' F2 (as'.take ce.length) (l2.trans l3) ⟨fun b o e=>?_,S2.nd,S2.len,fun i b c e1 e3=>?_⟩ ?_
     ·have e:(if isC b then H' b else F' b)=some o:=e
      split at e
      ·exact e
      ·exact S'.sub _ _ e
     ·obtain⟨p1,p2⟩:=S2.cell i b c e1 e3
      refine⟨fun hn=>?_,p2.le l3 rfl⟩
      show(if isC b then H' b else F' b)=none
      rw[if_neg]
      ·exact p1 hn
      ·rintro⟨k,xs,hk,e4,_⟩
       have hi:i<ce.length:=by have:=zaB e3;rw[List.length_take] at this;omega
       rw[zbH hi] at e1
       have a1:=zaB e4
       have a2:=zaB e1
       rw[List.getElem?_eq_getElem a1] at e4
       rw[List.getElem?_eq_getElem a2] at e1
       have:=zhO S'.nd a1 a2 ((Option.some.inj e4).trans (Option.some.inj e1).symm)
       omega
     ·refine zh8 S' sub (fun k a xs vs hk e1 e3 e4=>?_) (fun k a hk e1=>by rw[zbH hk];exact e1) 6 e2 rv
      show(if isC a then H' a else F' a)=_
      rw[if_pos ⟨k,xs,hk,e1,e3⟩]
      exact e4
    ·exact Pf.elim
   ·exact Pf.elim
def zkO(ce:Ce)(w:W):Option W:=zeT 0 ce 6 w
theorem zh9{G:Ga}{F:Hp}{as:List Addr}{H:Hp}{ce:Ce}{w w2:W}{v:V}(S:Store G F as H ce)(r:Rep F as w v)(e:zkO ce w=some w2):Rep H as w2 v :=
 zh8 S S.sub (fun k a xs vs _ _ _ h=>h) (fun k a hk _=>absurd hk (Nat.not_lt_zero _)) 6 e r
def eqD(ng:Bool)(ce:Ce)(x y:W):Option W:=match zkO ce x,zkO ce y with
 | some x',some y'=>if (cln 8 x'&&cln 8 y')=true then some (.bl (if ng then !peq x' y' else peq x' y')) else none
 | _,_=>none
theorem zhk(ng:Bool):OpC (zqq ng) (eqD ng):=by
 intro G F as H ce x y wx wy w S rx ry e Q q
 unfold eqD at e
 split at e
 ·rename_i x' y' e1 e2
  split at e
  ·rename_i hc
   rw[Bool.and_eq_true] at hc
   cases e
   exact⟨as,_,_,zh9 S rx e1,zh9 S ry e2,hc.1,hc.2,q _ (by simp only[Rep])⟩
  ·cases e
 ·cases e
section
variable {X:Cx} {G:Ga} {E:XK} {a b:Expr} {da db:Sl->M W} {pos:Pos}
theorem zpJ(hu:X.A.units+8<cLine)(ha:PE X a (zaD G E da))(hb:PE X b (zaD G E db)):PE X (.Compare a [.Eq] [b] pos) (zaD G E (zay (eqD false) da db)):=PE.imp (zfs (zhU hu) ha hb (zcv _)) (zbC (zhk false))
theorem zpK(hu:X.A.units+8<cLine)(ha:PE X a (zaD G E da))(hb:PE X b (zaD G E db)):PT X (.Compare a [.Eq] [b] pos) (zcp G E (dB (zay (eqD false) da db))):=zfv (zhU hu) ha hb (zcv _) (zbC (zhk false))
theorem zew(hu:X.A.units+8<cLine)(ha:PE X a (zaD G E da))(hb:PE X b (zaD G E db)):PT X (.Compare a [.NotEq] [b] pos) (zcp G E (dB (zay (eqD true) da db))):=zfv (zl8 hu) ha hb (zcv _) (zbC (zhk true))
end
end VS
namespace VS
open L2
section
variable {sl:Sl} {ce c1 c2 c3:Ce} {e o i:Sl->M W} {w x y:W} {xs:List W} {k j:Nat} {b:DS} {Q:O->Prop} {p q:Nat} {ij:Int}
theorem zhl{n j:Nat}(h:j<n):ixN n (j:Int)=some j:=by
 unfold ixN
 rw[if_pos (by omega),if_pos (by omega)]
 simp
theorem zlC{n:Nat}(h:0<n):ixN n (-1)=some (n-1):=by
 unfold ixN
 rw[if_neg (by omega),if_pos (by omega)]
 congr 1
 omega
theorem zsp(he:e sl ce=some (.ok w c1))(ho:o sl c1=some (.ok (.cel k) c2))(hi:i sl c2=some (.ok (.int ij) c3))(g:c3[k]?=some (.lst xs))(hj:ixN xs.length ij=some j) :
  zg7 e (zdW o i) sl ce=some (.go .nx sl (c3.set k (.lst (xs.set j w)))):=by
 simp only[zg7,lft,he,zdW,ho,hi,zen g,hj]
theorem zlD(he:e sl ce=some (.ok w c1))(ho:o sl c1=some (.ok (.cel k) c2))(hi:i sl c2=some (.ok (.int ij) c3))(g:c3[k]?=some (.lst xs))(hj:ixN xs.length ij=some j)(q:Q (.go .nx sl (c3.set k (.lst (xs.set j w))))) :
  Run (zg7 e (zdW o i)) sl ce Q:=⟨_,zsp he ho hi g hj,q⟩
theorem zd9(he:e sl ce=some (.ok w c1))(ho:o sl c1=some (.ok (.cel k) c2))(hi:i sl c2=some (.ok (.int ij) c3))(g:c3[k]?=some (.lst xs))(hj:ixN xs.length ij=some j)(q:Run b sl (c3.set k (.lst (xs.set j w))) Q) :
  Run (zaz (zg7 e (zdW o i)) b) sl ce Q:=zdJ (zsp he ho hi g hj) q
abbrev g2(p q:Nat):DG:=gT 2 (zc2 (gN p) (zc2 (gN q) zjO))
theorem zpL:g2 p q (.tup [x,y]) sl ce=some ((sl.set p (some x)).set q (some y),ce):=rfl
theorem zia(he:e sl ce=some (.ok (.tup [x,y]) c1))(q':Run b ((sl.set p (some x)).set q (some y)) c1 Q):Run (zaz (zg7 e (g2 p q)) b) sl ce Q :=
 zdJ (sl':=(sl.set p (some x)).set q (some y)) (ce':=c1) (by simp only[zg7,lft,he,zpL]) q'
variable {α:Type} {fa fb:α->W} {zs:List α} {di:Sl->M Src} {body:DS}
theorem zlE(hi:SrcFix di sl ce c1 (zs.map fun z=>.tup [fa z,fb z]))(R:List α->Sl->Ce->Prop)(h0:R [] sl c1)(step:∀d x r sl ce,d++x::r=zs->x∈zs->R d sl ce->Run body ((sl.set p (some (fa x))).set q (some (fb x))) ce (Nx (R (d++[x]))))(fin:∀sl ce,R zs sl ce->Run b sl ce Q):Run (zaz (zda di (g2 p q) body) b) sl ce Q:=by
 obtain⟨s,h1,h2,h3⟩:=hi
 obtain⟨o,e,q'⟩:=zfG (g:=g2 p q) (body:=body) (en:=fun z=>W.tup [fa z,fb z]) (src:=s) zs R (fun _ _=>False) (fun d x r sl ce e h=>⟨h3 _,_,zpL,(step d x r sl ce e (by rw[<- e];simp) h).mono fun o q=>by
   cases o with
   | ex x c=>exact q.elim
   | go f sl2 ce2=>cases f<;>first|exact q|exact q.elim⟩) (fun _ _ _=>h3 _) zs [] sl c1 rfl h0
 rcases q' with ⟨sl',ce',rfl,h⟩|⟨w,sl',ce',rfl,h⟩
 ·exact zdJ (by rw[zj0 h1,h2];exact e) (fin _ _ h)
 ·exact h.elim
end
structure Chg (ce b:Ce):Prop where
 len:b.length=ce.length
 cell:∀(k:Nat) (c:C),b[k]?=some c->ce[k]?=some c\/zgm ce.length c
theorem Chg.refl(ce:Ce):Chg ce ce:=⟨rfl,fun _ _ h=>.inl h⟩
theorem Chg.set{ce b:Ce}(h:Chg ce b)(k:Nat){x:C}(hx:zgm ce.length x):Chg ce (b.set k x) :=
 ⟨by rw[List.length_set];exact h.len,fun j c e=>by
  by_cases hj:k=j
  ·subst hj
   have hk:k<b.length:=by have:=(List.getElem?_eq_some_iff.mp e).1;rwa [List.length_set] at this
   rw[List.getElem?_set_self hk] at e
   cases e
   exact .inr hx
  ·rw[List.getElem?_set_ne hj] at e
   exact h.cell j c e⟩
theorem Chg.cut{ce b t:Ce}(h:Chg ce b):zeQ ce (b++t):=⟨by rw[List.length_append,h.len];omega,fun k c hk e=>h.cell k c (by rwa [List.getElem?_append_left (by rw[h.len];exact hk)] at e)⟩
theorem Chg.take{ce b t:Ce}(h:Chg ce b):(b++t).take ce.length=b:=by rw[<- h.len];exact List.take_left
namespace Own
variable {b ce c:Ce} {l:List (Nat×C)} {k:Nat} {x:C} {w:W}
theorem base_set(h:Own b c l)(hk:k<b.length)(x:C):Own (b.set k x) (c.set k x) l:=by
 obtain⟨⟨t,rfl⟩,h2,h3,h4⟩:=h
 refine⟨⟨t,by rw[List.set_append_left _ _ hk]⟩,fun p hp=>?_,fun p hp=>by rw[List.length_set];exact h3 p hp,h4⟩
 have:=h3 p hp
 rw[List.getElem?_set_ne (by omega)]
 exact h2 p hp
theorem low(h:Own b c l)(hk:k<b.length):c[k]?=b[k]?:=by
 obtain⟨⟨t,rfl⟩,_⟩:=h
 exact List.getElem?_append_left hk
theorem finC'(h:Own b c l)(g:Chg ce b)(hb:Bel ce.length w):VS.finC ce c w=some (.ok w b):=by
 obtain⟨⟨t,rfl⟩,_⟩:=h
 simp only[VS.finC,g.take]
 exact if_pos ⟨g.cut,hb⟩
theorem frzD'{d:List W->M W}{ws:List W}{w2:W}(e:d ws ce=some (.ok w c))(h:Own b c l)(g:Chg ce b)(ht:zeT ce.length c 6 w=some w2):zlB d ws ce=some (.ok w2 b):=by
 obtain⟨⟨t,rfl⟩,_⟩:=h
 simp only[zlB,e,ht,g.take]
 exact if_pos g.cut
end Own
def pW(p:Nat×Nat):W:=.tup [nW p.1,nW p.2]
section
variable {ce:Ce} {n:Nat}
theorem zfM(d:Nat)(k:Nat):zeT n ce d (nW k)=some (nW k):=by cases d<;>simp only[nW,zeT]
theorem zib(d:Nat):∀l:List Nat,zb7 n ce d (l.map nW)=some (l.map nW)
 | []=>by simp only[List.map_nil,zb7]
 | a::r=>by simp only[List.map_cons,zb7,zfM,zib d r]
theorem zfN(d:Nat):∀l:List (Nat×Nat),zb7 n ce (d+1) (l.map pW)=some (l.map pW)
 | []=>by simp only[List.map_nil,zb7]
 | a::r=>by simp only[List.map_cons,zb7,pW,zeT,zfM,zfN d r,Option.map_some]
end
end VS
namespace VS
open L2
section
variable {ce:Ce} {n:Nat}
theorem zdl(d:Nat):∀l:List (List Nat),zb7 n ce (d+1) (l.map wL)=some (l.map wL)
 | []=>by simp only[List.map_nil,zb7]
 | a::r=>by simp only[List.map_cons,zb7,wL,zeT,zib,zdl d r,Option.map_some]
theorem zkh:∀(l m:List Nat),peqs (l.map nW) (m.map nW)=decide (l=m):=fun l m=>by
 rw[zep,zep,zeq]
 have inj:(toI l=toI m)↔l=m:=by
  unfold toI
  exact⟨fun h=>by simpa using List.map_inj_right (f:=fun(x:Nat)=>(x:Int)) (fun x y h=>by have h:(x:Int)=(y:Int):=h;omega) |>.mp h,fun h=>by rw[h]⟩
 simp only[inj]
theorem zhm:∀(l m:List (List Nat)),peqs (l.map wL) (m.map wL)=decide (l=m)
 | [],[]=>by simp[peqs]
 | [],b::m=>by simp[peqs]
 | a::l,[]=>by simp[peqs]
 | a::l,b::m=>by
  simp only[List.map_cons,peqs,wL,peq,zkh,zhm l m,List.cons.injEq,Bool.decide_and]
theorem zic(d:Nat)(l:List (List Nat)):(l.map wL).all (cln (d+1))=true:=by
 rw[List.all_eq_true]
 intro w hw
 obtain⟨r,_,rfl⟩:=List.mem_map.mp hw
 simp only[wL,cln,zep]
 exact zcO _ _
theorem zid(ng:Bool)(l m:List (List Nat)):eqD ng ce (.lst (l.map wL)) (.lst (m.map wL))=some (.bl (if ng then !decide (l=m) else decide (l=m))):=by
 have h:∀l:List (List Nat),zkO ce (.lst (l.map wL))=some (.lst (l.map wL)):=fun l=>by simp only[zkO,zeT,zdl,Option.map_some]
 have c:∀l:List (List Nat),cln 8 (.lst (l.map wL))=true:=fun l=>zic 6 l
 simp only[eqD,h,c,Bool.and_self,if_true,peq,zhm]
theorem znF(l:List (List Nat)):eqD false ce (.lst (l.map wL)) (.lst [])=some (.bl (decide (l=[]))):=zid false l []
def Cls(ce:Ce)(ks:List Nat)(cs:List (List Nat)):Prop:=PySem.Paired (fun k c=>ce[k]?=some (.lst (c.map nW))) ks cs
end
end VS
namespace VS
open PySem PySem.Spec PyProof.Rows L2
open MeetsSeq (EqGives)
section
variable {X:Cx} {G:Ga} {E:XK} {o e:Expr} {es:List Expr} {name:Str} {apos cpos:Pos} {do':Sl->M W} {dr:Sl->M (List W)} {id:String} {rm:V->List V->Hp->VK->Prop} {fm:W->List W->M W}
open Classical in
def zs5:W->List W->M W:=fun w ws ce=>match w,ws with
 | .tup xs,[.int i]=>match zfA xs with
  | some ns=>if i∈ns then some (.ok (.int (ns.idxOf i:Nat)) ce) else none
  | none=>none
 | _,_=>none
def zpM:W->List W->M W:=fun w ws ce=>match zha ce w,ws with
 | some (k,xs),[]=>some (.ok .non (ce.set k (.lst xs.reverse)))
 | _,_=>none
theorem zrK:Mt G E zhK zpM:=by
 intro F as H σ sl ce w v ws vs Q S rw' rs P
 revert P
 unfold zpM
 split
 ·rename_i k xs hc
  intro P
  cases w<;>simp only[zha,reduceCtorEq] at hc
  rename_i k'
  split at hc
  ·rename_i ys hy
   cases hc
   simp only[Rep] at rw'
   obtain⟨a,rfl,ha⟩:=rw'
   obtain⟨_,us,h2,r2⟩:=S.st.cell _ _ _ ha hy
   simp only[Reps] at rs
   subst rs
   refine⟨a,us,rfl,rfl,h2,P .non _ F as .refl (S.slots (S.st.write (o:=.lst us.reverse) (c:=.lst xs.reverse) ha ⟨_,zaM,r2.reverse⟩) .refl) (by simp only[Rep])⟩
  ·cases hc
 ·exact fun P=>P.elim
end
section
variable {X:Cx} {G:Ga} {E:XK} {tg a:Expr} {da:Sl->M W}
end
end VS
namespace VS
open L2
section
variable {sl:Sl} {ce c1 c2 c3:Ce} {a b:Sl->M W} {w x y:W} {xs ws:List W} {n:Nat} {ra:Sl->M (List W)}
theorem zpN(ha:a sl ce=some (.ok (.bl true) c1))(hb:b sl c1=some (.ok w c2)):zi1 a b sl ce=some (.ok w c2):=by simp only[zi1,bnd,ha,hb]
end
section
variable {ce:Ce} {k:Nat} {xs:List W}
theorem zpO(g:ce[k]?=some (.lst xs)):zpM (.cel k) [] ce=some (.ok .non (ce.set k (.lst xs.reverse))):=by simp only[zpM,zen g]
end
end VS
namespace VS
open PySem PySem.Spec PyProof.Rows L2
section
variable {X:Cx} {G:Ga} {E:XK} {a b:Expr} {da db:Sl->M W} {pos:Pos}
end
end VS
namespace VS
open PySem PySem.Spec PyProof.Rows L2 HT
section
variable {prog:Program} {w:World} {A:Around} {E:Value->Shared->Prop} {s:Shared}
end
section
variable {X:Cx} {G:Ga} {E:XK} {a:Expr} {da:Sl->M W} {pos:Pos}
end
end VS
namespace VS
open PySem PySem.Spec PyProof.Rows L2
end VS
namespace L2
open PySem PySem.Spec PyProof.Rows
theorem ObjOk.there{P:Program}{w:World}{H:Hp}{h:Heap}{a:Addr}{o:HO}(x:ObjOk P w H h a o):∃u,h.get? a=some u:=by
 cases o with
 | lst xs=>obtain⟨_,_,_,_,e⟩:=x;exact⟨_,e⟩
 | tup xs=>obtain⟨_,_,_,u,e,_⟩:=x;exact⟨_,e⟩
 | dK kvs=>obtain⟨_,_,_,_,o,_,_,e,_⟩:=x;exact⟨_,e⟩
 | dT kvs=>obtain⟨_,_,_,_,o,_,_,e,_⟩:=x;exact⟨_,e⟩
 | set S n=>obtain⟨o,_,_,_,e,_⟩:=x;exact⟨_,e⟩
 | ins C dx fs=>obtain⟨_,_,_,e,_⟩:=x;exact⟨_,e⟩
 | own y=>exact x
 | xd fs=>obtain⟨_,⟨_,_,_,e,_⟩,_⟩:=x;exact⟨_,e⟩
 | rng lo hi=>obtain⟨_,_,_,e⟩:=x;exact⟨_,e⟩
 | frz ob u=>obtain⟨e,_⟩:=x;exact⟨_,e⟩
 | tbl ps=>exact⟨_,x⟩
 | met f y=>exact⟨_,x⟩
 | ext φ=>exact x.2.1
def Fl(N:Addr->Prop)(a:Addr)(cls:Value)(H:Hp)(h:Heap):Prop :=
 ∃oe vs a0,N a/\H a=none/\h.get? a=some oe/\oe.cls=cls/\oe.data=.fields vs/\vs[0]?=some a0 /\
  (vs[1]?=some .none\/∃T oT ts,vs[1]?=some (.ref T)/\N T/\H T=none/\T≠a/\h.get? T=some oT/\oT.data=.fields ts/\ts[3]?=some .none)
theorem Fl.mono{N N':Addr->Prop}{a:Addr}{cls:Value}{H:Hp}{h:Heap}(f:Fl N a cls H h)(k:∀b,N b->N' b):Fl N' a cls H h:=by
 obtain⟨oe,vs,a0,n,h1,h2,h3,h4,h5,h6⟩:=f
 refine⟨oe,vs,a0,k _ n,h1,h2,h3,h4,h5,h6.imp id fun⟨T,oT,ts,e1,e2,e⟩=>⟨T,oT,ts,e1,k _ e2,e⟩⟩
theorem zlF{M:Model}{A:Around}{E:Value->Shared->Prop}{s:Shared}{B:Heap}{env:Env}{outer:List Env}{L a:Addr}{oe:Obj}{vs:Array Value}{a0:Value}{Q:Unit->Shared->Prop}(hfr:A.frames=some (env::outer))(hl:s.heap.FunFrames B (env::outer))(hf:env.frame=some L)(he:s.heap.get? a=some oe)(hkb:B.StaysIn s.heap)(hen:B.get? a=none)(hd:oe.data=.fields vs)(h0:vs[0]?=some a0)(h1:vs[1]?=some .none\/∃T oT ts,vs[1]?=some (.ref T)/\B.get? T=none/\T≠a/\s.heap.get? T=some oT/\oT.data=.fields ts/\ts[3]?=some .none)(hQ:∀h',Heap.NotedW B (env::outer) a oe.cls a0 (rawInt L) s.heap h'->Q () { s with heap:=h' }):wpAny M A (noteFrame (.ref a) env) Q E s:=by
 rcases h1 with h1|⟨T,oT,ts,h1,hnT,hTe,hT,hdT,h3⟩
 ·unfold noteFrame
  simp only[hf]
  refine wpAny_bind (wpAny_field he hd h1 ?_)
  rw[if_neg (by decide)]
  exact wpAny_entryW hfr hl hf he hkb hen hd (Array.getElem?_eq_some_iff.mp h1).1 h0 hQ
 ·exact wpAny_noteFrame_onW hfr hl hf ⟨oe,vs,T,oT,ts,he,⟨rfl,h0⟩,hd,h1,hnT,hTe,hT,hdT,h3⟩ hkb hen hQ
structure Flown (stk:List Addr) (N:Addr->Prop) (H:Hp) (a:Addr) (cls:Value) (h h':Heap):Prop where
 keep:∀b o,h.get? b=some o->b∉stk->(H b≠none\/¬N b\/∀vs,o.data≠.fields vs)->h'.get? b=some o
 slot:∀b o,h.get? b=some o->b∈stk->∃sl,h'.get? b=some { o with slots:=sl }
 fl:Fl (fun b=>N b\/h.get? b=none) a cls H h'
theorem flown{X:Cx}{M:Model}{A':Around}{E:Value->Shared->Prop}{pins:List (Addr×Obj)}{σ:St}{H:Hp}{s:Shared}{N:Addr->Prop}{a:Addr}{cls:Value}{Q:Unit->Shared->Prop}(I:Inv X pins σ H s)(hst:X.stack=X.env::X.outer)(hf:X.env.frame=some X.env.locals)(f:Fl N a cls H s.heap)(hQ:∀h',Flown (frs X.stack) N H a cls s.heap h'->Q () { s with heap:=h' }) :
  wpAny M X.A (noteFrame (.ref a) X.env) (fun _ s₂=>wpAny M A' (setFlight (.ref a) none) Q E s₂) E s:=by
 obtain⟨oe,vs,a0,na,ha,he,rfl,hd,h0,h1⟩:=f
 have hstk:=I.stack
 have hfree:=I.stkFree
 have hfr:=I.ok.frames
 obtain⟨hid,hh1,hh2,hh3,hh4⟩:∃hid:List Addr,(∀b∈frs X.stack,b∈hid)/\a∈hid/\(∀b∈hid,b∈frs X.stack\/(N b/\H b=none/\∃o vs,s.heap.get? b=some o/\o.data=.fields vs)) /\
   (vs[1]?=some .none\/∃T oT ts,vs[1]?=some (.ref T)/\T∈hid/\T≠a/\s.heap.get? T=some oT/\oT.data=.fields ts/\ts[3]?=some .none):=by
  rcases h1 with h1|⟨T,oT,ts,h1,nT,hT,hTa,r⟩
  ·refine⟨frs X.stack++[a],fun b hb=>List.mem_append_left _ hb,List.mem_append_right _ (by simp),fun b hb=>?_,.inl h1⟩
   rcases List.mem_append.mp hb with hb|hb
   ·exact .inl hb
   ·rw[List.mem_singleton] at hb;subst hb;exact .inr ⟨na,ha,_,_,he,hd⟩
  ·obtain⟨hT1,hT2,hT3⟩:=r
   refine⟨frs X.stack++[a,T],fun b hb=>List.mem_append_left _ hb,List.mem_append_right _ (by simp),fun b hb=>?_,.inr ⟨T,oT,ts,h1,List.mem_append_right _ (by simp),hTa,hT1,hT2,hT3⟩⟩
   rcases List.mem_append.mp hb with hb|hb
   ·exact .inl hb
   ·rcases List.mem_cons.mp hb with rfl|hb
    ·exact .inr ⟨na,ha,_,_,he,hd⟩
    ·rw[List.mem_singleton] at hb;subst hb;exact .inr ⟨nT,hT,_,_,hT1,hT2⟩
 have hin:∀env∈X.env::X.outer,∀b,env.frame=some b->b∈hid:=fun env he b hb=>hh1 b (List.mem_filterMap.mpr ⟨env,by rw[hst];exact he,hb⟩)
 have hl:s.heap.FunFrames (PySem.W.hideAll s.heap hid) (X.env::X.outer):=PySem.W.funFrames_hide (by rw[<- hst];exact hstk) hin
 refine zlF (by rw[hfr,hst]) hl hf he (fun b o q=>PySem.W.of_hideAll _ q) (PySem.W.hideAll_none _ hh2) hd h0 (hh4.imp id fun⟨T,oT,ts,e1,e2,e3,e4⟩=>⟨T,oT,ts,e1,PySem.W.hideAll_none _ e2,e3,e4⟩) fun h1 z=>?_
 obtain⟨z1,z2,z3,z4⟩:=z
 refine wpAny_landsW (base:=PySem.W.hideAll s.heap hid) (l:=X.env::X.outer) (cls:=oe.cls) (a0:=a0) ⟨z1,PySem.W.hideAll_none _ hh2,z2,z3⟩ fun h2 y1 y2=>hQ h2 ?_
 have up:∀b o,s.heap.get? b=some o->(∀vs,o.data≠.fields vs)->∃sl,h2.get? b=some { o with slots:=sl }:=fun b o e n=>by
  obtain⟨s1,e1⟩:=z4 b o e n
  obtain⟨s2,e2⟩:=y2 b _ e1 n
  exact⟨s2,e2⟩
 have sl:∀b o,s.heap.get? b=some o->b∈frs X.stack->∃sl,h2.get? b=some { o with slots:=sl }:=fun b o e hb=>by
  obtain⟨_,o',e',n⟩:=hstk.mem hb
  rw[e] at e';cases e'
  exact up b o e n
 obtain⟨y1,y3,y4,oe',vs',T',oT',ts',t1,⟨t2,t3⟩,t4,t5,t6,t7,t8,t9,t10⟩:=y1
 refine⟨fun b o e hb hc=>?_,sl,oe',vs',a0,.inl na,ha,t1,t2,t4,t3,.inr ⟨T',oT',ts',t5,?_,?_,t7,t8,t9,t10⟩⟩
 ·refine y1 b o (PySem.W.hideAll_get _ e fun hm=>?_)
  rcases hh3 b hm with q|⟨q1,q2,o',vs',q3,q4⟩
  ·exact hb q
  ·rcases hc with hc|hc|hc
   ·exact hc q2
   ·exact hc q1
   ·rw[e] at q3;cases q3;exact hc _ q4
 all_goals
  cases q:s.heap.get? T' with
  | none =>
   first
    | exact .inr q
    | (cases q2:H T' with
       | none=>rfl
       | some u=>obtain⟨u',e'⟩:=(I.hok T' u q2).there;rw[q] at e';cases e')
  | some o =>
   have hm:T'∈hid:=by
    apply Classical.byContradiction
    intro hm
    have:=PySem.W.hideAll_get _ q hm
    rw[t6] at this;cases this
   rcases hh3 T' hm with hs|⟨q1,q2,_⟩
   ·exfalso
    obtain⟨_,o',e',n⟩:=hstk.mem hs
    rw[q] at e';cases e'
    obtain⟨s2,e2⟩:=up T' o q n
    rw[t8] at e2;cases e2
    exact n _ t9
   ·first|exact .inl q1|exact q2
def CXx(P:Program)(w:World):CXT:=fun outer H s E e s'=>∃a cls H',e=.ref a/\s'.os=s.os/\AllBare s'.gens/\Un (frs outer) [] H H' s.heap s'.heap/\HOk P w H' s'.heap/\Fl (fun b=>s.heap.get? b=none) a cls H' s'.heap/\E cls none H'
def Nw(X:Cx)(pins:List (Addr×Obj))(b:Addr):Prop:=X.s₀.heap.get? b=none/\∀p∈X.pn++pins,p.1≠b
def Flies(X:Cx)(E:XK):Prop:=∀(pins:List (Addr×Obj)) (σ:St) (H:Hp) (s:Shared) (a:Addr) (cls:Value),Inv X pins σ H s->Fl (Nw X pins) a cls H s.heap->E cls none H->X.xe (.ref a) s
theorem zki{X:Cx}{pins:List (Addr×Obj)}{σ:St}{H:Hp}{s:Shared}{b:Addr}(hx:X.ex=[])(I:Inv X pins σ H s)(h:s.heap.get? b=none):Nw X pins b:=by
 refine⟨?_,fun p hp e=>?_⟩
 ·cases q:X.s₀.heap.get? b with
  | none=>rfl
  | some o =>
   obtain⟨o',e⟩:=I.base.there b o q (by rw[hx];simp)
   rw[h] at e;cases e
 ·obtain⟨e1,_⟩:=I.pin p hp
  rw[e,h] at e1;cases e1
theorem Flies.passes{X:Cx}{E:XK}(h:Flies X E)(hx:X.ex=[]):zf6 (CXx X.prog X.w) X E:=fun pins σ H s e s' I z=>by
 obtain⟨a,cls,H',rfl,ho,hg,u,hok,f,q⟩:=z
 exact h pins σ H' s' a cls (I.call' ho u hok hg (fun b z=>absurd z (by simp))) (f.mono fun b hb=>zki hx I hb) q
theorem zco{X:Cx}:zf6 (CXx X.prog X.w) X E0:=fun _ _ _ _ _ _ _ z=>by
 obtain⟨_,_,_,_,_,_,_,_,_,q⟩:=z
 exact q.elim
theorem flies_cxOf{P:Program}{w:World}{K:PySem.W.Frag}{mg:Str->Option Value}{base:Heap}{N:List Str}{qual:Str}{scope:Scope}{f:Addr}{cd:Value}{A:Around}{outer:List Env}{s:Shared}{H:Hp}{E:XK} :
  Flies (ziZ (CXx P w) P w K mg base N qual scope f cd A outer s H E) E:=by
 intro pins σ H1 s1 a cls I fl q
 show wpAny (model P w) _ (leaving _ _) _ _ s1
 unfold leaving
 refine wpAny_bind (flown I rfl rfl fl fun h' F=>?_)
 have hb:=I.base
 have hstk:=I.stack
 have hlt:∀b o,s.heap.get? b=some o->b≠(ziZ (CXx P w) P w K mg base N qual scope f cd A outer s H E).env.locals:=fun b o e q=>absurd (Heap.lt_size e) (by rw[q];exact Nat.not_lt.mpr I.ok.above)
 have hfs:∀b,b∈frs (ziZ (CXx P w) P w K mg base N qual scope f cd A outer s H E).stack->b=(ziZ (CXx P w) P w K mg base N qual scope f cd A outer s H E).env.locals\/b∈frs outer:=fun b hb=>List.mem_cons.mp (I.stkSub b hb)
 have hout:∀b,b∈frs outer->b∈frs (ziZ (CXx P w) P w K mg base N qual scope f cd A outer s H E).stack:=fun b hb=>by
  obtain⟨env,h1,h2⟩:=List.mem_filterMap.mp hb
  exact List.mem_filterMap.mpr ⟨env,List.mem_cons_of_mem _ h1,h2⟩
 refine⟨a,cls,H1,rfl,I.os,I.bare,⟨fun b o e n h1 h2=>?_,fun b o e n h1 h2=>?_,fun b o e n h2=>hb.free b o e n h2,fun b o e h2=>?_,hb.tups,hb.frzs,hb.tbls⟩,fun b o e=>?_,F.fl.mono fun b hb'=>?_,q⟩
 ·have e1:=hb.keep b o e n h1 h2
  refine F.keep b o e1 (fun hm=>?_) (.inr<|.inl fun hn=>by have z:s.heap.get? b=none:=hn.1;rw[z] at e;cases e)
  rcases hfs b hm with z|z
  ·exact hlt b o e z
  ·exact h1 z
 ·obtain⟨sl,e1⟩:=hb.slot b o e n h1 h2
  obtain⟨s2,e2⟩:=F.slot b _ e1 (hout b h1)
  exact⟨s2,e2⟩
 ·obtain⟨o',e1⟩:=hb.there b o e h2
  by_cases hm:b∈frs (ziZ (CXx P w) P w K mg base N qual scope f cd A outer s H E).stack
  ·obtain⟨s2,e2⟩:=F.slot b o' e1 hm
   exact⟨_,e2⟩
  ·exact⟨o',F.keep b o' e1 hm (.inr<|.inl fun hn=>by have z:s.heap.get? b=none:=hn.1;rw[z] at e;cases e)⟩
 ·refine(I.hok b o e).stay (fun c u hc r=>?_) (fun _ q=>q) fun _ _ q=>q
  have hH:H1 c≠none:=by
   rcases hc with rfl|hc
   ·rw[e];simp
   ·rw[hc];simp
  exact F.keep c u r (fun hm=>hH (I.stkFree c hm)) (.inl hH)
 ·rcases hb' with hb'|hb'
  ·exact hb'.1
  ·exact(zki (pins:=pins) rfl I hb').1
theorem Fun.okX{P:Program}{w:World}{K:PySem.W.Frag}{mg:Str->Option Value}{base:Heap}{x qual:Str}{st:Stmt}{f:Addr}{fd:FuncData}{N ps:List Str}{k:Nat}{sp:Sp}(F:Fun K x qual st f fd)(S:FnScope N ps (zae st))(len:∀vs H Q E,sp vs H Q E->vs.length=ps.length)(hbody:∀(cdv:Value) (A:Around) (outer:List Env) (s:Shared) (H:Hp) (vs:List V) (Q:VK) (E:XK),Room k (A.deeper (envOfC qual (zae st) s.heap.objs.size f cdv))->sp vs H Q E ->
   ∃t,PSs (ziZ (CXx P w) P w K mg base N qual (zae st) f cdv A outer s H E) (zaq st) t/\t { nx:=fun _ H'=>Q .non H',rt:=Q } (start N vs) H):FnOk P w K mg base (CXx P w) (k+1) f fd ps sp:=by
 obtain⟨oc,od,kV,doc,pm,an,cdv,ct,osl,rfl,lk,hcd⟩:=F.ex
 refine zqZ lk hcd S len fun A outer s H vs Q E hr hsp=>?_
 obtain⟨t,h,q⟩:=hbody cdv A outer s H vs Q E hr hsp
 exact⟨t,h,q⟩
end L2
namespace L2
open PySem PySem.Spec PyProof.Rows
def bmV:List Value:=[.type "ValueError",.type "Exception",.type "BaseException",.type "object"]
def XC(K:PySem.W.Frag)(C:Addr):Prop:=PySem.W.excIn K C bmV "ValueError.__new__" = true
theorem XC.obj{K:PySem.W.Frag}{h:Heap}{C:Addr}(q:XC K C)(X:K.In h):∃bm N nm qn bs hdct sn sub ab col dd k0 k1 k2 k3 k5 mN,
  h.get? C=some (excClassObj nm qn C N bs bm hdct sn sub ab col dd k0 k1 k2 k3 k5 "ValueError.__new__")/\h.Ns N mN/\mN "__init__" = none/\OwnTail h bmV bm:=by
 unfold XC PySem.W.excIn at q
 split at q
 case h_2=>cases q
 rename_i dd cd sl ho
 split at q
 case h_2=>cases q
 rename_i C' bm k0 k1 k2 k3 n k5 hm hs
 simp only[Bool.and_eq_true,beq_iff_eq,Bool.not_eq_true'] at q
 obtain⟨⟨⟨⟨⟨rfl,rfl⟩,hdel⟩,ht⟩,hok⟩,hni⟩:=q
 obtain⟨nm,bs,mro,ns,qn,hd,sn,sub,ab,col,del⟩:=cd
 dsimp only at hm hdel hok hni
 subst hm hdel
 have hsl:sl=#[k0,k1,k2,k3,some (.builtin "ValueError.__new__"),k5]:=by
  obtain⟨l⟩:=sl
  simp only at hs
  rw[hs]
 subst hsl
 exact⟨bm,ns,nm,qn,bs,hd,sn,sub,ab,col,dd,k0,k1,k2,k3,k5,_,X _ _ ho,.of_isNs (PySem.W.isNs_of_in X hok),PySem.W.nsMap_none_of_in X hok hni,PySem.W.tail_of_in X ht⟩
section
variable {X:Cx}
def PM(X:Cx)(e:Expr)(t:St->Prop):Prop:=∀(pins:List (Addr×Obj)) (s:Shared) (σ:St) (H:Hp),Inv X pins σ H s->t σ->wpAny (model X.prog X.w) X.A (eval e X.env) (fun u s'=>(∃y tk,u=.str y tk/\y.length<=1000)/\Inv X pins σ H s') X.xe s
def PX(X:Cx)(e:Expr)(t:St->Prop):Prop:=∀(pins:List (Addr×Obj)) (s:Shared) (σ:St) (H:Hp),Inv X pins σ H s->t σ->wpAny (model X.prog X.w) X.A (eval e X.env) (fun u s'=>Inv X pins σ H s') X.xe s
def PMs(X:Cx)(es:List Expr)(t:St->Prop):Prop:=∀(out:Str) (pins:List (Addr×Obj)) (s:Shared) (σ:St) (H:Hp),out.length+1000*es.length<=sizeLine->Inv X pins σ H s->t σ->wpAny (model X.prog X.w) X.A (joinParts out (evalEach es X.env)) (fun u s'=>Inv X pins σ H s') X.xe s
theorem zie{x:Str}{j:Nat}{pos:Pos}(hx:x.length<=1000:=by decide):PM X (.Constant (.str x) j pos) (fun _=>True):=fun pins s σ H I _=>Calls.Constant_str ⟨⟨x,_,rfl,hx⟩,I.tok _⟩
theorem zpP{e:Expr}{pos:Pos}{n:Int}{s:Shared}{pins:List (Addr×Obj)}{σ:St}{H:Hp}(hn:n.natAbs<1000)(I:Inv X pins σ H s)(tk:Tok) :
  wpAny (model X.prog X.w) X.A (formatField (.int n tk) Str.empty) (fun u s'=>(∃y tk,u=.str y tk/\y.length<=1000)/\Inv X pins σ H s') X.xe s:=by
 have hl:n.natAbs.log2<100:=by
  by_cases h0:n.natAbs=0
  ·rw[h0];decide
  ·exact(Nat.log2_lt h0).mpr (Nat.lt_of_lt_of_le hn (by decide))
 refine formatField_int_small (by omega) ⟨⟨_,_,rfl,?_⟩,I.tok _⟩
 have e:=int_text_length_le (k:=100) (by decide) hl
 show(Str.ofString (toString n)).length<=1000
 rw[PySem.ofString_length];omega
theorem zms{x:Str}{p pos:Pos}(i:Nat)(hN:X.N[i]?=some x:=by rfl)(hv:Vis X.env.scope x:=by first|exact Or.inl rfl|exact Or.inr (Or.inl rfl)|exact Or.inr (Or.inr rfl))(hd:(x==("__debug__" : Str))=false:=by decide)(hcd:(x==("__classdict__" : Str))=false:=by decide):PM X (.FormattedValue (.Name x p) (-1) none pos) (fun σ=>∃n:Int,σ[i]?=some (some (.int n))/\n.natAbs<1000):=fun pins s σ H I ⟨n,e,hn⟩=>by
 refine FormattedValue_plain (thn (zlZ (pos:=p) hN hv hd hcd pins s σ H (fun v H'=>v=.int n/\H'=H) I ⟨.int n,e,rfl,rfl⟩) fun u s1 ⟨v,H1,I1,r,hv,hH⟩=>?_)
 subst hv;subst hH
 obtain⟨tk,rfl⟩:∃tk,u=.int n tk:=r
 exact zpP (e:=.Name x p) (pos:=pos) hn I1 tk
theorem zkj:PMs X [] (fun _=>True):=fun out pins s σ H hl I _=>joinParts_nil (I.tok _) (by simpa using hl)
theorem zcR{e:Expr}{es:List Expr}{t t':St->Prop}(h1:PM X e t)(h2:PMs X es t'):PMs X (e::es) (fun σ=>t σ/\t' σ):=fun out pins s σ H hl I q=>by
 show wpAny _ _ (joinParts out (eval e X.env::evalEach es X.env)) _ _ _
 refine joinParts_cons (thn (h1 pins s σ H I q.1) fun u s1 ⟨⟨y,tk,hu,hy⟩,I1⟩=>?_)
 subst hu
 have hz:(out++y).length=out.length+y.length:=strLen_append _ _
 simp only[List.length_cons] at hl
 exact⟨by omega,h2 (out++y) pins s1 σ H (by omega) I1 q.2⟩
theorem zkk{e1 e2:Expr}{es:List Expr}{t:St->Prop}{pos:Pos}(h:PMs X (e1::e2::es) t)(hl:1000*(es.length+2)<=sizeLine:=by decide):PX X (.JoinedStr (e1::e2::es) pos) t:=fun pins s σ H I q =>
 JoinedStr_many (h Str.empty pins s σ H (by show 0+1000*(es.length+2)<=sizeLine;rw[Nat.zero_add];exact hl) I q)
theorem zlG{E:XK}{C:Addr}{x:Str}{np cpos pos:Pos}{e:Expr}{t:St->Prop}(hx:Flies X E)(hex:X.ex=[])(xc:XC X.K C)(hg:Gl X x)(hm:X.mg x=some (.ref C))(hh:X.A.handled=none)(ha:PX X e t)(he:starEach [e] X.env=[(false,eval e X.env)]:=by rfl)(hd:(x==("__debug__" : Str))=false:=by decide) :
  PS X (.Raise (some (.Call (.Name x np) [e] [] cpos)) none pos) (fun _ σ H=>t σ/\E (.ref C) none H):=by
 intro pins s σ H D I hq
 obtain⟨bm,N,nm,qn,bs,hdct,sn,sub,ab,col,dd,k0,k1,k2,k3,k5,mN,hC,hN,hni,T⟩:=xc.obj I.ok.mod.kin
 refine wpAny_Raise_call_subU (C:=C) (nm:=nm) (q:=qn) (N:=N) (bs:=bs) (bm:=bm) (hdct:=hdct) (sn:=sn) (sub:=sub) (ab:=ab) (col:=col) (dd:=dd) (k0:=k0) (k1:=k1) (k2:=k2) (k3:=k3) (k5:=k5)
  PySem.F.excBase_ValueError (by decide) PySem.F.excBase_ValueError (mN:=mN) (T.hasType PySem.F.excBase_ValueError.hasBase) hh (by rw[he];rfl) hni (zds I hg hm ⟨rfl,?_⟩ hd)
 rw[he]
 refine Calls.evalArgs_plain (Calls.spliced_cons (thn (ha pins s σ H I hq.1) fun u s1 I1=>Calls.spliced_nil ?_))
 refine⟨rfl,(by show 1<=sizeLine;decide),I1.bk _ _ hC,hN.keeps I1.bk,T.keeps I1.bk,fun h' b hm=>?_⟩
 obtain⟨tt,e1,e2,e3⟩:=hm.there
 refine hx pins σ H { s1 with heap:=h' } b (.ref C) (I1.kept (t':=s1.toks) hm.keeps) ⟨_,_,_,zki hex I1 hm.new,?_,e1,rfl,rfl,rfl,.inl rfl⟩ hq.2
 cases q:H b with
 | none=>rfl
 | some o=>obtain⟨u,e⟩:=(I1.hok b o q).there;rw[hm.new] at e;cases e
end
end L2
namespace L2
open PySem PySem.Spec PyProof.Rows
section
variable {X:Cx} {pins:List (Addr×Obj)} {σ:St} {H:Hp} {s:Shared} {a:Addr} {cls:Value}
theorem Inv.flown{h':Heap}(I:Inv X pins σ H s)(hex:X.ex=[])(F:Flown (frs X.stack) (Nw X pins) H a cls s.heap h'):Inv X pins σ H { s with heap:=h' }:=by
 have neL:∀b o,X.s₀.heap.get? b=some o->b≠X.env.locals:=fun b o e=>Nat.ne_of_lt (Nat.lt_of_lt_of_le (Heap.lt_size e) I.ok.above)
 have hs0:∀b o,X.s₀.heap.get? b=some o->¬Nw X pins b:=fun b o e n=>by rw[n.1] at e;cases e
 have stk:∀b,b≠X.env.locals->b∉X.fs->b∉frs X.stack:=fun b h1 h2=>I.stkNe h1 h2
 have anyK:∀b o,s.heap.get? b=some o->(¬Nw X pins b\/∀vs,o.data≠.fields vs)->∃sl,h'.get? b=some { o with slots:=sl }:=fun b o e hn=>by
  by_cases hm:b∈frs X.stack
  ·exact F.slot b o e hm
  ·exact⟨o.slots,F.keep b o e hm (.inr hn)⟩
 have cellK:∀x c,X.env.cells.lookup x=some c->∀v,s.heap.IsCell c v->h'.IsCell c v:=fun x c e v ⟨o,ho,hd⟩=>by
  obtain⟨sl,q⟩:=anyK c o ho (.inr fun vs q=>by rw[hd] at q;cases q)
  exact⟨_,q,hd⟩
 refine⟨I.ok,I.os,I.bare,⟨fun b o e n hb hx=>?_,fun b o e n hb hx=>?_,I.base.free,fun b o e hx=>?_,I.base.tups,I.base.frzs,I.base.tbls⟩,?_,fun x c e=>?_,I.free,I.freeC,fun p hp=>?_,fun b o e=>?_,I.len⟩
 ·exact F.keep b o (I.base.keep b o e n hb hx) (stk b (neL b o e) hb) (.inr (.inl (hs0 b o e)))
 ·obtain⟨sl,e1⟩:=I.base.slot b o e n hb hx
  obtain⟨sl',e2⟩:=anyK b _ e1 (.inl (hs0 b o e))
  exact⟨sl',e2⟩
 ·obtain⟨o',e1⟩:=I.base.there b o e hx
  obtain⟨sl',e2⟩:=anyK b _ e1 (.inl (hs0 b o e))
  exact⟨_,e2⟩
 ·obtain⟨m,hn,hl⟩:=I.loc
  obtain⟨oL,es,ep,hoL,hdL,r⟩:=id hn
  obtain⟨sl,q⟩:=anyK _ oL hoL (.inr fun vs q=>by rw[hdL] at q;cases q)
  refine⟨m,⟨_,es,ep,q,hdL,r⟩,fun i x v e1 e2 e3=>?_⟩
  obtain⟨u,r,l⟩:=hl i x v e1 e2 e3
  refine⟨u,r,?_⟩
  rcases l with l|⟨k,c,e,z⟩
  ·exact .inl l
  ·exact .inr ⟨k,c,e,cellK x c e _ z⟩
 ·obtain⟨v,z⟩:=I.cell x c e
  exact⟨v,cellK x c e v z⟩
 ·obtain⟨e,n,ne,nf,d⟩:=I.pin p hp
  exact⟨F.keep p.1 p.2 e (stk _ ne nf) (.inr (.inl fun hn=>hn.2 p hp rfl)),n,ne,nf,d⟩
 ·refine(I.hok b o e).stay (fun c u hc r=>?_) (fun _ q=>q) fun _ _ q=>q
  have hH:H c≠none:=by
   rcases hc with rfl|hc
   ·rw[e];simp
   ·rw[hc];simp
  exact F.keep c u r (fun hm=>hH (I.stkFree c hm)) (.inl hH)
theorem Fl.nw{h':Heap}(I:Inv X pins σ H s)(hex:X.ex=[])(F:Flown (frs X.stack) (Nw X pins) H a cls s.heap h'):Fl (Nw X pins) a cls H h':=F.fl.mono fun b hb=>hb.elim id fun hb=>zki hex I hb
theorem zex{N:Addr->Prop}{M:Model}{A:Around}{E:Value->Shared->Prop}{Q:Unit->Shared->Prop}(f:Fl N a cls H s.heap)(h:Q () s):wpAny M A (setFlight (.ref a) none) Q E s:=by
 obtain⟨oe,vs,a0,_,_,he,_,hd,h0,h1⟩:=f
 unfold setFlight
 rcases h1 with h1|⟨T,oT,ts,h1,_,_,_,hT,hdT,h3⟩
 ·refine wpAny_bind (wpAny_field he hd h1 ?_)
  rw[if_neg (by decide)]
  exact wpAny_pure h
 ·refine wpAny_bind (wpAny_field he hd h1 ?_)
  rw[if_pos (show(Value.ref T != Value.none)=true from by simp)]
  refine wpAny_setField hT hdT (Array.getElem?_eq_some_iff.mp h3).1 ?_
  show Q () { s with heap:=s.heap.update T (Obj.mapFields (·.setIfInBounds 3 Value.none)) }
  rw[Heap.update_setField_same s.heap T oT ts 3 Value.none hT hdT h3]
  exact h
end
abbrev Cx.hnd(X:Cx)(a:Addr):Cx:={ X with A:=X.A.mark (some (.ref a)),calm:=false,xe:=fun _ _=>False }
section
variable {X:Cx} {pins:List (Addr×Obj)} {σ:St} {H:Hp} {s:Shared} {a:Addr}
theorem Cx.Ok.hnd(ok:X.Ok)(a:Addr):(X.hnd a).Ok :=
 ⟨ok.mod,ok.kind,ok.glob,ok.blt,ok.above,ok.inj,ok.has,ok.cab,fun h=>absurd (show false=true from h) Bool.false_ne_true,ok.frames,ok.stk,ok.exf,ok.bs,ok.bsz,ok.noex,ok.exfs,ok.funs,ok.frf⟩
theorem Inv.hnd(I:Inv X pins σ H s)(a:Addr):Inv (X.hnd a) pins σ H s:=⟨I.ok.hnd a,I.os,I.bare,I.base,I.loc,I.cell,I.free,I.freeC,I.pin,I.hok,I.len⟩
theorem Inv.unhnd(ok:X.Ok)(I:Inv (X.hnd a) pins σ H s):Inv X pins σ H s:=⟨ok,I.os,I.bare,I.base,I.loc,I.cell,I.free,I.freeC,I.pin,I.hok,I.len⟩
theorem SP.unhnd{D:Ends}{f:Flow}{s':Shared}(ok:X.Ok)(h:SP (X.hnd a) pins D f s'):SP X pins D f s':=by
 cases f with
 | next=>obtain⟨σ',H',I,q⟩:=h;exact⟨σ',H',I.unhnd ok,q⟩
 | brk=>obtain⟨σ',H',I,q⟩:=h;exact⟨σ',H',I.unhnd ok,q⟩
 | cont=>obtain⟨σ',H',I,q⟩:=h;exact⟨σ',H',I.unhnd ok,q⟩
 | ret u=>obtain⟨v,σ',H',I,r,q⟩:=h;exact⟨v,σ',H',I.unhnd ok,r,q⟩
end
end L2
namespace L2
open PySem PySem.Spec PyProof.Rows
section
variable {X:Cx}
def PH(X:Cx)(h:ExceptHandler)(th:Value->TS):Prop:=∀(pins:List (Addr×Obj)) (s:Shared) (σ:St) (H:Hp) (D:Ends) (a:Addr) (cls:Value),Inv X pins σ H s->Fl (Nw X pins) a cls H s.heap->th cls D σ H ->
 wpAny (model X.prog X.w) X.A (handleBy (.ref a) X.env [h]) (SP X pins D) X.xe s
def XP(X:Cx)(pins:List (Addr×Obj))(σ:St)(E:XK)(e:Value)(s':Shared):Prop:=∃a cls H',e=.ref a/\Inv X pins σ H' s'/\Fl (Nw X pins) a cls H' s'.heap/\E cls none H'
def PCx(X:Cx)(e:Expr)(t:XK->TE):Prop:=∀(pins:List (Addr×Obj)) (s:Shared) (σ:St) (H:Hp) (Q:VK) (E:XK),Inv X pins σ H s->t E σ H Q->wpAny (model X.prog X.w) X.A (eval e X.env) (EP X pins σ Q) (XP X pins σ E) s
def PB(X:Cx)(b:List Stmt)(t:XK->TS):Prop:=∀(pins:List (Addr×Obj)) (s:Shared) (σ:St) (H:Hp) (D:Ends) (E:XK),Inv X pins σ H s->t E D σ H->wpAny (model X.prog X.w) X.A (execs b X.env) (SP X pins D) (XP X pins σ E) s
theorem zpQ{b:List Stmt}{h:ExceptHandler}{t:XK->TS}{th:Value->TS}{pos:Pos}(hst:X.stack=X.env::X.outer)(hf:X.env.frame=some X.env.locals)(hex:X.ex=[])(hb:PB X b t)(hh:PH X h th) :
  PS X (.Try b [h] [] [] pos) (fun D σ H=>t (fun cls _ H'=>th cls D σ H') D σ H):=by
 intro pins s σ H D I q
 refine wpAny_Try_except (wpAny_mono (hb pins s σ H D _ I q) (fun f s1 z=>?_) fun e s1 ⟨a,cls,H',e1,I1,fl,z⟩=>?_)
 ·cases f with
  | next=>exact wpAny_execs_nil z
  | brk=>exact z
  | cont=>exact z
  | ret u=>exact z
 ·subst e1
  exact flown I1 hst hf fl fun h' F=>hh pins _ σ H' D a cls (I1.flown hex F) (Fl.nw I1 hex F) z
variable {k:Nat} {f:Addr} {fd:FuncData} {ps:List Str} {sp:Sp} {x:Str} {p pos:Pos} {e:Expr} {es:List Expr} {t:TA}
theorem zlH(F:FnOk X.prog X.w X.K X.mg X.base (CXx X.prog X.w) k f fd ps sp)(hr:Room k X.A)(hex:X.ex=[])(hg:Gl X x)(hm:X.mg x=some (.ref f))(hk:PySem.W.keepIn X.K (.ref f)=true)(hb:Binds X.K fd ps [])(ha:PA X.nox (e::es) t)(hdb:(x==("__debug__" : Str))=false:=by decide)(he:starEach (e::es) X.env=(false,eval e X.env)::starEach es X.env:=by rfl)(hpl:(backTo pos (starEach es X.env)).any (·.1)=false:=by rfl) :
  PCx X (.Call (.Name x p) (e::es) [] pos) (fun E σ H Q=>t σ H fun vs H1=>sp vs H1 Q E):=by
 intro pins s σ H Q E I h
 refine wpAny_Call_Name_kw (zds I hg hm ?_ hdb)
 refine PySem.W.callWith_K (h₀:=X.base) I.ok.mod.kin hk (wpAny_mono (ha pos pins s σ H _ (I.wish _) h) (fun us s1 ⟨vs,H1,I1,r,q⟩=>⟨I1.unwish.kIn,?_⟩) fun _ _ z=>z.elim) he hpl
 have I1:=I1.unwish
 have hl:(us++[]).length=ps.length:=by rw[List.append_nil,<- r.length];exact F.len _ _ _ _ q
 have hb':=hb s1 us I1.kIn hl
 rw[List.append_nil] at hb'
 refine wpAny_call (codeAny_mono (F.run X.A X.stack s1 H1 ⟨us,[]⟩ us vs Q E hr I1.env0 hb' r q) fun r s' hq=>?_)
 cases r with
 | error e =>
  obtain⟨a,cls,H',rfl,ho,hgn,u,hok,fl,z⟩:=hq
  exact⟨a,cls,H',rfl,I1.call' ho u hok hgn (fun b z=>absurd z (by simp)),fl.mono fun b hb=>zki hex I1 hb,z⟩
 | ok fl =>
  cases fl with
  | ret u=>exact I1.after hq
  | next=>exact False.elim hq
  | brk=>exact False.elim hq
  | cont=>exact False.elim hq
variable {te:XK->TE}
theorem zpR{i:Nat}{pos':Pos}(hN:X.N.Nodup)(hi:X.N[i]?=some x)(hx:Loc X.env.scope x)(he:PCx X e te)(hs:swapsWith e (some (.Name x pos')) pos.line X.env=pure false:=by rfl)(hf:X.fn x=true\/X.env.scope.names.lookup x=some .local:=by first|exact .inl rfl|exact .inr rfl|assumption):PB X [.Assign [.Name x pos'] e pos] (fun E D σ H=>te E σ H fun v H1=>D.nx (σ.set i (some v)) H1):=by
 intro pins s σ H D E I h
 refine wpAny_execs_cons (wpAny_Assign_Name (wpAny_mono (he pins s σ H _ E I h) (fun v s1 ⟨y,H1,I1,r1,q1⟩=>?_) fun _ _ z=>z) hs)
 exact zfr I1 hN hi hx r1 (fun s2 I2=>wpAny_execs_nil ⟨_,H1,I2,q1⟩) hf
end
end L2
namespace L2
open PySem PySem.Spec PyProof.Rows PySem.W PySem.Builtin PySem.Builtin.ObjectAttr PySem.Builtin.Getset_descriptor
section
variable {prog:Program} {w:World} {A:Around} {E:Value->Shared->Prop} {K:PySem.W.Frag} {h:Heap} {g:Array GenState} {d:Drawn} {t:Nat} {os:OsState} {a C:Addr} {o:Obj}
def zqw(K:PySem.W.Frag)(C:Addr):Bool:=excIn K C bmV "ValueError.__new__" && findIn K (.ref C) "__getattribute__" == some (some (.builtin "BaseException.__getattribute__"))&&findIn K (.ref C) "__getattr__" == some none &&
 findIn K (.ref C) "__class__" == some (some (.builtin "object.__class__"))&&mroIn K C (.type "object")==some true&&mroIn K C (.type "BaseException")==some true&&(clsIn K C).isSome
theorem zhn{C:Addr}(q:zqw K C=true):XC K C/\findIn K (.ref C) "__getattribute__" = some (some (.builtin "BaseException.__getattribute__"))/\findIn K (.ref C) "__getattr__" = some none /\
  findIn K (.ref C) "__class__" = some (some (.builtin "object.__class__"))/\mroIn K C (.type "object")=some true/\mroIn K C (.type "BaseException")=some true/\(clsIn K C).isSome=true:=by
 unfold zqw at q
 simp only[Bool.and_eq_true,beq_iff_eq] at q
 obtain⟨⟨⟨⟨⟨⟨q1,q2⟩,q3⟩,q4⟩,q5⟩,q6⟩,q7⟩:=q
 exact⟨q1,q2,q3,q4,q5,q6,q7⟩
end
end L2
namespace L2
open PySem PySem.Spec PyProof.Rows
section
variable {X:Cx}
end
end L2
namespace VS
open PySem PySem.Spec PyProof.Rows L2
section
def zcx(K:PySem.W.Frag)(nm:Str):Addr:=match PySem.W.nsIn K mainGlobals nm with
 | some (some (.ref C))=>C
 | _=>0
abbrev Gy(K:PySem.W.Frag):Ga:=⟨K,zcx K,fun x cv od _=>cv=.ref (zcx K x.nm)/\od=none⟩
abbrev XTb:=List (Str×Bool×List Str)
def zrL(K:PySem.W.Frag)(tb:XTb):Bool:=tb.all fun p=>PySem.W.nsIn K mainGlobals p.1==some (some (.ref (zcx K p.1)))&&(!p.2.1||(zqw K (zcx K p.1)&&PySem.W.kitOne K (.ref (zcx K p.1)) (.type "ValueError")==some true &&
 tb.all fun q=>PySem.W.kitOne K (.ref (zcx K p.1)) (.ref (zcx K q.1))==some (p.2.2.contains q.1)&&PySem.W.mroIn K (zcx K p.1) (.ref (zcx K q.1))==some (p.2.2.contains q.1)))
structure XT (K:PySem.W.Frag) (mg:Str->Option Value) (tb:XTb):Prop where
 ok:zrL K tb=true
 mg:∀p∈tb,mg p.1=some (.ref (zcx K p.1))
theorem zrM{K:PySem.W.Frag}{h:Heap}{mg:Str->Option Value}{tb:XTb}(X:K.In h)(G:h.Ns mainGlobals mg)(ok:zrL K tb=true):XT K mg tb:=by
 refine⟨ok,fun p hp=>?_⟩
 have:=List.all_eq_true.mp ok p hp
 simp only[Bool.and_eq_true,beq_iff_eq] at this
 exact PySem.W.mg_of X G this.1
section
variable {K:PySem.W.Frag} {mg:Str->Option Value} {tb:XTb}
theorem XT.x(T:XT K mg tb){nm:Str}{anc:List Str}(h:(nm,true,anc)∈tb):zqw K (zcx K nm)=true/\PySem.W.kitOne K (.ref (zcx K nm)) (.type "ValueError")=some true /\
  ∀q∈tb,PySem.W.kitOne K (.ref (zcx K nm)) (.ref (zcx K q.1))=some (anc.contains q.1)/\PySem.W.mroIn K (zcx K nm) (.ref (zcx K q.1))=some (anc.contains q.1):=by
 have:=List.all_eq_true.mp T.ok _ h
 simp only[Bool.not_true,Bool.false_or,Bool.and_eq_true,beq_iff_eq,List.all_eq_true] at this
 exact⟨this.2.1.1,this.2.1.2,fun q hq=>this.2.2 q hq⟩
end
def zeU(tb:XTb)(nm:Str):Option (List Str):=match tb.find? (fun p=>p.1==nm&&p.2.1) with
 | some p=>some p.2.2
 | none=>none
theorem zcB{tb:XTb}{nm:Str}{anc:List Str}(h:zeU tb nm=some anc):(nm,true,anc)∈tb:=by
 unfold zeU at h
 split at h
 ·rename_i p e
  cases h
  have h1:=List.mem_of_find?_eq_some e
  have h2:=List.find?_some e
  simp only[Bool.and_eq_true,beq_iff_eq] at h2
  obtain⟨a,b,c⟩:=p
  dsimp only at h2
  obtain⟨rfl,rfl⟩:=h2
  exact h1
 ·cases h
def noX{α:Type}(m:M α):M α:=fun ce=>match m ce with
 | some (.ok a ce')=>some (.ok a ce')
 | _=>none
section
variable {α β:Type} {X:Cx} {G:Ga} {E E':XK} {RP:Hp->List Addr->α->β->Prop}
theorem toT.noX{d:Sl->M α}{σ:VS.St}{H:Hp}{Q:β->Hp->Prop}(h:toT G E RP (fun sl=>VS.noX (d sl)) σ H Q):toT G E' RP d σ H Q:=by
 obtain⟨F,as,sl,ce,S,P⟩:=h
 refine⟨F,as,sl,ce,S,?_⟩
 unfold VS.noX at P
 dsimp only at P
 split at P
 ·rename_i a ce' e
  rw[e];exact P
 ·exact(show False from P).elim
def zey{α:Type}(d:Sl->M α):Sl->M α:=fun sl=>noX (d sl)
theorem zkl{e:Expr}{d:Sl->M W}(h:PE X e (zaD G E0 d)):PE X e (zaD G E (zey d)):=PE.imp h fun _ _ _ z=>z.noX
theorem zfc{e:Expr}{d:Sl->M Bool}(h:PT X e (zcp G E0 d)):PT X e (zcp G E (zey d)):=PT.imp h fun _ _ _ z=>z.noX
end
def sml(sl:Sl)(i:Nat):Bool:=match sl[i]? with
 | some (some (.int n))=>decide (n.natAbs<1000)
 | _=>false
def zif(nm:Str)(l:List Nat):DS:=fun sl ce=>if l.all (sml sl)=true then some (.ex ⟨nm,none⟩ ce) else none
section
variable {X:Cx} {K:PySem.W.Frag} {E:XK} {tb:XTb} {x:Str} {np cpos pos:Pos} {e:Expr} {t:L2.St->Prop}
theorem zig{l:List Nat}{anc:List Str}(hx:Flies X E)(hK:X.K=K)(T:XT K X.mg tb)(hm:zeU tb x=some anc)(hex:X.ex=[])(hg:Gl X x)(hh:X.A.handled=none)(ha:PX X e t)(ht:∀σ:L2.St,(∀i∈l,∃n:Int,σ[i]?=some (some (.int n))/\n.natAbs<1000)->t σ)(he:starEach [e] X.env=[(false,eval e X.env)]:=by rfl)(hd:(x==("__debug__" : Str))=false:=by decide) :
  PS X (.Raise (some (.Call (.Name x np) [e] [] cpos)) none pos) (toTS (Gy K) E (zif x l)):=by
 have hmem:=zcB hm
 have hx':=(zhn (T.x hmem).1).1
 refine PS.imp (zlG (E:=E) (C:=zcx K x) hx hex (by rw[hK];exact hx') hg (T.mg _ hmem) hh ha he hd) fun D σ H zz_=>el6 zz_ fun F as sl ce S P=>?_
 unfold zif at P
 split at P
 ·rename_i h
  refine⟨ht σ fun i hi=>?_,P H F as (.ref (zcx K x)) none .refl S.st ⟨rfl,rfl⟩⟩
  have:=List.all_eq_true.mp h i hi
  unfold sml at this
  split at this
  ·rename_i n e
   obtain⟨v,e1,e2⟩:=S.slot i _ e
   simp only[Rep] at e2
   subst e2
   exact⟨n,e1,of_decide_eq_true this⟩
  ·cases this
 ·exact(show False from P).elim
end
def zqx(d:DS):DS:=fun sl ce=>match d sl ce with
 | some (.go f sl' ce')=>some (.go f sl' ce')
 | _=>none
def zs6(put:Option Nat)(sl:Sl)(w:W):Sl:=match put with
 | some i=>sl.set i (some w)
 | none=>sl
def zs7(put:Option Nat)(σ:VS.St)(v:V):VS.St:=match put with
 | some i=>σ.set i (some v)
 | none=>σ
def zqy(c:Sl->M W)(put:Option Nat)(ok:Exn->Bool)(hd:Exn->DS):DS:=fun sl ce=>match c sl ce with
 | some (.ok w ce')=>some (.go .nx (zs6 put sl w) ce')
 | some (.ex x ce')=>if ok x=true then hd x sl ce' else none
 | none=>none
def zdA(tb:XTb)(cn:Str)(x:Exn):Bool:=match zeU tb x.nm with
 | some anc=>anc.contains cn&&tb.any (fun p=>p.1==cn)
 | none=>false
section
variable {X:Cx} {K:PySem.W.Frag} {E:XK} {tb:XTb} {k n:Nat} {f:Addr} {fd:FuncData} {ps:List Str} {df:List W->M W} {x cn:Str} {p pos hpos np cpos epos:Pos} {e:Expr} {es:List Expr} {dr:Sl->M (List W)} {h:ExceptHandler} {hd:Exn->DS} {ok:Exn->Bool} {b0:Stmt} {suite:List Stmt} {ds:DS}
def PHv(K:PySem.W.Frag)(E:XK)(X:Cx)(h:ExceptHandler)(ok:Exn->Bool)(hd:Exn->DS):Prop:=∃th:Value->TS,PH X h th/\∀D σ H F as sl ce (x:Exn),SR (Gy K) F as H σ sl ce->ok x=true->PostS (Gy K) E D F as (hd x sl ce)->th (.ref (zcx K x.nm)) D σ H
theorem zkm{G:Ga}{E':XK}{D:Ends}{F:Hp}{as:List Addr}{sl:Sl}{ce:Ce}(P:PostS G E D F as (zqx ds sl ce)):PostS G E' D F as (ds sl ce):=by
 unfold zqx at P
 split at P
 ·rename_i e;rw[e];exact P
 ·exact(show False from P).elim
theorem znG{G:Ga}{D:Ends}{σ:VS.St}{H:Hp}{put:Option Nat}{th:Value->TS}{F:Hp}{as:List Addr}{sl:Sl}{ce:Ce}(hh:∀D σ H F as sl ce (x:Exn),SR (Gy K) F as H σ sl ce->ok x=true->PostS (Gy K) E D F as (hd x sl ce)->th (.ref (zcx K x.nm)) D σ H)(S:SR (Gy K) F as H σ sl ce)(P:PostS (Gy K) E D F as (zqy (zao n df (zey dr)) put ok hd sl ce)) :
  ziz (Gy K) E0 dr σ H fun vs H1=>spV (Gy K) (fun E=>E) n df vs H1 (fun v H2=>D.nx (zs7 put σ v) H2) (fun cls _ H'=>th cls D σ H'):=by
 refine⟨F,as,sl,ce,S,?_⟩
 unfold zqy zao zey noX bnd at P
 dsimp only at P
 cases e:dr sl ce with
 | none=>rw[e] at P;exact(show False from P).elim
 | some r=>cases r with
  | ex y ce'=>rw[e] at P;exact(show False from P).elim
  | ok ws ce1 =>
   rw[e] at P
   dsimp only at P
   intro vs H1 F1 as1 l1 S1 rs
   split at P
   ·rename_i w ce2 e2
    split at e2
    ·rename_i hl
     refine⟨by rw[rs.length];exact hl,F1,as1,ws,ce1,S1.st,rs,?_⟩
     rw[e2]
     intro v H2 F2 as2 l2 S2 rv
     have S3:=S1.slots S2 l2
     cases put with
     | none=>exact P σ H2 F2 as2 (l1.trans l2) S3
     | some i=>exact P _ H2 F2 as2 (l1.trans l2) (S3.put rv i)
    ·cases e2
   ·rename_i x ce2 e2
    split at e2
    ·rename_i hl
     refine⟨by rw[rs.length];exact hl,F1,as1,ws,ce1,S1.st,rs,?_⟩
     rw[e2]
     split at P
     ·rename_i hok
      intro H2 F2 as2 cv od l2 S2 hx
      obtain⟨rfl,rfl⟩:=hx
      exact hh D σ H2 F2 as2 sl ce2 x (S1.slots S2 l2) hok (P.le (l1.trans l2))
     ·exact(show False from P).elim
    ·cases e2
   ·exact(show False from P).elim
theorem znH{i:Nat}{y:Str}{pos':Pos}(hst:X.stack=X.env::X.outer)(hf:X.env.frame=some X.env.locals)(hex:X.ex=[])(hN:X.N.Nodup)(hi:X.N[i]?=some y)(hx:Loc X.env.scope y)(Fk:FnOk X.prog X.w X.K X.mg X.base (CXx X.prog X.w) k f fd ps (spV (Gy K) (fun E=>E) n df))(hr:Room k X.A)(hg:Gl X x)(hm:X.mg x=some (.ref f))(hk:PySem.W.keepIn X.K (.ref f)=true)(hb:Binds X.K fd ps [])(ha:PA X.nox (e::es) (ziz (Gy K) E0 dr))(hh:PHv K E X h ok hd)(hdb:(x==("__debug__" : Str))=false:=by decide)(he:starEach (e::es) X.env=(false,eval e X.env)::starEach es X.env:=by rfl)(hpl:(backTo cpos (starEach es X.env)).any (·.1)=false:=by rfl)(hs:swapsWith (.Call (.Name x p) (e::es) [] cpos) (some (.Name y pos')) epos.line X.env=pure false:=by rfl)(hfn:X.fn y=true\/X.env.scope.names.lookup y=some .local:=by first|exact .inl rfl|exact .inr rfl|assumption) :
  PS X (.Try [.Assign [.Name y pos'] (.Call (.Name x p) (e::es) [] cpos) epos] [h] [] [] pos) (toTS (Gy K) E (zqy (zao n df (zey dr)) (some i) ok hd)):=by
 obtain⟨th,hh1,hh2⟩:=hh
 exact PS.imp (zpQ hst hf hex (zpR hN hi hx (zlH Fk hr hex hg hm hk hb ha hdb he hpl) hs hfn) hh1) fun D σ H zz_=>el6 zz_ fun F as sl ce S P=>znG (G:=Gy K) hh2 S P
end
section
variable {X:Cx} {K:PySem.W.Frag} {E:XK} {tb:XTb} {cn:Str} {p pos p2:Pos} {e:Expr} {d:Sl->M W} {F:Hp} {as:List Addr} {H:Hp} {ce:Ce} {w:W} {v:V}
end
end
end VS
namespace VS
open PySem PySem.Spec PyProof.Rows L2
section
section
variable {P:Program} {w:World} {K:PySem.W.Frag} {mg:Str->Option Value} {base:Heap} {k:Nat} {f:Addr} {fd:FuncData} {ps:List Str}
theorem zpS{sp:Sp}(F:FnOk P w K mg base (CXx P w) k f fd ps sp):FnOk P w K mg base CX0 k f fd ps (fun vs H Q _=>sp vs H Q E0):=by
 refine⟨fun vs H Q E h=>F.len vs H Q E0 h,fun A outer s H args us vs Q E hr he hb hv hs=>codeAny_mono (F.run A outer s H args us vs Q E0 hr he hb hv hs) fun r s' h=>?_⟩
 cases r with
 | error e=>obtain⟨_,_,_,_,_,_,_,_,_,z⟩:=h;exact z
 | ok fl=>cases fl<;>exact h
theorem znI{G:PySem.W.Frag->Ga}{d:List W->M W}(nl:noL K=true)(h:FnOk P w K mg base (CXx P w) k f fd ps (spV (G K) (fun E=>E) 1 d)):FnOk P w K mg base CX0 k f fd ps (spLaw G d K):=(zpS h).imp fun _ _ _ _ q=>q nl
end
end
end VS
namespace VS
open PySem PySem.Spec PyProof.Rows L2
section
section
variable {sl:Sl} {ce c1:Ce} {a b:DS} {Q:O->Prop} {x:Exn} {nm:Str} {l:List Nat}
variable {f:List W->M W} {n:Nat} {ra:Sl->M (List W)} {ws:List W} {e:Sl->M W} {i:Nat}
theorem zgw{α:Type}{d:Sl->M α}{v:α}(h:d sl ce=some (.ok v c1)):zey d sl ce=some (.ok v c1):=by simp only[zey,noX,h]
variable {α:Type} {en:α->W} {src:Src} {g:DG} {body:DS} {zs:List α} {di:Sl->M Src}
end
end
end VS
namespace L2
open PySem PySem.Spec PyProof.Rows
section
variable {X:Cx}
def zsq:V->List V->Hp->VK->Prop:=fun x vs H Q=>∃(l:Addr) (xs:List V) (y:V) (i:Int),x=.ref l/\vs=[.int i,y]/\H l=some (.lst xs)/\xs.length<sizeLine/\0<=i/\i.toNat<=xs.length/\Q .non (upd H l (.lst (xs.take i.toNat++y::xs.drop i.toNat)))
theorem zpT:MtM X "list.insert" zsq:=by
 intro pins s σ H x vs v us Q I rx rv h
 obtain⟨l,xs,y,i,rfl,rfl,hH,hz,hi0,hi,q⟩:=h
 cases rx
 obtain⟨ui,u,rfl,ri,ru⟩:=zkX rv
 obtain⟨tk,rfl⟩:∃tk,ui=.int i tk:=ri
 obtain⟨z,its,n,r,hl,e⟩:=I.lstM hH
 have hs24:sizeLine=16777216:=by decide
 have hfit:Builtin.List.listFitsIndex i=true:=by
  simp only[Builtin.List.listFitsIndex,Bool.and_eq_true,decide_eq_true_eq]
  have:i<16777216:=by rw[hs24] at hz;omega
  constructor<;>omega
 have hsz:its.toArray.size<=sizeLine:=by rw[List.size_toArray];omega
 have hc0:¬(!Builtin.List.listFitsIndex i)=true:=by rw[hfit];decide
 refine call_meets PySem.F.slot_list_insert ⟨_,e,rfl⟩ PySem.F.entry_list_insert (PySem.F.args_list_insert_3 _ _ _) (PySem.AutoSeq1.list_insert_list_int_val_1 l its.toArray n i tk u hc0 hsz) ⟨e,?_⟩
 refine⟨.non,_,I.lset (its':=its.take i.toNat++u::its.drop i.toNat) hH e ?_ ((r.take i.toNat).append (.cons ru (r.drop i.toNat))) ?_,rfl,q⟩
 ·show(its.toArray.extract 0 (if i<0 then (i+(its.toArray.size:Int)).toNat else min i.toNat its.toArray.size)).push u++its.toArray.extract (if i<0 then (i+(its.toArray.size:Int)).toNat else min i.toNat its.toArray.size)=_
  have e1:(if i<0 then (i+(its.toArray.size:Int)).toNat else min i.toNat its.toArray.size)=i.toNat:=by
   rw[if_neg (by omega),List.size_toArray];omega
  rw[e1]
  apply Array.ext'
  simp
  exact List.take_of_length_le (by rw[List.length_drop];exact Nat.le_refl _)
 ·simp only[List.length_append,List.length_take,List.length_cons,List.length_drop];omega
end
end L2
namespace VS
open PySem PySem.Spec PyProof.Rows L2
section
def zpU:W->List W->M W:=fun w ws ce=>match zha ce w,ws with
 | some (k,xs),[.int i,y]=>if 0<=i/\i.toNat<=xs.length/\xs.length<sizeLine then some (.ok .non (ce.set k (.lst (xs.take i.toNat++y::xs.drop i.toNat)))) else none
 | _,_=>none
section
variable {G:Ga} {E:XK}
theorem zrN:Mt G E zsq zpU:=by
 intro F as H σ sl ce w v ws vs Q S rw' rs P
 revert P
 unfold zpU
 split
 ·rename_i k xs i y hc
  intro P
  split at P
  ·rename_i hi
   cases w<;>simp only[zha,reduceCtorEq] at hc
   rename_i k'
   split at hc
   ·rename_i ys hy
    cases hc
    simp only[Rep] at rw'
    obtain⟨a,rfl,ha⟩:=rw'
    obtain⟨_,us,h2,r2⟩:=S.st.cell _ _ _ ha hy
    obtain⟨v1,v2,rfl,r3,r4⟩:=zfC rs
    simp only[Rep] at r3
    subst r3
    have hl:=r2.length
    refine⟨a,us,v2,i,rfl,rfl,h2,by rw[hl];exact hi.2.2,hi.1,by rw[hl];exact hi.2.1,P .non _ F as .refl (S.slots (S.st.write (o:=.lst (us.take i.toNat++v2::us.drop i.toNat)) (c:=.lst (xs.take i.toNat++y::xs.drop i.toNat)) ha ⟨_,zaM,(r2.take _).append (.cons r4 (r2.drop _))⟩) .refl) (by simp only[Rep])⟩
   ·cases hc
  ·exact(show False from P).elim
 ·exact fun P=>(show False from P).elim
theorem zpV{ce:Ce}{k i:Nat}{xs:List W}{y:W}(g:ce[k]?=some (.lst xs))(hi:i<=xs.length)(hz:xs.length<sizeLine):zpU (.cel k) [nW i,y] ce=some (.ok .non (ce.set k (.lst (xs.take i++y::xs.drop i)))):=by
 simp only[zpU,zen g,nW]
 rw[if_pos ⟨by omega,by simpa using hi,hz⟩]
 simp
end
end
end VS
namespace VS
open PySem PySem.Spec PyProof.Rows L2
section
end
end VS
namespace L2
open PySem PySem.Spec PyProof.Rows
section
variable {X:Cx}
end
end L2
namespace VS
open PySem PySem.Spec PyProof.Rows L2
section
section
variable {G:Ga} {E:XK}
end
end
end VS
namespace HT
open PySem PySem.Spec PyProof.Rows
section
variable {prog:Program} {w:World} {A:Around} {E:Value->Shared->Prop} {s:Shared}
theorem fm_some{α β:Type}{f:α->Option β}{g:α->β}:∀{l:List α},(∀m∈l,f m=some (g m))->l.filterMap f=l.map g
 | [],_=>rfl
 | a::l,h=>by
  rw[List.filterMap_cons,h a List.mem_cons_self,List.map_cons,fm_some fun m hm=>h m (List.mem_cons_of_mem _ hm)]
end
end HT
namespace L2
open PySem PySem.Spec PyProof.Rows
section
variable {X:Cx} {e:Expr} {te:TE} {st:Expr} {ts:TO} {pos p2:Pos}
theorem Vals.rev:∀{xs:List V} {us:List Value},Vals xs us->Vals xs.reverse us.reverse
 | [],_,r=>by cases r;exact .nil
 | x::xs,_,r=>by
  cases r with
  | cons a b=>rw[List.reverse_cons,List.reverse_cons];exact(Vals.rev b).append (.cons a .nil)
end
end L2
namespace VS
open PySem PySem.Spec PyProof.Rows L2
section
section
variable {X:Cx} {G:Ga} {E:XK} {a:Expr} {da:Sl->M W} {pos p2:Pos}
theorem Reps.rev{F:Hp}{as:List Addr}:∀{ws:List W} {vs:List V},Reps F as ws vs->Reps F as ws.reverse vs.reverse
 | [],_,r=>by simp only[Reps] at r;subst r;exact .nil
 | x::xs,_,r=>by
  simp only[Reps] at r
  obtain⟨v,r',rfl,h,t⟩:=r
  rw[List.reverse_cons,List.reverse_cons]
  exact(Reps.rev t).append (.cons h .nil)
end
end
end VS
namespace VS
open PySem PySem.Spec PyProof.Rows L2
theorem us1{fd:FuncData}{ps:List Str}(h:∀a,bindArgs fd { pos:=[a] }=pure (ps.zip [a])):∀us:List Value,us.length=1->bindArgs fd { pos:=us }=pure (ps.zip us)
 | [a],_=>h a
theorem us2{fd:FuncData}{ps:List Str}(h:∀a b,bindArgs fd { pos:=[a,b] }=pure (ps.zip [a,b])):∀us:List Value,us.length=2->bindArgs fd { pos:=us }=pure (ps.zip us)
 | [a,b],_=>h a b
theorem us3{fd:FuncData}{ps:List Str}(h:∀a b c,bindArgs fd { pos:=[a,b,c] }=pure (ps.zip [a,b,c])):∀us:List Value,us.length=3->bindArgs fd { pos:=us }=pure (ps.zip us)
 | [a,b,c],_=>h a b c
theorem us4{fd:FuncData}{ps:List Str}(h:∀a b c d,bindArgs fd { pos:=[a,b,c,d] }=pure (ps.zip [a,b,c,d])):∀us:List Value,us.length=4->bindArgs fd { pos:=us }=pure (ps.zip us)
 | [a,b,c,d],_=>h a b c d
theorem us5{fd:FuncData}{ps:List Str}(h:∀a b c d e,bindArgs fd { pos:=[a,b,c,d,e] }=pure (ps.zip [a,b,c,d,e])):∀us:List Value,us.length=5->bindArgs fd { pos:=us }=pure (ps.zip us)
 | [a,b,c,d,e],_=>h a b c d e
end VS
namespace VS
open PySem PySem.Spec PyProof.Rows L2
section
section
variable {κ:Type} [DecidableEq κ] {F:Hp} {as:List Addr} {kvs:List (κ×W)} {ps:List (κ×V)}
end
section
variable {G:Ga} {F:Hp} {as:List Addr} {H:Hp} {ce:Ce} {w:W} {v:V}
end
section
variable {X:Cx} {G:Ga} {E:XK} {a b c:Expr} {da db dc:Sl->M W} {pos:Pos}
end
section
variable {sl:Sl} {ce c1 c2 c3:Ce} {k:Nat} {a b o i v:Sl->M W} {x y w:W}
end
end
end VS
namespace L2
open PySem PySem.Spec PyProof.Rows PySem.MeetsSeq
open PySem.AutoSeq1 (wpAny_loadPart')
end L2
namespace VS
open PySem PySem.Spec PyProof.Rows L2
section
section
variable {X:Cx}
open Classical in
theorem zgx{pins:List (Addr×Obj)}{σ:VS.St}{H:Hp}{s:Shared}{as:List Addr}{A:Around}{w:W}{x:V}{u:Value}{ys:List W}{vs:List V}{ps:List Value}(I:Inv X pins σ H s)(hu:A.units+8<cLine)(rw':Rep H as w x)(c:cln 8 w=true)(cs:ys.all (cln 8)=true)(ru:L2.RelV x u)(rs:Reps H as ys vs)(rp:Vals vs ps):∃e:Value->Bool,(∀y,y∈ps.toArray->SeqAt.EqAt A s y u (e y))/\ps.map e=ys.map (peq · w):=by
 have hl:=rs.length
 have hl2:=rp.length
 have key:∀{j:Nat} {p:Value},ps[j]?=some p->∃y v,ys[j]?=some y/\Rep H as y v/\L2.RelV v p/\cln 8 y=true:=fun {j p} hp=>by
  have hj:=zaB hp
  have e1:vs[j]?=some (vs[j]'(by omega)):=by simp
  obtain⟨q,hq,rq⟩:=rp.get e1
  rw[hp] at hq
  cases hq
  obtain⟨y,hy,ry⟩:=rs.get' e1
  exact⟨y,_,hy,ry,rq,List.all_eq_true.mp cs _ (List.mem_of_getElem? hy)⟩
 have uniq:∀{j j':Nat} {p:Value} {y y':W},ps[j]?=some p->ps[j']?=some p->ys[j]?=some y->ys[j']?=some y'->y=y':=fun {j j' p y y'} h1 h2 h3 h4=>by
  obtain⟨z,v,hz,rz,rv,cz⟩:=key h1
  obtain⟨z',v',hz',rz',rv',cz'⟩:=key h2
  rw[h3] at hz;cases hz
  rw[h4] at hz';cases hz'
  cases rv.inj rv'
  exact zg2 8 cz cz' rz rz'
 have val:∀{j:Nat} {p:Value} {y:W},ps[j]?=some p->ys[j]?=some y->decide (∃(j:Nat) (y:W),ps[j]?=some p/\ys[j]?=some y/\peq y w=true)=peq y w:=fun {j p y} hj hy=>by
  rw[Bool.eq_iff_iff,decide_eq_true_iff]
  constructor
  ·rintro⟨j',y',h1,h2,h3⟩
   rw[uniq hj h1 hy h2];exact h3
  ·intro h
   exact⟨j,y,hj,hy,h⟩
 refine⟨fun p=>decide (∃(j:Nat) (y:W),ps[j]?=some p/\ys[j]?=some y/\peq y w=true),fun p hp=>?_,?_⟩
 ·have hp':p∈ps:=by simpa using hp
  obtain⟨j,hj⟩:=List.getElem?_of_mem hp'
  obtain⟨y,v,hy,ry,rv,cy⟩:=key hj
  have q:=(zqp (fun _ _ h=>h) I 8 hu cy c ry rw' rv ru).2.2
  show SeqAt.EqAt A s p u (decide (∃(j:Nat) (y:W),ps[j]?=some p/\ys[j]?=some y/\peq y w=true))
  rw[val hj hy];exact q
 ·apply List.ext_getElem?
  intro j
  rw[List.getElem?_map,List.getElem?_map]
  by_cases hj:j<ps.length
  ·have e1:ps[j]?=some ps[j]:=List.getElem?_eq_getElem hj
   have e2:ys[j]?=some (ys[j]'(by omega)):=List.getElem?_eq_getElem _
   rw[e1,e2,Option.map_some,Option.map_some,val e1 e2]
  ·rw[List.getElem?_eq_none (by omega),List.getElem?_eq_none (by omega)];rfl
def zpW(K:PySem.W.Frag):V->List V->Hp->VK->Prop:=fun x vs H Q=>∃l xs y as w ws,x=.ref l/\vs=[y]/\SqL K H l xs/\Rep H as w y/\Reps H as ws xs/\cln 8 w=true/\ws.all (cln 8)=true/\Q (.int (ws.countP (peq · w):Nat)) H
theorem znJ{K:PySem.W.Frag}(hu:X.A.units+9<cLine)(hK:X.K=K:=by rfl):MtR X "list.count" (zpW K):=by
 subst hK
 intro pins s σ H x vs v us Q I rx rv h
 obtain⟨l,xs,y,as,w,ws,rfl,rfl,hq,rw',rs,c1,c2,q⟩:=h
 cases rx
 obtain⟨u,rfl,ru⟩:=zeO rv
 obtain⟨its,r,pl,_⟩:=I.list hq
 obtain⟨f,hf,hm⟩:=zgx (A:=X.A.in1) I (by show X.A.units+1+8<cLine;omega) rw' c1 c2 ru rs r
 obtain⟨⟨cls,dd,data,sl⟩,ho,hc,n,hd⟩:=pl.isList
 simp only at hc hd
 subst hc hd
 have ec:its.countP f=ws.countP (peq · w):=by
  have h1:(its.map f).countP id=its.countP f:=by rw[List.countP_map];rfl
  have h2:(ws.map (peq · w)).countP id=ws.countP (peq · w):=by rw[List.countP_map];rfl
  rw[<- h1,<- h2,hm]
 refine call_meets PySem.F.slot_list_count ⟨_,ho,rfl⟩ PySem.F.entry_list_count (PySem.F.args_list_count_2 _ _)
  (SeqAt.list_countAt l its.toArray n dd sl u f) ⟨ho,hf,?_⟩
 show wants _ _ (.ok (.ret (.int (its.countP f:Nat) s.toks))) _
 rw[ec]
 exact⟨.int (ws.countP (peq · w):Nat),H,I.tok _,⟨_,rfl⟩,q⟩
end
open Classical in
def ztk:W->List W->M W:=fun w ws ce=>match zha ce w,ws with
 | some (k,xs),[y]=>if (cln 8 (drf ce y)&&xs.all (cln 8))=true/\xs.findIdx (peq · (drf ce y))<xs.length then some (.ok .non (ce.set k (.lst (xs.eraseIdx (xs.findIdx (peq · (drf ce y))))))) else none
 | _,_=>none
def zoa:W->List W->M W:=fun w ws ce=>match zcz ce w,ws with
 | some xs,[y]=>if (cln 8 (drf ce y)&&xs.all (cln 8))=true then some (.ok (.int (xs.countP (peq · (drf ce y)):Nat)) ce) else none
 | _,_=>none
open Classical in
def zpX:W->List W->M W:=fun w ws ce=>match zha ce w,ws with
 | some (k,xs),[.int i]=>if 0<=i/\i<2 ^ 62 then match xs[i.toNat]? with
  | some y=>some (.ok y (ce.set k (.lst (xs.eraseIdx i.toNat))))
  | none=>none
  else none
 | _,_=>none
section
variable {G:Ga} {E:XK}
theorem zpY(K:PySem.W.Frag):Mt G E (zpW K) zoa:=by
 intro F as H σ sl ce w v ws vs Q S rw' rs P
 revert P
 unfold zoa
 split
 ·rename_i xs y hc
  intro P
  split at P
  ·rename_i hi
   rw[Bool.and_eq_true] at hi
   obtain⟨a,us,rfl,hH,r⟩:=zbB S.st rw' hc
   obtain⟨v1,rfl,rv⟩:=zbK rs
   exact⟨a,us,v1,as,drf ce y,xs,rfl,rfl,.inl hH,zfx S.st rv,r.le S.st.toH,hi.1,hi.2,P.done S (by simp only[Rep])⟩
  ·exact(show False from P).elim
 ·exact fun P=>(show False from P).elim
theorem zpZ:Mt G E zl4 zpX:=by
 intro F as H σ sl ce w v ws vs Q S rw' rs P
 revert P
 unfold zpX
 split
 ·rename_i k xs i hc
  intro P
  split at P
  ·rename_i hi
   split at P
   ·rename_i y hy
    obtain⟨a,us,rfl,ha,hH,r⟩:=zdh S.st rw' hc
    obtain⟨v1,rfl,rv⟩:=zbK rs
    simp only[Rep] at rv
    subst rv
    obtain⟨u,hu,ru⟩:=r.get hy
    have hlt:=zaB hu
    refine⟨a,us,i,i.toNat,u,rfl,rfl,hH,by omega,by omega,?_,hu,P u _ F as .refl (S.slots (S.st.write (o:=.lst (us.eraseIdx i.toNat)) (c:=.lst (xs.eraseIdx i.toNat)) ha ⟨_,zaM,r.eraseIdx _⟩) .refl) ru⟩
    have e0:¬i<0:=by omega
    have e2:0<=i:=hi.1
    have e3:i<(us.length:Int):=by omega
    simp[seqIndex?,e0,e2,e3]
   ·exact(show False from P).elim
  ·exact(show False from P).elim
 ·exact fun P=>(show False from P).elim
end
end
end VS
namespace L2
open PySem PySem.Spec PyProof.Rows
theorem zkn(n:Nat):sliceRange ((n:Int)-1) (-1) (-1)=(List.range n).map fun m=>n-1-m:=by
 unfold sliceRange
 have h1:¬((-1:Int)>0):=by omega
 have h2:(- -1:Int)=1:=by decide
 have h3:(if (n:Int)-1>-1 then ((n:Int)-1 - -1 - -1-1) / 1 else 0).toNat=n:=by
  rw[Int.ediv_one]
  split<;>omega
 simp only[h1,if_false,h2,h3]
 apply List.map_congr_left
 intro m hm
 have:=List.mem_range.mp hm
 omega
theorem zfO(its:List Value):slicePick its.toArray none none (some (-1))=its.reverse.toArray:=by
 have hb:sliceBounds none none (some (-1)) its.toArray.size=((its.length:Int)-1,-1,-1):=by
  have h1:¬((-1:Int)>0):=by omega
  simp only[sliceBounds,Option.getD_some,h1,if_false,List.size_toArray]
 unfold slicePick
 rw[hb,zkn,List.filterMap_map]
 congr 1
 have e:∀m∈List.range its.length,((fun i=>its.toArray[i]?)∘fun m=>its.length-1-m) m=some (its.reverse.getD m default):=fun m hm=>by
  have hm:=List.mem_range.mp hm
  simp only[Function.comp]
  rw[List.getD_eq_getElem?_getD,List.getElem?_reverse hm,List.getElem?_toArray,List.getElem?_eq_getElem (by omega)]
  rfl
 rw[HT.fm_some e]
 apply List.ext_getElem?
 intro i
 by_cases hi:i<its.length
 ·have h2:i<its.reverse.length:=by simpa using hi
  rw[List.getElem?_map,List.getElem?_range hi,Option.map_some,List.getD_eq_getElem?_getD,List.getElem?_eq_getElem h2]
  rfl
 ·rw[List.getElem?_eq_none (by simpa using hi),List.getElem?_eq_none (by simpa using hi)]
section
variable {X:Cx} {e:Expr} {te:TE} {st:Expr} {ts:TO} {pos p2:Pos}
def zrO(K:PySem.W.Frag)(te:TE)(ts:TO):TE:=fun σ H Q=>te σ H fun x H1=>ts σ H1 fun o H2=>o=some (-1)/\∃a xs,x=.ref a/\SqL K H2 a xs/\∀p,H2 p=none->Q (.ref p) (upd H2 p (.lst xs.reverse))
theorem znK{K:PySem.W.Frag}(hK:X.K=K)(he:PE X e te)(hu:PO X (some st) ts):PE X (.Subscript e (.Slice none none (some st) p2) pos) (zrO K te ts):=by
 subst hK
 intro pins s σ H Q I h
 refine Subscript_ (thn (he pins s σ H _ I h) fun v s1 ⟨x,H1,I1,r1,q1⟩=>?_)
 refine wpAny_Slice ?_
 rw[evalPart_none]
 refine wpAny_pure (wpAny_pure (thn (hu pins s1 σ H1 _ I1 q1) fun vu s3 ⟨u,H3,I3,pu,q3⟩=>?_))
 obtain⟨eo,a,xs,rfl,hx,q⟩:=q3
 subst eo
 cases r1
 have I4:Inv X pins σ H3 { s3 with heap:=s3.heap.push { cls:=.type "slice",data:=.fields #[.none,.none,vu] } }:=I3.kept (t':=s3.toks) fun b ob q=>Heap.get?_push_of_some _ q
 obtain⟨its,r,ht,hz⟩:=I4.list hx
 have hlen:=r.length
 show wpAny (model X.prog X.w) X.A (subscriptTail e (.Slice none none (some st) p2) (.ref a) (.ref s3.heap.objs.size)) (EP X pins σ Q) X.xe { s3 with heap:=s3.heap.push { cls:=.type "slice",data:=.fields #[.none,.none,vu] } }
 refine tail_any (ops:=[.ref a,.ref s3.heap.objs.size]) ht.isList.typeIs slot_list_getitem.lookup ?_ (by with_unfolding_all rfl)
 refine wpAny_getItem_list_slice ht.isList (Heap.IsSliceOf.new ..) .none .none pu (by simp) ?_ (by rw[List.size_toArray]<;>omega)
 rw[zfO]
 refine⟨.ref _,_,I4.laid (t':=s3.toks) (o:=.lst xs.reverse) (fun b ob q=>Heap.get?_push_of_some _ q) (Nat.le_refl _) ?_,rfl,q _ (I4.hok.fresh (Nat.le_refl _))⟩
 exact⟨by rw[List.length_reverse];exact hz,its.reverse,0,Vals.rev r,Heap.get?_push_size _ rfl⟩
end
end L2
namespace VS
open PySem PySem.Spec PyProof.Rows L2
section
def ziH(mk:List W->M W)(d:Sl->M W)(l:Sl->M (Option Int)):Sl->M W:=fun sl=>bnd (d sl) fun x=>bnd (l sl) fun o=>fun ce=>match zcz ce x,o with
 | some xs,some (-1)=>mk xs.reverse ce
 | _,_=>none
section
variable {X:Cx} {G:Ga} {E:XK} {a:Expr} {da:Sl->M W} {pos p2:Pos}
theorem znL{st:Expr}{dl:Sl->M (Option Int)}{mk:List W->M W}(hm:MkL G E mk)(he:PE X a (zaD G E da))(hl:PO X (some st) (zoW G E dl)):PE X (.Subscript a (.Slice none none (some st) p2) pos) (zaD G E (ziH mk da dl)):=by
 refine PE.imp (znK (K:=X.K) rfl he hl) fun σ H Q zz_=>el6 zz_ fun F as sl ce S P=>(step S P).mono fun x H1 zz_=>el8 zz_ fun wx F1 as1 ce1 l1 S1 rx P1=>(step (RP:=rO) S1 P1).mono fun y H2 zz_=>el8 zz_ fun wy F2 as2 ce2 l2 S2 ry P2=>?_
 have ry:wy=y:=ry
 subst ry
 split at P2
 ·rename_i xs hx
  obtain⟨p,vs,rfl,h,rs⟩:=zbB S2.st (rx.le l2) hx
  exact⟨rfl,p,vs,rfl,.inl h,(hm S2 rs.rev P2).2⟩
 ·exact(show False from P2).elim
theorem znM{sl:Sl}{ce c1 c2:Ce}{xs:List W}{w:W}{dl:Sl->M (Option Int)}(ha:da sl ce=some (.ok w c1))(hl:dl sl c1=some (.ok (some (-1)) c2))(hx:zcz c2 w=some xs)(hz:xs.length<=PySem.sizeLine):ziH zaT da dl sl ce=some (.ok (.lst xs.reverse) c2):=by
 simp only[ziH,bnd,ha,hl,hx]
 exact zb6 (by rw[List.length_reverse];exact hz)
end
end
end VS
namespace L2
open PySem
def Ris(xs:Array Nat):Prop:=xs.toList.Pairwise (·<·)
structure TOk (t:SetTable):Prop where
 dum:t.dummies=#[]
 ris:t.plain=true->Ris t.place
end L2
namespace L2
open PySem PySem.Spec PyProof.Rows
def iv:Value->Int
 | .int k _=>k
 | _=>0
section
variable {prog:Program} {w:World} {A:Around} {E:Value->Shared->Prop} {s:Shared} {a:Addr} {ds:List Int} {led:Bool}
def ztl(prog:Program)(w:World)(h:Heap)(a:Addr)(ds:List Int)(led:Bool):Prop :=
 ∃o es ep t,h.get? a=some o/\o.ExactSet/\o.data=.set es ep t/\ElemsOf (intKind prog w) es.toList/\es.size<scanBound/\t.fits es.size=true/\TOk t/\t.led=led/\(∀e∈es.toList,∃k tk,e.2=.int k tk)/\(es.toList.map fun e=>iv e.2).Perm ds
end
section
variable {prog:Program} {w:World} {A:Around} {R:Result->Shared->Prop} {I:Addr} {fp wr:List Addr} {G:Array GenState->Array GenState->Prop} {n:Nat} {P:Nat->Value->Prop} {St:Nat->Shared->Prop}
end
end L2
namespace L2
open PySem PySem.Spec PyProof.Rows
section
variable {prog:Program} {w:World} {A:Around} {E:Value->Shared->Prop} {s:Shared}
end
end L2
namespace L2
open PySem PySem.Spec PyProof.Rows
section
variable {prog:Program} {w:World} {A:Around} {E:Value->Shared->Prop} {s:Shared} {a:Addr} {o:Obj} {es:Array (Int×Value)} {ep:Nat} {t:SetTable}
end
end L2
namespace L2
open PySem PySem.Spec PyProof.Rows
section
variable {prog:Program} {w:World} {A:Around} {E:Value->Shared->Prop} {s:Shared} {a I T:Addr} {o:Obj} {es:Array (Int×Value)} {ep:Nat} {t:SetTable} {i sl sl':Nat} {x:Value} {Q:Option Value->Shared->Prop}
end
end L2
namespace L2
open PySem PySem.Spec PyProof.Rows
section
variable {prog:Program} {w:World} {A:Around} {E:Value->Shared->Prop} {s:Shared} {a I T:Addr} {o:Obj} {es:Array (Int×Value)} {ep:Nat} {t:SetTable} {ds:List Int}
end
end L2
namespace L2
open PySem PySem.Spec PyProof.Rows
section
variable {prog:Program} {w:World} {A:Around} {E:Value->Shared->Prop} {s:Shared} {a:Addr} {ds:List Int}
end
end L2
namespace L2
open PySem PySem.Spec PyProof.Rows
section
variable {X:Cx} {e:Expr} {t:TA} {p pos p2 pos2:Pos}
end
end L2
namespace VS
open PySem PySem.Spec PyProof.Rows L2
section
section
variable {X:Cx} {G:Ga} {E:XK} {e:Expr} {dr:Sl->M (List W)} {p pos p2 pos2:Pos}
end
end
end VS
namespace L2
open PySem PySem.Spec PyProof.Rows
open PySem.AutoSeq1 (wpAny_loadPart')
section
variable {prog:Program} {w:World} {A:Around} {E:Value->Shared->Prop} {s:Shared}
end
end L2
namespace L2
open PySem PySem.Spec PyProof.Rows PySem.MeetsSeq PySem.MeetsSeq3
open PySem.AutoSeq1 (wpAny_loadPart')
section
variable {prog:Program} {w:World} {A:Around} {E:Value->Shared->Prop} {s:Shared}
end
end L2
namespace L2
open PySem PySem.Spec PyProof.Rows
section
variable {prog:Program} {w:World} {A:Around} {E:Value->Shared->Prop} {s:Shared}
end
end L2
namespace L2
open PySem PySem.Spec PyProof.Rows
section
variable {X:Cx}
end
end L2
namespace VS
open PySem PySem.Spec PyProof.Rows L2
section
section
variable {X:Cx} {G:Ga} {E:XK}
end
end
end VS
namespace VS
open PySem PySem.Spec PyProof.Rows L2
section
variable {X:Cx} {G:Ga} {E:XK} {a b c:Expr} {da db dc:Sl->M W} {pos:Pos}
end
end VS
namespace VS
open PySem PySem.Spec PyProof.Rows L2
section
variable {G:Ga} {E:XK}
end
end VS
namespace L2
open PySem PySem.Spec PyProof.Rows
theorem zdM{K:PySem.W.Frag}{M:Model}{h:Heap}{S:Addr}(X:K.In h)(xs:XC K S):PySem.W.Looks M h (isExcClass (.ref S)) true:=by
 obtain⟨bm,N,nm,qn,bs,hdct,sn,sub,ab,col,dd,k0,k1,k2,k3,k5,mN,hC,hN,hni,T⟩:=xs.obj X
 have hcB:(Value.ref S::bm).contains (.type "BaseException")=true:=by rw[List.contains_cons,T.hasType PySem.F.excBase_ValueError.hasBase,Bool.or_true]
 intro A Q E s k q
 obtain⟨hh,g,d,tk,os⟩:=s
 have k:∀b o,h.get? b=some o->hh.get? b=some o:=k
 have hC:=k _ _ hC
 have f:=tc_notTuple
 unfold isExcClass
 repeat (first|with_reducible refine wpAny_loadPart_at hC ?_|(with_reducible refine wpAny_isSubtype_exc hC ?_;rw[hcB])|wp_step)
 exact q
open PySem.W in
theorem zeV{K:PySem.W.Frag}{M:Model}{A:Around}{E:Value->Shared->Prop}{s:Shared}{Q:Bool->Shared->Prop}{a C S1 S2 tp:Addr}{oe:Obj}{b1 b2:Bool}(X:K.In s.heap)(he:s.heap.get? a=some oe)(hcls:oe.cls=.ref C)(x1:XC K S1)(x2:XC K S2)(hp:s.heap.get? tp=some { cls:=.type "tuple",data:=.seq [Value.ref S1,.ref S2].toArray })(m1:PySem.W.mroIn K C (.ref S1)=some b1)(m2:PySem.W.mroIn K C (.ref S2)=some b2)(h:Q (b1||b2) s):wpAny M A (excMatches (.ref a) (.ref tp)) Q E s:=by
 have e1:=zdM (M:=M) X x1
 have e2:=zdM (M:=M) X x2
 have S1':=PySem.W.looks_mroIn (M:=M) X m1
 have S2':=PySem.W.looks_mroIn (M:=M) X m2
 have LT0:Looks M s.heap (isInstance (.ref tp) (.type "tuple")) true:=((Looks.ld hp).andThen .now).andThen (Looks.of_pure isSubtype_tuple_tuple)
 have LT:Looks M s.heap (typeOf (.ref a)) (.ref C):=by
  rw[<- hcls]
  exact(Looks.ld he).andThen .now
 obtain⟨hh,g,d,tk,os⟩:=s
 unfold excMatches
 refine wpAny_bind (LT0.at ?_)
 dsimp only
 rw[if_pos rfl]
 first
  | refine wpAny_bind (wpAny_seqItems hp rfl ?_)
  | refine wpAny_bind (wpAny_bind (wpAny_seqItems hp rfl (wpAny_pure ?_)))
 dsimp only[Option.getD_some,Option.getD]
 cases b1<;>cases b2<;>((repeat (first|simp only[List.forIn_cons,List.forIn_nil,Bool.not_true,Bool.false_eq_true,if_false,if_true]|lk));exact h)
section
variable {X:Cx}
theorem Fl.push{N:Addr->Prop}{a:Addr}{cls:Value}{H:Hp}{h:Heap}{o:Obj}{x:HO}(f:Fl N a cls H h):Fl N a cls (upd H h.objs.size x) (h.push o):=by
 obtain⟨oe,vs,a0,n,h1,h2,h3,h4,h5,h6⟩:=f
 refine⟨oe,vs,a0,n,by rw[zaL (Nat.ne_of_lt (Heap.lt_size h2))];exact h1,Heap.get?_push_of_some _ h2,h3,h4,h5,h6.imp id ?_⟩
 rintro⟨T,oT,ts,e1,e2,e3,e4,e5,e6⟩
 exact⟨T,oT,ts,e1,e2,by rw[zaL (Nat.ne_of_lt (Heap.lt_size e5))];exact e3,e4,Heap.get?_push_of_some _ e5,e6⟩
theorem zp0{S1 S2:Addr}{c1 c2:Str}{p1 p2 hpos tpos:Pos}{x1}{b0:Stmt}{suite:List Stmt}{ts:TS}(g1:Gl X c1)(m1:X.mg c1=some (.ref S1))(s1:XC X.K S1)(g2:Gl X c2)(m2:X.mg c2=some (.ref S2))(s2:XC X.K S2)(hs:∀a,PSs (X.hnd a) (b0::suite) ts)(d1:(c1==("__debug__" : Str))=false:=by decide)(d2:(c2==("__debug__" : Str))=false:=by decide)(st1:starEach [.Name c1 p1,.Name c2 p2] X.env=(false,eval (.Name c1 p1) X.env)::starEach [.Name c2 p2] X.env:=by rfl)(st2:starEach [.Name c2 p2] X.env=(false,eval (.Name c2 p2) X.env)::starEach [] X.env:=by rfl) :
  PH X (.ExceptHandler (some (.Tuple [.Name c1 p1,.Name c2 p2] x1 tpos)) none (b0::suite) hpos) (fun cls D σ H=>(∃C q1 q2,cls=.ref C/\PySem.W.mroIn X.K C (.ref S1)=some q1/\PySem.W.mroIn X.K C (.ref S2)=some q2/\(q1||q2)=true)/\∀t,H t=none->ts D σ (upd H t (.tup [V.ref S1,V.ref S2]))):=by
 intro pins s σ H D a cls I fl ⟨⟨C,q1,q2,hC,r1,r2,hq12⟩,hq⟩
 subst hC
 refine wpAny_handleBy_cons (codeAny_handlers_test (wpAny_Tuple_spliced ?_)) (by intro q;cases q)
 show wpAny _ _ (spliced (backTo tpos (starEach [.Name c1 p1,.Name c2 p2] (X.hnd a).env))) _ _ s
 have st1:starEach [.Name c1 p1,.Name c2 p2] (X.hnd a).env=(false,eval (.Name c1 p1) (X.hnd a).env)::starEach [.Name c2 p2] (X.hnd a).env:=st1
 have st2:starEach [.Name c2 p2] (X.hnd a).env=(false,eval (.Name c2 p2) (X.hnd a).env)::starEach [] (X.hnd a).env:=st2
 rw[st1]
 refine Calls.spliced_cons (zds (X:=X.hnd a) (I.hnd a) g1 m1 ?_ d1)
 rw[st2]
 refine Calls.spliced_cons (zds (X:=X.hnd a) (I.hnd a) g2 m2 ?_ d2)
 refine Calls.spliced_nil ⟨(show 2<=sizeLine by decide),?_⟩
 obtain⟨oe,vs,a0,_,_,he,hc,_⟩:=id fl
 have I':Inv X pins σ (upd H s.heap.objs.size (.tup [V.ref S1,V.ref S2])) { s with heap:=s.heap.push { cls:=.type "tuple",data:=.seq [Value.ref S1,.ref S2].toArray } } :=
  I.laid (t':=s.toks) (fun b u e=>Heap.get?_push_of_some _ e) (Nat.le_refl _) ⟨(show 2<=sizeLine by decide),[.ref S1,.ref S2],.cons rfl (.cons rfl .nil),⟨_,Heap.get?_push_size _ rfl,rfl,⟨_,rfl⟩,rfl⟩⟩
 refine zeV I'.kIn (Heap.get?_push_of_some _ he) hc s1 s2 (Heap.get?_push_size _ rfl) r1 r2 ?_
 rw[hq12]
 have hf:H s.heap.objs.size=none:=I.hok.fresh (Nat.le_refl _)
 exact codeAny_handlers_suite (zex (fl.push (x:=.tup [V.ref S1,V.ref S2])) (wpAny_mono (hs a pins _ σ _ D (I'.hnd a) (hq _ hf)) (fun f s2 z=>z.unhnd I.ok) fun _ _ z=>z.elim))
end
end L2
namespace VS
open PySem PySem.Spec PyProof.Rows L2
section
variable {X:Cx} {K:PySem.W.Frag} {E:XK} {tb:XTb} {c1 c2:Str} {p1 p2 tpos hpos:Pos} {b0:Stmt} {suite:List Stmt} {ds:DS}
theorem zfd{K:PySem.W.Frag}{mg:Str->Option Value}{tb:XTb}(T:XT K mg tb){x:Exn}{anc:List Str}(h:zeU tb x.nm=some anc){cn:Str}{an:List Str}(hc:zeU tb cn=some an):PySem.W.mroIn K (zcx K x.nm) (.ref (zcx K cn))=some (anc.contains cn) :=
 ((T.x (zcB h)).2.2 _ (zcB hc)).2
theorem zp1{a1 a2:List Str}{x1}(hK:X.K=K)(T:XT K X.mg tb)(h1:zeU tb c1=some a1)(h2:zeU tb c2=some a2)(g1:Gl X c1)(g2:Gl X c2)(hs:∀a,PSs (X.hnd a) (b0::suite) (toTS (Gy K) E0 ds))(d1:(c1==("__debug__" : Str))=false:=by decide)(d2:(c2==("__debug__" : Str))=false:=by decide)(st1:starEach [.Name c1 p1,.Name c2 p2] X.env=(false,eval (.Name c1 p1) X.env)::starEach [.Name c2 p2] X.env:=by rfl)(st2:starEach [.Name c2 p2] X.env=(false,eval (.Name c2 p2) X.env)::starEach [] X.env:=by rfl) :
  PHv K E X (.ExceptHandler (some (.Tuple [.Name c1 p1,.Name c2 p2] x1 tpos)) none (b0::suite) hpos) (fun x=>zdA tb c1 x||zdA tb c2 x) (fun _=>zqx ds):=by
 have e1:=zcB h1
 have e2:=zcB h2
 refine⟨_,zp0 g1 (T.mg _ e1) (by rw[hK];exact(zhn (T.x e1).1).1) g2 (T.mg _ e2) (by rw[hK];exact(zhn (T.x e2).1).1) hs d1 d2 st1 st2,fun D σ H F as sl ce x S hx P=>?_⟩
 obtain⟨anc,ha⟩:∃anc,zeU tb x.nm=some anc:=by
  cases q:zeU tb x.nm with
  | some anc=>exact⟨anc,rfl⟩
  | none=>simp only[zdA,q] at hx;cases hx
 refine⟨⟨_,anc.contains c1,anc.contains c2,rfl,by rw[hK];exact zfd T ha h1,by rw[hK];exact zfd T ha h2,by simp only[zdA,ha,Bool.or_eq_true,Bool.and_eq_true] at hx;rw[Bool.or_eq_true];exact hx.imp And.left And.left⟩,fun t ht=>?_⟩
 have keep:∀b o,H b=some o->upd H t (.tup [V.ref (zcx K c1),V.ref (zcx K c2)]) b=some o:=fun b o q=>by rw[zaL (zaI q ht)];exact q
 have S2:Store (Gy K) F as (upd H t (.tup [V.ref (zcx K c1),V.ref (zcx K c2)])) ce:=by
  refine⟨fun b o q=>keep b o (S.st.sub b o q),S.st.nd,S.st.len,fun j b c q1 q2=>?_⟩
  obtain⟨z1,z2⟩:=S.st.cell j b c q1 q2
  obtain⟨o,ho⟩:=z2.tracked
  exact⟨z1,z2.le .refl (by rw[ho];exact keep b o ho)⟩
 exact⟨F,as,sl,ce,⟨S2,S.len,S.slot⟩,zkm P⟩
end
end VS
namespace L2
open PySem PySem.Spec PyProof.Rows
section
variable {X:Cx} {k:Nat} {f C:Addr} {fd:FuncData} {ps:List Str} {sp:Sp} {x m:Str} {p pos apos:Pos} {e o:Expr} {es:List Expr} {t:TA} {ta:TE}
end
end L2
namespace VS
open PySem PySem.Spec PyProof.Rows L2
section
section
variable {F:Hp} {as:List Addr} {fs:List (Str×W)} {ps:List (Str×V)}
end
section
variable {G:Ga} {E:XK} {F:Hp} {as:List Addr} {H:Hp} {σ:VS.St} {sl:Sl} {ce:Ce} {w:W} {v:V} {c:Str} {k:Nat} {fs:List (Str×W)}
end
section
variable {X:Cx} {G:Ga} {E E1:XK} {CX:CXT} {k n:Nat} {f:Addr} {fd:FuncData} {ps:List Str} {df:List W->M W} {x c m:Str} {p pos pos' apos tpos:Pos} {e o value:Expr} {es:List Expr} {d dv:Sl->M W} {dr:Sl->M (List W)} {fe:XK->XK}
end
section
variable {X:Cx} {K:PySem.W.Frag} {E:XK} {k n:Nat} {f:Addr} {fd:FuncData} {ps:List Str} {df:List W->M W} {x c m:Str} {p pos apos cpos epos:Pos} {e o:Expr} {es:List Expr} {d:Sl->M W} {dr:Sl->M (List W)} {h:ExceptHandler} {hd:Exn->DS} {ok:Exn->Bool}
end
end
end VS
namespace VS
open PySem PySem.Spec PyProof.Rows L2
section
section
variable {sl:Sl} {ce c1 c2 c3:Ce} {a b:DS} {Q:O->Prop} {d v:Sl->M W} {dr:Sl->M (List W)} {w u:W} {ws:List W} {k n:Nat} {c f m:Str} {fs:List (Str×W)} {df:List W->M W} {x:Exn}
end
end
end VS
namespace K34
open PySem PySem.Spec PyProof.Rows L2 VS
def XTB:XTb:=[("StoneError",true,["StoneError"]),("NoLay",true,["NoLay", "StoneError"]),("NoBreath",true,["NoBreath", "StoneError"])]
def d_is_whole(fu:Nat):List W->M W:=dFn finC 1
 (zbg (zi1 (dBi zlo (zac (zaf 0) (zac (dC (.ty "int")) zal))) (zr1 (dBi zlo (zac (zaf 0) (zac (dC (.ty "bool")) zal))))))
def d_other_hand(fu:Nat):List W->M W:=dFn finC 1
 (zbg (dOp zg1 (dC (.int 3)) (zaf 0)))
def zez(fu:Nat):DS :=
 (dIf (zdU (dB (zay (zlk true) (zaf 6) (zaf 3))) (dB (zay (eqW false) (zay ixW (zaf 1) (zaf 6)) (zay ixW (zaf 1) (zaf 2))))) (zaz (zkL (zaf 3) (zaf 6) (dC (.bl true)))
 (dEx (dMt zeR (zaf 4) (zac (zaf 6) zal)))) zba)
def zeA(fu:Nat):DS :=
 (zaz (zaV 5 (znr zn9 (zaf 4)))
 (zda (dIT (zay ixW (zaf 0) (zaf 5))) (gN 6) (zez fu)))
def d_patch_of(fu:Nat):List W->M W:=dFn finO 7
 (zaz (zaV 3 (zfa (zaf 2) (dC (.bl true))))
 (zaz (zaV 4 (zb4 (zac (zaf 2) zal)))
 (zaz (zb1 (znd (zaf 4)) (zeA fu) fu)
 (zbg (dBi (za6 zgi) (zac (zaf 3) zal))))))
def zfe(fu:Nat):DS :=
 (zkL (zaf 2) (zaf 6) (dC (.bl true)))
def zff(fu:Nat):DS :=
 (dIf (dB (zay (zlk true) (zaf 4) (zaf 2))) (zaz (zaV 5 (zao 3 (zcL (d_patch_of fu)) (zac (zaf 0) (zac (zaf 1) (zac (zaf 4) zal)))))
 (zaz (dEx (dMt zeR (zaf 3) (zac (zaf 5) zal)))
 (zda (dIL (zaf 5)) (gN 6) (zfe fu)))) zba)
def d_patches(fu:Nat):List W->M W:=dFn finO 7
 (zaz (zaV 2 zg4)
 (zaz (zaV 3 (zb4 zal))
 (zaz (zda (zgS (zac (dBi zc3 (zac (zaf 0) zal)) zal)) (gN 4) (zff fu))
 (zbg (zaf 3)))))
def d_patch(fu:Nat):List W->M W:=dFn finO 3
 (zbg (zao 3 (d_patch_of fu) (zac (zaf 0) (zac (zaf 1) (zac (zaf 2) zal)))))
def d_rows(fu:Nat):List W->M W:=dFn finC 2
 (zbg (dLC zaT [1] (dIL (zao 2 (zcL (d_patches fu)) (zac (zaf 0) (zac (zaf 1) zal)))) (dB (zay (eqW true) (zay ixW (zaf 1) (zay ixW (zaf 0) (dC (.int 0)))) (dC (.int 0)))) (zaf 0)))
def zcr(fu:Nat):DS :=
 (zkL (zaf 2) (zaf 4) (dC (.bl true)))
def zcs(fu:Nat):DS :=
 (zda (dIT (zay ixW (zaf 0) (zaf 3))) (gN 4) (zcr fu))
def d_points_beside(fu:Nat):List W->M W:=dFn finO 5
 (zaz (zaV 2 zg4)
 (zaz (zda (dIL (zaf 1)) (gN 3) (zcs fu))
 (zbg (dBi (za6 zgi) (zac (zaf 2) zal)))))
def d_breaths(fu:Nat):List W->M W:=dFn finO 3
 (zbg (dLC zgi [1] (dIL (zao 2 (zcL (d_points_beside fu)) (zac (zaf 0) (zac (zaf 2) zal)))) (dB (zay (eqW false) (zay ixW (zaf 1) (zaf 0)) (dC (.int 0)))) (zaf 0)))
def zko(fu:Nat):DS :=
 (zg7 (zaf 2) (zdW (zaf 3) (zaf 4)))
def d_filled(fu:Nat):List W->M W:=dFn finC 5
 (zaz (zaV 3 (dBi (zcV zgi) (zac (zaf 0) zal)))
 (zaz (zda (dIL (zaf 1)) (gN 4) (zko fu))
 (zbg (dBi zbt (zac (zaf 3) zal)))))
def zfP(fu:Nat):DS :=
 (dIf (zdU (dB (zay (eqW false) (zay ixW (zaf 1) (zay ixW (zaf 4) (dC (.int 0)))) (zaf 2))) (zdV (znd (zao 3 (zcL (d_breaths fu)) (zac (zaf 0) (zac (zaf 1) (zac (zaf 4) zal))))))) (dEx (dMt zrs (zaf 3) (zac (zaf 4) zal))) zba)
def d_breathless(fu:Nat):List W->M W:=dFn finO 5
 (zaz (zaV 3 (zb4 zal))
 (zaz (zda (dIL (zao 2 (d_rows fu) (zac (zaf 0) (zac (zaf 1) zal)))) (gN 4) (zfP fu))
 (zbg (dBi (za6 zgi) (zac (zaf 3) zal)))))
def d_laid(fu:Nat):List W->M W:=dFn finC 7
 (zaz (dIf (dB (zay (eqW true) (zay ixW (zaf 1) (zaf 3)) (dC (.int 0)))) (zif "NoLay" [3]) zba)
 (zaz (zaV 4 (zao 3 (d_filled fu) (zac (zaf 1) (zac (zbO (zac (zaf 3) zal)) (zac (zaf 2) zal)))))
 (zaz (zaV 5 (zao 3 (zcL (d_breathless fu)) (zac (zaf 0) (zac (zaf 4) (zac (zao 1 (d_other_hand fu) (zac (zaf 2) zal)) zal)))))
 (zaz (zaV 6 (zao 3 (d_filled fu) (zac (zaf 4) (zac (zaf 5) (zac (dC (.int 0)) zal)))))
 (zaz (dIf (zdV (znd (zao 3 (zcL (d_breaths fu)) (zac (zaf 0) (zac (zaf 6) (zac (zao 3 (zcL (d_patch fu)) (zac (zaf 0) (zac (zaf 6) (zac (zaf 3) zal)))) zal)))))) (zif "NoBreath" [3]) zba)
 (zbg (zeP (zac (zaf 6) (zac (zaf 5) zal)))))))))
def ziI(fu:Nat):DS :=
 (zaz (zqy (zao 4 (d_laid fu) (zey (zac (zaf 0) (zac (zaf 1) (zac (zaf 2) (zac (zaf 5) zal)))))) (some 6) (fun x=>zdA XTB "NoLay" x||zdA XTB "NoBreath" x) (fun _=>zqx zr2))
 (dEx (dMt zeR (zaf 4) (zac (zeP (zac (zaf 5) (zac (zay ixW (zaf 6) (dC (.int 0))) (zac (zay ixW (zaf 6) (dC (.int 1))) zal)))) zal))))
def d_lays_on(fu:Nat):List W->M W:=dFn finO 7
 (zaz (zaV 4 (zb4 zal))
 (zaz (zda (dIL (zaf 3)) (gN 5) (ziI fu))
 (zbg (zaf 4))))
def d_closes(fu:Nat):List W->M W:=dFn finC 4
 (zaz (zaV 3 (dLC zaT [2] (dIT (zaf 1)) zcK (zay (eqW false) (zaf 0) (zaf 1))))
 (zbg (dLC zaT [3] (dIL (zao 2 (zcL (d_patches fu)) (zac (zaf 0) (zac (zaf 3) zal)))) (zdV (dB (zay ixW (zaf 1) (zay ixW (zaf 0) (dC (.int 0)))))) (zaf 0))))
def d_rows_of(fu:Nat):List W->M W:=dFn finC 3
 (zbg (dLC zaT [2,1] (dIL (zao 2 (d_rows fu) (zac (zaf 0) (zac (zaf 1) zal)))) (dB (zay (eqW false) (zay ixW (zaf 2) (zay ixW (zaf 0) (dC (.int 0)))) (zaf 1))) (zaf 0)))
def d_is_held(fu:Nat):List W->M W:=dFn finC 3
 (zbg (dBi zme (zac (dLC zaT [2,0] (dIL (zaf 1)) (dB (zay (eqW false) (zay ixW (zaf 2) (zaf 0)) (dC (.int 0)))) (zay (inW false) (zaf 0) (zaf 1))) zal)))
def d_is_firm(fu:Nat):List W->M W:=dFn finC 6
 (zaz (zaV 4 (zao 3 (zcL (d_breaths fu)) (zac (zaf 0) (zac (zaf 1) (zac (zaf 2) zal)))))
 (zaz (zaV 5 (dLC zaT [1,4] (dIL (zaf 3)) (zey (dB (zao 3 (d_is_held fu) (zac (zaf 1) (zac (zaf 0) (zac (zaf 2) zal)))))) (zaf 0)))
 (zbg (dOp fGe (dBi zc3 (zac (zaf 5) zal)) (dC (.int 2))))))
def d_is_in_one(fu:Nat):List W->M W:=dFn finC 2
 (zbg (dBi zo1 (zac (dLC zaT [0] (dIL (zaf 1)) zcK (zay (inW false) (zaf 1) (zaf 0))) zal)))
def d_is_walled(fu:Nat):List W->M W:=dFn finC 6
 (zaz (zaV 5 (dLC zaT [2,1] (dIL (zao 2 (zcL (d_points_beside fu)) (zac (zaf 0) (zac (zaf 3) zal)))) (dB (zay (eqW false) (zay ixW (zaf 2) (zaf 0)) (zaf 1))) (zaf 0)))
 (zbg (dBi zme (zac (dLC zaT [4] (dIL (zaf 5)) zcK (zey (zao 2 (d_is_in_one fu) (zac (zaf 0) (zac (zaf 1) zal))))) zal))))
def d_kept(fu:Nat):List W->M W:=dFn finC 6
 (zaz (zaV 4 (dLC zaT [0,1,3] (dIL (zay ixW (zaf 3) (dC (.int 0)))) (zey (dB (zao 4 (d_is_firm fu) (zac (zaf 1) (zac (zaf 2) (zac (zaf 0) (zac (zay ixW (zaf 3) (dC (.int 1))) zal))))))) (zaf 0)))
 (zaz (zaV 5 (dLC zaT [0,1,2,3] (dIL (zay ixW (zaf 3) (dC (.int 1)))) (zey (dB (zao 5 (d_is_walled fu) (zac (zaf 1) (zac (zaf 2) (zac (zaf 3) (zac (zaf 0) (zac (zay ixW (zaf 4) (dC (.int 0))) zal)))))))) (zaf 0)))
 (zbg (zeP (zac (zaf 4) (zac (zaf 5) zal))))))
def zkp(fu:Nat):DS :=
 (zaz (zaV 3 (zaf 4))
 (zaV 4 (zao 4 (d_kept fu) (zac (zaf 0) (zac (zaf 1) (zac (zaf 2) (zac (zaf 3) zal)))))))
def d_safe(fu:Nat):List W->M W:=dFn finC 5
 (zaz (zaV 3 (zeP (zac (zao 3 (d_rows_of fu) (zac (zaf 0) (zac (zaf 1) (zac (zaf 2) zal)))) (zac (zao 3 (d_closes fu) (zac (zaf 0) (zac (zaf 1) (zac (zaf 2) zal)))) zal))))
 (zaz (zaV 4 (zao 4 (d_kept fu) (zac (zaf 0) (zac (zaf 1) (zac (zaf 2) (zac (zaf 3) zal))))))
 (zaz (zb1 (dB (zay (eqD true) (zaf 4) (zaf 3))) (zkp fu) fu)
 (zbg (zaf 3)))))
def d_is_points(fu:Nat):List W->M W:=dFn finC 1
 (zbg (zi1 (dBi zlo (zac (zaf 0) (zac (dC (.ty "list")) zal))) (dBi zme (zac (dLC zaT [] (dIL (zaf 0)) zcK (zey (zao 1 (d_is_whole fu) (zac (zaf 0) zal)))) zal))))
def d_are_some_of(fu:Nat):List W->M W:=dFn finC 2
 (zaz (dIf (zdV (dB (dBi zlo (zac (zaf 0) (zac (dC (.ty "list")) zal))))) (zbg (dC (.bl false))) zba)
 (zbg (dBi zme (zac (dLC zaT [1,0] (dIL (zaf 0)) zcK (zey (zi1 (zao 1 (d_is_points fu) (zac (zaf 0) zal)) (zi1 (zay (inW false) (zaf 0) (zaf 1)) (zay (eqW false) (dMt zoa (zaf 2) (zac (zaf 0) zal)) (dC (.int 1))))))) zal))))
def d_holds(fu:Nat):List W->M W:=dFn finC 4
 (zaz (dIf (zli (zdV (dB (dBi zlo (zac (zaf 3) (zac (dC (.ty "tuple")) zal))))) (dB (zay (eqW true) (dBi zc3 (zac (zaf 3) zal)) (dC (.int 2))))) (zbg (dC (.bl false))) zba)
 (zaz (dIf (zdV (dB (zao 2 (d_are_some_of fu) (zac (zay ixW (zaf 3) (dC (.int 0))) (zac (zao 3 (d_rows_of fu) (zac (zaf 0) (zac (zaf 1) (zac (zaf 2) zal)))) zal))))) (zbg (dC (.bl false))) zba)
 (zaz (dIf (zdV (dB (zao 2 (d_are_some_of fu) (zac (zay ixW (zaf 3) (dC (.int 1))) (zac (zao 3 (d_closes fu) (zac (zaf 0) (zac (zaf 1) (zac (zaf 2) zal)))) zal))))) (zbg (dC (.bl false))) zba)
 (zbg (zay (eqD false) (zao 4 (d_kept fu) (zac (zaf 0) (zac (zaf 1) (zac (zaf 2) (zac (zaf 3) zal))))) (zaf 3))))))
def d_is_safe(fu:Nat):List W->M W:=dFn finC 3
 (zbg (zao 2 (d_is_in_one fu) (zac (zaf 2) (zac (zay ixW (zao 3 (d_safe fu) (zac (zaf 0) (zac (zaf 1) (zac (zay ixW (zaf 1) (zaf 2)) zal)))) (dC (.int 0))) zal))))
def d_spots(fu:Nat):List W->M W:=dFn finC 4
 (zaz (zaV 3 (zao 3 (zcL (d_breaths fu)) (zac (zaf 0) (zac (zaf 1) (zac (zao 3 (zcL (d_patch fu)) (zac (zaf 0) (zac (zaf 1) (zac (zaf 2) zal)))) zal)))))
 (zbg (znl zaT (zaf 3) (dLC zaT [3,1] (zgS (zac (dBi zc3 (zac (zaf 0) zal)) zal)) (zdU (dB (zay (eqW false) (zay ixW (zaf 2) (zaf 0)) (dC (.int 0)))) (dB (zay (inW true) (zaf 0) (zaf 1)))) (zaf 0)))))
def zeB(fu:Nat):DS :=
 (dIf (zli (dB (zay (eqW false) (zay ixW (zay ixW (zaf 5) (dC (.int 1))) (zaf 2)) (dC (.int 0)))) (zdV (dB (zao 3 (d_is_safe fu) (zac (zaf 0) (zac (zay ixW (zaf 5) (dC (.int 1))) (zac (zaf 2) zal))))))) (zbg (zaf 5)) zba)
def zeC(fu:Nat):DS :=
 (zda (dIL (zao 4 (zcL (d_lays_on fu)) (zac (zaf 0) (zac (zaf 1) (zac (zaf 3) (zac (zbO (zac (zaf 4) zal)) zal)))))) (gN 5) (zeB fu))
def d_unsaving_lay(fu:Nat):List W->M W:=dFn finC 6
 (zaz (zaV 3 (zao 1 (d_other_hand fu) (zac (zay ixW (zaf 1) (zaf 2)) zal)))
 (zaz (zda (dIL (zao 3 (d_spots fu) (zac (zaf 0) (zac (zaf 1) (zac (zaf 2) zal))))) (gN 4) (zeC fu))
 (zbg (dC .non))))
def zkq(fu:Nat):DS :=
 (zaz (zaV 5 (zao 3 (d_unsaving_lay fu) (zac (zaf 0) (zac (zaf 4) (zac (zaf 2) zal)))))
 (zaz (dEx (dMt zeR (zaf 3) (zac (zay ixW (zaf 5) (dC (.int 0))) zal)))
 (zaV 4 (zay ixW (zaf 5) (dC (.int 1))))))
def d_taking(fu:Nat):List W->M W:=dFn zo0 6
 (zaz (dIf (dB (zao 3 (d_is_safe fu) (zac (zaf 0) (zac (zaf 1) (zac (zaf 2) zal))))) (zbg (dC .non)) zba)
 (zaz (zaV 3 (zb4 zal))
 (zaz (zaV 4 (zaf 1))
 (zaz (zb1 (dB (zay (eqW true) (zay ixW (zaf 4) (zaf 2)) (dC (.int 0)))) (zkq fu) fu)
 (zbg (zaf 3))))))
def d__law_cell(fu:Nat):List W->M W:=dFn finC 3
 (zaz (dIf (dB (dOp fLt (zaf 1) (dBi zc3 (zac (zaf 0) zal)))) (zbg (zay ixW (zaf 0) (zaf 1))) zba)
 (zaz (zaV 2 (dC (.int 0)))
 (zaz (dIf (dB (dOp fGt (dBi zc3 (zac (zaf 0) zal)) (dC (.int 0)))) (zaV 2 (zay ixW (zaf 0) (dOp zbT (dOp zdg (dOp ze9 (zaf 1) (dC (.int 7))) (dC (.int 3))) (dBi zc3 (zac (zaf 0) zal))))) zba)
 (zbg (dOp zdg (dOp zdg (dOp zdg (dOp ze9 (zaf 2) (dC (.int 31))) (dOp ze9 (dOp ze9 (zaf 1) (zaf 1)) (dC (.int 7919)))) (dOp ze9 (dC (.int 101)) (zaf 1))) (dC (.int 17)))))))
def d__law_next(fu:Nat):List W->M W:=dFn finC 4
 (zaz (zaV 2 (dOp zbT (zao 2 (d__law_cell fu) (zac (zay ixW (zaf 0) (dC (.int 0))) (zac (zay ixW (zaf 0) (dC (.int 1))) zal))) (dC (.int 4294967291))))
 (zaz (zg7 (dOp zdg (zay ixW (zaf 0) (dC (.int 1))) (dC (.int 1))) (zdW (zaf 0) (dC (.int 1))))
 (zaz (zaV 3 (dOp zbT (dOp ze9 (dOp zdg (zaf 2) (dOp ze9 (dC (.int 13)) (zay ixW (zaf 0) (dC (.int 1))))) (dC (.int 48271))) (dC (.int 2147483647))))
 (zbg (dOp zbT (dOp zjx (dOp zbT (dOp ze9 (zaf 3) (dOp zdg (dOp zdg (dOp zbT (zaf 3) (dC (.int 65519))) (zay ixW (zaf 0) (dC (.int 1)))) (dC (.int 2)))) (dC (.int 2147483629))) (dC (.int 3))) (zaf 1))))))
def zdm(fu:Nat):DS :=
 (zaz (zaV 6 (dOp zbT (dOp zdg (dOp ze9 (zaf 6) (dC (.int 48271))) (dC (.int 11))) (dC (.int 2147483647))))
 (dIf (zli (dB (dOp fLt (dOp zbT (dOp zjx (zaf 6) (dC (.int 64))) (dC (.int 8))) (dOp ze9 (dC (.int 2)) (zaf 2)))) (zdU (dB (dOp zgT (zaf 2) (dC (.int 1)))) (dB (dOp zgT (zaf 7) (dOp zdg (zaf 8) (dC (.int 1))))))) (dEx (dMt zeR (zaf 5) (zac (zeP (zac (zaf 8) (zac (zaf 7) zal))) zal))) zba))
def zdn(fu:Nat):DS :=
 (zda (zgS (zac (zaf 7) zal)) (gN 8) (zdm fu))
def d__law_lines(fu:Nat):List W->M W:=dFn zo0 9
 (zaz (zaV 2 (zao 2 (d__law_next fu) (zac (zaf 0) (zac (dC (.int 3)) zal))))
 (zaz (dIf (dB (dOp zgT (zaf 2) (dC (.int 0)))) (zaz (zaV 3 (dOp zdg (dC (.int 1)) (zao 2 (d__law_next fu) (zac (zaf 0) (zac (dBi zqs (zac (zaf 1) (zac (dC (.int 4)) zal))) zal)))))
 (zaz (zaV 4 (dOp ze9 (zaf 3) (dOp zdg (dC (.int 1)) (zao 2 (d__law_next fu) (zac (zaf 0) (zac (dBi zqt (zac (dC (.int 1)) (zac (dOp zjx (zaf 1) (zaf 3)) zal))) zal))))))
 (zaz (zaV 5 (dLC zgi [3] (zgS (zac (zaf 4) zal)) (dB (dOp fLt (dOp zbT (zaf 0) (zaf 1)) (dOp zg1 (zaf 1) (dC (.int 1))))) (zeP (zac (zaf 0) (zac (dOp zdg (zaf 0) (dC (.int 1))) zal)))))
 (zbg (zeP (zac (zaf 4) (zac (znl zaT (zaf 5) (dLC zaT [3] (zgS (zac (dOp zg1 (zaf 4) (zaf 3)) zal)) zcK (zeP (zac (zaf 0) (zac (dOp zdg (zaf 0) (zaf 1)) zal))))) zal))))))) zba)
 (zaz (zaV 4 (dOp zdg (dC (.int 1)) (zao 2 (d__law_next fu) (zac (zaf 0) (zac (zaf 1) zal)))))
 (zaz (zaV 6 (zao 2 (d__law_next fu) (zac (zaf 0) (zac (dC (.int 2147483647)) zal))))
 (zaz (zaV 5 (zb4 zal))
 (zaz (zda (zgS (zac (zaf 4) zal)) (gN 7) (zdn fu))
 (zbg (zeP (zac (zaf 4) (zac (zaf 5) zal))))))))))
def zdo(fu:Nat):DS :=
 (zaz (dEx (dMt zeR (zay ixW (zaf 4) (zaf 5)) (zac (zaf 6) zal)))
 (dEx (dMt zeR (zay ixW (zaf 4) (zaf 6)) (zac (zaf 5) zal))))
def d__law_board(fu:Nat):List W->M W:=dFn finC 7
 (zaz (zg7 (zao 2 (zlB (d__law_lines fu)) (zac (zaf 0) (zac (zaf 1) zal))) (gT 2 (zc2 (gN 2) (zc2 (gN 3) zjO))))
 (zaz (zaV 4 (dLC zaT [] (zgS (zac (zaf 2) zal)) zcK (zb4 zal)))
 (zaz (zda (dIL (zaf 3)) (gT 2 (zc2 (gN 5) (zc2 (gN 6) zjO))) (zdo fu))
 (zbg (dBi zbt (zac (dLC zaT [] (dIL (zaf 4)) zcK (dBi zbt (zac (dBi (za6 zaT) (zac (zaf 0) zal)) zal))) zal))))))
def zdN(fu:Nat):DS :=
 (dIf (zdU (dB (zay (inW false) (zaf 5) (zaf 2))) (dB (zay (zlk true) (zaf 5) (zaf 3)))) (zaz (zkL (zaf 3) (zaf 5) (dC (.bl true)))
 (dEx (dMt zeR (zaf 4) (zac (zaf 5) zal)))) zba)
def zdO(fu:Nat):DS :=
 (zda (dIT (zay ixW (zaf 0) (znr zn9 (zaf 4)))) (gN 5) (zdN fu))
def d__law_come(fu:Nat):List W->M W:=dFn finC 6
 (zaz (zaV 3 (zfa (zaf 1) (dC (.bl true))))
 (zaz (zaV 4 (zb4 (zac (zaf 1) zal)))
 (zaz (zb1 (dB (dOp fGt (dBi zc3 (zac (zaf 4) zal)) (dC (.int 0)))) (zdO fu) fu)
 (zbg (dBi (za6 zaT) (zac (zaf 3) zal))))))
def zcC(fu:Nat):DS :=
 (dIf (dB (zay (eqD false) (dLC zaT [5] (dIL (zaf 4)) (dB (zay (inW false) (zaf 1) (zaf 0))) (zaf 0)) (zbO zal))) (dEx (dMt zeR (zaf 4) (zac (zao 3 (d__law_come fu) (zac (zaf 0) (zac (zaf 5) (zac (zaf 3) zal)))) zal))) zba)
def d__law_patches(fu:Nat):List W->M W:=dFn finO 6
 (zaz (zaV 3 (dLC zaT [2,1] (zgS (zac (dBi zc3 (zac (zaf 0) zal)) zal)) (dB (zay (inW false) (zay ixW (zaf 2) (zaf 0)) (zaf 1))) (zaf 0)))
 (zaz (zaV 4 (zb4 zal))
 (zaz (zda (dIL (zaf 3)) (gN 5) (zcC fu))
 (zbg (zaf 4)))))
def zdP(fu:Nat):DS :=
 (zkL (zaf 2) (zaf 4) (dC (.bl true)))
def zdQ(fu:Nat):DS :=
 (zda (dIT (zay ixW (zaf 0) (zaf 3))) (gN 4) (zdP fu))
def d__law_edge(fu:Nat):List W->M W:=dFn finC 5
 (zaz (zaV 2 zg4)
 (zaz (zda (dIL (zaf 1)) (gN 3) (zdQ fu))
 (zbg (dBi (za6 zaT) (zac (zaf 2) zal)))))
def d__law_breaths(fu:Nat):List W->M W:=dFn finC 3
 (zbg (dLC zaT [1] (dIL (zao 2 (d__law_edge fu) (zac (zaf 0) (zac (zaf 2) zal)))) (dB (dOp zgT (zay ixW (zaf 1) (zaf 0)) (dC (.int 0)))) (zaf 0)))
def zcD(fu:Nat):DS :=
 (zg7 (dC (.int 0)) (zdW (zaf 1) (zaf 4)))
def zcE(fu:Nat):DS :=
 (dIf (dB (zay (eqW false) (zao 3 (d__law_breaths fu) (zac (zaf 0) (zac (zaf 1) (zac (zaf 3) zal)))) (zbO zal))) (zda (dIL (zaf 3)) (gN 4) (zcD fu)) zba)
def zcF(fu:Nat):DS :=
 (zda (dIL (zao 3 (zcL (d__law_patches fu)) (zac (zaf 0) (zac (zaf 1) (zac (zbO (zac (zaf 2) zal)) zal))))) (gN 3) (zcE fu))
def d__law_cleaned(fu:Nat):List W->M W:=dFn finC 5
 (zaz (zda (dIL (zbO (zac (dC (.int 1)) (zac (dC (.int 2)) zal)))) (gN 2) (zcF fu))
 (zbg (dBi zbt (zac (zaf 1) zal))))
def zdp(fu:Nat):DS :=
 (zaz (zaV 3 (dOp zbT (dOp zdg (dOp ze9 (zaf 3) (dC (.int 48271))) (dC (.int 11))) (dC (.int 2147483647))))
 (dEx (dMt zeR (zaf 4) (zac (zay ixW (zaf 2) (dOp zbT (dOp zjx (zaf 3) (dC (.int 64))) (dBi zc3 (zac (zaf 2) zal)))) zal))))
def d__law_stand(fu:Nat):List W->M W:=dFn finC 6
 (zaz (zaV 2 (zay ixW (zbO (zac (zbO (zac (dC (.int 0)) (zac (dC (.int 1)) (zac (dC (.int 2)) zal)))) (zac (zbO (zac (dC (.int 1)) (zac (dC (.int 0)) (zac (dC (.int 1)) (zac (dC (.int 1)) (zac (dC (.int 2)) (zac (dC (.int 1)) zal))))))) (zac (zbO (zac (dC (.int 2)) (zac (dC (.int 0)) (zac (dC (.int 2)) (zac (dC (.int 2)) (zac (dC (.int 1)) (zac (dC (.int 2)) zal))))))) (zac (zbO (zac (dC (.int 0)) (zac (dC (.int 0)) (zac (dC (.int 1)) (zac (dC (.int 2)) zal))))) zal))))) (zao 2 (d__law_next fu) (zac (zaf 0) (zac (dC (.int 4)) zal)))))
 (zaz (zaV 3 (zao 2 (d__law_next fu) (zac (zaf 0) (zac (dC (.int 2147483647)) zal))))
 (zaz (zaV 4 (zb4 zal))
 (zaz (zda (zgS (zac (dBi zc3 (zac (zaf 1) zal)) zal)) (gN 5) (zdp fu))
 (zbg (zao 2 (d__law_cleaned fu) (zac (zaf 1) (zac (zaf 4) zal))))))))
def d__law_ladder(fu:Nat):List W->M W:=dFn finC 9
 (zaz (zaV 2 (dOp zdg (dC (.int 3)) (zao 2 (d__law_next fu) (zac (zaf 0) (zac (dOp zg1 (zaf 1) (dC (.int 2))) zal)))))
 (zaz (zaV 3 (dOp zdg (dC (.int 1)) (zao 2 (d__law_next fu) (zac (zaf 0) (zac (dC (.int 2)) zal)))))
 (zaz (zaV 4 (zao 2 (d__law_next fu) (zac (zaf 0) (zac (dC (.int 2)) zal))))
 (zaz (zaV 5 (dLC zgi [3,4] (zgS (zac (zaf 2) zal)) zcK (dOp ze9 (zaf 1) (dOp zbT (dOp zdg (zaf 0) (zaf 2)) (dC (.int 2))))))
 (zaz (zaV 6 (zao 2 (d__law_next fu) (zac (zaf 0) (zac (zaf 2) zal))))
 (zaz (zg7 (zay ixW (zbO (zac (zay ixW (zaf 5) (zaf 6)) (zac (dC (.int 0)) (zac (dOp zg1 (dC (.int 3)) (zaf 3)) (zac (zaf 3) (zac (zay ixW (zaf 5) (zaf 6)) (zac (zay ixW (zaf 5) (zaf 6)) zal))))))) (zao 2 (d__law_next fu) (zac (zaf 0) (zac (dC (.int 6)) zal)))) (zdW (zaf 5) (zaf 6)))
 (zaz (zaV 7 (dLC zgi [] (zgS (zac (zaf 2) zal)) zcK (zbO (zac (dOp zg1 (zaf 0) (dC (.int 1))) (zac (dOp zdg (zaf 0) (dC (.int 1))) zal)))))
 (zaz (dIf (dB (dOp fGt (zao 2 (d__law_next fu) (zac (zaf 0) (zac (dC (.int 3)) zal))) (dC (.int 0)))) (zaz (zg7 (zbO (zac (dC (.int 1)) zal)) (zdW (zaf 7) (dC (.int 0))))
 (zg7 (zbO (zac (dOp zg1 (zaf 2) (dC (.int 2))) zal)) (zdW (zaf 7) (dUn ziA (dC (.int 1)))))) zba)
 (zaz (zaV 8 (dBi zbt (zac (dLC zaT [2] (dIL (zaf 7)) zcK (dBi zbt (zac (dBi (za6 zaT) (zac (dLC zaT [1] (dIL (zaf 0)) zcK (dOp zbT (zaf 0) (zaf 1))) zal)) zal))) zal)))
 (zbg (zeP (zac (zaf 8) (zac (zao 2 (d__law_cleaned fu) (zac (zaf 8) (zac (zaf 5) zal))) zal)))))))))))))
def d__law_world(fu:Nat):List W->M W:=dFn finC 4
 (zaz (dIf (dB (dOp zgT (zao 2 (d__law_next fu) (zac (zaf 0) (zac (dC (.int 4)) zal))) (dC (.int 0)))) (zbg (zao 2 (d__law_ladder fu) (zac (zaf 0) (zac (zaf 2) zal)))) zba)
 (zaz (zaV 3 (zao 2 (d__law_board fu) (zac (zaf 0) (zac (zaf 1) zal))))
 (zbg (zeP (zac (zaf 3) (zac (zao 2 (d__law_stand fu) (zac (zaf 0) (zac (zaf 3) zal))) zal))))))
def d__law_closes(fu:Nat):List W->M W:=dFn finC 3
 (zbg (zao 3 (zcL (d__law_patches fu)) (zac (zaf 0) (zac (zaf 1) (zac (zbO (zac (dC (.int 0)) (zac (dOp zg1 (dC (.int 3)) (zaf 2)) zal))) zal)))))
def d__law_odd(fu:Nat):List W->M W:=dFn finC 5
 (zaz (dIf (dB (dOp zgT (dOp zbT (zaf 3) (dC (.int 5))) (dC (.int 0)))) (zbg (zbO (zac (dOp zbT (zaf 3) (dBi zc3 (zac (zaf 0) zal))) zal))) zba)
 (zaz (dIf (dB (dOp zgT (dOp zbT (zaf 3) (dC (.int 5))) (dC (.int 1)))) (zbg (zbO zal)) zba)
 (zaz (zaV 4 (znl zaT (zao 3 (zcL (d__law_patches fu)) (zac (zaf 0) (zac (zaf 1) (zac (zbO (zac (zaf 2) zal)) zal)))) (zbO (zac (zbO (zac (dC (.int 0)) zal)) zal))))
 (zaz (dIf (dB (dOp zgT (dOp zbT (zaf 3) (dC (.int 5))) (dC (.int 2)))) (zaz (zaV 4 (znl zaT (zao 3 (zcL (d__law_patches fu)) (zac (zaf 0) (zac (zaf 1) (zac (zbO (zac (dOp zg1 (dC (.int 3)) (zaf 2)) zal)) zal)))) (zbO (zac (zbO (zac (dC (.int 0)) zal)) zal))))
 (zbg (zay ixW (zaf 4) (dC (.int 0))))) zba)
 (zbg (zay ixW (zbO (zac (dSl zaT (zay ixW (zaf 4) (dC (.int 0))) zdt (zef (dUn ziA (dC (.int 1))))) (zac (ziH zaT (zay ixW (zaf 4) (dC (.int 0))) (zef (dUn ziA (dC (.int 1))))) zal))) (dOp zg1 (dOp zbT (zaf 3) (dC (.int 5))) (dC (.int 3)))))))))
def d__law_changed(fu:Nat):List W->M W:=dFn zo0 14
 (zaz (zaV 5 (dLC zgi [] (dIL (zay ixW (zaf 4) (dC (.int 0)))) zcK (dBi (zcV zaT) (zac (zaf 0) zal))))
 (zaz (zaV 6 (dLC zgi [] (dIL (zay ixW (zaf 4) (dC (.int 1)))) zcK (dBi (zcV zaT) (zac (zaf 0) zal))))
 (zaz (zaV 7 (zao 3 (zcL (d__law_patches fu)) (zac (zaf 1) (zac (zaf 2) (zac (zbO (zac (zaf 3) zal)) zal)))))
 (zaz (zaV 8 (zao 3 (d__law_closes fu) (zac (zaf 1) (zac (zaf 2) (zac (zaf 3) zal)))))
 (zaz (zaV 9 (zao 2 (d__law_next fu) (zac (zaf 0) (zac (dC (.int 10)) zal))))
 (zaz (zaV 10 (zay ixW (zbO (zac (zaf 5) (zac (zaf 6) zal))) (dOp zbT (zaf 9) (dC (.int 2)))))
 (zaz (zaV 11 (zao 2 (d__law_next fu) (zac (zaf 0) (zac (dC (.int 36)) zal))))
 (zaz (dIf (zdU (dB (dOp fLt (zaf 9) (dC (.int 4)))) (dB (zay (eqD true) (zaf 10) (zbO zal)))) (dEx (dMt zpX (zaf 10) (zac (dOp zbT (zaf 11) (dBi zc3 (zac (zaf 10) zal))) zal))) (dIf (zdU (dB (dOp fLt (zaf 9) (dC (.int 6)))) (dB (zay (eqD true) (zaf 10) (zbO zal)))) (dEx (dMt zpU (zaf 10) (zac (dOp zbT (zaf 11) (dOp zdg (dBi zc3 (zac (zaf 10) zal)) (dC (.int 1)))) (zac (dBi (zcV zaT) (zac (zay ixW (zaf 10) (dOp zbT (zaf 11) (dBi zc3 (zac (zaf 10) zal)))) zal)) zal)))) (dIf (dB (dOp fLt (zaf 9) (dC (.int 8)))) (zaz (zaV 12 (zay ixW (zbO (zac (zaf 7) (zac (zaf 8) zal))) (dOp zbT (zaf 9) (dC (.int 2)))))
 (dIf (dB (zay (eqD true) (zaf 12) (zbO zal))) (zaz (zaV 13 (dBi (zcV zaT) (zac (zay ixW (zaf 12) (dOp zbT (zaf 11) (dBi zc3 (zac (zaf 12) zal)))) zal)))
 (dIf (zli (dB (zay (inW true) (zaf 13) (zaf 10))) (dB (dOp zgT (dOp zbT (zaf 11) (dC (.int 3))) (dC (.int 0))))) (dEx (dMt zeR (zaf 10) (zac (zaf 13) zal))) zba)) zba)) (dIf (dB (dOp zgT (zaf 9) (dC (.int 8)))) (dEx (dMt zeR (zay ixW (zbO (zac (zaf 5) (zac (zaf 6) zal))) (dOp zbT (dOp zjx (zaf 11) (dC (.int 5))) (dC (.int 2)))) (zac (zao 4 (d__law_odd fu) (zac (zaf 1) (zac (zaf 2) (zac (zaf 3) (zac (zaf 11) zal))))) zal))) (dEx (znr zpM (zaf 10)))))))
 (zbg (zeP (zac (zaf 5) (zac (zaf 6) zal))))))))))))
def d__law_drawn(fu:Nat):List W->M W:=dFn finC 6
 (zaz (zaV 4 (dLC zaT [0] (dIL (zao 3 (zcL (d__law_patches fu)) (zac (zaf 1) (zac (zaf 2) (zac (zbO (zac (zaf 3) zal)) zal))))) (zey (dB (dOp fGt (zao 2 (d__law_next fu) (zac (zaf 1) (zac (dC (.int 3)) zal))) (dC (.int 0))))) (zaf 0)))
 (zaz (zaV 5 (dLC zaT [0] (dIL (zao 3 (d__law_closes fu) (zac (zaf 1) (zac (zaf 2) (zac (zaf 3) zal))))) (zey (dB (dOp fGt (zao 2 (d__law_next fu) (zac (zaf 1) (zac (dC (.int 3)) zal))) (dC (.int 0))))) (zaf 0)))
 (zbg (zeP (zac (zaf 4) (zac (zaf 5) zal))))))
def zmt(fu:Nat):DS :=
 (zaz (dIf (dB (dOp zgT (dOp zbT (zaf 7) (dC (.int 2))) (dC (.int 0)))) (zaV 6 (zao 5 (zlB (d__law_changed fu)) (zac (zaf 1) (zac (zaf 2) (zac (zaf 3) (zac (zaf 4) (zac (zay ixW (zbO (zac (zaf 5) (zac (zaf 6) zal))) (zao 2 (d__law_next fu) (zac (zaf 1) (zac (dC (.int 2)) zal)))) zal))))))) (zaV 6 (zao 4 (d__law_drawn fu) (zac (zaf 1) (zac (zaf 2) (zac (zaf 3) (zac (zaf 4) zal)))))))
 (dIf (dB (zao 4 (d_holds fu) (zac (zaf 2) (zac (zaf 3) (zac (zaf 4) (zac (zeP (zac (dBi (zcV zaT) (zac (zay ixW (zaf 6) (dC (.int 0))) zal)) (zac (dBi (zcV zaT) (zac (zay ixW (zaf 6) (dC (.int 1))) zal)) zal))) zal)))))) (zaz (dIf (dB (zay (eqD true) (dLC zaT [5] (dIL (zay ixW (zaf 6) (dC (.int 0)))) (dB (zay (inW true) (zaf 0) (zay ixW (zaf 1) (dC (.int 0))))) (zaf 0)) (zbO zal))) (zbg (dC (.bl false))) zba)
 (zaz (dIf (dB (zay (eqD true) (dLC zaT [5] (dIL (zay ixW (zaf 6) (dC (.int 1)))) (dB (zay (inW true) (zaf 0) (zay ixW (zaf 1) (dC (.int 1))))) (zaf 0)) (zbO zal))) (zbg (dC (.bl false))) zba)
 (dIf (dB (zay (eqD true) (dLC zaT [2,3] (dIL (zay ixW (zaf 6) (dC (.int 0)))) (zey (dB (dUn zld (zao 3 (d_taking fu) (zac (zaf 1) (zac (zaf 2) (zac (zay ixW (zaf 0) (dC (.int 0))) zal))))))) (zaf 0)) (zbO zal))) (zbg (dC (.bl false))) zba))) zba))
def zmu(fu:Nat):DS :=
 (zaz (zaV 5 (zao 3 (d_safe fu) (zac (zaf 2) (zac (zaf 3) (zac (zaf 4) zal)))))
 (zaz (zaV 6 (zaf 5))
 (zda (zgS (zac (dC (.int 5)) zal)) (gN 7) (zmt fu))))
def d_law(fu:Nat):List W->M W:=dFn finC 8
 (zaz (zaV 1 (zb4 (zac (zaf 0) (zac (dC (.int 0)) zal))))
 (zaz (zg7 (zao 3 (d__law_world fu) (zac (zaf 1) (zac (dC (.int 14)) (zac (dC (.int 16)) zal)))) (gT 2 (zc2 (gN 2) (zc2 (gN 3) zjO))))
 (zaz (zda (dIL (zbO (zac (dC (.int 1)) (zac (dC (.int 2)) zal)))) (gN 4) (zmu fu))
 (zbg (dC (.bl true))))))
end K34
namespace K34
open PySem PySem.Spec PyProof.Rows L2 VS
def top(i:Nat):Stmt:=PySem.Challenge.pw_stonebreath_k34_whole_no_paper_says_more.main.body.getD i (.Pass ⟨0,0,0,0⟩)
abbrev zbP:Stmt:=top 1
abbrev zbv:Stmt:=top 2
abbrev zbQ:Stmt:=top 3
abbrev zcd:Stmt:=top 4
abbrev zdB:Stmt:=top 10
abbrev zeD:Stmt:=top 11
abbrev zbW:Stmt:=top 12
abbrev za1:Stmt:=top 13
abbrev zfg:Stmt:=top 15
abbrev zce:Stmt:=top 16
abbrev zcS:Stmt:=top 17
abbrev zbw:Stmt:=top 18
abbrev zb3:Stmt:=top 21
abbrev zbX:Stmt:=top 22
abbrev zfh:Stmt:=top 23
abbrev zdC:Stmt:=top 24
abbrev za8:Stmt:=top 25
abbrev zbr:Stmt:=top 26
abbrev zdR:Stmt:=top 27
abbrev zbY:Stmt:=top 28
abbrev zbZ:Stmt:=top 29
abbrev zbi:Stmt:=top 30
abbrev zbs:Stmt:=top 31
abbrev zcf:Stmt:=top 32
abbrev zcT:Stmt:=top 33
abbrev zbc:Stmt:=top 34
abbrev zdb:Stmt:=top 35
abbrev zbD:Stmt:=top 37
abbrev zbE:Stmt:=top 38
abbrev za2:Stmt:=top 39
abbrev za3:Stmt:=top 40
abbrev zbF:Stmt:=top 41
abbrev zaR:Stmt:=top 42
abbrev zbG:Stmt:=top 43
abbrev zaW:Stmt:=top 44
abbrev zbd:Stmt:=top 45
abbrev zbx:Stmt:=top 46
abbrev zaQ:Stmt:=top 47
abbrev zby:Stmt:=top 48
abbrev zbm:Stmt:=top 49
abbrev zbR:Stmt:=top 53
abbrev zaS:Stmt:=top 54
abbrev za4:Stmt:=top 56
abbrev zfQ:Stmt:=top 57
theorem zho:FnScope ["thing"] ["thing"] (zae zbP):=⟨rfl,rfl,rfl,by decide +kernel,rfl,by decide +kernel,by decide +kernel⟩
theorem zfR:FnScope ["hand"] ["hand"] (zae zbv):=⟨rfl,rfl,rfl,by decide +kernel,rfl,by decide +kernel,by decide +kernel⟩
theorem sc_patch_of:FnScope ["board", "marks", "start", "found", "waiting", "point", "beside"] ["board", "marks", "start"] (zae zbQ):=⟨rfl,rfl,rfl,by decide +kernel,rfl,by decide +kernel,by decide +kernel⟩
theorem sc_patches:FnScope ["board", "marks", "met", "found", "start", "points", "point"] ["board", "marks"] (zae zcd):=⟨rfl,rfl,rfl,by decide +kernel,rfl,by decide +kernel,by decide +kernel⟩
theorem zlI:FnScope ["board", "stand", "point"] ["board", "stand", "point"] (zae zdB):=⟨rfl,rfl,rfl,by decide +kernel,rfl,by decide +kernel,by decide +kernel⟩
theorem znN:FnScope ["board", "stand"] ["board", "stand"] (zae zeD):=⟨rfl,rfl,rfl,by decide +kernel,rfl,by decide +kernel,by decide +kernel⟩
theorem sc_points_beside:FnScope ["board", "points", "found", "point", "beside"] ["board", "points"] (zae za1):=⟨rfl,rfl,rfl,by decide +kernel,rfl,by decide +kernel,by decide +kernel⟩
theorem ziJ:FnScope ["board", "stand", "row"] ["board", "stand", "row"] (zae zbW):=⟨rfl,rfl,rfl,by decide +kernel,rfl,by decide +kernel,by decide +kernel⟩
theorem sc_filled:FnScope ["stand", "points", "what", "changed", "point"] ["stand", "points", "what"] (zae zcS):=⟨rfl,rfl,rfl,by decide +kernel,rfl,by decide +kernel,by decide +kernel⟩
theorem sc_breathless:FnScope ["board", "stand", "hand", "found", "row"] ["board", "stand", "hand"] (zae zbw):=⟨rfl,rfl,rfl,by decide +kernel,rfl,by decide +kernel,by decide +kernel⟩
theorem sc_laid:FnScope ["board", "stand", "hand", "point", "full", "taken", "behind"] ["board", "stand", "hand", "point"] (zae zfg):=⟨rfl,rfl,rfl,by decide +kernel,rfl,by decide +kernel,by decide +kernel⟩
theorem sc_lays_on:FnScope ["board", "stand", "hand", "points", "found", "point", "told"] ["board", "stand", "hand", "points"] (zae zce):=⟨rfl,rfl,rfl,by decide +kernel,rfl,by decide +kernel,by decide +kernel⟩
theorem sc_closes:FnScope ["board", "stand", "hand", "marks"] ["board", "stand", "hand"] (zae zb3):=⟨rfl,rfl,rfl,by decide +kernel,rfl,by decide +kernel,by decide +kernel⟩
theorem ziK:FnScope ["board", "stand", "hand"] ["board", "stand", "hand"] (zae zbX):=⟨rfl,rfl,rfl,by decide +kernel,rfl,by decide +kernel,by decide +kernel⟩
theorem ziL:FnScope ["stand", "close", "near"] ["stand", "close", "near"] (zae zbZ):=⟨rfl,rfl,rfl,by decide +kernel,rfl,by decide +kernel,by decide +kernel⟩
theorem sc_is_firm:FnScope ["board", "stand", "row", "some_closes", "near", "held"] ["board", "stand", "row", "some_closes"] (zae zbY):=⟨rfl,rfl,rfl,by decide +kernel,rfl,by decide +kernel,by decide +kernel⟩
theorem zgy:FnScope ["point", "some_rows"] ["point", "some_rows"] (zae zbs):=⟨rfl,rfl,rfl,by decide +kernel,rfl,by decide +kernel,by decide +kernel⟩
theorem sc_is_walled:FnScope ["board", "stand", "hand", "close", "some_rows", "stones"] ["board", "stand", "hand", "close", "some_rows"] (zae zbi):=⟨rfl,rfl,rfl,by decide +kernel,rfl,by decide +kernel,by decide +kernel⟩
theorem sc_kept:FnScope ["board", "stand", "hand", "paper", "firm", "walled"] ["board", "stand", "hand", "paper"] (zae zdR):=⟨rfl,rfl,rfl,by decide +kernel,rfl,by decide +kernel,by decide +kernel⟩
theorem sc_safe:FnScope ["board", "stand", "hand", "paper", "left"] ["board", "stand", "hand"] (zae zfh):=⟨rfl,rfl,rfl,by decide +kernel,rfl,by decide +kernel,by decide +kernel⟩
theorem zgz:FnScope ["thing"] ["thing"] (zae zbr):=⟨rfl,rfl,rfl,by decide +kernel,rfl,by decide +kernel,by decide +kernel⟩
theorem zeW:FnScope ["things", "known"] ["things", "known"] (zae za8):=⟨rfl,rfl,rfl,by decide +kernel,rfl,by decide +kernel,by decide +kernel⟩
theorem zlJ:FnScope ["board", "stand", "hand", "paper"] ["board", "stand", "hand", "paper"] (zae zdC):=⟨rfl,rfl,rfl,by decide +kernel,rfl,by decide +kernel,by decide +kernel⟩
theorem ziM:FnScope ["board", "stand", "point"] ["board", "stand", "point"] (zae zcf):=⟨rfl,rfl,rfl,by decide +kernel,rfl,by decide +kernel,by decide +kernel⟩
theorem sc_spots:FnScope ["board", "stand", "point", "near"] ["board", "stand", "point"] (zae zdb):=⟨rfl,rfl,rfl,by decide +kernel,rfl,by decide +kernel,by decide +kernel⟩
theorem sc_unsaving_lay:FnScope ["board", "stand", "point", "hand", "spot", "lay"] ["board", "stand", "point"] (zae zbc):=⟨rfl,rfl,rfl,by decide +kernel,rfl,by decide +kernel,by decide +kernel⟩
theorem sc_taking:FnScope ["board", "stand", "point", "found", "now", "lay"] ["board", "stand", "point"] (zae zcT):=⟨rfl,rfl,rfl,by decide +kernel,rfl,by decide +kernel,by decide +kernel⟩
theorem sc__law_cell:FnScope ["_law_script", "_law_k", "_law_base"] ["_law_script", "_law_k"] (zae zbD):=⟨rfl,rfl,rfl,by decide +kernel,rfl,by decide +kernel,by decide +kernel⟩
theorem sc__law_next:FnScope ["_law_pen", "_law_many", "_law_cell_here", "_law_number"] ["_law_pen", "_law_many"] (zae zbE):=⟨rfl,rfl,rfl,by decide +kernel,rfl,by decide +kernel,by decide +kernel⟩
theorem sc__law_lines:FnScope ["_law_pen", "_law_most", "_law_way", "_law_wide", "_law_many", "_law_found", "_law_number", "_law_point", "_law_other"] ["_law_pen", "_law_most"] (zae za2):=⟨rfl,rfl,rfl,by decide +kernel,rfl,by decide +kernel,by decide +kernel⟩
theorem sc__law_board:FnScope ["_law_pen", "_law_most", "_law_many", "_law_lines_here", "_law_beside_here", "_law_one", "_law_other"] ["_law_pen", "_law_most"] (zae za3):=⟨rfl,rfl,rfl,by decide +kernel,rfl,by decide +kernel,by decide +kernel⟩
theorem sc__law_come:FnScope ["_law_board_here", "_law_start", "_law_there", "_law_found", "_law_wait", "_law_point"] ["_law_board_here", "_law_start", "_law_there"] (zae zbF):=⟨rfl,rfl,rfl,by decide +kernel,rfl,by decide +kernel,by decide +kernel⟩
theorem sc__law_patches:FnScope ["_law_board_here", "_law_stand_here", "_law_held_here", "_law_there", "_law_found", "_law_point"] ["_law_board_here", "_law_stand_here", "_law_held_here"] (zae zaR):=⟨rfl,rfl,rfl,by decide +kernel,rfl,by decide +kernel,by decide +kernel⟩
theorem sc__law_edge:FnScope ["_law_board_here", "_law_some", "_law_found", "_law_point", "_law_other"] ["_law_board_here", "_law_some"] (zae zbG):=⟨rfl,rfl,rfl,by decide +kernel,rfl,by decide +kernel,by decide +kernel⟩
theorem zeE:FnScope ["_law_board_here", "_law_stand_here", "_law_row"] ["_law_board_here", "_law_stand_here", "_law_row"] (zae zaW):=⟨rfl,rfl,rfl,by decide +kernel,rfl,by decide +kernel,by decide +kernel⟩
theorem sc__law_cleaned:FnScope ["_law_board_here", "_law_found", "_law_held_here", "_law_row", "_law_point"] ["_law_board_here", "_law_found"] (zae zbd):=⟨rfl,rfl,rfl,by decide +kernel,rfl,by decide +kernel,by decide +kernel⟩
theorem sc__law_stand:FnScope ["_law_pen", "_law_board_here", "_law_menu", "_law_number", "_law_found", "_law_point"] ["_law_pen", "_law_board_here"] (zae zbx):=⟨rfl,rfl,rfl,by decide +kernel,rfl,by decide +kernel,by decide +kernel⟩
theorem sc__law_ladder:FnScope ["_law_pen", "_law_most", "_law_many", "_law_hand", "_law_first", "_law_found", "_law_at", "_law_beside_here", "_law_board_here"] ["_law_pen", "_law_most"] (zae zaQ):=⟨rfl,rfl,rfl,by decide +kernel,rfl,by decide +kernel,by decide +kernel⟩
theorem sc__law_world:FnScope ["_law_pen", "_law_most", "_law_wide", "_law_board_here"] ["_law_pen", "_law_most", "_law_wide"] (zae zby):=⟨rfl,rfl,rfl,by decide +kernel,rfl,by decide +kernel,by decide +kernel⟩
theorem zeX:FnScope ["_law_board_here", "_law_stand_here", "_law_hand"] ["_law_board_here", "_law_stand_here", "_law_hand"] (zae zbm):=⟨rfl,rfl,rfl,by decide +kernel,rfl,by decide +kernel,by decide +kernel⟩
theorem sc__law_odd:FnScope ["_law_board_here", "_law_stand_here", "_law_hand", "_law_at", "_law_lists"] ["_law_board_here", "_law_stand_here", "_law_hand", "_law_at"] (zae zbR):=⟨rfl,rfl,rfl,by decide +kernel,rfl,by decide +kernel,by decide +kernel⟩
theorem sc__law_changed:FnScope ["_law_pen", "_law_board_here", "_law_stand_here", "_law_hand", "_law_paper", "_law_told", "_law_some", "_law_own", "_law_every", "_law_way", "_law_which", "_law_at", "_law_lists", "_law_one"] ["_law_pen", "_law_board_here", "_law_stand_here", "_law_hand", "_law_paper"] (zae zaS):=⟨rfl,rfl,rfl,by decide +kernel,rfl,by decide +kernel,by decide +kernel⟩
theorem sc__law_drawn:FnScope ["_law_pen", "_law_board_here", "_law_stand_here", "_law_hand", "_law_told", "_law_some"] ["_law_pen", "_law_board_here", "_law_stand_here", "_law_hand"] (zae za4):=⟨rfl,rfl,rfl,by decide +kernel,rfl,by decide +kernel,by decide +kernel⟩
theorem sc_law:FnScope ["_law_script", "_law_pen", "_law_board_here", "_law_stand_here", "_law_hand", "_law_told", "_law_paper", "_law_k"] ["_law_script"] (zae zfQ):=⟨rfl,rfl,rfl,by decide +kernel,rfl,by decide +kernel,by decide +kernel⟩
set_option genInjectivity false in
set_option genSizeOfSpec false in
structure Adr where
 f_is_whole:Addr
 d_is_whole:FuncData
 f_other_hand:Addr
 d_other_hand:FuncData
 f_patch_of:Addr
 d_patch_of:FuncData
 f_patches:Addr
 d_patches:FuncData
 f_patch:Addr
 d_patch:FuncData
 f_rows:Addr
 d_rows:FuncData
 f_breaths:Addr
 d_breaths:FuncData
 f_points_beside:Addr
 d_points_beside:FuncData
 f_laid:Addr
 d_laid:FuncData
 f_lays_on:Addr
 d_lays_on:FuncData
 f_filled:Addr
 d_filled:FuncData
 f_breathless:Addr
 d_breathless:FuncData
 f_closes:Addr
 d_closes:FuncData
 f_rows_of:Addr
 d_rows_of:FuncData
 f_safe:Addr
 d_safe:FuncData
 f_holds:Addr
 d_holds:FuncData
 f_are_some_of:Addr
 d_are_some_of:FuncData
 f_is_points:Addr
 d_is_points:FuncData
 f_kept:Addr
 d_kept:FuncData
 f_is_firm:Addr
 d_is_firm:FuncData
 f_is_held:Addr
 d_is_held:FuncData
 f_is_walled:Addr
 d_is_walled:FuncData
 f_is_in_one:Addr
 d_is_in_one:FuncData
 f_is_safe:Addr
 d_is_safe:FuncData
 f_taking:Addr
 d_taking:FuncData
 f_unsaving_lay:Addr
 d_unsaving_lay:FuncData
 f_spots:Addr
 d_spots:FuncData
 f__law_cell:Addr
 d__law_cell:FuncData
 f__law_next:Addr
 d__law_next:FuncData
 f__law_lines:Addr
 d__law_lines:FuncData
 f__law_board:Addr
 d__law_board:FuncData
 f__law_come:Addr
 d__law_come:FuncData
 f__law_patches:Addr
 d__law_patches:FuncData
 f__law_edge:Addr
 d__law_edge:FuncData
 f__law_breaths:Addr
 d__law_breaths:FuncData
 f__law_cleaned:Addr
 d__law_cleaned:FuncData
 f__law_stand:Addr
 d__law_stand:FuncData
 f__law_ladder:Addr
 d__law_ladder:FuncData
 f__law_world:Addr
 d__law_world:FuncData
 f__law_closes:Addr
 d__law_closes:FuncData
 f__law_odd:Addr
 d__law_odd:FuncData
 f__law_changed:Addr
 d__law_changed:FuncData
 f__law_drawn:Addr
 d__law_drawn:FuncData
 f_law:Addr
 d_law:FuncData
structure Txt (K:PySem.W.Frag) (mg:Str->Option Value) (A:Adr):Prop where
 g_is_whole:mg "is_whole" = some (.ref A.f_is_whole)
 F_is_whole:Fun K "is_whole" "is_whole" zbP A.f_is_whole A.d_is_whole
 b_is_whole:Binds K A.d_is_whole ["thing"] []
 g_other_hand:mg "other_hand" = some (.ref A.f_other_hand)
 F_other_hand:Fun K "other_hand" "other_hand" zbv A.f_other_hand A.d_other_hand
 b_other_hand:Binds K A.d_other_hand ["hand"] []
 g_patch_of:mg "patch_of" = some (.ref A.f_patch_of)
 F_patch_of:Fun K "patch_of" "patch_of" zbQ A.f_patch_of A.d_patch_of
 b_patch_of:Binds K A.d_patch_of ["board", "marks", "start"] []
 g_patches:mg "patches" = some (.ref A.f_patches)
 F_patches:Fun K "patches" "patches" zcd A.f_patches A.d_patches
 b_patches:Binds K A.d_patches ["board", "marks"] []
 g_patch:mg "patch" = some (.ref A.f_patch)
 F_patch:Fun K "patch" "patch" zdB A.f_patch A.d_patch
 b_patch:Binds K A.d_patch ["board", "stand", "point"] []
 g_rows:mg "rows" = some (.ref A.f_rows)
 F_rows:Fun K "rows" "rows" zeD A.f_rows A.d_rows
 b_rows:Binds K A.d_rows ["board", "stand"] []
 g_breaths:mg "breaths" = some (.ref A.f_breaths)
 F_breaths:Fun K "breaths" "breaths" zbW A.f_breaths A.d_breaths
 b_breaths:Binds K A.d_breaths ["board", "stand", "row"] []
 g_points_beside:mg "points_beside" = some (.ref A.f_points_beside)
 F_points_beside:Fun K "points_beside" "points_beside" za1 A.f_points_beside A.d_points_beside
 b_points_beside:Binds K A.d_points_beside ["board", "points"] []
 g_laid:mg "laid" = some (.ref A.f_laid)
 F_laid:Fun K "laid" "laid" zfg A.f_laid A.d_laid
 b_laid:Binds K A.d_laid ["board", "stand", "hand", "point"] []
 g_lays_on:mg "lays_on" = some (.ref A.f_lays_on)
 F_lays_on:Fun K "lays_on" "lays_on" zce A.f_lays_on A.d_lays_on
 b_lays_on:Binds K A.d_lays_on ["board", "stand", "hand", "points"] []
 g_filled:mg "filled" = some (.ref A.f_filled)
 F_filled:Fun K "filled" "filled" zcS A.f_filled A.d_filled
 b_filled:Binds K A.d_filled ["stand", "points", "what"] []
 g_breathless:mg "breathless" = some (.ref A.f_breathless)
 F_breathless:Fun K "breathless" "breathless" zbw A.f_breathless A.d_breathless
 b_breathless:Binds K A.d_breathless ["board", "stand", "hand"] []
 g_closes:mg "closes" = some (.ref A.f_closes)
 F_closes:Fun K "closes" "closes" zb3 A.f_closes A.d_closes
 b_closes:Binds K A.d_closes ["board", "stand", "hand"] []
 g_rows_of:mg "rows_of" = some (.ref A.f_rows_of)
 F_rows_of:Fun K "rows_of" "rows_of" zbX A.f_rows_of A.d_rows_of
 b_rows_of:Binds K A.d_rows_of ["board", "stand", "hand"] []
 g_safe:mg "safe" = some (.ref A.f_safe)
 F_safe:Fun K "safe" "safe" zfh A.f_safe A.d_safe
 b_safe:Binds K A.d_safe ["board", "stand", "hand"] []
 g_holds:mg "holds" = some (.ref A.f_holds)
 F_holds:Fun K "holds" "holds" zdC A.f_holds A.d_holds
 b_holds:Binds K A.d_holds ["board", "stand", "hand", "paper"] []
 g_are_some_of:mg "are_some_of" = some (.ref A.f_are_some_of)
 F_are_some_of:Fun K "are_some_of" "are_some_of" za8 A.f_are_some_of A.d_are_some_of
 b_are_some_of:Binds K A.d_are_some_of ["things", "known"] []
 g_is_points:mg "is_points" = some (.ref A.f_is_points)
 F_is_points:Fun K "is_points" "is_points" zbr A.f_is_points A.d_is_points
 b_is_points:Binds K A.d_is_points ["thing"] []
 g_kept:mg "kept" = some (.ref A.f_kept)
 F_kept:Fun K "kept" "kept" zdR A.f_kept A.d_kept
 b_kept:Binds K A.d_kept ["board", "stand", "hand", "paper"] []
 g_is_firm:mg "is_firm" = some (.ref A.f_is_firm)
 F_is_firm:Fun K "is_firm" "is_firm" zbY A.f_is_firm A.d_is_firm
 b_is_firm:Binds K A.d_is_firm ["board", "stand", "row", "some_closes"] []
 g_is_held:mg "is_held" = some (.ref A.f_is_held)
 F_is_held:Fun K "is_held" "is_held" zbZ A.f_is_held A.d_is_held
 b_is_held:Binds K A.d_is_held ["stand", "close", "near"] []
 g_is_walled:mg "is_walled" = some (.ref A.f_is_walled)
 F_is_walled:Fun K "is_walled" "is_walled" zbi A.f_is_walled A.d_is_walled
 b_is_walled:Binds K A.d_is_walled ["board", "stand", "hand", "close", "some_rows"] []
 g_is_in_one:mg "is_in_one" = some (.ref A.f_is_in_one)
 F_is_in_one:Fun K "is_in_one" "is_in_one" zbs A.f_is_in_one A.d_is_in_one
 b_is_in_one:Binds K A.d_is_in_one ["point", "some_rows"] []
 g_is_safe:mg "is_safe" = some (.ref A.f_is_safe)
 F_is_safe:Fun K "is_safe" "is_safe" zcf A.f_is_safe A.d_is_safe
 b_is_safe:Binds K A.d_is_safe ["board", "stand", "point"] []
 g_taking:mg "taking" = some (.ref A.f_taking)
 F_taking:Fun K "taking" "taking" zcT A.f_taking A.d_taking
 b_taking:Binds K A.d_taking ["board", "stand", "point"] []
 g_unsaving_lay:mg "unsaving_lay" = some (.ref A.f_unsaving_lay)
 F_unsaving_lay:Fun K "unsaving_lay" "unsaving_lay" zbc A.f_unsaving_lay A.d_unsaving_lay
 b_unsaving_lay:Binds K A.d_unsaving_lay ["board", "stand", "point"] []
 g_spots:mg "spots" = some (.ref A.f_spots)
 F_spots:Fun K "spots" "spots" zdb A.f_spots A.d_spots
 b_spots:Binds K A.d_spots ["board", "stand", "point"] []
 g__law_cell:mg "_law_cell" = some (.ref A.f__law_cell)
 F__law_cell:Fun K "_law_cell" "_law_cell" zbD A.f__law_cell A.d__law_cell
 b__law_cell:Binds K A.d__law_cell ["_law_script", "_law_k"] []
 g__law_next:mg "_law_next" = some (.ref A.f__law_next)
 F__law_next:Fun K "_law_next" "_law_next" zbE A.f__law_next A.d__law_next
 b__law_next:Binds K A.d__law_next ["_law_pen", "_law_many"] []
 g__law_lines:mg "_law_lines" = some (.ref A.f__law_lines)
 F__law_lines:Fun K "_law_lines" "_law_lines" za2 A.f__law_lines A.d__law_lines
 b__law_lines:Binds K A.d__law_lines ["_law_pen", "_law_most"] []
 g__law_board:mg "_law_board" = some (.ref A.f__law_board)
 F__law_board:Fun K "_law_board" "_law_board" za3 A.f__law_board A.d__law_board
 b__law_board:Binds K A.d__law_board ["_law_pen", "_law_most"] []
 g__law_come:mg "_law_come" = some (.ref A.f__law_come)
 F__law_come:Fun K "_law_come" "_law_come" zbF A.f__law_come A.d__law_come
 b__law_come:Binds K A.d__law_come ["_law_board_here", "_law_start", "_law_there"] []
 g__law_patches:mg "_law_patches" = some (.ref A.f__law_patches)
 F__law_patches:Fun K "_law_patches" "_law_patches" zaR A.f__law_patches A.d__law_patches
 b__law_patches:Binds K A.d__law_patches ["_law_board_here", "_law_stand_here", "_law_held_here"] []
 g__law_edge:mg "_law_edge" = some (.ref A.f__law_edge)
 F__law_edge:Fun K "_law_edge" "_law_edge" zbG A.f__law_edge A.d__law_edge
 b__law_edge:Binds K A.d__law_edge ["_law_board_here", "_law_some"] []
 g__law_breaths:mg "_law_breaths" = some (.ref A.f__law_breaths)
 F__law_breaths:Fun K "_law_breaths" "_law_breaths" zaW A.f__law_breaths A.d__law_breaths
 b__law_breaths:Binds K A.d__law_breaths ["_law_board_here", "_law_stand_here", "_law_row"] []
 g__law_cleaned:mg "_law_cleaned" = some (.ref A.f__law_cleaned)
 F__law_cleaned:Fun K "_law_cleaned" "_law_cleaned" zbd A.f__law_cleaned A.d__law_cleaned
 b__law_cleaned:Binds K A.d__law_cleaned ["_law_board_here", "_law_found"] []
 g__law_stand:mg "_law_stand" = some (.ref A.f__law_stand)
 F__law_stand:Fun K "_law_stand" "_law_stand" zbx A.f__law_stand A.d__law_stand
 b__law_stand:Binds K A.d__law_stand ["_law_pen", "_law_board_here"] []
 g__law_ladder:mg "_law_ladder" = some (.ref A.f__law_ladder)
 F__law_ladder:Fun K "_law_ladder" "_law_ladder" zaQ A.f__law_ladder A.d__law_ladder
 b__law_ladder:Binds K A.d__law_ladder ["_law_pen", "_law_most"] []
 g__law_world:mg "_law_world" = some (.ref A.f__law_world)
 F__law_world:Fun K "_law_world" "_law_world" zby A.f__law_world A.d__law_world
 b__law_world:Binds K A.d__law_world ["_law_pen", "_law_most", "_law_wide"] []
 g__law_closes:mg "_law_closes" = some (.ref A.f__law_closes)
 F__law_closes:Fun K "_law_closes" "_law_closes" zbm A.f__law_closes A.d__law_closes
 b__law_closes:Binds K A.d__law_closes ["_law_board_here", "_law_stand_here", "_law_hand"] []
 g__law_odd:mg "_law_odd" = some (.ref A.f__law_odd)
 F__law_odd:Fun K "_law_odd" "_law_odd" zbR A.f__law_odd A.d__law_odd
 b__law_odd:Binds K A.d__law_odd ["_law_board_here", "_law_stand_here", "_law_hand", "_law_at"] []
 g__law_changed:mg "_law_changed" = some (.ref A.f__law_changed)
 F__law_changed:Fun K "_law_changed" "_law_changed" zaS A.f__law_changed A.d__law_changed
 b__law_changed:Binds K A.d__law_changed ["_law_pen", "_law_board_here", "_law_stand_here", "_law_hand", "_law_paper"] []
 g__law_drawn:mg "_law_drawn" = some (.ref A.f__law_drawn)
 F__law_drawn:Fun K "_law_drawn" "_law_drawn" za4 A.f__law_drawn A.d__law_drawn
 b__law_drawn:Binds K A.d__law_drawn ["_law_pen", "_law_board_here", "_law_stand_here", "_law_hand"] []
 g_law:mg "law" = some (.ref A.f_law)
 F_law:Fun K "law" "law" zfQ A.f_law A.d_law
 b_law:Binds K A.d_law ["_law_script"] []
 c_FEWEST_HELD:∃t,mg "FEWEST_HELD" = some (.int 2 t)
 n_all:mg "all" = none
 n_any:mg "any" = none
 n_bool:mg "bool" = none
 n_int:mg "int" = none
 n_isinstance:mg "isinstance" = none
 n_len:mg "len" = none
 n_list:mg "list" = none
 n_max:mg "max" = none
 n_min:mg "min" = none
 n_range:mg "range" = none
 n_sorted:mg "sorted" = none
 n_tuple:mg "tuple" = none
 xt:XT K mg XTB
 nl:noL K=true
section
seal L2.PSs L2.PS L2.PE L2.PT L2.PW L2.PA L2.PI L2.PG L2.PGs L2.PO L2.PIfs
variable {P:Program} {w:World} {K:PySem.W.Frag} {mg:Str->Option Value} {base:Heap} {A:Adr}
abbrev Gx(K:PySem.W.Frag):Ga:=Gy K
abbrev spD(K:PySem.W.Frag)(n:Nat)(d:List W->M W):Sp:=spV (Gx K) (fun E=>E) n d
set_option maxHeartbeats 0 in
theorem zhp(fu:Nat)(T:Txt K mg A):FnOk P w K mg base (CXx P w) 1 A.f_is_whole A.d_is_whole ["thing"] (spD K 1 (d_is_whole fu)):=by
 refine T.F_is_whole.okX (k:=0) zho (fun vs H Q E h=>h.1) (fun cdv Ar outer s H vs Q E hr h=>?_)
 obtain⟨_,F,as,ws,ce,S,rs,Pf⟩:=h
 refine⟨toTS (Gx K) E _,(zai (zau (zhV (zaw (zoL K) (zjS K) rfl T.n_isinstance PyProof.Rows.boot_isinstance (zaa (zab 0) (zaa (zjU rfl T.n_int PyProof.Rows.boot_int) zad))) (zjI (zoU (zaw (zoL K) (zjS K) rfl T.n_isinstance PyProof.Rows.boot_isinstance (zaa (zab 0) (zaa (zjU rfl T.n_bool PyProof.Rows.boot_bool) zad)))))))),?_⟩
 exact zav (G:=Gx K) (E:=E) zbo ["thing"] S rs Pf
set_option maxHeartbeats 0 in
theorem zdq(fu:Nat)(T:Txt K mg A):FnOk P w K mg base (CXx P w) 1 A.f_other_hand A.d_other_hand ["hand"] (spD K 1 (d_other_hand fu)):=by
 refine T.F_other_hand.okX (k:=0) zfR (fun vs H Q E h=>h.1) (fun cdv Ar outer s H vs Q E hr h=>?_)
 obtain⟨_,F,as,ws,ce,S,rs,Pf⟩:=h
 refine⟨toTS (Gx K) E _,(zai (zau (zc1 zah (zab 0)))),?_⟩
 exact zav (G:=Gx K) (E:=E) zbo ["hand"] S rs Pf
set_option maxHeartbeats 0 in
theorem zeF(fu:Nat)(T:Txt K mg A):FnOk P w K mg base (CXx P w) 1 A.f_patch_of A.d_patch_of ["board", "marks", "start"] (spD K 3 (d_patch_of fu)):=by
 refine T.F_patch_of.okX (k:=0) sc_patch_of (fun vs H Q E h=>h.1) (fun cdv Ar outer s H vs Q E hr h=>?_)
 obtain⟨_,F,as,ws,ce,S,rs,Pf⟩:=h
 refine⟨toTS (Gx K) E _,(zag (zas (i:=3) sc_patch_of.nd rfl (Or.inl rfl) (zh0 (zab 2) zc8))
   (zag (zas (i:=4) sc_patch_of.nd rfl (Or.inl rfl) (zbU (zaa (zab 2) zad)))
   (zag (zd5 fu PassesOwn.leaving (zjz (zab 4)) (zag (zas (i:=5) sc_patch_of.nd rfl (Or.inl rfl) (zjT PySem.F.slot_list_pop PySem.F.type_list_pop zl3 zo5 (zab 4)))
   (zai (zbh PassesOwn.leaving rfl (zoX (zaC (zab 0) (zab 5) (fun _ _=>rfl))) (zaK (i:=6) sc_patch_of.nd rfl (Or.inl rfl))
   (zai (zbl (PW.pt (zed (zee (hr.cmp 1) (zab 6) (zab 3) (by with_unfolding_all rfl)) (zc9 (zfz (hr.cmp 8) (zaC (zab 1) (zab 6) (fun _ _=>rfl)) (zaC (zab 1) (zab 2) (fun _ _=>rfl)))))) (zag (zgj (hr.cmp 1) (zab 3) (zab 6) zc8)
   (zai (zbn (zcY PySem.F.slot_list_append PySem.F.type_list_append za9 zdY (zab 4) (zaa (zab 6) zad))))) zaH))))))
   (zai (zau (zaw (zhb rfl rfl) (zhc K zkK) rfl T.n_sorted PyProof.Rows.boot_sorted (zaa (zab 3) zad))))))),?_⟩
 exact zav (G:=Gx K) (E:=E) zgn ["board", "marks", "start", "found", "waiting", "point", "beside"] S rs Pf
set_option maxHeartbeats 0 in
theorem zfi(fu:Nat)(T:Txt K mg A):FnOk P w K mg base (CXx P w) 2 A.f_patches A.d_patches ["board", "marks"] (spD K 2 (d_patches fu)):=by
 have G_patch_of:FnOk P w K mg base (CXx P w) 1 A.f_patch_of A.d_patch_of ["board", "marks", "start"] (spD K 3 (d_patch_of fu)):=zeF fu T
 refine T.F_patches.okX (k:=1) sc_patches (fun vs H Q E h=>h.1) (fun cdv Ar outer s H vs Q E hr h=>?_)
 obtain⟨_,F,as,ws,ce,S,rs,Pf⟩:=h
 refine⟨toTS (Gx K) E _,(zag (zas (i:=2) sc_patches.nd rfl (Or.inl rfl) zg5)
   (zag (zas (i:=3) sc_patches.nd rfl (Or.inl rfl) (zbU zad))
   (zag (zbh PassesOwn.leaving rfl (zdX rfl T.n_range (zaa (zaw (zcW rfl) (zcX K) rfl T.n_len PySem.boot_len (zaa (zab 0) zad)) zad)) (zaK (i:=4) sc_patches.nd rfl (Or.inl rfl))
   (zai (zbl (zee (hr.cmp 1) (zab 4) (zab 2) (by with_unfolding_all rfl)) (zag (zas (i:=5) sc_patches.nd rfl (Or.inl rfl) (zaj (zbz G_patch_of) (hr.mono (by decide)) rfl T.g_patch_of T.F_patch_of.kp T.b_patch_of (flies_cxOf.passes rfl) (zaa (zab 0) (zaa (zab 1) (zaa (zab 4) zad)))))
   (zag (zbn (zcY PySem.F.slot_list_append PySem.F.type_list_append za9 zdY (zab 3) (zaa (zab 5) zad)))
   (zai (zbh PassesOwn.leaving rfl (zch (zab 5)) (zaK (i:=6) sc_patches.nd rfl (Or.inl rfl))
   (zai (zgj (hr.cmp 1) (zab 2) (zab 6) zc8)))))) zaH)))
   (zai (zau (zab 3)))))),?_⟩
 exact zav (G:=Gx K) (E:=E) zgn ["board", "marks", "met", "found", "start", "points", "point"] S rs Pf
set_option maxHeartbeats 0 in
theorem zih(fu:Nat)(T:Txt K mg A):FnOk P w K mg base (CXx P w) 2 A.f_patch A.d_patch ["board", "stand", "point"] (spD K 3 (d_patch fu)):=by
 have G_patch_of:FnOk P w K mg base (CXx P w) 1 A.f_patch_of A.d_patch_of ["board", "marks", "start"] (spD K 3 (d_patch_of fu)):=zeF fu T
 refine T.F_patch.okX (k:=1) zlI (fun vs H Q E h=>h.1) (fun cdv Ar outer s H vs Q E hr h=>?_)
 obtain⟨_,F,as,ws,ce,S,rs,Pf⟩:=h
 refine⟨toTS (Gx K) E _,(zai (zau (zaj G_patch_of (hr.mono (by decide)) rfl T.g_patch_of T.F_patch_of.kp T.b_patch_of (flies_cxOf.passes rfl) (zaa (zab 0) (zaa (zab 1) (zaa (zab 2) zad)))))),?_⟩
 exact zav (G:=Gx K) (E:=E) zgn ["board", "stand", "point"] S rs Pf
set_option maxHeartbeats 0 in
theorem zkr(fu:Nat)(T:Txt K mg A):FnOk P w K mg base (CXx P w) 3 A.f_rows A.d_rows ["board", "stand"] (spD K 2 (d_rows fu)):=by
 have G_patches:FnOk P w K mg base (CXx P w) 2 A.f_patches A.d_patches ["board", "marks"] (spD K 2 (d_patches fu)):=zfi fu T
 refine T.F_rows.okX (k:=2) znN (fun vs H Q E h=>h.1) (fun cdv Ar outer s H vs Q E hr h=>?_)
 obtain⟨_,F,as,ws,ce,S,rs,Pf⟩:=h
 refine⟨toTS (Gx K) E _,(zai (zau (zcb zb5 (zaN (N:=["board", "stand"]) (psc:=zae zeD) (js:=[1]) (N':=["points", "stand"]) (by decide +kernel)) rfl rfl (zch (zaj (zbz G_patches) (hr.mono (by decide)) rfl T.g_patches T.F_patches.kp T.b_patches (flies_cxOf.passes rfl) (zaa (zab 0) (zaa (zab 1) zad)))) (fun _ _ _ _=>(zaP (zlh (hr.cmp 8) (zaC (zab 1) (zaC (zab 0) zah (fun _ _=>rfl)) (fun _ _=>rfl)) zah))) (fun _ _ _ _=>(zab 0))))),?_⟩
 exact zav (G:=Gx K) (E:=E) zbo ["board", "stand"] S rs Pf
set_option maxHeartbeats 0 in
theorem zct(fu:Nat)(T:Txt K mg A):FnOk P w K mg base (CXx P w) 1 A.f_points_beside A.d_points_beside ["board", "points"] (spD K 2 (d_points_beside fu)):=by
 refine T.F_points_beside.okX (k:=0) sc_points_beside (fun vs H Q E h=>h.1) (fun cdv Ar outer s H vs Q E hr h=>?_)
 obtain⟨_,F,as,ws,ce,S,rs,Pf⟩:=h
 refine⟨toTS (Gx K) E _,(zag (zas (i:=2) sc_points_beside.nd rfl (Or.inl rfl) zg5)
   (zag (zbh PassesOwn.leaving rfl (zch (zab 1)) (zaK (i:=3) sc_points_beside.nd rfl (Or.inl rfl))
   (zai (zbh PassesOwn.leaving rfl (zoX (zaC (zab 0) (zab 3) (fun _ _=>rfl))) (zaK (i:=4) sc_points_beside.nd rfl (Or.inl rfl))
   (zai (zgj (hr.cmp 1) (zab 2) (zab 4) zc8)))))
   (zai (zau (zaw (zhb rfl rfl) (zhc K zkK) rfl T.n_sorted PyProof.Rows.boot_sorted (zaa (zab 2) zad)))))),?_⟩
 exact zav (G:=Gx K) (E:=E) zgn ["board", "points", "found", "point", "beside"] S rs Pf
set_option maxHeartbeats 0 in
theorem zcU(fu:Nat)(T:Txt K mg A):FnOk P w K mg base (CXx P w) 2 A.f_breaths A.d_breaths ["board", "stand", "row"] (spD K 3 (d_breaths fu)):=by
 have G_points_beside:FnOk P w K mg base (CXx P w) 1 A.f_points_beside A.d_points_beside ["board", "points"] (spD K 2 (d_points_beside fu)):=zct fu T
 refine T.F_breaths.okX (k:=1) ziJ (fun vs H Q E h=>h.1) (fun cdv Ar outer s H vs Q E hr h=>?_)
 obtain⟨_,F,as,ws,ce,S,rs,Pf⟩:=h
 refine⟨toTS (Gx K) E _,(zai (zau (zcb zkK (zaN (N:=["board", "stand", "row"]) (psc:=zae zbW) (js:=[1]) (N':=["point", "stand"]) (by decide +kernel)) rfl rfl (zch (zaj (zbz G_points_beside) (hr.mono (by decide)) rfl T.g_points_beside T.F_points_beside.kp T.b_points_beside (flies_cxOf.passes rfl) (zaa (zab 0) (zaa (zab 2) zad)))) (fun _ _ _ _=>(zaP (zfz (hr.cmp 8) (zaC (zab 1) (zab 0) (fun _ _=>rfl)) zah))) (fun _ _ _ _=>(zab 0))))),?_⟩
 exact zav (G:=Gx K) (E:=E) zgn ["board", "stand", "row"] S rs Pf
set_option maxHeartbeats 0 in
theorem zks(fu:Nat)(T:Txt K mg A):FnOk P w K mg base (CXx P w) 1 A.f_filled A.d_filled ["stand", "points", "what"] (spD K 3 (d_filled fu)):=by
 refine T.F_filled.okX (k:=0) sc_filled (fun vs H Q E h=>h.1) (fun cdv Ar outer s H vs Q E hr h=>?_)
 obtain⟨_,F,as,ws,ce,S,rs,Pf⟩:=h
 refine⟨toTS (Gx K) E _,(zag (zas (i:=3) sc_filled.nd rfl (Or.inl rfl) (zaZ (zek rfl rfl) (zel K zkK) rfl T.n_list PyProof.Rows.boot_list (zaa (zab 0) zad)))
   (zag (zbh PassesOwn.leaving rfl (zch (zab 1)) (zaK (i:=4) sc_filled.nd rfl (Or.inl rfl))
   (zai (zdG (zab 2) (zdu (E:=E0) (zab 3) (zab 4)))))
   (zai (zau (zaZ (ze6 K) (zdx K) rfl T.n_tuple PyProof.Rows.boot_tuple (zaa (zab 3) zad)))))),?_⟩
 exact zav (G:=Gx K) (E:=E) zbo ["stand", "points", "what", "changed", "point"] S rs Pf
set_option maxHeartbeats 0 in
theorem zfS(fu:Nat)(T:Txt K mg A):FnOk P w K mg base (CXx P w) 4 A.f_breathless A.d_breathless ["board", "stand", "hand"] (spD K 3 (d_breathless fu)):=by
 have G_rows:FnOk P w K mg base (CXx P w) 3 A.f_rows A.d_rows ["board", "stand"] (spD K 2 (d_rows fu)):=zkr fu T
 have G_breaths:FnOk P w K mg base (CXx P w) 2 A.f_breaths A.d_breaths ["board", "stand", "row"] (spD K 3 (d_breaths fu)):=zcU fu T
 refine T.F_breathless.okX (k:=3) sc_breathless (fun vs H Q E h=>h.1) (fun cdv Ar outer s H vs Q E hr h=>?_)
 obtain⟨_,F,as,ws,ce,S,rs,Pf⟩:=h
 refine⟨toTS (Gx K) E _,(zag (zas (i:=3) sc_breathless.nd rfl (Or.inl rfl) (zbU zad))
   (zag (zbh PassesOwn.leaving rfl (zch (zaj G_rows (hr.mono (by decide)) rfl T.g_rows T.F_rows.kp T.b_rows (flies_cxOf.passes rfl) (zaa (zab 0) (zaa (zab 1) zad)))) (zaK (i:=4) sc_breathless.nd rfl (Or.inl rfl))
   (zai (zbl (PW.pt (zed (zfz (hr.cmp 8) (zaC (zab 1) (zaC (zab 4) zah (fun _ _=>rfl)) (fun _ _=>rfl)) (zab 2)) (zc9 (zdF (zjz (zaj (zbz G_breaths) (hr.mono (by decide)) rfl T.g_breaths T.F_breaths.kp T.b_breaths (flies_cxOf.passes rfl) (zaa (zab 0) (zaa (zab 1) (zaa (zab 4) zad))))))))) (zai (zbn (zcY PySem.F.slot_list_extend PySem.F.type_list_extend zns zrt (zab 3) (zaa (zab 4) zad)))) zaH)))
   (zai (zau (zaw (zhb rfl rfl) (zhc K zkK) rfl T.n_sorted PyProof.Rows.boot_sorted (zaa (zab 3) zad)))))),?_⟩
 exact zav (G:=Gx K) (E:=E) zgn ["board", "stand", "hand", "found", "row"] S rs Pf
set_option maxHeartbeats 0 in
theorem znO(fu:Nat)(T:Txt K mg A):FnOk P w K mg base (CXx P w) 5 A.f_laid A.d_laid ["board", "stand", "hand", "point"] (spD K 4 (d_laid fu)):=by
 have G_filled:FnOk P w K mg base (CXx P w) 1 A.f_filled A.d_filled ["stand", "points", "what"] (spD K 3 (d_filled fu)):=zks fu T
 have G_breathless:FnOk P w K mg base (CXx P w) 4 A.f_breathless A.d_breathless ["board", "stand", "hand"] (spD K 3 (d_breathless fu)):=zfS fu T
 have G_other_hand:FnOk P w K mg base (CXx P w) 1 A.f_other_hand A.d_other_hand ["hand"] (spD K 1 (d_other_hand fu)):=zdq fu T
 have G_breaths:FnOk P w K mg base (CXx P w) 2 A.f_breaths A.d_breaths ["board", "stand", "row"] (spD K 3 (d_breaths fu)):=zcU fu T
 have G_patch:FnOk P w K mg base (CXx P w) 2 A.f_patch A.d_patch ["board", "stand", "point"] (spD K 3 (d_patch fu)):=zih fu T
 refine T.F_laid.okX (k:=4) sc_laid (fun vs H Q E h=>h.1) (fun cdv Ar outer s H vs Q E hr h=>?_)
 obtain⟨_,F,as,ws,ce,S,rs,Pf⟩:=h
 refine⟨toTS (Gx K) E _,(zag (zbl (zlh (hr.cmp 8) (zaC (zab 1) (zab 3) (fun _ _=>rfl)) zah) (zai (zig (l:=[3]) flies_cxOf rfl T.xt rfl rfl rfl hr.hd (zkk (zcR zie (zcR (zms 3) (zcR zie zkj)))) (fun _ h=>⟨trivial,h 3 (by decide),trivial,trivial⟩))) zaH)
   (zag (zas (i:=4) sc_laid.nd rfl (Or.inl rfl) (zaj G_filled (hr.mono (by decide)) rfl T.g_filled T.F_filled.kp T.b_filled (flies_cxOf.passes rfl) (zaa (zab 1) (zaa (zaJ (zaa (zab 3) zad)) (zaa (zab 2) zad)))))
   (zag (zas (i:=5) sc_laid.nd rfl (Or.inl rfl) (zaj (zbz G_breathless) (hr.mono (by decide)) rfl T.g_breathless T.F_breathless.kp T.b_breathless (flies_cxOf.passes rfl) (zaa (zab 0) (zaa (zab 4) (zaa (zaj G_other_hand (hr.mono (by decide)) rfl T.g_other_hand T.F_other_hand.kp T.b_other_hand (flies_cxOf.passes rfl) (zaa (zab 2) zad)) zad)))))
   (zag (zas (i:=6) sc_laid.nd rfl (Or.inl rfl) (zaj G_filled (hr.mono (by decide)) rfl T.g_filled T.F_filled.kp T.b_filled (flies_cxOf.passes rfl) (zaa (zab 4) (zaa (zab 5) (zaa zah zad)))))
   (zag (zbl (zdF (zjz (zaj (zbz G_breaths) (hr.mono (by decide)) rfl T.g_breaths T.F_breaths.kp T.b_breaths (flies_cxOf.passes rfl) (zaa (zab 0) (zaa (zab 6) (zaa (zaj (zbz G_patch) (hr.mono (by decide)) rfl T.g_patch T.F_patch.kp T.b_patch (flies_cxOf.passes rfl) (zaa (zab 0) (zaa (zab 6) (zaa (zab 3) zad)))) zad)))))) (zai (zig (l:=[3]) flies_cxOf rfl T.xt rfl rfl rfl hr.hd (zkk (zcR zie (zcR (zms 3) (zcR zie zkj)))) (fun _ h=>⟨trivial,h 3 (by decide),trivial,trivial⟩))) zaH)
   (zai (zau (zb0 (zaa (zab 6) (zaa (zab 5) zad)))))))))),?_⟩
 exact zav (G:=Gx K) (E:=E) zbo ["board", "stand", "hand", "point", "full", "taken", "behind"] S rs Pf
set_option maxHeartbeats 0 in
theorem ziN(fu:Nat)(T:Txt K mg A):FnOk P w K mg base (CXx P w) 6 A.f_lays_on A.d_lays_on ["board", "stand", "hand", "points"] (spD K 4 (d_lays_on fu)):=by
 have G_laid:FnOk P w K mg base (CXx P w) 5 A.f_laid A.d_laid ["board", "stand", "hand", "point"] (spD K 4 (d_laid fu)):=znO fu T
 refine T.F_lays_on.okX (k:=5) sc_lays_on (fun vs H Q E h=>h.1) (fun cdv Ar outer s H vs Q E hr h=>?_)
 obtain⟨_,F,as,ws,ce,S,rs,Pf⟩:=h
 refine⟨toTS (Gx K) E _,(zag (zas (i:=4) sc_lays_on.nd rfl (Or.inl rfl) (zbU zad))
   (zag (zbh PassesOwn.leaving rfl (zch (zab 3)) (zaK (i:=5) sc_lays_on.nd rfl (Or.inl rfl))
   (zag (znH (i:=6) rfl rfl rfl sc_lays_on.nd rfl (Or.inl rfl) G_laid (hr.mono (by decide)) rfl T.g_laid T.F_laid.kp T.b_laid (zaa (zab 0) (zaa (zab 1) (zaa (zab 2) (zaa (zab 5) zad)))) (zp1 rfl T.xt rfl rfl rfl rfl (fun _=>(zai zg8))))
   (zai (zbn (zcY PySem.F.slot_list_append PySem.F.type_list_append za9 zdY (zab 4) (zaa (zb0 (zaa (zab 5) (zaa (zaC (zab 6) zah (fun _ _=>rfl)) (zaa (zaC (zab 6) zah (fun _ _=>rfl)) zad)))) zad))))))
   (zai (zau (zab 4))))),?_⟩
 exact zav (G:=Gx K) (E:=E) zgn ["board", "stand", "hand", "points", "found", "point", "told"] S rs Pf
set_option maxHeartbeats 0 in
theorem zgA(fu:Nat)(T:Txt K mg A):FnOk P w K mg base (CXx P w) 3 A.f_closes A.d_closes ["board", "stand", "hand"] (spD K 3 (d_closes fu)):=by
 have G_patches:FnOk P w K mg base (CXx P w) 2 A.f_patches A.d_patches ["board", "marks"] (spD K 2 (d_patches fu)):=zfi fu T
 refine T.F_closes.okX (k:=2) sc_closes (fun vs H Q E h=>h.1) (fun cdv Ar outer s H vs Q E hr h=>?_)
 obtain⟨_,F,as,ws,ce,S,rs,Pf⟩:=h
 refine⟨toTS (Gx K) E _,(zag (zas (i:=3) sc_closes.nd rfl (Or.inr rfl) (zcb zb5 (zaN (N:=["board", "stand", "hand", "marks"]) (psc:=zae zb3) (js:=[2]) (N':=["what", "hand"]) (by decide +kernel)) rfl rfl (zoX (zab 1)) (fun _ _ _ _=>zbf) (fun _ _ _ _=>(zoT (hr.cmp 8) (zab 0) (zab 1)))))
   (zai (zau (zcb zb5 (zaN (N:=["board", "stand", "hand", "marks"]) (psc:=zae zb3) (js:=[3]) (N':=["points", "marks"]) (by decide +kernel)) rfl rfl (zch (zaj (zbz G_patches) (hr.mono (by decide)) rfl T.g_patches T.F_patches.kp T.b_patches (flies_cxOf.passes rfl) (zaa (zab 0) (zaa (zab 3) zad)))) (fun _ _ _ _=>(zaP (zdF (zcy (zaC (zab 1) (zaC (zab 0) zah (fun _ _=>rfl)) (fun _ _=>rfl)))))) (fun _ _ _ _=>(zab 0)))))),?_⟩
 exact zav (G:=Gx K) (E:=E) zbo ["board", "stand", "hand", "marks"] S rs Pf
set_option maxHeartbeats 0 in
theorem zfj(fu:Nat)(T:Txt K mg A):FnOk P w K mg base (CXx P w) 4 A.f_rows_of A.d_rows_of ["board", "stand", "hand"] (spD K 3 (d_rows_of fu)):=by
 have G_rows:FnOk P w K mg base (CXx P w) 3 A.f_rows A.d_rows ["board", "stand"] (spD K 2 (d_rows fu)):=zkr fu T
 refine T.F_rows_of.okX (k:=3) ziK (fun vs H Q E h=>h.1) (fun cdv Ar outer s H vs Q E hr h=>?_)
 obtain⟨_,F,as,ws,ce,S,rs,Pf⟩:=h
 refine⟨toTS (Gx K) E _,(zai (zau (zcb zb5 (zaN (N:=["board", "stand", "hand"]) (psc:=zae zbX) (js:=[2,1]) (N':=["row", "hand", "stand"]) (by decide +kernel)) rfl rfl (zch (zaj G_rows (hr.mono (by decide)) rfl T.g_rows T.F_rows.kp T.b_rows (flies_cxOf.passes rfl) (zaa (zab 0) (zaa (zab 1) zad)))) (fun _ _ _ _=>(zaP (zfz (hr.cmp 8) (zaC (zab 2) (zaC (zab 0) zah (fun _ _=>rfl)) (fun _ _=>rfl)) (zab 1)))) (fun _ _ _ _=>(zab 0))))),?_⟩
 exact zav (G:=Gx K) (E:=E) zbo ["board", "stand", "hand"] S rs Pf
set_option maxHeartbeats 0 in
theorem ziO(fu:Nat)(T:Txt K mg A):FnOk P w K mg base (CXx P w) 1 A.f_is_held A.d_is_held ["stand", "close", "near"] (spD K 3 (d_is_held fu)):=by
 refine T.F_is_held.okX (k:=0) ziL (fun vs H Q E h=>h.1) (fun cdv Ar outer s H vs Q E hr h=>?_)
 obtain⟨_,F,as,ws,ce,S,rs,Pf⟩:=h
 refine⟨toTS (Gx K) E _,(zai (zau (zaw (zqo K) (zlp K) rfl T.n_all PyProof.Rows.boot_all (zaa (zcb zb5 (zaN (N:=["stand", "close", "near"]) (psc:=zae zbZ) (js:=[2,0]) (N':=["point", "near", "stand"]) (by decide +kernel)) rfl rfl (zch (zab 1)) (fun _ _ _ _=>(zaP (zfz (hr.cmp 8) (zaC (zab 2) (zab 0) (fun _ _=>rfl)) zah))) (fun _ _ _ _=>(zng (hr.cmp 9) (zab 0) (zab 1) (by with_unfolding_all rfl)))) zad)))),?_⟩
 exact zav (G:=Gx K) (E:=E) zbo ["stand", "close", "near"] S rs Pf
set_option maxHeartbeats 0 in
theorem ziP(fu:Nat)(T:Txt K mg A):FnOk P w K mg base (CXx P w) 3 A.f_is_firm A.d_is_firm ["board", "stand", "row", "some_closes"] (spD K 4 (d_is_firm fu)):=by
 have G_breaths:FnOk P w K mg base (CXx P w) 2 A.f_breaths A.d_breaths ["board", "stand", "row"] (spD K 3 (d_breaths fu)):=zcU fu T
 have G_is_held:FnOk P w K mg base (CXx P w) 1 A.f_is_held A.d_is_held ["stand", "close", "near"] (spD K 3 (d_is_held fu)):=ziO fu T
 refine T.F_is_firm.okX (k:=2) sc_is_firm (fun vs H Q E h=>h.1) (fun cdv Ar outer s H vs Q E hr h=>?_)
 obtain⟨_,F,as,ws,ce,S,rs,Pf⟩:=h
 refine⟨toTS (Gx K) E _,(zag (zas (i:=4) sc_is_firm.nd rfl (Or.inr rfl) (zaj (zbz G_breaths) (hr.mono (by decide)) rfl T.g_breaths T.F_breaths.kp T.b_breaths (flies_cxOf.passes rfl) (zaa (zab 0) (zaa (zab 1) (zaa (zab 2) zad)))))
   (zag (zdv (k:=5) zb5 (zaN (N:=["board", "stand", "row", "some_closes", "near", "held"]) (psc:=zae zbY) (js:=[1,4]) (N':=["close", "stand", "near"]) (by decide +kernel)) rfl rfl (zch (zab 3)) (fun _ _ _ _=>(zaP (zfc (zcy (zaj G_is_held (hr.mono (by decide)) rfl T.g_is_held T.F_is_held.kp T.b_is_held zco (zaa (zab 1) (zaa (zab 0) (zaa (zab 2) zad)))))))) (fun _ _ _ _=>(zab 0)) sc_is_firm.nd rfl rfl (by with_unfolding_all rfl))
   (zai (zau (zrg (zaw (zcW rfl) (zcX K) rfl T.n_len PySem.boot_len (zaa (zab 5) zad)) (zlq rfl T.c_FEWEST_HELD)))))),?_⟩
 exact zav (G:=Gx K) (E:=E) zbo ["board", "stand", "row", "some_closes", "near", "held"] S rs Pf
set_option maxHeartbeats 0 in
theorem zdS(fu:Nat)(T:Txt K mg A):FnOk P w K mg base (CXx P w) 1 A.f_is_in_one A.d_is_in_one ["point", "some_rows"] (spD K 2 (d_is_in_one fu)):=by
 refine T.F_is_in_one.okX (k:=0) zgy (fun vs H Q E h=>h.1) (fun cdv Ar outer s H vs Q E hr h=>?_)
 obtain⟨_,F,as,ws,ce,S,rs,Pf⟩:=h
 refine⟨toTS (Gx K) E _,(zai (zau (zaw (zro rfl rfl) (zrp K) rfl T.n_any PyProof.Rows.boot_any (zaa (zcb zb5 (zaN (N:=["point", "some_rows"]) (psc:=zae zbs) (js:=[0]) (N':=["row", "point"]) (by decide +kernel)) rfl rfl (zch (zab 1)) (fun _ _ _ _=>zbf) (fun _ _ _ _=>(zng (hr.cmp 9) (zab 1) (zab 0) (by with_unfolding_all rfl)))) zad)))),?_⟩
 exact zav (G:=Gx K) (E:=E) zbo ["point", "some_rows"] S rs Pf
set_option maxHeartbeats 0 in
theorem zgB(fu:Nat)(T:Txt K mg A):FnOk P w K mg base (CXx P w) 2 A.f_is_walled A.d_is_walled ["board", "stand", "hand", "close", "some_rows"] (spD K 5 (d_is_walled fu)):=by
 have G_points_beside:FnOk P w K mg base (CXx P w) 1 A.f_points_beside A.d_points_beside ["board", "points"] (spD K 2 (d_points_beside fu)):=zct fu T
 have G_is_in_one:FnOk P w K mg base (CXx P w) 1 A.f_is_in_one A.d_is_in_one ["point", "some_rows"] (spD K 2 (d_is_in_one fu)):=zdS fu T
 refine T.F_is_walled.okX (k:=1) sc_is_walled (fun vs H Q E h=>h.1) (fun cdv Ar outer s H vs Q E hr h=>?_)
 obtain⟨_,F,as,ws,ce,S,rs,Pf⟩:=h
 refine⟨toTS (Gx K) E _,(zag (zdv (k:=5) zb5 (zaN (N:=["board", "stand", "hand", "close", "some_rows", "stones"]) (psc:=zae zbi) (js:=[2,1]) (N':=["point", "hand", "stand"]) (by decide +kernel)) rfl rfl (zch (zaj (zbz G_points_beside) (hr.mono (by decide)) rfl T.g_points_beside T.F_points_beside.kp T.b_points_beside (flies_cxOf.passes rfl) (zaa (zab 0) (zaa (zab 3) zad)))) (fun _ _ _ _=>(zaP (zfz (hr.cmp 8) (zaC (zab 2) (zab 0) (fun _ _=>rfl)) (zab 1)))) (fun _ _ _ _=>(zab 0)) sc_is_walled.nd rfl rfl (by with_unfolding_all rfl))
   (zai (zau (zaw (zqo K) (zlp K) rfl T.n_all PyProof.Rows.boot_all (zaa (zcb zb5 (zaN (N:=["board", "stand", "hand", "close", "some_rows", "stones"]) (psc:=zae zbi) (js:=[4]) (N':=["point", "some_rows"]) (by decide +kernel)) rfl rfl (zch (zab 5)) (fun _ _ _ _=>zbf) (fun _ _ _ _=>(zkl (zaj G_is_in_one (hr.mono (by decide)) rfl T.g_is_in_one T.F_is_in_one.kp T.b_is_in_one zco (zaa (zab 0) (zaa (zab 1) zad)))))) zad))))),?_⟩
 exact zav (G:=Gx K) (E:=E) zbo ["board", "stand", "hand", "close", "some_rows", "stones"] S rs Pf
set_option maxHeartbeats 0 in
theorem zkt(fu:Nat)(T:Txt K mg A):FnOk P w K mg base (CXx P w) 4 A.f_kept A.d_kept ["board", "stand", "hand", "paper"] (spD K 4 (d_kept fu)):=by
 have G_is_firm:FnOk P w K mg base (CXx P w) 3 A.f_is_firm A.d_is_firm ["board", "stand", "row", "some_closes"] (spD K 4 (d_is_firm fu)):=ziP fu T
 have G_is_walled:FnOk P w K mg base (CXx P w) 2 A.f_is_walled A.d_is_walled ["board", "stand", "hand", "close", "some_rows"] (spD K 5 (d_is_walled fu)):=zgB fu T
 refine T.F_kept.okX (k:=3) sc_kept (fun vs H Q E h=>h.1) (fun cdv Ar outer s H vs Q E hr h=>?_)
 obtain⟨_,F,as,ws,ce,S,rs,Pf⟩:=h
 refine⟨toTS (Gx K) E _,(zag (zdv (k:=4) zb5 (zaN (N:=["board", "stand", "hand", "paper", "firm", "walled"]) (psc:=zae zdR) (js:=[0,1,3]) (N':=["row", "board", "stand", "paper"]) (by decide +kernel)) rfl rfl (zch (zaC (zab 3) zah (fun _ _=>rfl))) (fun _ _ _ _=>(zaP (zfc (zcy (zaj G_is_firm (hr.mono (by decide)) rfl T.g_is_firm T.F_is_firm.kp T.b_is_firm zco (zaa (zab 1) (zaa (zab 2) (zaa (zab 0) (zaa (zaC (zab 3) zah (fun _ _=>rfl)) zad))))))))) (fun _ _ _ _=>(zab 0)) sc_kept.nd rfl rfl (by with_unfolding_all rfl))
   (zag (zdv (k:=5) zb5 (zaN (N:=["board", "stand", "hand", "paper", "firm", "walled"]) (psc:=zae zdR) (js:=[0,1,2,3]) (N':=["close", "board", "stand", "hand", "paper"]) (by decide +kernel)) rfl rfl (zch (zaC (zab 3) zah (fun _ _=>rfl))) (fun _ _ _ _=>(zaP (zfc (zcy (zaj G_is_walled (hr.mono (by decide)) rfl T.g_is_walled T.F_is_walled.kp T.b_is_walled zco (zaa (zab 1) (zaa (zab 2) (zaa (zab 3) (zaa (zab 0) (zaa (zaC (zab 4) zah (fun _ _=>rfl)) zad)))))))))) (fun _ _ _ _=>(zab 0)) sc_kept.nd rfl rfl (by with_unfolding_all rfl))
   (zai (zau (zb0 (zaa (zab 4) (zaa (zab 5) zad))))))),?_⟩
 exact zav (G:=Gx K) (E:=E) zbo ["board", "stand", "hand", "paper", "firm", "walled"] S rs Pf
set_option maxHeartbeats 0 in
theorem zku(fu:Nat)(T:Txt K mg A):FnOk P w K mg base (CXx P w) 5 A.f_safe A.d_safe ["board", "stand", "hand"] (spD K 3 (d_safe fu)):=by
 have G_kept:FnOk P w K mg base (CXx P w) 4 A.f_kept A.d_kept ["board", "stand", "hand", "paper"] (spD K 4 (d_kept fu)):=zkt fu T
 have G_rows_of:FnOk P w K mg base (CXx P w) 4 A.f_rows_of A.d_rows_of ["board", "stand", "hand"] (spD K 3 (d_rows_of fu)):=zfj fu T
 have G_closes:FnOk P w K mg base (CXx P w) 3 A.f_closes A.d_closes ["board", "stand", "hand"] (spD K 3 (d_closes fu)):=zgA fu T
 refine T.F_safe.okX (k:=4) sc_safe (fun vs H Q E h=>h.1) (fun cdv Ar outer s H vs Q E hr h=>?_)
 obtain⟨_,F,as,ws,ce,S,rs,Pf⟩:=h
 refine⟨toTS (Gx K) E _,(zag (zas (i:=3) sc_safe.nd rfl (Or.inl rfl) (zb0 (zaa (zaj G_rows_of (hr.mono (by decide)) rfl T.g_rows_of T.F_rows_of.kp T.b_rows_of (flies_cxOf.passes rfl) (zaa (zab 0) (zaa (zab 1) (zaa (zab 2) zad)))) (zaa (zaj G_closes (hr.mono (by decide)) rfl T.g_closes T.F_closes.kp T.b_closes (flies_cxOf.passes rfl) (zaa (zab 0) (zaa (zab 1) (zaa (zab 2) zad)))) zad))))
   (zag (zas (i:=4) sc_safe.nd rfl (Or.inl rfl) (zaj G_kept (hr.mono (by decide)) rfl T.g_kept T.F_kept.kp T.b_kept (flies_cxOf.passes rfl) (zaa (zab 0) (zaa (zab 1) (zaa (zab 2) (zaa (zab 3) zad))))))
   (zag (zd5 fu PassesOwn.leaving (zew (hr.cmp 8) (zab 4) (zab 3)) (zag (zas (i:=3) sc_safe.nd rfl (Or.inl rfl) (zab 4))
   (zai (zas (i:=4) sc_safe.nd rfl (Or.inl rfl) (zaj G_kept (hr.mono (by decide)) rfl T.g_kept T.F_kept.kp T.b_kept (flies_cxOf.passes rfl) (zaa (zab 0) (zaa (zab 1) (zaa (zab 2) (zaa (zab 3) zad)))))))))
   (zai (zau (zab 3)))))),?_⟩
 exact zav (G:=Gx K) (E:=E) zbo ["board", "stand", "hand", "paper", "left"] S rs Pf
set_option maxHeartbeats 0 in
theorem zgC(fu:Nat)(T:Txt K mg A):FnOk P w K mg base (CXx P w) 2 A.f_is_points A.d_is_points ["thing"] (spD K 1 (d_is_points fu)):=by
 have G_is_whole:FnOk P w K mg base (CXx P w) 1 A.f_is_whole A.d_is_whole ["thing"] (spD K 1 (d_is_whole fu)):=zhp fu T
 refine T.F_is_points.okX (k:=1) zgz (fun vs H Q E h=>h.1) (fun cdv Ar outer s H vs Q E hr h=>?_)
 obtain⟨_,F,as,ws,ce,S,rs,Pf⟩:=h
 refine⟨toTS (Gx K) E _,(zai (zau (zhV (zaw (zoL K) (zjS K) rfl T.n_isinstance PyProof.Rows.boot_isinstance (zaa (zab 0) (zaa (zjU rfl T.n_list PyProof.Rows.boot_list) zad))) (zjI (zaw (zqo K) (zlp K) rfl T.n_all PyProof.Rows.boot_all (zaa (zcb zb5 (zaN (N:=["thing"]) (psc:=zae zbr) (js:=[]) (N':=["point"]) (by decide +kernel)) rfl rfl (zch (zab 0)) (fun _ _ _ _=>zbf) (fun _ _ _ _=>(zkl (zaj G_is_whole (hr.mono (by decide)) rfl T.g_is_whole T.F_is_whole.kp T.b_is_whole zco (zaa (zab 0) zad))))) zad)))))),?_⟩
 exact zav (G:=Gx K) (E:=E) zbo ["thing"] S rs Pf
set_option maxHeartbeats 0 in
theorem zeY(fu:Nat)(T:Txt K mg A):FnOk P w K mg base (CXx P w) 3 A.f_are_some_of A.d_are_some_of ["things", "known"] (spD K 2 (d_are_some_of fu)):=by
 have G_is_points:FnOk P w K mg base (CXx P w) 2 A.f_is_points A.d_is_points ["thing"] (spD K 1 (d_is_points fu)):=zgC fu T
 refine T.F_are_some_of.okX (k:=2) zeW (fun vs H Q E h=>h.1) (fun cdv Ar outer s H vs Q E hr h=>?_)
 obtain⟨_,F,as,ws,ce,S,rs,Pf⟩:=h
 refine⟨toTS (Gx K) E _,(zag (zbl (zdF (zcy (zaw (zoL K) (zjS K) rfl T.n_isinstance PyProof.Rows.boot_isinstance (zaa (zab 0) (zaa (zjU rfl T.n_list PyProof.Rows.boot_list) zad))))) (zai (zau zc8)) zaH)
   (zai (zau (zaw (zqo K) (zlp K) rfl T.n_all PyProof.Rows.boot_all (zaa (zcb zb5 (zaN (N:=["things", "known"]) (psc:=zae za8) (js:=[1,0]) (N':=["thing", "known", "things"]) (by decide +kernel)) rfl rfl (zch (zab 0)) (fun _ _ _ _=>zbf) (fun _ _ _ _=>(zkl (zhV (zaj G_is_points (hr.mono (by decide)) rfl T.g_is_points T.F_is_points.kp T.b_is_points zco (zaa (zab 0) zad)) (zhV (zng (hr.cmp 9) (zab 0) (zab 1) (by with_unfolding_all rfl)) (zjI (zoT (hr.cmp 8) (zcY PySem.F.slot_list_count PySem.F.type_list_count (znJ (hr.cmp 9)) (zpY K) (zab 2) (zaa (zab 0) zad)) zah))))))) zad))))),?_⟩
 exact zav (G:=Gx K) (E:=E) zbo ["things", "known"] S rs Pf
set_option maxHeartbeats 0 in
theorem zlK(fu:Nat)(T:Txt K mg A):FnOk P w K mg base (CXx P w) 5 A.f_holds A.d_holds ["board", "stand", "hand", "paper"] (spD K 4 (d_holds fu)):=by
 have G_are_some_of:FnOk P w K mg base (CXx P w) 3 A.f_are_some_of A.d_are_some_of ["things", "known"] (spD K 2 (d_are_some_of fu)):=zeY fu T
 have G_kept:FnOk P w K mg base (CXx P w) 4 A.f_kept A.d_kept ["board", "stand", "hand", "paper"] (spD K 4 (d_kept fu)):=zkt fu T
 have G_rows_of:FnOk P w K mg base (CXx P w) 4 A.f_rows_of A.d_rows_of ["board", "stand", "hand"] (spD K 3 (d_rows_of fu)):=zfj fu T
 have G_closes:FnOk P w K mg base (CXx P w) 3 A.f_closes A.d_closes ["board", "stand", "hand"] (spD K 3 (d_closes fu)):=zgA fu T
 refine T.F_holds.okX (k:=4) zlJ (fun vs H Q E h=>h.1) (fun cdv Ar outer s H vs Q E hr h=>?_)
 obtain⟨_,F,as,ws,ce,S,rs,Pf⟩:=h
 refine⟨toTS (Gx K) E _,(zag (zbl (PW.pt (zlj (zdF (zcy (zaw (zoL K) (zjS K) rfl T.n_isinstance PyProof.Rows.boot_isinstance (zaa (zab 3) (zaa (zjU rfl T.n_tuple PyProof.Rows.boot_tuple) zad))))) (zhW (zlh (hr.cmp 8) (zaw (zcW rfl) (zcX K) rfl T.n_len PySem.boot_len (zaa (zab 3) zad)) zah)))) (zai (zau zc8)) zaH)
   (zag (zbl (zdF (zcy (zaj G_are_some_of (hr.mono (by decide)) rfl T.g_are_some_of T.F_are_some_of.kp T.b_are_some_of (flies_cxOf.passes rfl) (zaa (zaC (zab 3) zah (fun _ _=>rfl)) (zaa (zaj G_rows_of (hr.mono (by decide)) rfl T.g_rows_of T.F_rows_of.kp T.b_rows_of (flies_cxOf.passes rfl) (zaa (zab 0) (zaa (zab 1) (zaa (zab 2) zad)))) zad))))) (zai (zau zc8)) zaH)
   (zag (zbl (zdF (zcy (zaj G_are_some_of (hr.mono (by decide)) rfl T.g_are_some_of T.F_are_some_of.kp T.b_are_some_of (flies_cxOf.passes rfl) (zaa (zaC (zab 3) zah (fun _ _=>rfl)) (zaa (zaj G_closes (hr.mono (by decide)) rfl T.g_closes T.F_closes.kp T.b_closes (flies_cxOf.passes rfl) (zaa (zab 0) (zaa (zab 1) (zaa (zab 2) zad)))) zad))))) (zai (zau zc8)) zaH)
   (zai (zau (zpJ (hr.cmp 8) (zaj G_kept (hr.mono (by decide)) rfl T.g_kept T.F_kept.kp T.b_kept (flies_cxOf.passes rfl) (zaa (zab 0) (zaa (zab 1) (zaa (zab 2) (zaa (zab 3) zad))))) (zab 3))))))),?_⟩
 exact zav (G:=Gx K) (E:=E) zbo ["board", "stand", "hand", "paper"] S rs Pf
set_option maxHeartbeats 0 in
theorem zfk(fu:Nat)(T:Txt K mg A):FnOk P w K mg base (CXx P w) 6 A.f_is_safe A.d_is_safe ["board", "stand", "point"] (spD K 3 (d_is_safe fu)):=by
 have G_is_in_one:FnOk P w K mg base (CXx P w) 1 A.f_is_in_one A.d_is_in_one ["point", "some_rows"] (spD K 2 (d_is_in_one fu)):=zdS fu T
 have G_safe:FnOk P w K mg base (CXx P w) 5 A.f_safe A.d_safe ["board", "stand", "hand"] (spD K 3 (d_safe fu)):=zku fu T
 refine T.F_is_safe.okX (k:=5) ziM (fun vs H Q E h=>h.1) (fun cdv Ar outer s H vs Q E hr h=>?_)
 obtain⟨_,F,as,ws,ce,S,rs,Pf⟩:=h
 refine⟨toTS (Gx K) E _,(zai (zau (zaj G_is_in_one (hr.mono (by decide)) rfl T.g_is_in_one T.F_is_in_one.kp T.b_is_in_one (flies_cxOf.passes rfl) (zaa (zab 2) (zaa (zaC (zaj G_safe (hr.mono (by decide)) rfl T.g_safe T.F_safe.kp T.b_safe (flies_cxOf.passes rfl) (zaa (zab 0) (zaa (zab 1) (zaa (zaC (zab 1) (zab 2) (fun _ _=>rfl)) zad)))) zah (fun _ _=>rfl)) zad))))),?_⟩
 exact zav (G:=Gx K) (E:=E) zbo ["board", "stand", "point"] S rs Pf
set_option maxHeartbeats 0 in
theorem zlL(fu:Nat)(T:Txt K mg A):FnOk P w K mg base (CXx P w) 3 A.f_spots A.d_spots ["board", "stand", "point"] (spD K 3 (d_spots fu)):=by
 have G_breaths:FnOk P w K mg base (CXx P w) 2 A.f_breaths A.d_breaths ["board", "stand", "row"] (spD K 3 (d_breaths fu)):=zcU fu T
 have G_patch:FnOk P w K mg base (CXx P w) 2 A.f_patch A.d_patch ["board", "stand", "point"] (spD K 3 (d_patch fu)):=zih fu T
 refine T.F_spots.okX (k:=2) sc_spots (fun vs H Q E h=>h.1) (fun cdv Ar outer s H vs Q E hr h=>?_)
 obtain⟨_,F,as,ws,ce,S,rs,Pf⟩:=h
 refine⟨toTS (Gx K) E _,(zag (zas (i:=3) sc_spots.nd rfl (Or.inr rfl) (zaj (zbz G_breaths) (hr.mono (by decide)) rfl T.g_breaths T.F_breaths.kp T.b_breaths (flies_cxOf.passes rfl) (zaa (zab 0) (zaa (zab 1) (zaa (zaj (zbz G_patch) (hr.mono (by decide)) rfl T.g_patch T.F_patch.kp T.b_patch (flies_cxOf.passes rfl) (zaa (zab 0) (zaa (zab 1) (zaa (zab 2) zad)))) zad)))))
   (zai (zau (zhX zb5 (zab 3) (zcb zb5 (zaN (N:=["board", "stand", "point", "near"]) (psc:=zae zdb) (js:=[3,1]) (N':=["spot", "near", "stand"]) (by decide +kernel)) rfl rfl (zdX rfl T.n_range (zaa (zaw (zcW rfl) (zcX K) rfl T.n_len PySem.boot_len (zaa (zab 0) zad)) zad)) (fun _ _ _ _=>(zaP (PW.pt (zed (zfz (hr.cmp 8) (zaC (zab 2) (zab 0) (fun _ _=>rfl)) zah) (zc9 (zd4 (hr.cmp 9) (zab 0) (zab 1) (by with_unfolding_all rfl))))))) (fun _ _ _ _=>(zab 0))))))),?_⟩
 exact zav (G:=Gx K) (E:=E) zbo ["board", "stand", "point", "near"] S rs Pf
set_option maxHeartbeats 0 in
theorem zeG(fu:Nat)(T:Txt K mg A):FnOk P w K mg base (CXx P w) 7 A.f_unsaving_lay A.d_unsaving_lay ["board", "stand", "point"] (spD K 3 (d_unsaving_lay fu)):=by
 have G_other_hand:FnOk P w K mg base (CXx P w) 1 A.f_other_hand A.d_other_hand ["hand"] (spD K 1 (d_other_hand fu)):=zdq fu T
 have G_spots:FnOk P w K mg base (CXx P w) 3 A.f_spots A.d_spots ["board", "stand", "point"] (spD K 3 (d_spots fu)):=zlL fu T
 have G_lays_on:FnOk P w K mg base (CXx P w) 6 A.f_lays_on A.d_lays_on ["board", "stand", "hand", "points"] (spD K 4 (d_lays_on fu)):=ziN fu T
 have G_is_safe:FnOk P w K mg base (CXx P w) 6 A.f_is_safe A.d_is_safe ["board", "stand", "point"] (spD K 3 (d_is_safe fu)):=zfk fu T
 refine T.F_unsaving_lay.okX (k:=6) sc_unsaving_lay (fun vs H Q E h=>h.1) (fun cdv Ar outer s H vs Q E hr h=>?_)
 obtain⟨_,F,as,ws,ce,S,rs,Pf⟩:=h
 refine⟨toTS (Gx K) E _,(zag (zas (i:=3) sc_unsaving_lay.nd rfl (Or.inl rfl) (zaj G_other_hand (hr.mono (by decide)) rfl T.g_other_hand T.F_other_hand.kp T.b_other_hand (flies_cxOf.passes rfl) (zaa (zaC (zab 1) (zab 2) (fun _ _=>rfl)) zad)))
   (zag (zbh PassesOwn.leaving rfl (zch (zaj G_spots (hr.mono (by decide)) rfl T.g_spots T.F_spots.kp T.b_spots (flies_cxOf.passes rfl) (zaa (zab 0) (zaa (zab 1) (zaa (zab 2) zad))))) (zaK (i:=4) sc_unsaving_lay.nd rfl (Or.inl rfl))
   (zai (zbh PassesOwn.leaving rfl (zch (zaj (zbz G_lays_on) (hr.mono (by decide)) rfl T.g_lays_on T.F_lays_on.kp T.b_lays_on (flies_cxOf.passes rfl) (zaa (zab 0) (zaa (zab 1) (zaa (zab 3) (zaa (zaJ (zaa (zab 4) zad)) zad)))))) (zaK (i:=5) sc_unsaving_lay.nd rfl (Or.inl rfl))
   (zai (zbl (PW.pt (zlj (zfz (hr.cmp 8) (zaC (zaC (zab 5) zah (fun _ _=>rfl)) (zab 2) (fun _ _=>rfl)) zah) (zhW (zdF (zcy (zaj G_is_safe (hr.mono (by decide)) rfl T.g_is_safe T.F_is_safe.kp T.b_is_safe (flies_cxOf.passes rfl) (zaa (zab 0) (zaa (zaC (zab 5) zah (fun _ _=>rfl)) (zaa (zab 2) zad))))))))) (zai (zau (zab 5))) zaH)))))
   (zai (zau zl7)))),?_⟩
 exact zav (G:=Gx K) (E:=E) zbo ["board", "stand", "point", "hand", "spot", "lay"] S rs Pf
set_option maxHeartbeats 0 in
theorem zkv(fu:Nat)(T:Txt K mg A):FnOk P w K mg base (CXx P w) 8 A.f_taking A.d_taking ["board", "stand", "point"] (spD K 3 (d_taking fu)):=by
 have G_is_safe:FnOk P w K mg base (CXx P w) 6 A.f_is_safe A.d_is_safe ["board", "stand", "point"] (spD K 3 (d_is_safe fu)):=zfk fu T
 have G_unsaving_lay:FnOk P w K mg base (CXx P w) 7 A.f_unsaving_lay A.d_unsaving_lay ["board", "stand", "point"] (spD K 3 (d_unsaving_lay fu)):=zeG fu T
 refine T.F_taking.okX (k:=7) sc_taking (fun vs H Q E h=>h.1) (fun cdv Ar outer s H vs Q E hr h=>?_)
 obtain⟨_,F,as,ws,ce,S,rs,Pf⟩:=h
 refine⟨toTS (Gx K) E _,(zag (zbl (zcy (zaj G_is_safe (hr.mono (by decide)) rfl T.g_is_safe T.F_is_safe.kp T.b_is_safe (flies_cxOf.passes rfl) (zaa (zab 0) (zaa (zab 1) (zaa (zab 2) zad))))) (zai (zau zl7)) zaH)
   (zag (zas (i:=3) sc_taking.nd rfl (Or.inl rfl) (zbU zad))
   (zag (zas (i:=4) sc_taking.nd rfl (Or.inl rfl) (zab 1))
   (zag (zd5 fu PassesOwn.leaving (zlh (hr.cmp 8) (zaC (zab 4) (zab 2) (fun _ _=>rfl)) zah) (zag (zas (i:=5) sc_taking.nd rfl (Or.inl rfl) (zaj G_unsaving_lay (hr.mono (by decide)) rfl T.g_unsaving_lay T.F_unsaving_lay.kp T.b_unsaving_lay (flies_cxOf.passes rfl) (zaa (zab 0) (zaa (zab 4) (zaa (zab 2) zad)))))
   (zag (zbn (zcY PySem.F.slot_list_append PySem.F.type_list_append za9 zdY (zab 3) (zaa (zaC (zab 5) zah (fun _ _=>rfl)) zad)))
   (zai (zas (i:=4) sc_taking.nd rfl (Or.inl rfl) (zaC (zab 5) zah (fun _ _=>rfl)))))))
   (zai (zau (zab 3))))))),?_⟩
 exact zav (G:=Gx K) (E:=E) znp ["board", "stand", "point", "found", "now", "lay"] S rs Pf
set_option maxHeartbeats 0 in
theorem zgD(fu:Nat)(T:Txt K mg A):FnOk P w K mg base (CXx P w) 1 A.f__law_cell A.d__law_cell ["_law_script", "_law_k"] (spD K 2 (d__law_cell fu)):=by
 refine T.F__law_cell.okX (k:=0) sc__law_cell (fun vs H Q E h=>h.1) (fun cdv Ar outer s H vs Q E hr h=>?_)
 obtain⟨_,F,as,ws,ce,S,rs,Pf⟩:=h
 refine⟨toTS (Gx K) E _,(zag (zbl (ziD (zab 1) (zaw (zcW rfl) (zcX K) rfl T.n_len PySem.boot_len (zaa (zab 0) zad))) (zai (zau (zaC (zab 0) (zab 1) (fun _ _=>rfl)))) zaH)
   (zag (zas (i:=2) sc__law_cell.nd rfl (Or.inl rfl) zah)
   (zag (zbl (zjH (zaw (zcW rfl) (zcX K) rfl T.n_len PySem.boot_len (zaa (zab 0) zad)) zah) (zai (zas (i:=2) sc__law_cell.nd rfl (Or.inl rfl) (zaC (zab 0) (zaY (zbp (zca (zab 1) zah) zah) (zaw (zcW rfl) (zcX K) rfl T.n_len PySem.boot_len (zaa (zab 0) zad))) (fun _ _=>rfl)))) zaH)
   (zai (zau (zbp (zbp (zbp (zca (zab 2) zah) (zca (zca (zab 1) (zab 1)) zah)) (zca zah (zab 1))) zah)))))),?_⟩
 exact zav (G:=Gx K) (E:=E) zbo ["_law_script", "_law_k", "_law_base"] S rs Pf
set_option maxHeartbeats 0 in
theorem zbj(fu:Nat)(T:Txt K mg A):FnOk P w K mg base (CXx P w) 2 A.f__law_next A.d__law_next ["_law_pen", "_law_many"] (spD K 2 (d__law_next fu)):=by
 have G__law_cell:FnOk P w K mg base (CXx P w) 1 A.f__law_cell A.d__law_cell ["_law_script", "_law_k"] (spD K 2 (d__law_cell fu)):=zgD fu T
 refine T.F__law_next.okX (k:=1) sc__law_next (fun vs H Q E h=>h.1) (fun cdv Ar outer s H vs Q E hr h=>?_)
 obtain⟨_,F,as,ws,ce,S,rs,Pf⟩:=h
 refine⟨toTS (Gx K) E _,(zag (zas (i:=2) sc__law_next.nd rfl (Or.inl rfl) (zaY (zaj G__law_cell (hr.mono (by decide)) rfl T.g__law_cell T.F__law_cell.kp T.b__law_cell (flies_cxOf.passes rfl) (zaa (zaC (zab 0) zah (fun _ _=>rfl)) (zaa (zaC (zab 0) zah (fun _ _=>rfl)) zad))) zah))
   (zag (zdG (zbp (zaC (zab 0) zah (fun _ _=>rfl)) zah) (zdu (E:=E0) (zab 0) zah))
   (zag (zas (i:=3) sc__law_next.nd rfl (Or.inl rfl) (zaY (zca (zbp (zab 2) (zca zah (zaC (zab 0) zah (fun _ _=>rfl)))) zah) zah))
   (zai (zau (zaY (zgh (zaY (zca (zab 3) (zbp (zbp (zaY (zab 3) zah) (zaC (zab 0) zah (fun _ _=>rfl))) zah)) zah) zah) (zab 1))))))),?_⟩
 exact zav (G:=Gx K) (E:=E) zbo ["_law_pen", "_law_many", "_law_cell_here", "_law_number"] S rs Pf
set_option maxHeartbeats 0 in
theorem zfT(fu:Nat)(T:Txt K mg A):FnOk P w K mg base (CXx P w) 3 A.f__law_lines A.d__law_lines ["_law_pen", "_law_most"] (spD K 2 (d__law_lines fu)):=by
 have G__law_next:FnOk P w K mg base (CXx P w) 2 A.f__law_next A.d__law_next ["_law_pen", "_law_many"] (spD K 2 (d__law_next fu)):=zbj fu T
 refine T.F__law_lines.okX (k:=2) sc__law_lines (fun vs H Q E h=>h.1) (fun cdv Ar outer s H vs Q E hr h=>?_)
 obtain⟨_,F,as,ws,ce,S,rs,Pf⟩:=h
 refine⟨toTS (Gx K) E _,(zag (zas (i:=2) sc__law_lines.nd rfl (Or.inl rfl) (zaj G__law_next (hr.mono (by decide)) rfl T.g__law_next T.F__law_next.kp T.b__law_next (flies_cxOf.passes rfl) (zaa (zab 0) (zaa zah zad))))
   (zag (zbl (zcA (zab 2) zah) (zag (zas (i:=3) sc__law_lines.nd rfl (Or.inr rfl) (zbp zah (zaj G__law_next (hr.mono (by decide)) rfl T.g__law_next T.F__law_next.kp T.b__law_next (flies_cxOf.passes rfl) (zaa (zab 0) (zaa (zaw (zja rfl) zrq rfl T.n_min PyProof.Rows.boot_min (zaa (zab 1) (zaa zah zad))) zad)))))
   (zag (zas (i:=4) sc__law_lines.nd rfl (Or.inl rfl) (zca (zab 3) (zbp zah (zaj G__law_next (hr.mono (by decide)) rfl T.g__law_next T.F__law_next.kp T.b__law_next (flies_cxOf.passes rfl) (zaa (zab 0) (zaa (zaw (zi9 rfl) zrr rfl T.n_max PyProof.Rows.boot_max (zaa zah (zaa (zgh (zab 1) (zab 3)) zad))) zad))))))
   (zag (zdv (k:=5) zkK (zaN (N:=["_law_pen", "_law_most", "_law_way", "_law_wide", "_law_many", "_law_found", "_law_number", "_law_point", "_law_other"]) (psc:=zae za2) (js:=[3]) (N':=["_law_point", "_law_wide"]) (by decide +kernel)) rfl rfl (zdX rfl T.n_range (zaa (zab 4) zad)) (fun _ _ _ _=>(zaP (ziD (zaY (zab 0) (zab 1)) (zc1 (zab 1) zah)))) (fun _ _ _ _=>(zb0 (zaa (zab 0) (zaa (zbp (zab 0) zah) zad)))) sc__law_lines.nd rfl rfl (by with_unfolding_all rfl))
   (zai (zau (zb0 (zaa (zab 4) (zaa (zhX zb5 (zab 5) (zcb zb5 (zaN (N:=["_law_pen", "_law_most", "_law_way", "_law_wide", "_law_many", "_law_found", "_law_number", "_law_point", "_law_other"]) (psc:=zae za2) (js:=[3]) (N':=["_law_point", "_law_wide"]) (by decide +kernel)) rfl rfl (zdX rfl T.n_range (zaa (zc1 (zab 4) (zab 3)) zad)) (fun _ _ _ _=>zbf) (fun _ _ _ _=>(zb0 (zaa (zab 0) (zaa (zbp (zab 0) (zab 1)) zad)))))) zad)))))))) zaH)
   (zag (zas (i:=4) sc__law_lines.nd rfl (Or.inl rfl) (zbp zah (zaj G__law_next (hr.mono (by decide)) rfl T.g__law_next T.F__law_next.kp T.b__law_next (flies_cxOf.passes rfl) (zaa (zab 0) (zaa (zab 1) zad)))))
   (zag (zas (i:=6) sc__law_lines.nd rfl (Or.inl rfl) (zaj G__law_next (hr.mono (by decide)) rfl T.g__law_next T.F__law_next.kp T.b__law_next (flies_cxOf.passes rfl) (zaa (zab 0) (zaa zah zad))))
   (zag (zas (i:=5) sc__law_lines.nd rfl (Or.inl rfl) (zbU zad))
   (zag (zbh PassesOwn.leaving rfl (zdX rfl T.n_range (zaa (zab 4) zad)) (zaK (i:=7) sc__law_lines.nd rfl (Or.inl rfl))
   (zai (zbh PassesOwn.leaving rfl (zdX rfl T.n_range (zaa (zab 7) zad)) (zaK (i:=8) sc__law_lines.nd rfl (Or.inl rfl))
   (zag (zas (i:=6) sc__law_lines.nd rfl (Or.inl rfl) (zaY (zbp (zca (zab 6) zah) zah) zah))
   (zai (zbl (PW.pt (zlj (ziD (zaY (zgh (zab 6) zah) zah) (zca zah (zab 2))) (zhW (PW.pt (zed (zcA (zab 2) zah) (zc9 (zcA (zab 7) (zbp (zab 8) zah)))))))) (zai (zbn (zcY PySem.F.slot_list_append PySem.F.type_list_append za9 zdY (zab 5) (zaa (zb0 (zaa (zab 8) (zaa (zab 7) zad))) zad)))) zaH))))))
   (zai (zau (zb0 (zaa (zab 4) (zaa (zab 5) zad))))))))))),?_⟩
 exact zav (G:=Gx K) (E:=E) znp ["_law_pen", "_law_most", "_law_way", "_law_wide", "_law_many", "_law_found", "_law_number", "_law_point", "_law_other"] S rs Pf
set_option maxHeartbeats 0 in
theorem zfU(fu:Nat)(T:Txt K mg A):FnOk P w K mg base (CXx P w) 4 A.f__law_board A.d__law_board ["_law_pen", "_law_most"] (spD K 2 (d__law_board fu)):=by
 have G__law_lines:FnOk P w K mg base (CXx P w) 3 A.f__law_lines A.d__law_lines ["_law_pen", "_law_most"] (spD K 2 (d__law_lines fu)):=zfT fu T
 refine T.F__law_board.okX (k:=3) sc__law_board (fun vs H Q E h=>h.1) (fun cdv Ar outer s H vs Q E hr h=>?_)
 obtain⟨_,F,as,ws,ce,S,rs,Pf⟩:=h
 refine⟨toTS (Gx K) E _,(zag (zdG (zaj (zkg G__law_lines) (hr.mono (by decide)) rfl T.g__law_lines T.F__law_lines.kp T.b__law_lines (flies_cxOf.passes rfl) (zaa (zab 0) (zaa (zab 1) zad))) (zjP rfl (zcJ (zaK (i:=2) sc__law_board.nd rfl (Or.inl rfl)) (zcJ (zaK (i:=3) sc__law_board.nd rfl (Or.inl rfl)) zg9))))
   (zag (zdv (k:=4) zb5 (zaN (N:=["_law_pen", "_law_most", "_law_many", "_law_lines_here", "_law_beside_here", "_law_one", "_law_other"]) (psc:=zae za3) (js:=[]) (N':=["_law_point"]) (by decide +kernel)) rfl rfl (zdX rfl T.n_range (zaa (zab 2) zad)) (fun _ _ _ _=>zbf) (fun _ _ _ _=>(zbU zad)) sc__law_board.nd rfl rfl (by with_unfolding_all rfl))
   (zag (zbh PassesOwn.leaving rfl (zch (zab 3)) (zjP rfl (zcJ (zaK (i:=5) sc__law_board.nd rfl (Or.inl rfl)) (zcJ (zaK (i:=6) sc__law_board.nd rfl (Or.inl rfl)) zg9)))
   (zag (zbn (zcY PySem.F.slot_list_append PySem.F.type_list_append za9 zdY (zaC (zab 4) (zab 5) (fun _ _=>rfl)) (zaa (zab 6) zad)))
   (zai (zbn (zcY PySem.F.slot_list_append PySem.F.type_list_append za9 zdY (zaC (zab 4) (zab 6) (fun _ _=>rfl)) (zaa (zab 5) zad))))))
   (zai (zau (zaZ (ze6 K) (zdx K) rfl T.n_tuple PyProof.Rows.boot_tuple (zaa (zcb zb5 (zaN (N:=["_law_pen", "_law_most", "_law_many", "_law_lines_here", "_law_beside_here", "_law_one", "_law_other"]) (psc:=zae za3) (js:=[]) (N':=["_law_some"]) (by decide +kernel)) rfl rfl (zch (zab 4)) (fun _ _ _ _=>zbf) (fun _ _ _ _=>(zaZ (ze6 K) (zdx K) rfl T.n_tuple PyProof.Rows.boot_tuple (zaa (zaw (zhb rfl rfl) (zhc K zb5) rfl T.n_sorted PyProof.Rows.boot_sorted (zaa (zab 0) zad)) zad)))) zad))))))),?_⟩
 exact zav (G:=Gx K) (E:=E) zbo ["_law_pen", "_law_most", "_law_many", "_law_lines_here", "_law_beside_here", "_law_one", "_law_other"] S rs Pf
set_option maxHeartbeats 0 in
theorem zgE(fu:Nat)(T:Txt K mg A):FnOk P w K mg base (CXx P w) 1 A.f__law_come A.d__law_come ["_law_board_here", "_law_start", "_law_there"] (spD K 3 (d__law_come fu)):=by
 refine T.F__law_come.okX (k:=0) sc__law_come (fun vs H Q E h=>h.1) (fun cdv Ar outer s H vs Q E hr h=>?_)
 obtain⟨_,F,as,ws,ce,S,rs,Pf⟩:=h
 refine⟨toTS (Gx K) E _,(zag (zas (i:=3) sc__law_come.nd rfl (Or.inl rfl) (zh0 (zab 1) zc8))
   (zag (zas (i:=4) sc__law_come.nd rfl (Or.inl rfl) (zbU (zaa (zab 1) zad)))
   (zag (zd5 fu PassesOwn.leaving (zjH (zaw (zcW rfl) (zcX K) rfl T.n_len PySem.boot_len (zaa (zab 4) zad)) zah) (zai (zbh PassesOwn.leaving rfl (zoX (zaC (zab 0) (zjT PySem.F.slot_list_pop PySem.F.type_list_pop zl3 zo5 (zab 4)) (fun _ _=>rfl))) (zaK (i:=5) sc__law_come.nd rfl (Or.inl rfl))
   (zai (zbl (PW.pt (zed (znh (hr.cmp 9) (zab 5) (zab 2) (by with_unfolding_all rfl)) (zc9 (zee (hr.cmp 1) (zab 5) (zab 3) (by with_unfolding_all rfl))))) (zag (zgj (hr.cmp 1) (zab 3) (zab 5) zc8)
   (zai (zbn (zcY PySem.F.slot_list_append PySem.F.type_list_append za9 zdY (zab 4) (zaa (zab 5) zad))))) zaH)))))
   (zai (zau (zaw (zhb rfl rfl) (zhc K zb5) rfl T.n_sorted PyProof.Rows.boot_sorted (zaa (zab 3) zad))))))),?_⟩
 exact zav (G:=Gx K) (E:=E) zbo ["_law_board_here", "_law_start", "_law_there", "_law_found", "_law_wait", "_law_point"] S rs Pf
set_option maxHeartbeats 0 in
theorem zbk(fu:Nat)(T:Txt K mg A):FnOk P w K mg base (CXx P w) 2 A.f__law_patches A.d__law_patches ["_law_board_here", "_law_stand_here", "_law_held_here"] (spD K 3 (d__law_patches fu)):=by
 have G__law_come:FnOk P w K mg base (CXx P w) 1 A.f__law_come A.d__law_come ["_law_board_here", "_law_start", "_law_there"] (spD K 3 (d__law_come fu)):=zgE fu T
 refine T.F__law_patches.okX (k:=1) sc__law_patches (fun vs H Q E h=>h.1) (fun cdv Ar outer s H vs Q E hr h=>?_)
 obtain⟨_,F,as,ws,ce,S,rs,Pf⟩:=h
 refine⟨toTS (Gx K) E _,(zag (zdv (k:=3) zb5 (zaN (N:=["_law_board_here", "_law_stand_here", "_law_held_here", "_law_there", "_law_found", "_law_point"]) (psc:=zae zaR) (js:=[2,1]) (N':=["_law_point", "_law_held_here", "_law_stand_here"]) (by decide +kernel)) rfl rfl (zdX rfl T.n_range (zaa (zaw (zcW rfl) (zcX K) rfl T.n_len PySem.boot_len (zaa (zab 0) zad)) zad)) (fun _ _ _ _=>(zaP (znh (hr.cmp 9) (zaC (zab 2) (zab 0) (fun _ _=>rfl)) (zab 1) (by with_unfolding_all rfl)))) (fun _ _ _ _=>(zab 0)) sc__law_patches.nd rfl rfl (by with_unfolding_all rfl))
   (zag (zas (i:=4) sc__law_patches.nd rfl (Or.inl rfl) (zbU zad))
   (zag (zbh PassesOwn.leaving rfl (zch (zab 3)) (zaK (i:=5) sc__law_patches.nd rfl (Or.inr rfl))
   (zai (zbl (zpK (hr.cmp 8) (zcb zb5 (zaN (N:=["_law_board_here", "_law_stand_here", "_law_held_here", "_law_there", "_law_found", "_law_point"]) (psc:=zae zaR) (js:=[5]) (N':=["_law_some", "_law_point"]) (by decide +kernel)) rfl rfl (zch (zab 4)) (fun _ _ _ _=>(zaP (znh (hr.cmp 9) (zab 1) (zab 0) (by with_unfolding_all rfl)))) (fun _ _ _ _=>(zab 0))) (zaJ zad)) (zai (zbn (zcY PySem.F.slot_list_append PySem.F.type_list_append za9 zdY (zab 4) (zaa (zaj G__law_come (hr.mono (by decide)) rfl T.g__law_come T.F__law_come.kp T.b__law_come (flies_cxOf.passes rfl) (zaa (zab 0) (zaa (zab 5) (zaa (zab 3) zad)))) zad)))) zaH)))
   (zai (zau (zab 4)))))),?_⟩
 exact zav (G:=Gx K) (E:=E) zgn ["_law_board_here", "_law_stand_here", "_law_held_here", "_law_there", "_law_found", "_law_point"] S rs Pf
set_option maxHeartbeats 0 in
theorem zgF(fu:Nat)(T:Txt K mg A):FnOk P w K mg base (CXx P w) 1 A.f__law_edge A.d__law_edge ["_law_board_here", "_law_some"] (spD K 2 (d__law_edge fu)):=by
 refine T.F__law_edge.okX (k:=0) sc__law_edge (fun vs H Q E h=>h.1) (fun cdv Ar outer s H vs Q E hr h=>?_)
 obtain⟨_,F,as,ws,ce,S,rs,Pf⟩:=h
 refine⟨toTS (Gx K) E _,(zag (zas (i:=2) sc__law_edge.nd rfl (Or.inl rfl) zg5)
   (zag (zbh PassesOwn.leaving rfl (zch (zab 1)) (zaK (i:=3) sc__law_edge.nd rfl (Or.inl rfl))
   (zai (zbh PassesOwn.leaving rfl (zoX (zaC (zab 0) (zab 3) (fun _ _=>rfl))) (zaK (i:=4) sc__law_edge.nd rfl (Or.inl rfl))
   (zai (zgj (hr.cmp 1) (zab 2) (zab 4) zc8)))))
   (zai (zau (zaw (zhb rfl rfl) (zhc K zb5) rfl T.n_sorted PyProof.Rows.boot_sorted (zaa (zab 2) zad)))))),?_⟩
 exact zav (G:=Gx K) (E:=E) zbo ["_law_board_here", "_law_some", "_law_found", "_law_point", "_law_other"] S rs Pf
set_option maxHeartbeats 0 in
theorem zeH(fu:Nat)(T:Txt K mg A):FnOk P w K mg base (CXx P w) 2 A.f__law_breaths A.d__law_breaths ["_law_board_here", "_law_stand_here", "_law_row"] (spD K 3 (d__law_breaths fu)):=by
 have G__law_edge:FnOk P w K mg base (CXx P w) 1 A.f__law_edge A.d__law_edge ["_law_board_here", "_law_some"] (spD K 2 (d__law_edge fu)):=zgF fu T
 refine T.F__law_breaths.okX (k:=1) zeE (fun vs H Q E h=>h.1) (fun cdv Ar outer s H vs Q E hr h=>?_)
 obtain⟨_,F,as,ws,ce,S,rs,Pf⟩:=h
 refine⟨toTS (Gx K) E _,(zai (zau (zcb zb5 (zaN (N:=["_law_board_here", "_law_stand_here", "_law_row"]) (psc:=zae zaW) (js:=[1]) (N':=["_law_point", "_law_stand_here"]) (by decide +kernel)) rfl rfl (zch (zaj G__law_edge (hr.mono (by decide)) rfl T.g__law_edge T.F__law_edge.kp T.b__law_edge (flies_cxOf.passes rfl) (zaa (zab 0) (zaa (zab 2) zad)))) (fun _ _ _ _=>(zaP (zcA (zaC (zab 1) (zab 0) (fun _ _=>rfl)) zah))) (fun _ _ _ _=>(zab 0))))),?_⟩
 exact zav (G:=Gx K) (E:=E) zbo ["_law_board_here", "_law_stand_here", "_law_row"] S rs Pf
set_option maxHeartbeats 0 in
theorem zcG(fu:Nat)(T:Txt K mg A):FnOk P w K mg base (CXx P w) 3 A.f__law_cleaned A.d__law_cleaned ["_law_board_here", "_law_found"] (spD K 2 (d__law_cleaned fu)):=by
 have G__law_patches:FnOk P w K mg base (CXx P w) 2 A.f__law_patches A.d__law_patches ["_law_board_here", "_law_stand_here", "_law_held_here"] (spD K 3 (d__law_patches fu)):=zbk fu T
 have G__law_breaths:FnOk P w K mg base (CXx P w) 2 A.f__law_breaths A.d__law_breaths ["_law_board_here", "_law_stand_here", "_law_row"] (spD K 3 (d__law_breaths fu)):=zeH fu T
 refine T.F__law_cleaned.okX (k:=2) sc__law_cleaned (fun vs H Q E h=>h.1) (fun cdv Ar outer s H vs Q E hr h=>?_)
 obtain⟨_,F,as,ws,ce,S,rs,Pf⟩:=h
 refine⟨toTS (Gx K) E _,(zag (zbh PassesOwn.leaving rfl (zch (zaJ (zaa zah (zaa zah zad)))) (zaK (i:=2) sc__law_cleaned.nd rfl (Or.inl rfl))
   (zai (zbh PassesOwn.leaving rfl (zch (zaj (zbz G__law_patches) (hr.mono (by decide)) rfl T.g__law_patches T.F__law_patches.kp T.b__law_patches (flies_cxOf.passes rfl) (zaa (zab 0) (zaa (zab 1) (zaa (zaJ (zaa (zab 2) zad)) zad))))) (zaK (i:=3) sc__law_cleaned.nd rfl (Or.inl rfl))
   (zai (zbl (zfz (hr.cmp 8) (zaj G__law_breaths (hr.mono (by decide)) rfl T.g__law_breaths T.F__law_breaths.kp T.b__law_breaths (flies_cxOf.passes rfl) (zaa (zab 0) (zaa (zab 1) (zaa (zab 3) zad)))) (zaJ zad)) (zai (zbh PassesOwn.leaving rfl (zch (zab 3)) (zaK (i:=4) sc__law_cleaned.nd rfl (Or.inl rfl))
   (zai (zdG zah (zdu (E:=E0) (zab 1) (zab 4)))))) zaH)))))
   (zai (zau (zaZ (ze6 K) (zdx K) rfl T.n_tuple PyProof.Rows.boot_tuple (zaa (zab 1) zad))))),?_⟩
 exact zav (G:=Gx K) (E:=E) zbo ["_law_board_here", "_law_found", "_law_held_here", "_law_row", "_law_point"] S rs Pf
set_option maxHeartbeats 0 in
theorem zfV(fu:Nat)(T:Txt K mg A):FnOk P w K mg base (CXx P w) 4 A.f__law_stand A.d__law_stand ["_law_pen", "_law_board_here"] (spD K 2 (d__law_stand fu)):=by
 have G__law_next:FnOk P w K mg base (CXx P w) 2 A.f__law_next A.d__law_next ["_law_pen", "_law_many"] (spD K 2 (d__law_next fu)):=zbj fu T
 have G__law_cleaned:FnOk P w K mg base (CXx P w) 3 A.f__law_cleaned A.d__law_cleaned ["_law_board_here", "_law_found"] (spD K 2 (d__law_cleaned fu)):=zcG fu T
 refine T.F__law_stand.okX (k:=3) sc__law_stand (fun vs H Q E h=>h.1) (fun cdv Ar outer s H vs Q E hr h=>?_)
 obtain⟨_,F,as,ws,ce,S,rs,Pf⟩:=h
 refine⟨toTS (Gx K) E _,(zag (zas (i:=2) sc__law_stand.nd rfl (Or.inl rfl) (zaC (zaJ (zaa (zaJ (zaa zah (zaa zah (zaa zah zad)))) (zaa (zaJ (zaa zah (zaa zah (zaa zah (zaa zah (zaa zah (zaa zah zad))))))) (zaa (zaJ (zaa zah (zaa zah (zaa zah (zaa zah (zaa zah (zaa zah zad))))))) (zaa (zaJ (zaa zah (zaa zah (zaa zah (zaa zah zad))))) zad))))) (zaj G__law_next (hr.mono (by decide)) rfl T.g__law_next T.F__law_next.kp T.b__law_next (flies_cxOf.passes rfl) (zaa (zab 0) (zaa zah zad))) (fun _ _=>rfl)))
   (zag (zas (i:=3) sc__law_stand.nd rfl (Or.inl rfl) (zaj G__law_next (hr.mono (by decide)) rfl T.g__law_next T.F__law_next.kp T.b__law_next (flies_cxOf.passes rfl) (zaa (zab 0) (zaa zah zad))))
   (zag (zas (i:=4) sc__law_stand.nd rfl (Or.inl rfl) (zbU zad))
   (zag (zbh PassesOwn.leaving rfl (zdX rfl T.n_range (zaa (zaw (zcW rfl) (zcX K) rfl T.n_len PySem.boot_len (zaa (zab 1) zad)) zad)) (zaK (i:=5) sc__law_stand.nd rfl (Or.inl rfl))
   (zag (zas (i:=3) sc__law_stand.nd rfl (Or.inl rfl) (zaY (zbp (zca (zab 3) zah) zah) zah))
   (zai (zbn (zcY PySem.F.slot_list_append PySem.F.type_list_append za9 zdY (zab 4) (zaa (zaC (zab 2) (zaY (zgh (zab 3) zah) (zaw (zcW rfl) (zcX K) rfl T.n_len PySem.boot_len (zaa (zab 2) zad))) (fun _ _=>rfl)) zad))))))
   (zai (zau (zaj G__law_cleaned (hr.mono (by decide)) rfl T.g__law_cleaned T.F__law_cleaned.kp T.b__law_cleaned (flies_cxOf.passes rfl) (zaa (zab 1) (zaa (zab 4) zad))))))))),?_⟩
 exact zav (G:=Gx K) (E:=E) zbo ["_law_pen", "_law_board_here", "_law_menu", "_law_number", "_law_found", "_law_point"] S rs Pf
set_option maxHeartbeats 0 in
theorem zeZ(fu:Nat)(T:Txt K mg A):FnOk P w K mg base (CXx P w) 4 A.f__law_ladder A.d__law_ladder ["_law_pen", "_law_most"] (spD K 2 (d__law_ladder fu)):=by
 have G__law_next:FnOk P w K mg base (CXx P w) 2 A.f__law_next A.d__law_next ["_law_pen", "_law_many"] (spD K 2 (d__law_next fu)):=zbj fu T
 have G__law_cleaned:FnOk P w K mg base (CXx P w) 3 A.f__law_cleaned A.d__law_cleaned ["_law_board_here", "_law_found"] (spD K 2 (d__law_cleaned fu)):=zcG fu T
 refine T.F__law_ladder.okX (k:=3) sc__law_ladder (fun vs H Q E h=>h.1) (fun cdv Ar outer s H vs Q E hr h=>?_)
 obtain⟨_,F,as,ws,ce,S,rs,Pf⟩:=h
 refine⟨toTS (Gx K) E _,(zag (zas (i:=2) sc__law_ladder.nd rfl (Or.inr rfl) (zbp zah (zaj G__law_next (hr.mono (by decide)) rfl T.g__law_next T.F__law_next.kp T.b__law_next (flies_cxOf.passes rfl) (zaa (zab 0) (zaa (zc1 (zab 1) zah) zad)))))
   (zag (zas (i:=3) sc__law_ladder.nd rfl (Or.inr rfl) (zbp zah (zaj G__law_next (hr.mono (by decide)) rfl T.g__law_next T.F__law_next.kp T.b__law_next (flies_cxOf.passes rfl) (zaa (zab 0) (zaa zah zad)))))
   (zag (zas (i:=4) sc__law_ladder.nd rfl (Or.inr rfl) (zaj G__law_next (hr.mono (by decide)) rfl T.g__law_next T.F__law_next.kp T.b__law_next (flies_cxOf.passes rfl) (zaa (zab 0) (zaa zah zad))))
   (zag (zdv (k:=5) zkK (zaN (N:=["_law_pen", "_law_most", "_law_many", "_law_hand", "_law_first", "_law_found", "_law_at", "_law_beside_here", "_law_board_here"]) (psc:=zae zaQ) (js:=[3,4]) (N':=["_law_point", "_law_hand", "_law_first"]) (by decide +kernel)) rfl rfl (zdX rfl T.n_range (zaa (zab 2) zad)) (fun _ _ _ _=>zbf) (fun _ _ _ _=>(zca (zab 1) (zaY (zbp (zab 0) (zab 2)) zah))) sc__law_ladder.nd rfl rfl (by with_unfolding_all rfl))
   (zag (zas (i:=6) sc__law_ladder.nd rfl (Or.inl rfl) (zaj G__law_next (hr.mono (by decide)) rfl T.g__law_next T.F__law_next.kp T.b__law_next (flies_cxOf.passes rfl) (zaa (zab 0) (zaa (zab 2) zad))))
   (zag (zdG (zaC (zaJ (zaa (zaC (zab 5) (zab 6) (fun _ _=>rfl)) (zaa zah (zaa (zc1 zah (zab 3)) (zaa (zab 3) (zaa (zaC (zab 5) (zab 6) (fun _ _=>rfl)) (zaa (zaC (zab 5) (zab 6) (fun _ _=>rfl)) zad))))))) (zaj G__law_next (hr.mono (by decide)) rfl T.g__law_next T.F__law_next.kp T.b__law_next (flies_cxOf.passes rfl) (zaa (zab 0) (zaa zah zad))) (fun _ _=>rfl)) (zdu (E:=E0) (zab 5) (zab 6)))
   (zag (zdv (k:=7) zkK (zaN (N:=["_law_pen", "_law_most", "_law_many", "_law_hand", "_law_first", "_law_found", "_law_at", "_law_beside_here", "_law_board_here"]) (psc:=zae zaQ) (js:=[]) (N':=["_law_point"]) (by decide +kernel)) rfl rfl (zdX rfl T.n_range (zaa (zab 2) zad)) (fun _ _ _ _=>zbf) (fun _ _ _ _=>(zaJ (zaa (zc1 (zab 0) zah) (zaa (zbp (zab 0) zah) zad)))) sc__law_ladder.nd rfl rfl (by with_unfolding_all rfl))
   (zag (zbl (zjH (zaj G__law_next (hr.mono (by decide)) rfl T.g__law_next T.F__law_next.kp T.b__law_next (flies_cxOf.passes rfl) (zaa (zab 0) (zaa zah zad))) zah) (zag (zdG (zaJ (zaa zah zad)) (zdu (E:=E0) (zab 7) zah))
   (zai (zdG (zaJ (zaa (zc1 (zab 2) zah) zad)) (zdu (E:=E0) (zab 7) (zjy zah))))) zaH)
   (zag (zas (i:=8) sc__law_ladder.nd rfl (Or.inl rfl) (zaZ (ze6 K) (zdx K) rfl T.n_tuple PyProof.Rows.boot_tuple (zaa (zcb zb5 (zaN (N:=["_law_pen", "_law_most", "_law_many", "_law_hand", "_law_first", "_law_found", "_law_at", "_law_beside_here", "_law_board_here"]) (psc:=zae zaQ) (js:=[2]) (N':=["_law_some", "_law_many"]) (by decide +kernel)) rfl rfl (zch (zab 7)) (fun _ _ _ _=>zbf) (fun _ _ _ _=>(zaZ (ze6 K) (zdx K) rfl T.n_tuple PyProof.Rows.boot_tuple (zaa (zaw (zhb rfl rfl) (zhc K zb5) rfl T.n_sorted PyProof.Rows.boot_sorted (zaa (zcb zb5 (zpa (N:=["_law_some", "_law_many"]) (psc:={ kind:=PySem.ScopeKind.function,names:=[ (PySem.Str.ofString ".0",PySem.NameKind.local),(PySem.Str.ofString "_law_some",PySem.NameKind.local),(PySem.Str.ofString "tuple",PySem.NameKind.globalImplicit),(PySem.Str.ofString "sorted",PySem.NameKind.globalImplicit),(PySem.Str.ofString "_law_many",PySem.NameKind.free)],isGenerator:=false,isCoroutine:=false,more:=[]:PySem.Scope }) (js:=[1]) (N':=["_law_other", "_law_many"]) (by decide +kernel)) rfl rfl (zch (zab 0)) (fun _ _ _ _=>zbf) (fun _ _ _ _=>(zaY (zab 0) (zab 1)))) zad)) zad)))) zad)))
   (zai (zau (zb0 (zaa (zab 8) (zaa (zaj G__law_cleaned (hr.mono (by decide)) rfl T.g__law_cleaned T.F__law_cleaned.kp T.b__law_cleaned (flies_cxOf.passes rfl) (zaa (zab 8) (zaa (zab 5) zad))) zad)))))))))))))),?_⟩
 exact zav (G:=Gx K) (E:=E) zbo ["_law_pen", "_law_most", "_law_many", "_law_hand", "_law_first", "_law_found", "_law_at", "_law_beside_here", "_law_board_here"] S rs Pf
set_option maxHeartbeats 0 in
theorem zfW(fu:Nat)(T:Txt K mg A):FnOk P w K mg base (CXx P w) 5 A.f__law_world A.d__law_world ["_law_pen", "_law_most", "_law_wide"] (spD K 3 (d__law_world fu)):=by
 have G__law_board:FnOk P w K mg base (CXx P w) 4 A.f__law_board A.d__law_board ["_law_pen", "_law_most"] (spD K 2 (d__law_board fu)):=zfU fu T
 have G__law_next:FnOk P w K mg base (CXx P w) 2 A.f__law_next A.d__law_next ["_law_pen", "_law_many"] (spD K 2 (d__law_next fu)):=zbj fu T
 have G__law_ladder:FnOk P w K mg base (CXx P w) 4 A.f__law_ladder A.d__law_ladder ["_law_pen", "_law_most"] (spD K 2 (d__law_ladder fu)):=zeZ fu T
 have G__law_stand:FnOk P w K mg base (CXx P w) 4 A.f__law_stand A.d__law_stand ["_law_pen", "_law_board_here"] (spD K 2 (d__law_stand fu)):=zfV fu T
 refine T.F__law_world.okX (k:=4) sc__law_world (fun vs H Q E h=>h.1) (fun cdv Ar outer s H vs Q E hr h=>?_)
 obtain⟨_,F,as,ws,ce,S,rs,Pf⟩:=h
 refine⟨toTS (Gx K) E _,(zag (zbl (zcA (zaj G__law_next (hr.mono (by decide)) rfl T.g__law_next T.F__law_next.kp T.b__law_next (flies_cxOf.passes rfl) (zaa (zab 0) (zaa zah zad))) zah) (zai (zau (zaj G__law_ladder (hr.mono (by decide)) rfl T.g__law_ladder T.F__law_ladder.kp T.b__law_ladder (flies_cxOf.passes rfl) (zaa (zab 0) (zaa (zab 2) zad))))) zaH)
   (zag (zas (i:=3) sc__law_world.nd rfl (Or.inl rfl) (zaj G__law_board (hr.mono (by decide)) rfl T.g__law_board T.F__law_board.kp T.b__law_board (flies_cxOf.passes rfl) (zaa (zab 0) (zaa (zab 1) zad))))
   (zai (zau (zb0 (zaa (zab 3) (zaa (zaj G__law_stand (hr.mono (by decide)) rfl T.g__law_stand T.F__law_stand.kp T.b__law_stand (flies_cxOf.passes rfl) (zaa (zab 0) (zaa (zab 3) zad))) zad))))))),?_⟩
 exact zav (G:=Gx K) (E:=E) zbo ["_law_pen", "_law_most", "_law_wide", "_law_board_here"] S rs Pf
set_option maxHeartbeats 0 in
theorem zc6(fu:Nat)(T:Txt K mg A):FnOk P w K mg base (CXx P w) 3 A.f__law_closes A.d__law_closes ["_law_board_here", "_law_stand_here", "_law_hand"] (spD K 3 (d__law_closes fu)):=by
 have G__law_patches:FnOk P w K mg base (CXx P w) 2 A.f__law_patches A.d__law_patches ["_law_board_here", "_law_stand_here", "_law_held_here"] (spD K 3 (d__law_patches fu)):=zbk fu T
 refine T.F__law_closes.okX (k:=2) zeX (fun vs H Q E h=>h.1) (fun cdv Ar outer s H vs Q E hr h=>?_)
 obtain⟨_,F,as,ws,ce,S,rs,Pf⟩:=h
 refine⟨toTS (Gx K) E _,(zai (zau (zaj (zbz G__law_patches) (hr.mono (by decide)) rfl T.g__law_patches T.F__law_patches.kp T.b__law_patches (flies_cxOf.passes rfl) (zaa (zab 0) (zaa (zab 1) (zaa (zaJ (zaa zah (zaa (zc1 zah (zab 2)) zad))) zad)))))),?_⟩
 exact zav (G:=Gx K) (E:=E) zbo ["_law_board_here", "_law_stand_here", "_law_hand"] S rs Pf
set_option maxHeartbeats 0 in
theorem zhq(fu:Nat)(T:Txt K mg A):FnOk P w K mg base (CXx P w) 3 A.f__law_odd A.d__law_odd ["_law_board_here", "_law_stand_here", "_law_hand", "_law_at"] (spD K 4 (d__law_odd fu)):=by
 have G__law_patches:FnOk P w K mg base (CXx P w) 2 A.f__law_patches A.d__law_patches ["_law_board_here", "_law_stand_here", "_law_held_here"] (spD K 3 (d__law_patches fu)):=zbk fu T
 refine T.F__law_odd.okX (k:=2) sc__law_odd (fun vs H Q E h=>h.1) (fun cdv Ar outer s H vs Q E hr h=>?_)
 obtain⟨_,F,as,ws,ce,S,rs,Pf⟩:=h
 refine⟨toTS (Gx K) E _,(zag (zbl (zcA (zaY (zab 3) zah) zah) (zai (zau (zaJ (zaa (zaY (zab 3) (zaw (zcW rfl) (zcX K) rfl T.n_len PySem.boot_len (zaa (zab 0) zad))) zad)))) zaH)
   (zag (zbl (zcA (zaY (zab 3) zah) zah) (zai (zau (zaJ zad))) zaH)
   (zag (zas (i:=4) sc__law_odd.nd rfl (Or.inl rfl) (zhX zb5 (zaj (zbz G__law_patches) (hr.mono (by decide)) rfl T.g__law_patches T.F__law_patches.kp T.b__law_patches (flies_cxOf.passes rfl) (zaa (zab 0) (zaa (zab 1) (zaa (zaJ (zaa (zab 2) zad)) zad)))) (zaJ (zaa (zaJ (zaa zah zad)) zad))))
   (zag (zbl (zcA (zaY (zab 3) zah) zah) (zag (zas (i:=4) sc__law_odd.nd rfl (Or.inl rfl) (zhX zb5 (zaj (zbz G__law_patches) (hr.mono (by decide)) rfl T.g__law_patches T.F__law_patches.kp T.b__law_patches (flies_cxOf.passes rfl) (zaa (zab 0) (zaa (zab 1) (zaa (zaJ (zaa (zc1 zah (zab 2)) zad)) zad)))) (zaJ (zaa (zaJ (zaa zah zad)) zad))))
   (zai (zau (zaC (zab 4) zah (fun _ _=>rfl))))) zaH)
   (zai (zau (zaC (zaJ (zaa (zrj zb5 (zaC (zab 4) zah (fun _ _=>rfl)) znk (zjN (zjy zah))) (zaa (znL zb5 (zaC (zab 4) zah (fun _ _=>rfl)) (zjN (zjy zah))) zad))) (zc1 (zaY (zab 3) zah) zah) (fun _ _=>rfl)))))))),?_⟩
 exact zav (G:=Gx K) (E:=E) zbo ["_law_board_here", "_law_stand_here", "_law_hand", "_law_at", "_law_lists"] S rs Pf
set_option maxHeartbeats 0 in
theorem zeI(fu:Nat)(T:Txt K mg A):FnOk P w K mg base (CXx P w) 4 A.f__law_changed A.d__law_changed ["_law_pen", "_law_board_here", "_law_stand_here", "_law_hand", "_law_paper"] (spD K 5 (d__law_changed fu)):=by
 have G__law_patches:FnOk P w K mg base (CXx P w) 2 A.f__law_patches A.d__law_patches ["_law_board_here", "_law_stand_here", "_law_held_here"] (spD K 3 (d__law_patches fu)):=zbk fu T
 have G__law_closes:FnOk P w K mg base (CXx P w) 3 A.f__law_closes A.d__law_closes ["_law_board_here", "_law_stand_here", "_law_hand"] (spD K 3 (d__law_closes fu)):=zc6 fu T
 have G__law_next:FnOk P w K mg base (CXx P w) 2 A.f__law_next A.d__law_next ["_law_pen", "_law_many"] (spD K 2 (d__law_next fu)):=zbj fu T
 have G__law_odd:FnOk P w K mg base (CXx P w) 3 A.f__law_odd A.d__law_odd ["_law_board_here", "_law_stand_here", "_law_hand", "_law_at"] (spD K 4 (d__law_odd fu)):=zhq fu T
 refine T.F__law_changed.okX (k:=3) sc__law_changed (fun vs H Q E h=>h.1) (fun cdv Ar outer s H vs Q E hr h=>?_)
 obtain⟨_,F,as,ws,ce,S,rs,Pf⟩:=h
 refine⟨toTS (Gx K) E _,(zag (zdv (k:=5) zkK (zaN (N:=["_law_pen", "_law_board_here", "_law_stand_here", "_law_hand", "_law_paper", "_law_told", "_law_some", "_law_own", "_law_every", "_law_way", "_law_which", "_law_at", "_law_lists", "_law_one"]) (psc:=zae zaS) (js:=[]) (N':=["_law_row"]) (by decide +kernel)) rfl rfl (zch (zaC (zab 4) zah (fun _ _=>rfl))) (fun _ _ _ _=>zbf) (fun _ _ _ _=>(zaZ (zek rfl rfl) (zel K zb5) rfl T.n_list PyProof.Rows.boot_list (zaa (zab 0) zad))) sc__law_changed.nd rfl rfl (by with_unfolding_all rfl))
   (zag (zdv (k:=6) zkK (zaN (N:=["_law_pen", "_law_board_here", "_law_stand_here", "_law_hand", "_law_paper", "_law_told", "_law_some", "_law_own", "_law_every", "_law_way", "_law_which", "_law_at", "_law_lists", "_law_one"]) (psc:=zae zaS) (js:=[]) (N':=["_law_close"]) (by decide +kernel)) rfl rfl (zch (zaC (zab 4) zah (fun _ _=>rfl))) (fun _ _ _ _=>zbf) (fun _ _ _ _=>(zaZ (zek rfl rfl) (zel K zb5) rfl T.n_list PyProof.Rows.boot_list (zaa (zab 0) zad))) sc__law_changed.nd rfl rfl (by with_unfolding_all rfl))
   (zag (zas (i:=7) sc__law_changed.nd rfl (Or.inl rfl) (zaj (zbz G__law_patches) (hr.mono (by decide)) rfl T.g__law_patches T.F__law_patches.kp T.b__law_patches (flies_cxOf.passes rfl) (zaa (zab 1) (zaa (zab 2) (zaa (zaJ (zaa (zab 3) zad)) zad)))))
   (zag (zas (i:=8) sc__law_changed.nd rfl (Or.inl rfl) (zaj G__law_closes (hr.mono (by decide)) rfl T.g__law_closes T.F__law_closes.kp T.b__law_closes (flies_cxOf.passes rfl) (zaa (zab 1) (zaa (zab 2) (zaa (zab 3) zad)))))
   (zag (zas (i:=9) sc__law_changed.nd rfl (Or.inl rfl) (zaj G__law_next (hr.mono (by decide)) rfl T.g__law_next T.F__law_next.kp T.b__law_next (flies_cxOf.passes rfl) (zaa (zab 0) (zaa zah zad))))
   (zag (zas (i:=10) sc__law_changed.nd rfl (Or.inl rfl) (zaC (zaJ (zaa (zab 5) (zaa (zab 6) zad))) (zaY (zab 9) zah) (fun _ _=>rfl)))
   (zag (zas (i:=11) sc__law_changed.nd rfl (Or.inl rfl) (zaj G__law_next (hr.mono (by decide)) rfl T.g__law_next T.F__law_next.kp T.b__law_next (flies_cxOf.passes rfl) (zaa (zab 0) (zaa zah zad))))
   (zag (zbl (PW.pt (zed (ziD (zab 9) zah) (zc9 (zew (hr.cmp 8) (zab 10) (zaJ zad))))) (zai (zbn (zcY PySem.F.slot_list_pop PySem.F.type_list_pop zk3 zpZ (zab 10) (zaa (zaY (zab 11) (zaw (zcW rfl) (zcX K) rfl T.n_len PySem.boot_len (zaa (zab 10) zad))) zad)))) (zai (zbl (PW.pt (zed (ziD (zab 9) zah) (zc9 (zew (hr.cmp 8) (zab 10) (zaJ zad))))) (zai (zbn (zcY PySem.F.slot_list_insert PySem.F.type_list_insert zpT zrN (zab 10) (zaa (zaY (zab 11) (zbp (zaw (zcW rfl) (zcX K) rfl T.n_len PySem.boot_len (zaa (zab 10) zad)) zah)) (zaa (zaZ (zek rfl rfl) (zel K zb5) rfl T.n_list PyProof.Rows.boot_list (zaa (zaC (zab 10) (zaY (zab 11) (zaw (zcW rfl) (zcX K) rfl T.n_len PySem.boot_len (zaa (zab 10) zad))) (fun _ _=>rfl)) zad)) zad))))) (zai (zbl (ziD (zab 9) zah) (zag (zas (i:=12) sc__law_changed.nd rfl (Or.inl rfl) (zaC (zaJ (zaa (zab 7) (zaa (zab 8) zad))) (zaY (zab 9) zah) (fun _ _=>rfl)))
   (zai (zbl (zew (hr.cmp 8) (zab 12) (zaJ zad)) (zag (zas (i:=13) sc__law_changed.nd rfl (Or.inl rfl) (zaZ (zek rfl rfl) (zel K zb5) rfl T.n_list PyProof.Rows.boot_list (zaa (zaC (zab 12) (zaY (zab 11) (zaw (zcW rfl) (zcX K) rfl T.n_len PySem.boot_len (zaa (zab 12) zad))) (fun _ _=>rfl)) zad)))
   (zai (zbl (PW.pt (zlj (zd4 (hr.cmp 9) (zab 13) (zab 10) (by with_unfolding_all rfl)) (zhW (zcA (zaY (zab 11) zah) zah)))) (zai (zbn (zcY PySem.F.slot_list_append PySem.F.type_list_append za9 zdY (zab 10) (zaa (zab 13) zad)))) zaH))) zaH))) (zai (zbl (zcA (zab 9) zah) (zai (zbn (zcY PySem.F.slot_list_append PySem.F.type_list_append za9 zdY (zaC (zaJ (zaa (zab 5) (zaa (zab 6) zad))) (zaY (zgh (zab 11) zah) zah) (fun _ _=>rfl)) (zaa (zaj G__law_odd (hr.mono (by decide)) rfl T.g__law_odd T.F__law_odd.kp T.b__law_odd (flies_cxOf.passes rfl) (zaa (zab 1) (zaa (zab 2) (zaa (zab 3) (zaa (zab 11) zad))))) zad)))) (zai (zbn (zjT PySem.F.slot_list_reverse PySem.F.type_list_reverse ziu zrK (zab 10)))))))))))
   (zai (zau (zb0 (zaa (zab 5) (zaa (zab 6) zad))))))))))))),?_⟩
 exact zav (G:=Gx K) (E:=E) znp ["_law_pen", "_law_board_here", "_law_stand_here", "_law_hand", "_law_paper", "_law_told", "_law_some", "_law_own", "_law_every", "_law_way", "_law_which", "_law_at", "_law_lists", "_law_one"] S rs Pf
set_option maxHeartbeats 0 in
theorem zfX(fu:Nat)(T:Txt K mg A):FnOk P w K mg base (CXx P w) 4 A.f__law_drawn A.d__law_drawn ["_law_pen", "_law_board_here", "_law_stand_here", "_law_hand"] (spD K 4 (d__law_drawn fu)):=by
 have G__law_patches:FnOk P w K mg base (CXx P w) 2 A.f__law_patches A.d__law_patches ["_law_board_here", "_law_stand_here", "_law_held_here"] (spD K 3 (d__law_patches fu)):=zbk fu T
 have G__law_closes:FnOk P w K mg base (CXx P w) 3 A.f__law_closes A.d__law_closes ["_law_board_here", "_law_stand_here", "_law_hand"] (spD K 3 (d__law_closes fu)):=zc6 fu T
 have G__law_next:FnOk P w K mg base (CXx P w) 2 A.f__law_next A.d__law_next ["_law_pen", "_law_many"] (spD K 2 (d__law_next fu)):=zbj fu T
 refine T.F__law_drawn.okX (k:=3) sc__law_drawn (fun vs H Q E h=>h.1) (fun cdv Ar outer s H vs Q E hr h=>?_)
 obtain⟨_,F,as,ws,ce,S,rs,Pf⟩:=h
 refine⟨toTS (Gx K) E _,(zag (zdv (k:=4) zb5 (zaN (N:=["_law_pen", "_law_board_here", "_law_stand_here", "_law_hand", "_law_told", "_law_some"]) (psc:=zae za4) (js:=[0]) (N':=["_law_row", "_law_pen"]) (by decide +kernel)) rfl rfl (zch (zaj (zbz G__law_patches) (hr.mono (by decide)) rfl T.g__law_patches T.F__law_patches.kp T.b__law_patches (flies_cxOf.passes rfl) (zaa (zab 1) (zaa (zab 2) (zaa (zaJ (zaa (zab 3) zad)) zad))))) (fun _ _ _ _=>(zaP (zfc (zjH (zaj G__law_next (hr.mono (by decide)) rfl T.g__law_next T.F__law_next.kp T.b__law_next zco (zaa (zab 1) (zaa zah zad))) zah)))) (fun _ _ _ _=>(zab 0)) sc__law_drawn.nd rfl rfl (by with_unfolding_all rfl))
   (zag (zdv (k:=5) zb5 (zaN (N:=["_law_pen", "_law_board_here", "_law_stand_here", "_law_hand", "_law_told", "_law_some"]) (psc:=zae za4) (js:=[0]) (N':=["_law_close", "_law_pen"]) (by decide +kernel)) rfl rfl (zch (zaj G__law_closes (hr.mono (by decide)) rfl T.g__law_closes T.F__law_closes.kp T.b__law_closes (flies_cxOf.passes rfl) (zaa (zab 1) (zaa (zab 2) (zaa (zab 3) zad))))) (fun _ _ _ _=>(zaP (zfc (zjH (zaj G__law_next (hr.mono (by decide)) rfl T.g__law_next T.F__law_next.kp T.b__law_next zco (zaa (zab 1) (zaa zah zad))) zah)))) (fun _ _ _ _=>(zab 0)) sc__law_drawn.nd rfl rfl (by with_unfolding_all rfl))
   (zai (zau (zb0 (zaa (zab 4) (zaa (zab 5) zad))))))),?_⟩
 exact zav (G:=Gx K) (E:=E) zbo ["_law_pen", "_law_board_here", "_law_stand_here", "_law_hand", "_law_told", "_law_some"] S rs Pf
set_option maxHeartbeats 0 in
theorem zp2(fu:Nat)(T:Txt K mg A):FnOk P w K mg base (CXx P w) 9 A.f_law A.d_law ["_law_script"] (spD K 1 (d_law fu)):=by
 have G__law_world:FnOk P w K mg base (CXx P w) 5 A.f__law_world A.d__law_world ["_law_pen", "_law_most", "_law_wide"] (spD K 3 (d__law_world fu)):=zfW fu T
 have G_safe:FnOk P w K mg base (CXx P w) 5 A.f_safe A.d_safe ["board", "stand", "hand"] (spD K 3 (d_safe fu)):=zku fu T
 have G_holds:FnOk P w K mg base (CXx P w) 5 A.f_holds A.d_holds ["board", "stand", "hand", "paper"] (spD K 4 (d_holds fu)):=zlK fu T
 have G__law_changed:FnOk P w K mg base (CXx P w) 4 A.f__law_changed A.d__law_changed ["_law_pen", "_law_board_here", "_law_stand_here", "_law_hand", "_law_paper"] (spD K 5 (d__law_changed fu)):=zeI fu T
 have G__law_drawn:FnOk P w K mg base (CXx P w) 4 A.f__law_drawn A.d__law_drawn ["_law_pen", "_law_board_here", "_law_stand_here", "_law_hand"] (spD K 4 (d__law_drawn fu)):=zfX fu T
 have G__law_next:FnOk P w K mg base (CXx P w) 2 A.f__law_next A.d__law_next ["_law_pen", "_law_many"] (spD K 2 (d__law_next fu)):=zbj fu T
 have G_taking:FnOk P w K mg base (CXx P w) 8 A.f_taking A.d_taking ["board", "stand", "point"] (spD K 3 (d_taking fu)):=zkv fu T
 refine T.F_law.okX (k:=8) sc_law (fun vs H Q E h=>h.1) (fun cdv Ar outer s H vs Q E hr h=>?_)
 obtain⟨_,F,as,ws,ce,S,rs,Pf⟩:=h
 refine⟨toTS (Gx K) E _,(zag (zas (i:=1) sc_law.nd rfl (Or.inl rfl) (zbU (zaa (zab 0) (zaa zah zad))))
   (zag (zdG (zaj G__law_world (hr.mono (by decide)) rfl T.g__law_world T.F__law_world.kp T.b__law_world (flies_cxOf.passes rfl) (zaa (zab 1) (zaa zah (zaa zah zad)))) (zjP rfl (zcJ (zaK (i:=2) sc_law.nd rfl (Or.inr rfl)) (zcJ (zaK (i:=3) sc_law.nd rfl (Or.inr rfl)) zg9))))
   (zag (zbh PassesOwn.leaving rfl (zch (zaJ (zaa zah (zaa zah zad)))) (zaK (i:=4) sc_law.nd rfl (Or.inl rfl))
   (zag (zas (i:=5) sc_law.nd rfl (Or.inr rfl) (zaj G_safe (hr.mono (by decide)) rfl T.g_safe T.F_safe.kp T.b_safe (flies_cxOf.passes rfl) (zaa (zab 2) (zaa (zab 3) (zaa (zab 4) zad)))))
   (zag (zas (i:=6) sc_law.nd rfl (Or.inl rfl) (zab 5))
   (zai (zbh PassesOwn.leaving rfl (zdX rfl T.n_range (zaa zah zad)) (zaK (i:=7) sc_law.nd rfl (Or.inl rfl))
   (zag (zbl (zcA (zaY (zab 7) zah) zah) (zai (zas (i:=6) sc_law.nd rfl (Or.inl rfl) (zaj (zkg G__law_changed) (hr.mono (by decide)) rfl T.g__law_changed T.F__law_changed.kp T.b__law_changed (flies_cxOf.passes rfl) (zaa (zab 1) (zaa (zab 2) (zaa (zab 3) (zaa (zab 4) (zaa (zaC (zaJ (zaa (zab 5) (zaa (zab 6) zad))) (zaj G__law_next (hr.mono (by decide)) rfl T.g__law_next T.F__law_next.kp T.b__law_next (flies_cxOf.passes rfl) (zaa (zab 1) (zaa zah zad))) (fun _ _=>rfl)) zad)))))))) (zai (zas (i:=6) sc_law.nd rfl (Or.inl rfl) (zaj G__law_drawn (hr.mono (by decide)) rfl T.g__law_drawn T.F__law_drawn.kp T.b__law_drawn (flies_cxOf.passes rfl) (zaa (zab 1) (zaa (zab 2) (zaa (zab 3) (zaa (zab 4) zad))))))))
   (zai (zbl (zcy (zaj G_holds (hr.mono (by decide)) rfl T.g_holds T.F_holds.kp T.b_holds (flies_cxOf.passes rfl) (zaa (zab 2) (zaa (zab 3) (zaa (zab 4) (zaa (zb0 (zaa (zaZ (zek rfl rfl) (zel K zb5) rfl T.n_list PyProof.Rows.boot_list (zaa (zaC (zab 6) zah (fun _ _=>rfl)) zad)) (zaa (zaZ (zek rfl rfl) (zel K zb5) rfl T.n_list PyProof.Rows.boot_list (zaa (zaC (zab 6) zah (fun _ _=>rfl)) zad)) zad))) zad)))))) (zag (zbl (zew (hr.cmp 8) (zcb zb5 (zaN (N:=["_law_script", "_law_pen", "_law_board_here", "_law_stand_here", "_law_hand", "_law_told", "_law_paper", "_law_k"]) (psc:=zae zfQ) (js:=[5]) (N':=["_law_row", "_law_told"]) (by decide +kernel)) rfl rfl (zch (zaC (zab 6) zah (fun _ _=>rfl))) (fun _ _ _ _=>(zaP (zd4 (hr.cmp 9) (zab 0) (zaC (zab 1) zah (fun _ _=>rfl)) (by with_unfolding_all rfl)))) (fun _ _ _ _=>(zab 0))) (zaJ zad)) (zai (zau zc8)) zaH)
   (zag (zbl (zew (hr.cmp 8) (zcb zb5 (zaN (N:=["_law_script", "_law_pen", "_law_board_here", "_law_stand_here", "_law_hand", "_law_told", "_law_paper", "_law_k"]) (psc:=zae zfQ) (js:=[5]) (N':=["_law_close", "_law_told"]) (by decide +kernel)) rfl rfl (zch (zaC (zab 6) zah (fun _ _=>rfl))) (fun _ _ _ _=>(zaP (zd4 (hr.cmp 9) (zab 0) (zaC (zab 1) zah (fun _ _=>rfl)) (by with_unfolding_all rfl)))) (fun _ _ _ _=>(zab 0))) (zaJ zad)) (zai (zau zc8)) zaH)
   (zai (zbl (zew (hr.cmp 8) (zcb zb5 (zaN (N:=["_law_script", "_law_pen", "_law_board_here", "_law_stand_here", "_law_hand", "_law_told", "_law_paper", "_law_k"]) (psc:=zae zfQ) (js:=[2,3]) (N':=["_law_row", "_law_board_here", "_law_stand_here"]) (by decide +kernel)) rfl rfl (zch (zaC (zab 6) zah (fun _ _=>rfl))) (fun _ _ _ _=>(zaP (zfc (zni (zaj G_taking (hr.mono (by decide)) rfl T.g_taking T.F_taking.kp T.b_taking zco (zaa (zab 1) (zaa (zab 2) (zaa (zaC (zab 0) zah (fun _ _=>rfl)) zad)))))))) (fun _ _ _ _=>(zab 0))) (zaJ zad)) (zai (zau zc8)) zaH)))) zaH))))))))
   (zai (zau zc8))))),?_⟩
 exact zav (G:=Gx K) (E:=E) zbo ["_law_script", "_law_pen", "_law_board_here", "_law_stand_here", "_law_hand", "_law_told", "_law_paper", "_law_k"] S rs Pf
end
set_option maxHeartbeats 0 in
theorem all_mk{K:PySem.W.Frag}{h:Heap}{mg:Str->Option Value}{fa:Addr}(X:K.In h)(G:h.Ns mainGlobals mg)(hfa:mg "law" = some (.ref fa)){f0:Addr}{od0 an0:Option Addr}{sl0:Array (Option Value)}{oc0 kV0 dc0 pm0 cd0 ct0:Value}{f1:Addr}{od1 an1:Option Addr}{sl1:Array (Option Value)}{oc1 kV1 dc1 pm1 cd1 ct1:Value}{f2:Addr}{od2 an2:Option Addr}{sl2:Array (Option Value)}{oc2 kV2 dc2 pm2 cd2 ct2:Value}{f3:Addr}{od3 an3:Option Addr}{sl3:Array (Option Value)}{oc3 kV3 dc3 pm3 cd3 ct3:Value}{f4:Addr}{od4 an4:Option Addr}{sl4:Array (Option Value)}{oc4 kV4 dc4 pm4 cd4 ct4:Value}{f5:Addr}{od5 an5:Option Addr}{sl5:Array (Option Value)}{oc5 kV5 dc5 pm5 cd5 ct5:Value}{f6:Addr}{od6 an6:Option Addr}{sl6:Array (Option Value)}{oc6 kV6 dc6 pm6 cd6 ct6:Value}{f7:Addr}{od7 an7:Option Addr}{sl7:Array (Option Value)}{oc7 kV7 dc7 pm7 cd7 ct7:Value}{f8:Addr}{od8 an8:Option Addr}{sl8:Array (Option Value)}{oc8 kV8 dc8 pm8 cd8 ct8:Value}{f9:Addr}{od9 an9:Option Addr}{sl9:Array (Option Value)}{oc9 kV9 dc9 pm9 cd9 ct9:Value}{f10:Addr}{od10 an10:Option Addr}{sl10:Array (Option Value)}{oc10 kV10 dc10 pm10 cd10 ct10:Value}{f11:Addr}{od11 an11:Option Addr}{sl11:Array (Option Value)}{oc11 kV11 dc11 pm11 cd11 ct11:Value}{f12:Addr}{od12 an12:Option Addr}{sl12:Array (Option Value)}{oc12 kV12 dc12 pm12 cd12 ct12:Value}{f13:Addr}{od13 an13:Option Addr}{sl13:Array (Option Value)}{oc13 kV13 dc13 pm13 cd13 ct13:Value}{f14:Addr}{od14 an14:Option Addr}{sl14:Array (Option Value)}{oc14 kV14 dc14 pm14 cd14 ct14:Value}{f15:Addr}{od15 an15:Option Addr}{sl15:Array (Option Value)}{oc15 kV15 dc15 pm15 cd15 ct15:Value}{f16:Addr}{od16 an16:Option Addr}{sl16:Array (Option Value)}{oc16 kV16 dc16 pm16 cd16 ct16:Value}{f17:Addr}{od17 an17:Option Addr}{sl17:Array (Option Value)}{oc17 kV17 dc17 pm17 cd17 ct17:Value}{f18:Addr}{od18 an18:Option Addr}{sl18:Array (Option Value)}{oc18 kV18 dc18 pm18 cd18 ct18:Value}{f19:Addr}{od19 an19:Option Addr}{sl19:Array (Option Value)}{oc19 kV19 dc19 pm19 cd19 ct19:Value}{f20:Addr}{od20 an20:Option Addr}{sl20:Array (Option Value)}{oc20 kV20 dc20 pm20 cd20 ct20:Value}{f21:Addr}{od21 an21:Option Addr}{sl21:Array (Option Value)}{oc21 kV21 dc21 pm21 cd21 ct21:Value}{f22:Addr}{od22 an22:Option Addr}{sl22:Array (Option Value)}{oc22 kV22 dc22 pm22 cd22 ct22:Value}{f23:Addr}{od23 an23:Option Addr}{sl23:Array (Option Value)}{oc23 kV23 dc23 pm23 cd23 ct23:Value}{f24:Addr}{od24 an24:Option Addr}{sl24:Array (Option Value)}{oc24 kV24 dc24 pm24 cd24 ct24:Value}{f25:Addr}{od25 an25:Option Addr}{sl25:Array (Option Value)}{oc25 kV25 dc25 pm25 cd25 ct25:Value}{f26:Addr}{od26 an26:Option Addr}{sl26:Array (Option Value)}{oc26 kV26 dc26 pm26 cd26 ct26:Value}{f27:Addr}{od27 an27:Option Addr}{sl27:Array (Option Value)}{oc27 kV27 dc27 pm27 cd27 ct27:Value}{f28:Addr}{od28 an28:Option Addr}{sl28:Array (Option Value)}{oc28 kV28 dc28 pm28 cd28 ct28:Value}{f29:Addr}{od29 an29:Option Addr}{sl29:Array (Option Value)}{oc29 kV29 dc29 pm29 cd29 ct29:Value}{f30:Addr}{od30 an30:Option Addr}{sl30:Array (Option Value)}{oc30 kV30 dc30 pm30 cd30 ct30:Value}{f31:Addr}{od31 an31:Option Addr}{sl31:Array (Option Value)}{oc31 kV31 dc31 pm31 cd31 ct31:Value}{f32:Addr}{od32 an32:Option Addr}{sl32:Array (Option Value)}{oc32 kV32 dc32 pm32 cd32 ct32:Value}{f33:Addr}{od33 an33:Option Addr}{sl33:Array (Option Value)}{oc33 kV33 dc33 pm33 cd33 ct33:Value}{f34:Addr}{od34 an34:Option Addr}{sl34:Array (Option Value)}{oc34 kV34 dc34 pm34 cd34 ct34:Value}{f35:Addr}{od35 an35:Option Addr}{sl35:Array (Option Value)}{oc35 kV35 dc35 pm35 cd35 ct35:Value}{f36:Addr}{od36 an36:Option Addr}{sl36:Array (Option Value)}{oc36 kV36 dc36 pm36 cd36 ct36:Value}{f37:Addr}{od37 an37:Option Addr}{sl37:Array (Option Value)}{oc37 kV37 dc37 pm37 cd37 ct37:Value}{f38:Addr}{od38 an38:Option Addr}{sl38:Array (Option Value)}{oc38 kV38 dc38 pm38 cd38 ct38:Value}{f39:Addr}{od39 an39:Option Addr}{sl39:Array (Option Value)}{oc39 kV39 dc39 pm39 cd39 ct39:Value}{f40:Addr}{od40 an40:Option Addr}{sl40:Array (Option Value)}{oc40 kV40 dc40 pm40 cd40 ct40:Value}{f41:Addr}{od41 an41:Option Addr}{sl41:Array (Option Value)}{oc41 kV41 dc41 pm41 cd41 ct41:Value}{f42:Addr}{od42 an42:Option Addr}{sl42:Array (Option Value)}{oc42 kV42 dc42 pm42 cd42 ct42:Value}{f43:Addr}{od43 an43:Option Addr}{sl43:Array (Option Value)}{oc43 kV43 dc43 pm43 cd43 ct43:Value}(a0:PySem.W.nsIn K mainGlobals "is_whole" = some (some (.ref f0)))(l0:K.lookup f0=some ⟨oc0,od0,.func (PySem.W.fnOf "is_whole" "is_whole" (zar zbP) (zaq zbP) (zae zbP) .none kV0 dc0 pm0 an0 cd0 ct0),sl0⟩)(c0:PySem.W.codeIn K cd0 "is_whole" = true)(k0:PySem.W.keepIn K (.ref f0)=true)(a1:PySem.W.nsIn K mainGlobals "other_hand" = some (some (.ref f1)))(l1:K.lookup f1=some ⟨oc1,od1,.func (PySem.W.fnOf "other_hand" "other_hand" (zar zbv) (zaq zbv) (zae zbv) .none kV1 dc1 pm1 an1 cd1 ct1),sl1⟩)(c1:PySem.W.codeIn K cd1 "other_hand" = true)(k1:PySem.W.keepIn K (.ref f1)=true)(a2:PySem.W.nsIn K mainGlobals "patch_of" = some (some (.ref f2)))(l2:K.lookup f2=some ⟨oc2,od2,.func (PySem.W.fnOf "patch_of" "patch_of" (zar zbQ) (zaq zbQ) (zae zbQ) .none kV2 dc2 pm2 an2 cd2 ct2),sl2⟩)(c2:PySem.W.codeIn K cd2 "patch_of" = true)(k2:PySem.W.keepIn K (.ref f2)=true)(a3:PySem.W.nsIn K mainGlobals "patches" = some (some (.ref f3)))(l3:K.lookup f3=some ⟨oc3,od3,.func (PySem.W.fnOf "patches" "patches" (zar zcd) (zaq zcd) (zae zcd) .none kV3 dc3 pm3 an3 cd3 ct3),sl3⟩)(c3:PySem.W.codeIn K cd3 "patches" = true)(k3:PySem.W.keepIn K (.ref f3)=true)(a4:PySem.W.nsIn K mainGlobals "patch" = some (some (.ref f4)))(l4:K.lookup f4=some ⟨oc4,od4,.func (PySem.W.fnOf "patch" "patch" (zar zdB) (zaq zdB) (zae zdB) .none kV4 dc4 pm4 an4 cd4 ct4),sl4⟩)(c4:PySem.W.codeIn K cd4 "patch" = true)(k4:PySem.W.keepIn K (.ref f4)=true)(a5:PySem.W.nsIn K mainGlobals "rows" = some (some (.ref f5)))(l5:K.lookup f5=some ⟨oc5,od5,.func (PySem.W.fnOf "rows" "rows" (zar zeD) (zaq zeD) (zae zeD) .none kV5 dc5 pm5 an5 cd5 ct5),sl5⟩)(c5:PySem.W.codeIn K cd5 "rows" = true)(k5:PySem.W.keepIn K (.ref f5)=true)(a6:PySem.W.nsIn K mainGlobals "breaths" = some (some (.ref f6)))(l6:K.lookup f6=some ⟨oc6,od6,.func (PySem.W.fnOf "breaths" "breaths" (zar zbW) (zaq zbW) (zae zbW) .none kV6 dc6 pm6 an6 cd6 ct6),sl6⟩)(c6:PySem.W.codeIn K cd6 "breaths" = true)(k6:PySem.W.keepIn K (.ref f6)=true)(a7:PySem.W.nsIn K mainGlobals "points_beside" = some (some (.ref f7)))(l7:K.lookup f7=some ⟨oc7,od7,.func (PySem.W.fnOf "points_beside" "points_beside" (zar za1) (zaq za1) (zae za1) .none kV7 dc7 pm7 an7 cd7 ct7),sl7⟩)(c7:PySem.W.codeIn K cd7 "points_beside" = true)(k7:PySem.W.keepIn K (.ref f7)=true)(a8:PySem.W.nsIn K mainGlobals "laid" = some (some (.ref f8)))(l8:K.lookup f8=some ⟨oc8,od8,.func (PySem.W.fnOf "laid" "laid" (zar zfg) (zaq zfg) (zae zfg) .none kV8 dc8 pm8 an8 cd8 ct8),sl8⟩)(c8:PySem.W.codeIn K cd8 "laid" = true)(k8:PySem.W.keepIn K (.ref f8)=true)(a9:PySem.W.nsIn K mainGlobals "lays_on" = some (some (.ref f9)))(l9:K.lookup f9=some ⟨oc9,od9,.func (PySem.W.fnOf "lays_on" "lays_on" (zar zce) (zaq zce) (zae zce) .none kV9 dc9 pm9 an9 cd9 ct9),sl9⟩)(c9:PySem.W.codeIn K cd9 "lays_on" = true)(k9:PySem.W.keepIn K (.ref f9)=true)(a10:PySem.W.nsIn K mainGlobals "filled" = some (some (.ref f10)))(l10:K.lookup f10=some ⟨oc10,od10,.func (PySem.W.fnOf "filled" "filled" (zar zcS) (zaq zcS) (zae zcS) .none kV10 dc10 pm10 an10 cd10 ct10),sl10⟩)(c10:PySem.W.codeIn K cd10 "filled" = true)(k10:PySem.W.keepIn K (.ref f10)=true)(a11:PySem.W.nsIn K mainGlobals "breathless" = some (some (.ref f11)))(l11:K.lookup f11=some ⟨oc11,od11,.func (PySem.W.fnOf "breathless" "breathless" (zar zbw) (zaq zbw) (zae zbw) .none kV11 dc11 pm11 an11 cd11 ct11),sl11⟩)(c11:PySem.W.codeIn K cd11 "breathless" = true)(k11:PySem.W.keepIn K (.ref f11)=true)(a12:PySem.W.nsIn K mainGlobals "closes" = some (some (.ref f12)))(l12:K.lookup f12=some ⟨oc12,od12,.func (PySem.W.fnOf "closes" "closes" (zar zb3) (zaq zb3) (zae zb3) .none kV12 dc12 pm12 an12 cd12 ct12),sl12⟩)(c12:PySem.W.codeIn K cd12 "closes" = true)(k12:PySem.W.keepIn K (.ref f12)=true)(a13:PySem.W.nsIn K mainGlobals "rows_of" = some (some (.ref f13)))(l13:K.lookup f13=some ⟨oc13,od13,.func (PySem.W.fnOf "rows_of" "rows_of" (zar zbX) (zaq zbX) (zae zbX) .none kV13 dc13 pm13 an13 cd13 ct13),sl13⟩)(c13:PySem.W.codeIn K cd13 "rows_of" = true)(k13:PySem.W.keepIn K (.ref f13)=true)(a14:PySem.W.nsIn K mainGlobals "safe" = some (some (.ref f14)))(l14:K.lookup f14=some ⟨oc14,od14,.func (PySem.W.fnOf "safe" "safe" (zar zfh) (zaq zfh) (zae zfh) .none kV14 dc14 pm14 an14 cd14 ct14),sl14⟩)(c14:PySem.W.codeIn K cd14 "safe" = true)(k14:PySem.W.keepIn K (.ref f14)=true)(a15:PySem.W.nsIn K mainGlobals "holds" = some (some (.ref f15)))(l15:K.lookup f15=some ⟨oc15,od15,.func (PySem.W.fnOf "holds" "holds" (zar zdC) (zaq zdC) (zae zdC) .none kV15 dc15 pm15 an15 cd15 ct15),sl15⟩)(c15:PySem.W.codeIn K cd15 "holds" = true)(k15:PySem.W.keepIn K (.ref f15)=true)(a16:PySem.W.nsIn K mainGlobals "are_some_of" = some (some (.ref f16)))(l16:K.lookup f16=some ⟨oc16,od16,.func (PySem.W.fnOf "are_some_of" "are_some_of" (zar za8) (zaq za8) (zae za8) .none kV16 dc16 pm16 an16 cd16 ct16),sl16⟩)(c16:PySem.W.codeIn K cd16 "are_some_of" = true)(k16:PySem.W.keepIn K (.ref f16)=true)(a17:PySem.W.nsIn K mainGlobals "is_points" = some (some (.ref f17)))(l17:K.lookup f17=some ⟨oc17,od17,.func (PySem.W.fnOf "is_points" "is_points" (zar zbr) (zaq zbr) (zae zbr) .none kV17 dc17 pm17 an17 cd17 ct17),sl17⟩)(c17:PySem.W.codeIn K cd17 "is_points" = true)(k17:PySem.W.keepIn K (.ref f17)=true)(a18:PySem.W.nsIn K mainGlobals "kept" = some (some (.ref f18)))(l18:K.lookup f18=some ⟨oc18,od18,.func (PySem.W.fnOf "kept" "kept" (zar zdR) (zaq zdR) (zae zdR) .none kV18 dc18 pm18 an18 cd18 ct18),sl18⟩)(c18:PySem.W.codeIn K cd18 "kept" = true)(k18:PySem.W.keepIn K (.ref f18)=true)(a19:PySem.W.nsIn K mainGlobals "is_firm" = some (some (.ref f19)))(l19:K.lookup f19=some ⟨oc19,od19,.func (PySem.W.fnOf "is_firm" "is_firm" (zar zbY) (zaq zbY) (zae zbY) .none kV19 dc19 pm19 an19 cd19 ct19),sl19⟩)(c19:PySem.W.codeIn K cd19 "is_firm" = true)(k19:PySem.W.keepIn K (.ref f19)=true)(a20:PySem.W.nsIn K mainGlobals "is_held" = some (some (.ref f20)))(l20:K.lookup f20=some ⟨oc20,od20,.func (PySem.W.fnOf "is_held" "is_held" (zar zbZ) (zaq zbZ) (zae zbZ) .none kV20 dc20 pm20 an20 cd20 ct20),sl20⟩)(c20:PySem.W.codeIn K cd20 "is_held" = true)(k20:PySem.W.keepIn K (.ref f20)=true)(a21:PySem.W.nsIn K mainGlobals "is_walled" = some (some (.ref f21)))(l21:K.lookup f21=some ⟨oc21,od21,.func (PySem.W.fnOf "is_walled" "is_walled" (zar zbi) (zaq zbi) (zae zbi) .none kV21 dc21 pm21 an21 cd21 ct21),sl21⟩)(c21:PySem.W.codeIn K cd21 "is_walled" = true)(k21:PySem.W.keepIn K (.ref f21)=true)(a22:PySem.W.nsIn K mainGlobals "is_in_one" = some (some (.ref f22)))(l22:K.lookup f22=some ⟨oc22,od22,.func (PySem.W.fnOf "is_in_one" "is_in_one" (zar zbs) (zaq zbs) (zae zbs) .none kV22 dc22 pm22 an22 cd22 ct22),sl22⟩)(c22:PySem.W.codeIn K cd22 "is_in_one" = true)(k22:PySem.W.keepIn K (.ref f22)=true)(a23:PySem.W.nsIn K mainGlobals "is_safe" = some (some (.ref f23)))(l23:K.lookup f23=some ⟨oc23,od23,.func (PySem.W.fnOf "is_safe" "is_safe" (zar zcf) (zaq zcf) (zae zcf) .none kV23 dc23 pm23 an23 cd23 ct23),sl23⟩)(c23:PySem.W.codeIn K cd23 "is_safe" = true)(k23:PySem.W.keepIn K (.ref f23)=true)(a24:PySem.W.nsIn K mainGlobals "taking" = some (some (.ref f24)))(l24:K.lookup f24=some ⟨oc24,od24,.func (PySem.W.fnOf "taking" "taking" (zar zcT) (zaq zcT) (zae zcT) .none kV24 dc24 pm24 an24 cd24 ct24),sl24⟩)(c24:PySem.W.codeIn K cd24 "taking" = true)(k24:PySem.W.keepIn K (.ref f24)=true)(a25:PySem.W.nsIn K mainGlobals "unsaving_lay" = some (some (.ref f25)))(l25:K.lookup f25=some ⟨oc25,od25,.func (PySem.W.fnOf "unsaving_lay" "unsaving_lay" (zar zbc) (zaq zbc) (zae zbc) .none kV25 dc25 pm25 an25 cd25 ct25),sl25⟩)(c25:PySem.W.codeIn K cd25 "unsaving_lay" = true)(k25:PySem.W.keepIn K (.ref f25)=true)(a26:PySem.W.nsIn K mainGlobals "spots" = some (some (.ref f26)))(l26:K.lookup f26=some ⟨oc26,od26,.func (PySem.W.fnOf "spots" "spots" (zar zdb) (zaq zdb) (zae zdb) .none kV26 dc26 pm26 an26 cd26 ct26),sl26⟩)(c26:PySem.W.codeIn K cd26 "spots" = true)(k26:PySem.W.keepIn K (.ref f26)=true)(a27:PySem.W.nsIn K mainGlobals "_law_cell" = some (some (.ref f27)))(l27:K.lookup f27=some ⟨oc27,od27,.func (PySem.W.fnOf "_law_cell" "_law_cell" (zar zbD) (zaq zbD) (zae zbD) .none kV27 dc27 pm27 an27 cd27 ct27),sl27⟩)(c27:PySem.W.codeIn K cd27 "_law_cell" = true)(k27:PySem.W.keepIn K (.ref f27)=true)(a28:PySem.W.nsIn K mainGlobals "_law_next" = some (some (.ref f28)))(l28:K.lookup f28=some ⟨oc28,od28,.func (PySem.W.fnOf "_law_next" "_law_next" (zar zbE) (zaq zbE) (zae zbE) .none kV28 dc28 pm28 an28 cd28 ct28),sl28⟩)(c28:PySem.W.codeIn K cd28 "_law_next" = true)(k28:PySem.W.keepIn K (.ref f28)=true)(a29:PySem.W.nsIn K mainGlobals "_law_lines" = some (some (.ref f29)))(l29:K.lookup f29=some ⟨oc29,od29,.func (PySem.W.fnOf "_law_lines" "_law_lines" (zar za2) (zaq za2) (zae za2) .none kV29 dc29 pm29 an29 cd29 ct29),sl29⟩)(c29:PySem.W.codeIn K cd29 "_law_lines" = true)(k29:PySem.W.keepIn K (.ref f29)=true)(a30:PySem.W.nsIn K mainGlobals "_law_board" = some (some (.ref f30)))(l30:K.lookup f30=some ⟨oc30,od30,.func (PySem.W.fnOf "_law_board" "_law_board" (zar za3) (zaq za3) (zae za3) .none kV30 dc30 pm30 an30 cd30 ct30),sl30⟩)(c30:PySem.W.codeIn K cd30 "_law_board" = true)(k30:PySem.W.keepIn K (.ref f30)=true)(a31:PySem.W.nsIn K mainGlobals "_law_come" = some (some (.ref f31)))(l31:K.lookup f31=some ⟨oc31,od31,.func (PySem.W.fnOf "_law_come" "_law_come" (zar zbF) (zaq zbF) (zae zbF) .none kV31 dc31 pm31 an31 cd31 ct31),sl31⟩)(c31:PySem.W.codeIn K cd31 "_law_come" = true)(k31:PySem.W.keepIn K (.ref f31)=true)(a32:PySem.W.nsIn K mainGlobals "_law_patches" = some (some (.ref f32)))(l32:K.lookup f32=some ⟨oc32,od32,.func (PySem.W.fnOf "_law_patches" "_law_patches" (zar zaR) (zaq zaR) (zae zaR) .none kV32 dc32 pm32 an32 cd32 ct32),sl32⟩)(c32:PySem.W.codeIn K cd32 "_law_patches" = true)(k32:PySem.W.keepIn K (.ref f32)=true)(a33:PySem.W.nsIn K mainGlobals "_law_edge" = some (some (.ref f33)))(l33:K.lookup f33=some ⟨oc33,od33,.func (PySem.W.fnOf "_law_edge" "_law_edge" (zar zbG) (zaq zbG) (zae zbG) .none kV33 dc33 pm33 an33 cd33 ct33),sl33⟩)(c33:PySem.W.codeIn K cd33 "_law_edge" = true)(k33:PySem.W.keepIn K (.ref f33)=true)(a34:PySem.W.nsIn K mainGlobals "_law_breaths" = some (some (.ref f34)))(l34:K.lookup f34=some ⟨oc34,od34,.func (PySem.W.fnOf "_law_breaths" "_law_breaths" (zar zaW) (zaq zaW) (zae zaW) .none kV34 dc34 pm34 an34 cd34 ct34),sl34⟩)(c34:PySem.W.codeIn K cd34 "_law_breaths" = true)(k34:PySem.W.keepIn K (.ref f34)=true)(a35:PySem.W.nsIn K mainGlobals "_law_cleaned" = some (some (.ref f35)))(l35:K.lookup f35=some ⟨oc35,od35,.func (PySem.W.fnOf "_law_cleaned" "_law_cleaned" (zar zbd) (zaq zbd) (zae zbd) .none kV35 dc35 pm35 an35 cd35 ct35),sl35⟩)(c35:PySem.W.codeIn K cd35 "_law_cleaned" = true)(k35:PySem.W.keepIn K (.ref f35)=true)(a36:PySem.W.nsIn K mainGlobals "_law_stand" = some (some (.ref f36)))(l36:K.lookup f36=some ⟨oc36,od36,.func (PySem.W.fnOf "_law_stand" "_law_stand" (zar zbx) (zaq zbx) (zae zbx) .none kV36 dc36 pm36 an36 cd36 ct36),sl36⟩)(c36:PySem.W.codeIn K cd36 "_law_stand" = true)(k36:PySem.W.keepIn K (.ref f36)=true)(a37:PySem.W.nsIn K mainGlobals "_law_ladder" = some (some (.ref f37)))(l37:K.lookup f37=some ⟨oc37,od37,.func (PySem.W.fnOf "_law_ladder" "_law_ladder" (zar zaQ) (zaq zaQ) (zae zaQ) .none kV37 dc37 pm37 an37 cd37 ct37),sl37⟩)(c37:PySem.W.codeIn K cd37 "_law_ladder" = true)(k37:PySem.W.keepIn K (.ref f37)=true)(a38:PySem.W.nsIn K mainGlobals "_law_world" = some (some (.ref f38)))(l38:K.lookup f38=some ⟨oc38,od38,.func (PySem.W.fnOf "_law_world" "_law_world" (zar zby) (zaq zby) (zae zby) .none kV38 dc38 pm38 an38 cd38 ct38),sl38⟩)(c38:PySem.W.codeIn K cd38 "_law_world" = true)(k38:PySem.W.keepIn K (.ref f38)=true)(a39:PySem.W.nsIn K mainGlobals "_law_closes" = some (some (.ref f39)))(l39:K.lookup f39=some ⟨oc39,od39,.func (PySem.W.fnOf "_law_closes" "_law_closes" (zar zbm) (zaq zbm) (zae zbm) .none kV39 dc39 pm39 an39 cd39 ct39),sl39⟩)(c39:PySem.W.codeIn K cd39 "_law_closes" = true)(k39:PySem.W.keepIn K (.ref f39)=true)(a40:PySem.W.nsIn K mainGlobals "_law_odd" = some (some (.ref f40)))(l40:K.lookup f40=some ⟨oc40,od40,.func (PySem.W.fnOf "_law_odd" "_law_odd" (zar zbR) (zaq zbR) (zae zbR) .none kV40 dc40 pm40 an40 cd40 ct40),sl40⟩)(c40:PySem.W.codeIn K cd40 "_law_odd" = true)(k40:PySem.W.keepIn K (.ref f40)=true)(a41:PySem.W.nsIn K mainGlobals "_law_changed" = some (some (.ref f41)))(l41:K.lookup f41=some ⟨oc41,od41,.func (PySem.W.fnOf "_law_changed" "_law_changed" (zar zaS) (zaq zaS) (zae zaS) .none kV41 dc41 pm41 an41 cd41 ct41),sl41⟩)(c41:PySem.W.codeIn K cd41 "_law_changed" = true)(k41:PySem.W.keepIn K (.ref f41)=true)(a42:PySem.W.nsIn K mainGlobals "_law_drawn" = some (some (.ref f42)))(l42:K.lookup f42=some ⟨oc42,od42,.func (PySem.W.fnOf "_law_drawn" "_law_drawn" (zar za4) (zaq za4) (zae za4) .none kV42 dc42 pm42 an42 cd42 ct42),sl42⟩)(c42:PySem.W.codeIn K cd42 "_law_drawn" = true)(k42:PySem.W.keepIn K (.ref f42)=true)(a43:PySem.W.nsIn K mainGlobals "law" = some (some (.ref f43)))(l43:K.lookup f43=some ⟨oc43,od43,.func (PySem.W.fnOf "law" "law" (zar zfQ) (zaq zfQ) (zae zfQ) .none kV43 dc43 pm43 an43 cd43 ct43),sl43⟩)(c43:PySem.W.codeIn K cd43 "law" = true)(k43:PySem.W.keepIn K (.ref f43)=true){t0:Tok}(q0:PySem.W.nsIn K mainGlobals "FEWEST_HELD" = some (some (.int 2 t0)))(z_all:PySem.W.nsIn K mainGlobals "all" = some none)(z_any:PySem.W.nsIn K mainGlobals "any" = some none)(z_bool:PySem.W.nsIn K mainGlobals "bool" = some none)(z_int:PySem.W.nsIn K mainGlobals "int" = some none)(z_isinstance:PySem.W.nsIn K mainGlobals "isinstance" = some none)(z_len:PySem.W.nsIn K mainGlobals "len" = some none)(z_list:PySem.W.nsIn K mainGlobals "list" = some none)(z_max:PySem.W.nsIn K mainGlobals "max" = some none)(z_min:PySem.W.nsIn K mainGlobals "min" = some none)(z_range:PySem.W.nsIn K mainGlobals "range" = some none)(z_sorted:PySem.W.nsIn K mainGlobals "sorted" = some none)(z_tuple:PySem.W.nsIn K mainGlobals "tuple" = some none)(xt:zrL K XTB=true)(nl:noL K=true)
  : ∃A:Adr,Txt K mg A/\fa=A.f_law/\∀(s:Shared) (v:Value),BindsTo s A.d_law ⟨[v],[]⟩ [("_law_script",v)]:=by
 have e:=hfa.symm.trans (PySem.W.mg_of X G a43)
 cases e
 have F0:=zaE (st:=zbP) l0 c0 k0
 have b0:=F0.binds (ps:=["thing"]) fun _ _ _ _ _ _ us hl=>VS.us1 (fun _=>rfl) us hl
 have F1:=zaE (st:=zbv) l1 c1 k1
 have b1:=F1.binds (ps:=["hand"]) fun _ _ _ _ _ _ us hl=>VS.us1 (fun _=>rfl) us hl
 have F2:=zaE (st:=zbQ) l2 c2 k2
 have b2:=F2.binds (ps:=["board", "marks", "start"]) fun _ _ _ _ _ _ us hl=>VS.us3 (fun _ _ _=>rfl) us hl
 have F3:=zaE (st:=zcd) l3 c3 k3
 have b3:=F3.binds (ps:=["board", "marks"]) fun _ _ _ _ _ _ us hl=>VS.us2 (fun _ _=>rfl) us hl
 have F4:=zaE (st:=zdB) l4 c4 k4
 have b4:=F4.binds (ps:=["board", "stand", "point"]) fun _ _ _ _ _ _ us hl=>VS.us3 (fun _ _ _=>rfl) us hl
 have F5:=zaE (st:=zeD) l5 c5 k5
 have b5:=F5.binds (ps:=["board", "stand"]) fun _ _ _ _ _ _ us hl=>VS.us2 (fun _ _=>rfl) us hl
 have F6:=zaE (st:=zbW) l6 c6 k6
 have b6:=F6.binds (ps:=["board", "stand", "row"]) fun _ _ _ _ _ _ us hl=>VS.us3 (fun _ _ _=>rfl) us hl
 have F7:=zaE (st:=za1) l7 c7 k7
 have b7:=F7.binds (ps:=["board", "points"]) fun _ _ _ _ _ _ us hl=>VS.us2 (fun _ _=>rfl) us hl
 have F8:=zaE (st:=zfg) l8 c8 k8
 have b8:=F8.binds (ps:=["board", "stand", "hand", "point"]) fun _ _ _ _ _ _ us hl=>VS.us4 (fun _ _ _ _=>rfl) us hl
 have F9:=zaE (st:=zce) l9 c9 k9
 have b9:=F9.binds (ps:=["board", "stand", "hand", "points"]) fun _ _ _ _ _ _ us hl=>VS.us4 (fun _ _ _ _=>rfl) us hl
 have F10:=zaE (st:=zcS) l10 c10 k10
 have b10:=F10.binds (ps:=["stand", "points", "what"]) fun _ _ _ _ _ _ us hl=>VS.us3 (fun _ _ _=>rfl) us hl
 have F11:=zaE (st:=zbw) l11 c11 k11
 have b11:=F11.binds (ps:=["board", "stand", "hand"]) fun _ _ _ _ _ _ us hl=>VS.us3 (fun _ _ _=>rfl) us hl
 have F12:=zaE (st:=zb3) l12 c12 k12
 have b12:=F12.binds (ps:=["board", "stand", "hand"]) fun _ _ _ _ _ _ us hl=>VS.us3 (fun _ _ _=>rfl) us hl
 have F13:=zaE (st:=zbX) l13 c13 k13
 have b13:=F13.binds (ps:=["board", "stand", "hand"]) fun _ _ _ _ _ _ us hl=>VS.us3 (fun _ _ _=>rfl) us hl
 have F14:=zaE (st:=zfh) l14 c14 k14
 have b14:=F14.binds (ps:=["board", "stand", "hand"]) fun _ _ _ _ _ _ us hl=>VS.us3 (fun _ _ _=>rfl) us hl
 have F15:=zaE (st:=zdC) l15 c15 k15
 have b15:=F15.binds (ps:=["board", "stand", "hand", "paper"]) fun _ _ _ _ _ _ us hl=>VS.us4 (fun _ _ _ _=>rfl) us hl
 have F16:=zaE (st:=za8) l16 c16 k16
 have b16:=F16.binds (ps:=["things", "known"]) fun _ _ _ _ _ _ us hl=>VS.us2 (fun _ _=>rfl) us hl
 have F17:=zaE (st:=zbr) l17 c17 k17
 have b17:=F17.binds (ps:=["thing"]) fun _ _ _ _ _ _ us hl=>VS.us1 (fun _=>rfl) us hl
 have F18:=zaE (st:=zdR) l18 c18 k18
 have b18:=F18.binds (ps:=["board", "stand", "hand", "paper"]) fun _ _ _ _ _ _ us hl=>VS.us4 (fun _ _ _ _=>rfl) us hl
 have F19:=zaE (st:=zbY) l19 c19 k19
 have b19:=F19.binds (ps:=["board", "stand", "row", "some_closes"]) fun _ _ _ _ _ _ us hl=>VS.us4 (fun _ _ _ _=>rfl) us hl
 have F20:=zaE (st:=zbZ) l20 c20 k20
 have b20:=F20.binds (ps:=["stand", "close", "near"]) fun _ _ _ _ _ _ us hl=>VS.us3 (fun _ _ _=>rfl) us hl
 have F21:=zaE (st:=zbi) l21 c21 k21
 have b21:=F21.binds (ps:=["board", "stand", "hand", "close", "some_rows"]) fun _ _ _ _ _ _ us hl=>VS.us5 (fun _ _ _ _ _=>rfl) us hl
 have F22:=zaE (st:=zbs) l22 c22 k22
 have b22:=F22.binds (ps:=["point", "some_rows"]) fun _ _ _ _ _ _ us hl=>VS.us2 (fun _ _=>rfl) us hl
 have F23:=zaE (st:=zcf) l23 c23 k23
 have b23:=F23.binds (ps:=["board", "stand", "point"]) fun _ _ _ _ _ _ us hl=>VS.us3 (fun _ _ _=>rfl) us hl
 have F24:=zaE (st:=zcT) l24 c24 k24
 have b24:=F24.binds (ps:=["board", "stand", "point"]) fun _ _ _ _ _ _ us hl=>VS.us3 (fun _ _ _=>rfl) us hl
 have F25:=zaE (st:=zbc) l25 c25 k25
 have b25:=F25.binds (ps:=["board", "stand", "point"]) fun _ _ _ _ _ _ us hl=>VS.us3 (fun _ _ _=>rfl) us hl
 have F26:=zaE (st:=zdb) l26 c26 k26
 have b26:=F26.binds (ps:=["board", "stand", "point"]) fun _ _ _ _ _ _ us hl=>VS.us3 (fun _ _ _=>rfl) us hl
 have F27:=zaE (st:=zbD) l27 c27 k27
 have b27:=F27.binds (ps:=["_law_script", "_law_k"]) fun _ _ _ _ _ _ us hl=>VS.us2 (fun _ _=>rfl) us hl
 have F28:=zaE (st:=zbE) l28 c28 k28
 have b28:=F28.binds (ps:=["_law_pen", "_law_many"]) fun _ _ _ _ _ _ us hl=>VS.us2 (fun _ _=>rfl) us hl
 have F29:=zaE (st:=za2) l29 c29 k29
 have b29:=F29.binds (ps:=["_law_pen", "_law_most"]) fun _ _ _ _ _ _ us hl=>VS.us2 (fun _ _=>rfl) us hl
 have F30:=zaE (st:=za3) l30 c30 k30
 have b30:=F30.binds (ps:=["_law_pen", "_law_most"]) fun _ _ _ _ _ _ us hl=>VS.us2 (fun _ _=>rfl) us hl
 have F31:=zaE (st:=zbF) l31 c31 k31
 have b31:=F31.binds (ps:=["_law_board_here", "_law_start", "_law_there"]) fun _ _ _ _ _ _ us hl=>VS.us3 (fun _ _ _=>rfl) us hl
 have F32:=zaE (st:=zaR) l32 c32 k32
 have b32:=F32.binds (ps:=["_law_board_here", "_law_stand_here", "_law_held_here"]) fun _ _ _ _ _ _ us hl=>VS.us3 (fun _ _ _=>rfl) us hl
 have F33:=zaE (st:=zbG) l33 c33 k33
 have b33:=F33.binds (ps:=["_law_board_here", "_law_some"]) fun _ _ _ _ _ _ us hl=>VS.us2 (fun _ _=>rfl) us hl
 have F34:=zaE (st:=zaW) l34 c34 k34
 have b34:=F34.binds (ps:=["_law_board_here", "_law_stand_here", "_law_row"]) fun _ _ _ _ _ _ us hl=>VS.us3 (fun _ _ _=>rfl) us hl
 have F35:=zaE (st:=zbd) l35 c35 k35
 have b35:=F35.binds (ps:=["_law_board_here", "_law_found"]) fun _ _ _ _ _ _ us hl=>VS.us2 (fun _ _=>rfl) us hl
 have F36:=zaE (st:=zbx) l36 c36 k36
 have b36:=F36.binds (ps:=["_law_pen", "_law_board_here"]) fun _ _ _ _ _ _ us hl=>VS.us2 (fun _ _=>rfl) us hl
 have F37:=zaE (st:=zaQ) l37 c37 k37
 have b37:=F37.binds (ps:=["_law_pen", "_law_most"]) fun _ _ _ _ _ _ us hl=>VS.us2 (fun _ _=>rfl) us hl
 have F38:=zaE (st:=zby) l38 c38 k38
 have b38:=F38.binds (ps:=["_law_pen", "_law_most", "_law_wide"]) fun _ _ _ _ _ _ us hl=>VS.us3 (fun _ _ _=>rfl) us hl
 have F39:=zaE (st:=zbm) l39 c39 k39
 have b39:=F39.binds (ps:=["_law_board_here", "_law_stand_here", "_law_hand"]) fun _ _ _ _ _ _ us hl=>VS.us3 (fun _ _ _=>rfl) us hl
 have F40:=zaE (st:=zbR) l40 c40 k40
 have b40:=F40.binds (ps:=["_law_board_here", "_law_stand_here", "_law_hand", "_law_at"]) fun _ _ _ _ _ _ us hl=>VS.us4 (fun _ _ _ _=>rfl) us hl
 have F41:=zaE (st:=zaS) l41 c41 k41
 have b41:=F41.binds (ps:=["_law_pen", "_law_board_here", "_law_stand_here", "_law_hand", "_law_paper"]) fun _ _ _ _ _ _ us hl=>VS.us5 (fun _ _ _ _ _=>rfl) us hl
 have F42:=zaE (st:=za4) l42 c42 k42
 have b42:=F42.binds (ps:=["_law_pen", "_law_board_here", "_law_stand_here", "_law_hand"]) fun _ _ _ _ _ _ us hl=>VS.us4 (fun _ _ _ _=>rfl) us hl
 have F43:=zaE (st:=zfQ) l43 c43 k43
 have b43:=F43.binds (ps:=["_law_script"]) fun _ _ _ _ _ _ us hl=>VS.us1 (fun _=>rfl) us hl
 refine⟨⟨_,_,_,_,_,_,_,_,_,_,_,_,_,_,_,_,_,_,_,_,_,_,_,_,_,_,_,_,_,_,_,_,_,_,_,_,_,_,_,_,_,_,_,_,_,_,_,_,_,_,_,_,_,_,_,_,_,_,_,_,_,_,_,_,_,_,_,_,_,_,_,_,_,_,_,_,_,_,_,_,_,_,_,_,_,_,_,_⟩,⟨PySem.W.mg_of X G a0,F0,b0,PySem.W.mg_of X G a1,F1,b1,PySem.W.mg_of X G a2,F2,b2,PySem.W.mg_of X G a3,F3,b3,PySem.W.mg_of X G a4,F4,b4,PySem.W.mg_of X G a5,F5,b5,PySem.W.mg_of X G a6,F6,b6,PySem.W.mg_of X G a7,F7,b7,PySem.W.mg_of X G a8,F8,b8,PySem.W.mg_of X G a9,F9,b9,PySem.W.mg_of X G a10,F10,b10,PySem.W.mg_of X G a11,F11,b11,PySem.W.mg_of X G a12,F12,b12,PySem.W.mg_of X G a13,F13,b13,PySem.W.mg_of X G a14,F14,b14,PySem.W.mg_of X G a15,F15,b15,PySem.W.mg_of X G a16,F16,b16,PySem.W.mg_of X G a17,F17,b17,PySem.W.mg_of X G a18,F18,b18,PySem.W.mg_of X G a19,F19,b19,PySem.W.mg_of X G a20,F20,b20,PySem.W.mg_of X G a21,F21,b21,PySem.W.mg_of X G a22,F22,b22,PySem.W.mg_of X G a23,F23,b23,PySem.W.mg_of X G a24,F24,b24,PySem.W.mg_of X G a25,F25,b25,PySem.W.mg_of X G a26,F26,b26,PySem.W.mg_of X G a27,F27,b27,PySem.W.mg_of X G a28,F28,b28,PySem.W.mg_of X G a29,F29,b29,PySem.W.mg_of X G a30,F30,b30,PySem.W.mg_of X G a31,F31,b31,PySem.W.mg_of X G a32,F32,b32,PySem.W.mg_of X G a33,F33,b33,PySem.W.mg_of X G a34,F34,b34,PySem.W.mg_of X G a35,F35,b35,PySem.W.mg_of X G a36,F36,b36,PySem.W.mg_of X G a37,F37,b37,PySem.W.mg_of X G a38,F38,b38,PySem.W.mg_of X G a39,F39,b39,PySem.W.mg_of X G a40,F40,b40,PySem.W.mg_of X G a41,F41,b41,PySem.W.mg_of X G a42,F42,b42,PySem.W.mg_of X G a43,F43,b43,⟨_,PySem.W.mg_of X G q0⟩,PySem.W.mg_none_of X G z_all,PySem.W.mg_none_of X G z_any,PySem.W.mg_none_of X G z_bool,PySem.W.mg_none_of X G z_int,PySem.W.mg_none_of X G z_isinstance,PySem.W.mg_none_of X G z_len,PySem.W.mg_none_of X G z_list,PySem.W.mg_none_of X G z_max,PySem.W.mg_none_of X G z_min,PySem.W.mg_none_of X G z_range,PySem.W.mg_none_of X G z_sorted,PySem.W.mg_none_of X G z_tuple,zrM X G xt,nl⟩,rfl,fun s v=>.of_eq rfl⟩
end K34
namespace K34
open L2 VS
def FU:Nat:=1000
local macro_rules|`(tactic| trivial)=>`(tactic| repeat' (first
 | with_reducible (refine zbI (by repeat (first|exact SetAt.zero|apply SetAt.succ)) ?_)
 | with_reducible (refine id (α:=_=some (R.ok _ _)) ?_;assumption)
 | (with_reducible apply zam);rfl
 | with_reducible exact zcZ
 | with_reducible apply zaG
 | with_reducible apply zgw
 | with_reducible apply zdj
 | with_reducible apply zfH
 | with_reducible apply zax
 | with_reducible apply zak
 | with_reducible exact zat
 | with_reducible apply zbL
 | with_reducible apply zhd
 | with_reducible apply zmo
 | with_reducible apply zfI
 | with_reducible exact ev_yes
 | with_reducible apply zpt
 | with_reducible apply znv
 | with_reducible apply zj7
 | with_reducible exact eqI0
 | with_reducible exact eqE0
 | with_reducible exact eqE1
 | with_reducible exact zrI
 | with_reducible exact eqEN1
 | with_reducible exact zs3
 | with_reducible exact inS0
 | with_reducible exact inS1
 | with_reducible exact zrG
 | with_reducible exact inSL1
 | with_reducible exact zs4
 | with_reducible exact inL1
 | with_reducible (apply inC0;assumption)
 | with_reducible (apply inC1;assumption)
 | with_reducible (apply dinC0;assumption)
 | with_reducible (apply zrH;assumption)
 | ((with_reducible apply zpz);trivial;done)
 | with_reducible apply zh5
 | with_reducible apply zsn
 | with_reducible apply zpy
 | with_reducible apply lcF
 | with_reducible apply zqv
 | with_reducible apply lcC
 | with_reducible apply zet
 | with_reducible apply zd0
 | with_reducible apply zgt
 | with_reducible apply znz
 | with_reducible apply zcl
 | with_reducible apply SrcFix.is
 | with_reducible (refine id (α:=LstOf _ _ _) ?_;first|assumption|exact .fr _|exact .cl (by assumption))
 | with_reducible apply ziG
 | with_reducible apply zmp
 | with_reducible apply zes
 | with_reducible apply za0
 | with_reducible apply zc5
 | with_reducible apply zlA
 | with_reducible exact lf_isB0
 | with_reducible exact lf_isB1
 | with_reducible exact zso
 | with_reducible exact eqB1
 | with_reducible exact isiB
 | with_reducible exact zgu
 | with_reducible (apply znE;assumption)
 | with_reducible exact znu
 | with_reducible apply zly
 | with_reducible apply zps
 | with_reducible apply ev_ifE
 | with_reducible apply zpv
 | with_reducible apply zj2
 | with_reducible apply zaA
 | with_reducible apply zfb
 | with_reducible apply zdi
 | with_reducible apply zcq
 | with_reducible apply zan
 | with_reducible apply zpr
 | with_reducible apply znw
 | with_reducible apply zbu
 | with_reducible apply zdy
 | with_reducible apply za7
 | with_reducible apply zck
 | with_reducible (refine id (α:=_=_) ?_;assumption)
 | (refine id (α:=(_:Nat)<_) ?_;first|assumption|omega)
 | (refine id (α:=(_:Nat)<=_) ?_;first|assumption|omega|decide|(simp only[List.length_cons,List.length_nil];decide))
 | with_reducible (apply zpw;first|assumption|omega)
 | with_reducible (apply zdK;first|assumption|omega)
 | with_reducible (apply zmq;first|assumption|omega)
 | with_reducible (apply lf_ixC;assumption;first|assumption|omega)
 | with_reducible (apply zc4;assumption)
 | with_reducible (apply zj9;assumption;first|assumption|omega)
 | with_reducible (apply lf_sortCF;assumption;first|assumption|omega)
 | with_reducible (apply tupCN;assumption;first|assumption|omega)
 | with_reducible (apply tupCB;assumption;first|assumption|omega)
 | with_reducible (apply zrJ;assumption;first|assumption|omega)
 | with_reducible (apply tupLN;first|assumption|omega)
 | with_reducible (apply znD;first|assumption|omega)
 | with_reducible (apply zpG;first|assumption|omega)
 | ((with_reducible apply znB);rfl;rfl;first|assumption|exact zgq (.inr (by omega))|exact zgq (.inl (by omega)))
 | with_reducible (apply zd8;first|assumption|omega)
 | with_reducible (apply zh6;first|assumption|omega)
 | with_reducible exact eqLL0
 | with_reducible exact eqLL1
 | with_reducible (apply eqLC1;assumption)
 | with_reducible (apply eqSC1;assumption)
 | with_reducible exact zj8
 | with_reducible exact lf_lenS
 | with_reducible exact lf_lenL
 | with_reducible (apply znx;assumption)
 | intro _
 | ((with_reducible apply zdz)<;>rfl)
 | ((with_reducible apply zhg)<;>rfl)
 | ((with_reducible apply zpA)<;>rfl)
 | ((with_reducible apply lf_fLe)<;>rfl)
 | ((with_reducible apply zpB)<;>rfl)
 | ((with_reducible apply zpC)<;>rfl)
 | ((with_reducible apply znA)<;>rfl)
 | ((with_reducible apply lf_fNeI)<;>rfl)
 | ((with_reducible apply zhi);rfl)
 | ((with_reducible apply zpD);rfl)
 | with_reducible exact isiN
 | with_reducible exact isiNB
 | with_reducible exact isiI
 | with_reducible exact isiIB
 | ((with_reducible apply zpE)<;>rfl)
 | ((with_reducible apply zpF)<;>rfl)
 | ((with_reducible apply zbV);rfl;rfl;omega)
 | ((with_reducible apply zhh);rfl;rfl;omega)
 | (refine id (α:=(_:Nat)=_) ?_;rfl)
 | with_reducible rfl))
def rC(r:List Nat):C:=.lst (r.map nW)
def upR(rows:List (List Nat))(p q:Nat):List (List Nat):=rows.set p (rows.getD p []++[q])
def zp3(rows:List (List Nat))(p q:Nat):List (List Nat):=upR (upR rows p q) q p
theorem zhr(rows:List (List Nat))(p q:Nat):(upR rows p q).length=rows.length:=by simp[upR]
theorem zii(rows:List (List Nat))(p q:Nat):(zp3 rows p q).length=rows.length:=by simp[zp3,zhr]
theorem zfY{rows:List (List Nat)}{p:Nat}(hp:p<rows.length)(q i:Nat):(upR rows p q).getD i []=if i=p then rows.getD p []++[q] else rows.getD i []:=by
 unfold upR
 simp only[List.getD_eq_getElem?_getD]
 by_cases h:i=p
 ·subst h;simp[hp]
 ·rw[List.getElem?_set_ne (Ne.symm h)];simp[h]
structure Rows (n:Nat) (rows:List (List Nat)):Prop where
 len:rows.length=n
 bd:∀i j,j∈rows.getD i []->j<n
 sym:∀i j,j∈rows.getD i []->i∈rows.getD j []
section
variable {ce:Ce} {n:Nat} {rows:List (List Nat)} {gs:Ce}
abbrev zkP(ce:Ce)(n:Nat):W:=.lst ((List.range n).map fun i=>W.cel (ce.length+i))
abbrev bC(ce:Ce)(rows:List (List Nat))(gs:Ce):Ce:=ce++(rows.map rC++gs)
theorem zmv{p:Nat}(hp:p<rows.length):(bC ce rows gs)[ce.length+p]?=some (rC (rows.getD p [])):=by
 rw[zqu,List.getElem?_append_left (by simpa using hp),List.getElem?_map,List.getD_eq_getElem?_getD]
 simp[hp]
theorem zp4{p q:Nat}(hp:p<rows.length):(bC ce rows gs).set (ce.length+p) (.lst ((rows.getD p []).map nW++[nW q]))=bC ce (upR rows p q) gs:=by
 rw[zr5,List.set_append_left _ _ (by simpa using hp)]
 show _=ce++((rows.set p (rows.getD p []++[q])).map rC++gs)
 rw[List.map_set]
 have e:C.lst ((rows.getD p []).map nW++[nW q])=rC (rows.getD p []++[q]):=by simp only[rC,List.map_append,List.map_cons,List.map_nil]
 rw[e]
theorem zp5(c:Ce){p:Nat}(hp:p<n):ixW c (zkP ce n) (nW p)=some (W.cel (ce.length+p)):=by
 rw[zeS (xs:=(List.range n).map fun i=>W.cel (ce.length+i)) rfl,List.getElem?_map]
 simp[hp]
theorem ap1{sl:Sl}{a b p q:Nat}(h4:sl[4]?=some (some (zkP ce n)))(ha:sl[a]?=some (some (nW p)))(hb:sl[b]?=some (some (nW q)))(hr:rows.length=n)(hp:p<n)(hz:(rows.getD p []).length<PySem.sizeLine) :
  dEx (dMt zeR (zay ixW (zaf 4) (zaf a)) (zac (zaf b) zal)) sl (bC ce rows gs)=some (.go .nx sl (bC ce (upR rows p q) gs)):=by
 have hp':p<rows.length:=by omega
 have g:=zmv (ce:=ce) (gs:=gs) hp'
 have e1:zay ixW (zaf 4) (zaf a) sl (bC ce rows gs)=some (.ok (W.cel (ce.length+p)) (bC ce rows gs)):=by
  simp only[zpc,zls,zh2,h4,ha,zmf,zp5 _ hp,Option.map_some]
 have e2:zac (zaf b) zal sl (bC ce rows gs)=some (.ok [nW q] (bC ce rows gs)):=by
  simp only[zjW,zls,zh2,hb,zmg,zpb]
 have lq:zkN (bC ce rows gs) (W.cel (ce.length+p))=some ():=by
  unfold zkN
  rw[zc4 (xs:=(rows.getD p []).map nW) g]
  rfl
 have ap:zeR (W.cel (ce.length+p)) [nW q] (bC ce rows gs)=some (.ok .non (bC ce (upR rows p q) gs)):=by
  rw[zpe (zen (xs:=(rows.getD p []).map nW) g) (by rw[List.length_map];exact hz),zp4 hp']
 generalize bC ce rows gs=c1 at *
 generalize bC ce (upR rows p q) gs=c2 at *
 simp only[zrz,zrE,zls,zrv,zmf,e1,e2,lq,ap,Option.map_some]
theorem ap2{sl:Sl}{a b p q:Nat}(h4:sl[4]?=some (some (zkP ce n)))(ha:sl[a]?=some (some (nW p)))(hb:sl[b]?=some (some (nW q)))(hr:rows.length=n)(hp:p<n)(hq:q<n)(hz:∀i,(rows.getD i []).length<1000) :
  zaz (dEx (dMt zeR (zay ixW (zaf 4) (zaf a)) (zac (zaf b) zal))) (dEx (dMt zeR (zay ixW (zaf 4) (zaf b)) (zac (zaf a) zal))) sl (bC ce rows gs)=some (.go .nx sl (bC ce (zp3 rows p q) gs)):=by
 have z:(1001:Nat)<PySem.sizeLine:=by decide
 rw[zjV (ap1 h4 ha hb hr hp (by have:=hz p;omega))]
 refine ap1 h4 hb ha (by rw[zhr];exact hr) hq ?_
 rw[zfY (by omega)]
 split
 ·have:=hz p;rw[List.length_append,List.length_singleton];omega
 ·have:=hz q;omega
theorem ziQ{p:Nat}(hp:p<rows.length)(h:(rows.getD p []).length<=60)(cs:Sl):dBi zbt (zac (dBi (za6 zaT) (zac (zaf 0) zal)) zal) (some (W.cel (ce.length+p))::cs) (bC ce rows gs)=some (.ok (wT (zcj (rows.getD p []))) (bC ce rows gs)):=by
 have g:=zmv (ce:=ce) (gs:=gs) hp
 have hz:(61:Nat)<PySem.sizeLine:=by decide
 have l1:(srt (toI (rows.getD p []))).length=(rows.getD p []).length:=by rw[(zbq _).length_eq,zcN]
 have so:za6 zaT [W.cel (ce.length+p)] (bC ce rows gs)=some (.ok (.lst ((zcj (rows.getD p [])).map nW)) (bC ce rows gs)):=by
  simp only[za6,zc4 (xs:=(rows.getD p []).map nW) g,zlv,zcN]
  rw[if_pos (by omega),zjX _ (by rw[List.length_map,l1];omega),zd6]
 have tu:zbt [.lst ((zcj (rows.getD p [])).map nW)] (bC ce rows gs)=some (.ok (wT (zcj (rows.getD p []))) (bC ce rows gs)):=by
  have e:((zcj (rows.getD p [])).map nW).length=(rows.getD p []).length:=by rw[<- zd6,List.length_map,l1]
  show zri _ _=_
  rw[zpd _ (by rw[e];omega)]
  rfl
 generalize bC ce rows gs=c1 at *
 simp only[zrA,zls,zjW,zh2,List.getElem?_cons_zero,zmg,zpb,so,tu]
theorem zgG(hr:rows.length=n)(h36:n<=36)(h:∀i,(rows.getD i []).length<=60){sl:Sl}(h4:sl[4]?=some (some (zkP ce n))) :
  dLC zaT [] (dIL (zaf 4)) zcK (dBi zbt (zac (dBi (za6 zaT) (zac (zaf 0) zal)) zal)) sl (bC ce rows gs)=some (.ok (.lst (((List.range n).map fun i=>zcj (rows.getD i [])).map wT)) (bC ce rows gs)):=by
 have hz:=sl36
 have hi:dIL (zaf 4) sl (bC ce rows gs)=some (.ok (.lst ((List.range n).map fun i=>W.cel (ce.length+i))) (bC ce rows gs)):=by
  show bnd (zaf 4 sl) (fun w=>look fun ce=>zkM ce w) (bC ce rows gs)=_
  rw[zbJ (a:=zkP ce n) (ce':=bC ce rows gs) (by simp only[zh2,h4])]
  rfl
 obtain⟨zs,e,pz⟩:=zpl (mk:=zaT) (js:=[]) (s:=.lst ((List.range n).map fun i=>W.cel (ce.length+i))) (e:=dBi zbt (zac (dBi (za6 zaT) (zac (zaf 0) zal)) zal)) hi trivial (fun x y=>∃i,i<n/\x=W.cel (ce.length+i)/\y=wT (zcj (rows.getD i []))) (fun x hx=>by
  simp only[Src.items,List.mem_map,List.mem_range] at hx
  obtain⟨i,hi,rfl⟩:=hx
  exact⟨_,⟨i,hi,rfl,rfl⟩,ziQ (by omega) (h i) _⟩) (by simp only[Src.items,List.length_map,List.length_range];omega)
 rw[e]
 obtain⟨hl,hn⟩:=VS.Paired.nth pz
 simp only[Src.items,List.length_map,List.length_range] at hl
 have ez:zs=((List.range n).map fun i=>zcj (rows.getD i [])).map wT:=by
  apply List.ext_getElem?
  intro i
  by_cases hi:i<n
  ·have h1:((List.range n).map fun i=>W.cel (ce.length+i))[i]?=some (W.cel (ce.length+i)):=by simp[hi]
   have h2:zs[i]?=some (zs[i]'(by omega)):=List.getElem?_eq_getElem _
   obtain⟨j,_,q1,q2⟩:=hn i _ _ h1 h2
   have hij:i=j:=by
    injection q1 with q1
    omega
   subst hij
   rw[h2,q2]
   simp[hi]
  ·rw[List.getElem?_eq_none (by omega),List.getElem?_eq_none (by simp;omega)]
 rw[zjX _ (by rw[<- hl];omega),ez]
theorem zlM{di:Sl->M Src}{sl:Sl}(hi:di sl ce=some (.ok (.rng 0 n) ce))(h36:n<=36):dLC zaT [] di zcK (zb4 zal) sl ce=some (.ok (zkP ce n) (bC ce (List.replicate n []) [])):=by
 have hz:=sl36
 show bnd (di sl) (fun s=>bnd (lcL s (zcu [] sl) zcK (zb4 zal) s.items []) zaT) ce=_
 have al:=zgs (s:=.rng 0 n) (cs:=zcu [] sl) (fun _=>trivial) (Src.rng 0 n).items [] ce (by rw[zer];simp;omega)
 rw[zbJ hi,zbJ al,zer,zjX _ (by simp;omega)]
 simp[bC,rC,zkP]
end
theorem zgH{fin:Ce->Ce->W->Option (R W)}{n:Nat}{body:DS}{ws:List W}{ce:Ce}{P:W->Ce->Prop}(sl:Sl)(e:ws.map some++List.replicate (n-ws.length) none=sl)(h:Run body sl ce (Rt fun v ce'=>∃w c',fin ce ce' v=some (.ok w c')/\P w c')):∃w c',dFn fin n body ws ce=some (.ok w c')/\P w c':=by
 subst e
 obtain⟨o,e,q⟩:=h
 cases o with
 | ex x c=>exact q.elim
 | go f sl c=>cases f with
  | rt w =>
   obtain⟨w',c',h1,h2⟩:=q
   exact⟨w',c',zmn e h1,h2⟩
  | nx=>exact q.elim
  | bk=>exact q.elim
  | ct=>exact q.elim
theorem zhs{d r:List Nat}{p n:Nat}(e:d++p::r=List.range n):d=List.range p:=by
 have hl:d.length<n:=by have:=congrArg List.length e;simp at this;omega
 have h1:(List.range n)[d.length]?=some p:=by rw[<- e];simp
 rw[List.getElem?_range hl] at h1
 cases h1
 have h2:(List.range n).take d.length=d:=by rw[<- e];simp
 rw[<- h2,List.take_range,Nat.min_eq_left (Nat.le_of_lt hl)]
 simp
abbrev pen(ns:List Int)(j:Nat):C:=.lst [sW ns,nW j]
theorem zij{ce:Ce}{ns:List Int}:zc3 [sW ns] ce=some (.ok (nW ns.length) ce):=by simp[zc3];rfl
theorem zht{ce:Ce}{ns:List Int}{p:Nat}(h:p<ns.length):ixW ce (sW ns) (nW p)=some (.int (ns.getD p 0)):=by
 rw[zeS (xs:=ns.map W.int) rfl,List.getElem?_map,List.getD_eq_getElem?_getD,List.getElem?_eq_getElem h];rfl
theorem zcH(n:Nat)(ns:List Int)(j:Nat):zgm n (pen ns j):=by
 simp only[zgm,zdd,Bel,nW]
 exact⟨belInts _ _,trivial,trivial⟩
theorem znP(fu:Nat)(ns:List Int){j:Nat}(hj:j<=100000)(ce:Ce):∃v:Int,d__law_cell fu [sW ns,nW j] ce=some (.ok (.int v) ce):=by
 have hlen:=zij (ce:=ce) (ns:=ns)
 by_cases h:j<ns.length
 ·refine⟨ns.getD j 0,?_⟩
  have i1:=zht (ce:=ce) h
  unfold d__law_cell
  refine zbA [some (sW ns),some (nW j),none] rfl ?_
  refine zbu (p:=decide ((j:Int)<(ns.length:Int))) (ce':=ce) (by trivial) (fun _=>?_) (fun q=>?_)
  ·trivial
   exact zaF (by simp only[Bel])
  ·have:=of_decide_eq_false q;omega
 ·have m1:CMul (j:Int) 7:=.inr (by omega)
  have m2:CMul (j:Int) (j:Int):=.inl (by omega)
  have m3:CMul ((j:Int)*j) 7919:=.inr (by omega)
  have m4:CMul 101 (j:Int):=.inl (by omega)
  have m5:∀x:Int,CMul x 31:=fun x=>.inr (by omega)
  have base:∃v:Int,∀(b:DS) (Q:O->Prop),Run b [some (sW ns),some (nW j),some (.int v)] ce Q->Run (zaz (zaV 2 (dC (.int 0))) (zaz (dIf (dB (dOp fGt (dBi zc3 (zac (zaf 0) zal)) (dC (.int 0)))) (zaV 2 (zay ixW (zaf 0) (dOp zbT (dOp zdg (dOp ze9 (zaf 1) (dC (.int 7))) (dC (.int 3))) (dBi zc3 (zac (zaf 0) zal))))) zba) b)) [some (sW ns),some (nW j),none] ce Q:=by
   by_cases h0:0<ns.length
   ·obtain⟨m,hm,e⟩:=zjZ ((j:Int)*7+3) h0
    have e1:zbT (.int ((j:Int)*7+3)) (nW ns.length)=some (nW m):=zmm h0 e
    have i1:=zht (ce:=ce) hm
    refine⟨ns.getD m 0,fun b Q hb=>?_⟩
    refine zan zcZ ?_
    refine zbu (p:=decide ((0:Int)<(ns.length:Int))) (ce':=ce) (by trivial) (fun _=>?_) (fun q=>?_)
    ·exact zan (w:=.int (ns.getD m 0)) (ce':=ce) (by trivial) hb
    ·have:=of_decide_eq_false q;omega
   ·refine⟨0,fun b Q hb=>?_⟩
    refine zan zcZ ?_
    refine zbu (p:=decide ((0:Int)<(ns.length:Int))) (ce':=ce) (by trivial) (fun q=>?_) (fun q=>?_)
    ·have:=of_decide_eq_true q;omega
    ·exact za7 hb
  obtain⟨v,hv⟩:=base
  refine⟨v*31+(j:Int)*j*7919+101*j+17,?_⟩
  unfold d__law_cell
  refine zbA [some (sW ns),some (nW j),none] rfl ?_
  refine zbu (p:=decide ((j:Int)<(ns.length:Int))) (ce':=ce) (by trivial) (fun q=>?_) (fun _=>?_)
  ·have:=of_decide_eq_true q;omega
  ·refine za7 (hv _ _ ?_)
   trivial
   exact zaF (by simp only[Bel])
theorem zs8{ce:Ce}{k:Nat}{ns:List Int}{j:Nat}(g:ce[k]?=some (pen ns j)):ixW ce (.cel k) (.int 0)=some (sW ns):=(zh3 (j:=0) (y:=.int 0) (zdI g) rfl).trans rfl
theorem zsr{ce:Ce}{k:Nat}{ns:List Int}{j:Nat}(g:ce[k]?=some (pen ns j)):ixW ce (.cel k) (.int 1)=some (nW j):=(zh3 (j:=1) (y:=.int 1) (zdI g) rfl).trans rfl
theorem zbe(fu:Nat){ce:Ce}{k:Nat}{ns:List Int}{j:Nat}(g:ce[k]?=some (pen ns j))(hj:j<=9990){m:Int}(hm:0<m) :
  ∃v:Int,0<=v/\v<m/\d__law_next fu [.cel k,.int m] ce=some (.ok (.int v) (ce.set k (pen ns (j+1)))):=by
 have hk:k<ce.length:=(List.getElem?_eq_some_iff.mp g).1
 obtain⟨v,ev⟩:=znP fu ns (j:=j) (by omega) ce
 have g1:(ce.set k (pen ns (j+1)))[k]?=some (pen ns (j+1)):=List.getElem?_set_self hk
 have p0:=zs8 g
 have p1:=zsr g
 have q1:=zsr g1
 have ej:W.int ((j:Int)+1)=nW (j+1):=by simp[nW]
 have s1:C.lst ([sW ns,nW j].set 1 (.int ((j:Int)+1)))=pen ns (j+1):=by rw[ej];rfl
 have m1:CMul 13 ((j+1:Nat):Int):=.inl (by omega)
 have m2:∀x:Int,CMul x 48271:=fun x=>.inr (by omega)
 generalize hnum:(v % 4294967291+13*((j+1:Nat):Int))*48271 % 2147483647=num
 have hn:0<=num/\num<2147483647:=by omega
 have m3:CMul num (num % 65519+((j+1:Nat):Int)+2):=.inl (by omega)
 refine⟨num*(num % 65519+((j+1:Nat):Int)+2) % 2147483629 / 3 % m,Int.emod_nonneg _ (by omega),Int.emod_lt_of_pos _ hm,?_⟩
 unfold d__law_next
 refine zbA [some (.cel k),some (.int m),none,none] rfl ?_
 refine zan (w:=.int (v % 4294967291)) (ce':=ce) (by trivial) ?_
 refine zd9 (w:=.int ((j:Int)+1)) (c1:=ce) (c2:=ce) (c3:=ce) (k:=k) (ij:=1) (j:=1) (xs:=[sW ns,nW j]) (by trivial) (by trivial) (by trivial) g rfl ?_
 rw[s1]
 refine zan (w:=.int num) (ce':=ce.set k (pen ns (j+1))) (by rw[<- hnum];trivial) ?_
 trivial
 exact(Own.start _).finC' ((Chg.refl ce).set k (zcH _ _ _)) (by simp only[Bel])
structure LsOk (n:Nat) (ls:List (Nat×Nat)):Prop where
 nd:ls.Nodup
 lt:∀p∈ls,p.1<p.2/\p.2<n
theorem zhu{sl:Sl}{ce c1 c2:Ce}{a b:Sl->M W}{x y:W}{xs ys:List W}(ha:a sl ce=some (.ok x c1))(hb:b sl c1=some (.ok y c2))(hx:zcz c2 x=some xs)(hy:zcz c2 y=some ys)(hz:xs.length+ys.length<=PySem.sizeLine) :
  znl zaT a b sl ce=some (.ok (.lst (xs++ys)) c2):=by
 simp only[znl,bnd,ha,hb,zrk,hx,hy,if_pos hz]
 exact zb6 (by rw[List.length_append];exact hz)
theorem nodup_map_inj{α β:Type}{f:α->β}{l:List α}(h:l.Nodup)(inj:∀x y,f x=f y->x=y):(l.map f).Nodup:=List.Pairwise.map f (fun a b hab e=>hab (inj a b e)) h
abbrev zfZ(wd p:Nat):Bool:=decide (((p:Int) % (wd:Int))<(wd:Int)-1)
theorem zlN(fu:Nat){ce:Ce}{k:Nat}{ns:List Int}{j:Nat}(g:ce[k]?=some (pen ns j))(hj:j<=9000){most:Nat}(h1:0<most)(h36:most<=36) :
  ∃many ls j',zlB (d__law_lines fu) [.cel k,nW most] ce=some (.ok (.tup [nW many,.lst (ls.map pW)]) (ce.set k (pen ns j')))/\j'<=j+5/\0<many/\many<=most/\LsOk many ls:=by
 have hz:=sl36
 have hz2:2000<PySem.sizeLine:=by decide
 have hk:k<ce.length:=(List.getElem?_eq_some_iff.mp g).1
 have gs:∀i,(ce.set k (pen ns i))[k]?=some (pen ns i):=fun i=>List.getElem?_set_self hk
 have ss:∀i i',(ce.set k (pen ns i)).set k (pen ns i')=ce.set k (pen ns i'):=fun i i'=>List.set_set ..
 suffices h:∃w c,d__law_lines fu [.cel k,nW most] ce=some (.ok w c)/\∃many ls j' l,Own (ce.set k (pen ns j')) c l/\zeT ce.length c 6 w=some (.tup [nW many,.lst (ls.map pW)])/\j'<=j+5/\0<many/\many<=most/\LsOk many ls by
  obtain⟨w,c,e,many,ls,j',l,O,ht,r⟩:=h
  exact⟨many,ls,j',Own.frzD' e O ((Chg.refl ce).set k (zcH _ _ _)) ht,r⟩
 unfold d__law_lines
 refine zgH [some (.cel k),some (nW most),none,none,none,none,none,none,none] rfl ?_
 obtain⟨way,w0,w3,e1⟩:=zbe fu g (by omega) (m:=3) (by omega)
 refine zan (w:=.int way) (by trivial) ?_
 refine zbu (p:=decide (way=0)) (by trivial) (fun _=>?_) (fun _=>?_)
 ·obtain⟨v,v0,v4,e2⟩:=zbe fu (gs (j+1)) (by omega) (m:=if (4:Int)<(most:Int) then 4 else most) (by split<;>omega)
  rw[ss] at e2
  obtain⟨wd,hwd⟩:∃wd:Nat,1+v=wd:=⟨(1+v).toNat,by omega⟩
  have w1:0<wd:=by omega
  have w4:wd<=4/\wd<=most:=by split at v4<;>omega
  have hq:((most:Int) / (wd:Int))=((most / wd:Nat):Int):=by simp
  have q1:1<=most / wd:=(Nat.le_div_iff_mul_le w1).mpr (by omega)
  obtain⟨u,u0,u4,e3⟩:=zbe fu (gs (j+2)) (by omega) (m:=if ((most:Int) / (wd:Int))>1 then ((most:Int) / (wd:Int)) else 1) (by split<;>omega)
  rw[ss] at e3
  obtain⟨hg,hhg⟩:∃hg:Nat,1+u=hg:=⟨(1+u).toNat,by omega⟩
  have hg1:0<hg/\hg<=most / wd:=by rw[hq] at u4;split at u4<;>omega
  obtain⟨n,hn⟩:∃n:Nat,wd*hg=n:=⟨_,rfl⟩
  have n0:0<n:=by rw[<- hn];exact Nat.mul_pos w1 hg1.1
  have nm:n<=most:=by rw[<- hn];exact Nat.le_trans (Nat.mul_le_mul_left wd hg1.2) (Nat.mul_div_le most wd)
  have wn:wd<=n:=by rw[<- hn];exact Nat.le_mul_of_pos_right wd hg1.1
  have a1:zdg (.int 1) (.int v)=some (nW wd):=by rw[zdz rfl rfl,hwd];rfl
  have a2:zdg (.int 1) (.int u)=some (nW hg):=by rw[zdz rfl rfl,hhg];rfl
  have mu:ze9 (nW wd) (nW hg)=some (nW n):=by
   show ze9 (.int wd) (.int hg)=some (.int n)
   rw[zmi (.inl (by omega)),<- hn];simp
  have sb:zg1 (nW n) (nW wd)=some (nW (n-wd)):=by
   refine(zhg (x:=nW n) (y:=nW wd) (i:=n) (j:=wd) rfl rfl).trans ?_
   have:((n:Int)-(wd:Int))=((n-wd:Nat):Int):=by omega
   rw[this];rfl
  have dv:zjx (nW most) (nW wd)=some (.int ((most:Int) / (wd:Int))):=zhh (i:=most) (j:=wd) rfl rfl (by omega)
  have md:∀p:Nat,zbT (nW p) (nW wd)=some (.int ((p:Int) % (wd:Int))):=fun p=>zbV (i:=p) (j:=wd) rfl rfl (by omega)
  refine zdy ?_
  refine zan (w:=nW wd) (ce':=ce.set k (pen ns (j+2))) (by trivial) ?_
  refine zdy ?_
  refine zan (w:=nW n) (ce':=ce.set k (pen ns (j+3))) (by trivial) ?_
  have n1000:n<=1000:=by omega
  have nz:(List.range n).length<=PySem.sizeLine:=by rw[List.length_range];omega
  have nz2:(List.range (n-wd)).length<=PySem.sizeLine:=by rw[List.length_range];omega
  have z2:2<=PySem.sizeLine:=by decide
  refine zdy ?_
  refine zan (lcC (zs:=List.range n) (en:=nW) (t:=zfZ wd) (g:=fun p=>pW (p,p+1)) (zet (by trivial) n1000).is nz (fun p hp=>?_) (fun p hp _=>?_)) ?_
  ·have:=md p
   trivial
  ·have e:pW (p,p+1)=.tup [nW p,.int ((p:Int)+1)]:=by simp[pW,nW]
   rw[e]
   trivial
  ·have O1:=(Own.start (ce.set k (pen ns (j+3)))).alloc (C.lst (((List.range n).filter (zfZ wd)).map fun p=>pW (p,p+1)))
   generalize (ce.set k (pen ns (j+3))).length=k5 at O1 ⊢
   generalize (ce.set k (pen ns (j+3)))++[C.lst (((List.range n).filter (zfZ wd)).map fun p=>pW (p,p+1))]=c5 at O1 ⊢
   have g5:=zc4 O1.g0
   have hl1:(((List.range n).filter (zfZ wd)).map fun p=>pW (p,p+1)).length<=36:=by rw[List.length_map];have:=List.length_filter_le (zfZ wd) (List.range n);rw[List.length_range] at this;omega
   refine zck ?_
   refine zaA (zc5 (ws:=[nW n,.lst ((((List.range n).filter (zfZ wd)).map fun p=>pW (p,p+1))++(List.range (n-wd)).map fun p=>pW (p,p+wd))]) (c1:=c5) (zak (by trivial) (zak (zhu (by trivial) (zpy (zs:=List.range (n-wd)) (en:=nW) (g:=fun p=>pW (p,p+wd)) (zet (by trivial) (by omega)).is nz2 (fun p hp=>?_)) g5 rfl ?_) zat)) z2) ?_
   ·have e:pW (p,p+wd)=.tup [nW p,.int ((p:Int)+wd)]:=by simp[pW,nW]
    rw[e]
    trivial
   ·rw[List.length_map (as:=List.range (n-wd)),List.length_range];omega
   ·refine⟨_,_,rfl,n,(((List.range n).filter (zfZ wd)).map fun p=>(p,p+1))++((List.range (n-wd)).map fun p=>(p,p+wd)),j+3,_,O1,?_,by omega,n0,nm,?_⟩
    ·have e:((((List.range n).filter (zfZ wd)).map fun p=>pW (p,p+1))++(List.range (n-wd)).map fun p=>pW (p,p+wd))=((((List.range n).filter (zfZ wd)).map fun p=>(p,p+1))++((List.range (n-wd)).map fun p=>(p,p+wd))).map pW:=by rw[List.map_append,List.map_map,List.map_map];rfl
     rw[e]
     simp only[zeT,zb7,zfM,zfN,Option.map_some]
    ·constructor
     ·rw[List.nodup_append]
      refine⟨nodup_map_inj (List.Pairwise.filter _ List.nodup_range) (fun x y h=>by simpa using congrArg Prod.fst h),nodup_map_inj List.nodup_range (fun x y h=>by simpa using congrArg Prod.fst h),?_⟩
      intro a ha c hc e
      subst e
      obtain⟨x,hx,rfl⟩:=List.mem_map.mp ha
      obtain⟨y,hy,e⟩:=List.mem_map.mp hc
      have hx':=of_decide_eq_true (List.mem_filter.mp hx).2
      injection e with e1 e2
      subst e1
      have:wd=1:=by omega
      subst this
      omega
     ·intro p hp
      rcases List.mem_append.mp hp with hp|hp
      ·obtain⟨x,hx,rfl⟩:=List.mem_map.mp hp
       obtain⟨hx1,hx2⟩:=List.mem_filter.mp hx
       have hx1:=List.mem_range.mp hx1
       have hx2:=of_decide_eq_true hx2
       refine⟨by simp,?_⟩
       show x+1<n
       have hxw:x % wd<wd-1:=by omega
       have h3:x / wd<hg:=by
        apply Nat.div_lt_of_lt_mul
        rw[hn];exact hx1
       have h4:=Nat.div_add_mod x wd
       have h5:wd*(x / wd)+wd<=n:=by
        rw[<- hn,<- Nat.mul_succ]
        exact Nat.mul_le_mul_left wd h3
       omega
      ·obtain⟨x,hx,rfl⟩:=List.mem_map.mp hp
       have hx:=List.mem_range.mp hx
       exact⟨by show x<x+wd;omega,by show x+wd<n;omega⟩
 ·refine za7 ?_
  obtain⟨v,v0,v4,e2⟩:=zbe fu (gs (j+1)) (by omega) (m:=most) (by omega)
  rw[ss] at e2
  obtain⟨n,hn⟩:∃n:Nat,1+v=n:=⟨(1+v).toNat,by omega⟩
  have a1:zdg (.int 1) (.int v)=some (nW n):=by rw[zdz rfl rfl,hn];rfl
  obtain⟨u,u0,u4,e3⟩:=zbe fu (gs (j+2)) (by omega) (m:=2147483647) (by omega)
  rw[ss] at e3
  refine zan (w:=nW n) (ce':=ce.set k (pen ns (j+2))) (by
   have e2':d__law_next fu [.cel k,nW most] (ce.set k (pen ns (j+1)))=some (.ok (.int v) (ce.set k (pen ns (j+2)))):=e2
   trivial) ?_
  refine zan (w:=.int u) (ce':=ce.set k (pen ns (j+3))) (by trivial) ?_
  refine zan (zes zat (Nat.zero_le _)) ?_
  have O0:=(Own.start (ce.set k (pen ns (j+3)))).alloc (C.lst [])
  generalize (ce.set k (pen ns (j+3))).length=k5 at O0 ⊢
  generalize (ce.set k (pen ns (j+3)))++[C.lst []]=c5 at O0 ⊢
  have n1000:n<=1000:=by omega
  have m1:∀x:Int,CMul x 48271:=fun x=>.inr (by omega)
  have m2:CMul 2 way:=.inl (by omega)
  refine zcm (zs:=List.range n) (en:=nW) (zet (by trivial) n1000)
   (fun d sl c=>∃ls u x7 x8,sl=[some (.cel k),some (nW most),some (.int way),none,some (nW n),some (.cel k5),some (.int u),x7,x8]/\Own (ce.set k (pen ns (j+3))) c [(k5,C.lst (ls.map pW))]/\0<=u/\u<2147483647/\ls.Nodup/\ls.length<=40*d.length/\∀p∈ls,p.1<p.2/\p.2<d.length)
   ⟨[],u,_,_,rfl,O0,u0,u4,by simp,by simp,by simp⟩ ?_ ?_
  ·rintro d p r sl c e hp ⟨ls,u,x7,x8,rfl,O,u0,u1,nd,hl,lt⟩
   have hp':p<n:=List.mem_range.mp hp
   have hd:=zhs e
   have hdl:d.length=p:=by rw[hd,List.length_range]
   have p1000:p<=1000:=by omega
   unfold zdn
   refine zbM (zs:=List.range p) (en:=nW) (zet (by trivial) p1000)
    (fun d' sl c=>∃ls u x8,sl=[some (.cel k),some (nW most),some (.int way),none,some (nW n),some (.cel k5),some (.int u),some (nW p),x8]/\Own (ce.set k (pen ns (j+3))) c [(k5,C.lst (ls.map pW))]/\0<=u/\u<2147483647/\ls.Nodup/\ls.length<=40*p+d'.length/\∀q∈ls,q.1<q.2/\(q.2<p\/(q.2=p/\q.1<d'.length)))
    ⟨ls,u,x8,rfl,O,u0,u1,nd,by simpa[hdl] using hl,fun q hq=>⟨(lt q hq).1,.inl (by have:=(lt q hq).2;omega)⟩⟩ ?_ ?_
   ·rintro d' q r' sl c e' hq ⟨ls,u,x8,rfl,O,u0,u1,nd,hl,lt⟩
    have hq':q<p:=List.mem_range.mp hq
    have hd':=zhs e'
    have hdl':d'.length=q:=by rw[hd',List.length_range]
    have g5:=O.g0
    have hm:(ls.map pW).length<PySem.sizeLine:=by rw[List.length_map];omega
    have z2:2<=PySem.sizeLine:=by decide
    unfold zdm
    refine zan (w:=.int ((u*48271+11) % 2147483647)) (ce':=c) (by trivial) ?_
    have key:∀(sl:Sl),((u*48271+11) % 2147483647≥0):=fun _=>by omega
    trivial
    ·refine⟨ls++[(q,p)],_,_,rfl,?_,by omega,by omega,?_,?_,fun x hx=>?_⟩
     ·rw[List.map_append];exact O.set0 _
     ·rw[List.nodup_append]
      refine⟨nd,by simp,fun a ha b hb=>?_⟩
      rw[List.mem_singleton] at hb
      subst hb
      intro e;subst e
      have:=(lt _ ha).2
      simp only at this
      omega
     ·simp only[List.length_append,List.length_cons,List.length_nil];omega
     ·rcases List.mem_append.mp hx with hx|hx
      ·refine⟨(lt x hx).1,?_⟩
       rcases(lt x hx).2 with h|h
       ·exact .inl h
       ·exact .inr ⟨h.1,by rw[List.length_append,List.length_cons,List.length_nil];omega⟩
      ·rw[List.mem_singleton] at hx
       subst hx
       exact⟨hq',.inr ⟨rfl,by show q<_;rw[List.length_append,List.length_cons,List.length_nil];omega⟩⟩
    ·refine⟨ls,_,_,rfl,O,by omega,by omega,nd,by simp only[List.length_append,List.length_cons,List.length_nil];omega,fun x hx=>⟨(lt x hx).1,?_⟩⟩
     rcases(lt x hx).2 with h|h
     ·exact .inl h
     ·exact .inr ⟨h.1,by rw[List.length_append,List.length_cons,List.length_nil];omega⟩
   ·rintro sl c ⟨ls,u,x8,rfl,O,u0,u1,nd,hl,lt⟩
    rw[List.length_range] at hl
    refine⟨ls,u,_,_,rfl,O,u0,u1,nd,by simp only[List.length_append,List.length_cons,List.length_nil];omega,fun x hx=>⟨(lt x hx).1,?_⟩⟩
    simp only[List.length_append,List.length_cons,List.length_nil]
    rcases(lt x hx).2 with h|h
    ·omega
    ·omega
  ·rintro sl c ⟨ls,u,x7,x8,rfl,O,u0,u1,nd,hl,lt⟩
   have z2:2<=PySem.sizeLine:=by decide
   refine zaA (zc5 (ws:=[nW n,.cel k5]) (c1:=c) (by trivial) z2) ?_
   refine⟨_,_,rfl,n,ls,j+3,_,O,?_,by omega,by omega,by omega,nd,fun p hp=>?_⟩
   ·have hk5:¬k5<ce.length:=by have:=O.ge _ List.mem_cons_self;rw[List.length_set] at this;omega
    have g5:=O.g0
    simp only[zeT,zb7,zfM,if_neg hk5,g5,zfN,Option.map_some]
   ·have:=lt p hp
    rw[List.length_range] at this
    exact this
def adj(ls:List (Nat×Nat))(i:Nat):List Nat:=ls.filterMap fun p=>if p.1=i then some p.2 else if p.2=i then some p.1 else none
theorem zhv{ls:List (Nat×Nat)}{n:Nat}(h:LsOk n ls){i j:Nat}:j∈adj ls i↔(i,j)∈ls\/(j,i)∈ls:=by
 unfold adj
 rw[List.mem_filterMap]
 constructor
 ·rintro⟨⟨a,b⟩,hp,e⟩
  simp only at e
  split at e
  ·cases e;rename_i h1;subst h1;exact .inl hp
  ·split at e
   ·cases e;simp_all
   ·cases e
 ·rintro(hp|hp)
  ·exact⟨(i,j),hp,by simp⟩
  ·have:=(h.lt _ hp).1
   simp only at this
   refine⟨(j,i),hp,?_⟩
   simp only
   rw[if_neg (by omega)]
   simp
theorem zkw{ls:List (Nat×Nat)}{n:Nat}(h:LsOk n ls)(i:Nat):(adj ls i).Nodup:=by
 unfold adj
 refine List.Pairwise.filterMap _ ?_ (List.Pairwise.and_mem.mp h.nd)
 rintro⟨a,b⟩ ⟨c,d⟩ ⟨h1,h2,hne⟩ x hx y hy e
 subst e
 have l1:=(h.lt _ h1).1
 have l2:=(h.lt _ h2).1
 simp only at hx hy l1 l2
 apply hne
 split at hx<;>split at hy
 ·cases hx;cases hy;simp_all
 ·split at hy
  ·cases hx;cases hy;simp_all;omega
  ·cases hy
 ·split at hx
  ·cases hx;cases hy;simp_all;omega
  ·cases hx
 ·split at hx
  ·split at hy
   ·cases hx;cases hy;simp_all
   ·cases hy
  ·cases hx
theorem zgI{ls:List (Nat×Nat)}{n:Nat}(h:LsOk n ls){i j:Nat}(hj:j∈adj ls i):j<n/\i<n:=by
 rcases(zhv h).mp hj with hp|hp<;>(have:=h.lt _ hp;simp only at this;omega)
def bdOf(n:Nat)(ls:List (Nat×Nat)):List (List Nat):=(List.range n).map fun i=>zcj (adj ls i)
theorem zf0(n:Nat)(ls:List (Nat×Nat))(i:Nat):(bdOf n ls).getD i []=if i<n then zcj (adj ls i) else []:=by
 unfold bdOf
 rw[List.getD_eq_getElem?_getD,List.getElem?_map]
 by_cases h:i<n
 ·simp[h]
 ·rw[List.getElem?_eq_none (by simp;omega)];simp[h]
structure Brd (b:List (List Nat)):Prop where
 bd:Bd b
 sym:Sym b
 h36:b.length<=36
 pos:0<b.length
 row:∀i,(b.getD i []).length<=36
 srt:∀i,zcj (b.getD i [])=b.getD i []
theorem ziR{l m:List Nat}(h:l.Perm m):zcj l=zcj m:=by unfold zcj;rw[zjY h]
theorem zkx(l:List Nat):(zcj l).Perm l:=by
 have h:(zcj l).Perm ((toI l).map Int.toNat):=(zbq (toI l)).map _
 have e:(toI l).map Int.toNat=l:=by
  unfold toI
  rw[List.map_map]
  conv=>rhs;rw[<- List.map_id l]
  apply List.map_congr_left
  intro x _
  simp
 rwa [e] at h
theorem zgJ(l:List Nat):zcj (zcj l)=zcj l:=ziR (zkx l)
theorem znQ{n:Nat}{ls:List (Nat×Nat)}(h:LsOk n ls)(h0:0<n)(h36:n<=36):Brd (bdOf n ls):=by
 have hl:(bdOf n ls).length=n:=by simp[bdOf]
 refine⟨fun r hr x hx=>?_,fun i j hj=>?_,by omega,by omega,fun i=>?_,fun i=>?_⟩
 ·obtain⟨i,hi,rfl⟩:=List.mem_map.mp hr
  rw[hl]
  exact(zgI h ((zcP _ _).mp hx)).1
 ·rw[zf0] at hj ⊢
  split at hj
  ·have hj:=(zcP _ _).mp hj
   rw[if_pos (zgI h hj).1]
   exact(zcP _ _).mpr ((zhv h).mpr ((zhv h).mp hj).symm)
  ·simp at hj
 ·rw[zf0]
  split
  ·rw[zcn]
   exact Nat.le_trans (zaO (zkw h i) fun x hx=>(zgI h hx).1) h36
  ·simp
 ·rw[zf0]
  split
  ·exact zgJ _
  ·exact List.length_eq_zero_iff.mp (zcn [])
theorem znR(d:List (Nat×Nat))(p q i:Nat)(hpq:p≠q):adj (d++[(p,q)]) i=adj d i++((if i=p then [q] else [])++(if i=q then [p] else [])):=by
 unfold adj
 rw[List.filterMap_append]
 congr 1
 by_cases h1:i=p
 ·subst h1
  have:¬i=q:=hpq
  simp[this]
 ·by_cases h2:i=q
  ·subst h2
   simp[h1,hpq]
  ·have h1':¬p=i:=fun e=>h1 e.symm
   have h2':¬q=i:=fun e=>h2 e.symm
   simp[h1,h2,h1',h2']
theorem zlO(n:Nat)(d:List (Nat×Nat)){p q:Nat}(hp:p<n)(hq:q<n)(hpq:p≠q):zp3 ((List.range n).map (adj d)) p q=(List.range n).map (adj (d++[(p,q)])):=by
 have gd:∀(e:List (Nat×Nat)) (i:Nat),i<n->((List.range n).map (adj e)).getD i []=adj e i:=fun e i hi=>by simp[List.getD_eq_getElem?_getD,hi]
 apply List.ext_getElem?
 intro i
 by_cases hi:i<n
 ·have e1:∀(l:List (List Nat)),l.length=n->l[i]?=some (l.getD i []):=fun l hl=>by
   rw[List.getD_eq_getElem?_getD,List.getElem?_eq_getElem (by omega)];rfl
  rw[e1 _ (by rw[zii];simp),e1 _ (by simp),gd _ i hi,znR d p q i hpq]
  unfold zp3
  rw[zfY (by rw[zhr];simpa using hq),zfY (by simpa using hp),zfY (by simpa using hp),gd _ _ hp,gd _ _ hq,gd _ _ hi]
  congr 1
  by_cases h1:i=q
  ·subst h1
   rw[if_pos rfl,if_neg (Ne.symm hpq),if_pos rfl,if_neg (Ne.symm hpq)]
   simp
  ·rw[if_neg h1,if_neg h1]
   by_cases h2:i=p
   ·subst h2;simp
   ·simp[h2]
 ·rw[List.getElem?_eq_none (by rw[zii];simp;omega),List.getElem?_eq_none (by simp;omega)]
theorem zlP(fu:Nat){ce:Ce}{k:Nat}{ns:List Int}{j:Nat}(g:ce[k]?=some (pen ns j))(hj:j<=9000){most:Nat}(h1:0<most)(h36:most<=36) :
  ∃b j',d__law_board fu [.cel k,nW most] ce=some (.ok (wB b) (ce.set k (pen ns j')))/\j'<=j+5/\b.length<=most/\Brd b:=by
 have hz:=sl36
 obtain⟨n,ls,j',e1,hj',n0,nm,L⟩:=zlN fu g hj h1 h36
 generalize hb:ce.set k (pen ns j')=b' at e1
 refine⟨bdOf n ls,j',?_,hj',by simpa[bdOf] using nm,znQ L n0 (by omega)⟩
 rw[hb]
 unfold d__law_board
 refine zbA [some (.cel k),some (nW most),none,none,none,none,none] rfl ?_
 refine zia (x:=nW n) (y:=.lst (ls.map pW)) (c1:=b') (by trivial) ?_
 refine zan (zlM (ce:=b') (n:=n) (zj7 (by trivial) (by omega)) (by omega)) ?_
 refine zlE (zs:=ls) (fa:=fun p=>nW p.1) (fb:=fun p=>nW p.2) (c1:=bC b' (List.replicate n []) []) (zd0 (by trivial))
  (fun d sl c=>∃x5 x6,sl=[some (.cel k),some (nW most),some (nW n),some (.lst (ls.map pW)),some (zkP b' n),x5,x6]/\c=bC b' ((List.range n).map (adj d)) [])
  ⟨_,_,rfl,by
   congr 2
   apply List.ext_getElem?
   intro i
   by_cases hi:i<n
   ·simp[hi,adj]
   ·rw[List.getElem?_eq_none (by simp;omega),List.getElem?_eq_none (by simp;omega)]⟩ ?_ ?_
 ·rintro d ⟨p,q⟩ r sl c e hp ⟨x5,x6,rfl,rfl⟩
  have lt:=L.lt _ hp
  simp only at lt
  have Ld:LsOk n d:=by
   rw[<- e] at L
   exact⟨(List.nodup_append.mp L.nd).1,fun x hx=>L.lt x (List.mem_append_left _ hx)⟩
  have hz2:∀i,(((List.range n).map (adj d)).getD i []).length<1000:=fun i=>by
   by_cases hi:i<n
   ·have:((List.range n).map (adj d)).getD i []=adj d i:=by simp[List.getD_eq_getElem?_getD,hi]
    rw[this]
    have:=zaO (zkw Ld i) fun x hx=>(zgI Ld hx).1
    omega
   ·rw[List.getD_eq_getElem?_getD,List.getElem?_eq_none (by simp;omega)];simp
  unfold zdo
  refine zpq (ap2 (ce:=b') (n:=n) (rows:=(List.range n).map (adj d)) (gs:=[]) (sl:=[some (.cel k),some (nW most),some (nW n),some (.lst (ls.map pW)),some (zkP b' n),some (nW p),some (nW q)]) (a:=5) (b:=6) (p:=p) (q:=q) rfl rfl rfl (by simp) (by omega) (by omega) hz2) ?_
  exact⟨_,_,rfl,by rw[zlO n d (by omega) (by omega) (by omega)]⟩
 ·rintro sl c ⟨x5,x6,rfl,rfl⟩
  have hb60:∀i,(((List.range n).map (adj ls)).getD i []).length<=60:=fun i=>by
   by_cases hi:i<n
   ·have:((List.range n).map (adj ls)).getD i []=adj ls i:=by simp[List.getD_eq_getElem?_getD,hi]
    rw[this]
    have:=zaO (zkw L i) fun x hx=>(zgI L hx).1
    omega
   ·rw[List.getD_eq_getElem?_getD,List.getElem?_eq_none (by simp;omega)];simp
  have er:=zgG (ce:=b') (gs:=[]) (rows:=(List.range n).map (adj ls)) (n:=n) (by simp) (by omega) hb60 (sl:=[some (.cel k),some (nW most),some (nW n),some (.lst (ls.map pW)),some (zkP b' n),x5,x6]) rfl
  have eb:((List.range n).map fun i=>zcj (((List.range n).map (adj ls)).getD i []))=bdOf n ls:=by
   unfold bdOf
   apply List.map_congr_left
   intro i hi
   have hi:=List.mem_range.mp hi
   simp[List.getD_eq_getElem?_getD,hi]
  rw[eb] at er
  have hlb:(bdOf n ls).length<=PySem.sizeLine:=by simp[bdOf];omega
  refine zaA (zbL (zak er zat) (znD hlb)) ?_
  have Oe:Own b' (bC b' ((List.range n).map (adj ls)) []) []:=⟨⟨_,rfl⟩,by simp,by simp,by simp⟩
  refine Oe.finC' ?_ (bel_wB _ _)
  rw[<- hb]
  exact(Chg.refl ce).set k (zcH _ _ _)
section
variable {b:List (List Nat)} {mk:W} {vl:Nat->Int} {s:Nat} {ce:Ce}
def Mk(b:List (List Nat))(mk:W)(vl:Nat->Int):Prop:=∀(ce:Ce) (x y:Nat),x<b.length->y<b.length->∃wx wy,ixW ce mk (nW x)=some wx/\ixW ce mk (nW y)=some wy/\eqW false ce wx wy=some (.bl (decide (vl x=vl y)))
theorem zs9{is:List Int}(h:is.length=b.length):Mk b (wS is) (fun x=>is.getD x 0):=fun ce x y hx hy=>⟨_,_,zdK (by omega),zdK (by omega),eqI0⟩
theorem zhw(fu:Nat)(hfu:200<=fu)(hm:Mk b mk vl)(hb:Bd b)(h36:b.length<=36)(hs:s<b.length) :
  d_patch_of fu [wB b,mk,nW s] ce=some (.ok (.cel ce.length) (ce++[.lst ((cpt b vl s).map nW)])):=by
 have hz:=sl36
 unfold d_patch_of
 refine zbA [some (wB b),some mk,some (nW s),none,none,none,none] rfl ?_
 trivial
 have O0:=((Own.start ce).alloc (C.dct (kvs [s]))).alloc (C.lst ([s].map nW))
 refine(?_:Run _ _ ((ce++[C.dct (kvs [s])])++[C.lst ([s].map nW)]) _)
 generalize h4:(ce++[C.dct (kvs [s])]).length=k4 at O0
 have h4':∀x:Key×W,(ce++[C.dct [x]]).length=k4:=fun x=>by rw[<- h4];simp
 rw[h4']
 generalize h3:ce.length=k3 at O0 ⊢
 generalize (ce++[C.dct (kvs [s])])++[C.lst ([s].map nW)]=c0 at O0 ⊢
 refine zeu (σ:=List Nat×List Nat) (fun st sl c=>∃x5 x6,sl=[some (wB b),some mk,some (nW s),some (.cel k3),some (.cel k4),x5,x6]/\Own ce c [(k4,C.lst (st.2.map nW)),(k3,C.dct (kvs st.1))]/\st.1.Nodup/\s∈st.1/\(∀x∈st.1,x<b.length)/\(∀x∈st.2,x∈st.1)/\st.2.length<=st.1.length/\(∀x∈st.1,Reach b (okV vl s) s x)/\∀x∈st.1,x∉st.2->∀y∈b.getD x [],okV vl s y->y∈st.1)
  (fun st=>st.2.length+2*(36-st.1.length)) ([s],[s]) ⟨_,_,rfl,O0,by simp,by simp,by simpa using hs,by simp,by simp,by simpa using Reach.refl,by simp⟩ (by show [s].length+2*(36-[s].length)<fu;simp;omega) ?_
 rintro⟨F,Wt⟩ sl c ⟨x5,x6,rfl,O,nd,hsF,lt,sub,hW,re,cl⟩
 have g4:=O.g0
 have g3:=O.g1
 dsimp only at g4 g3 O nd hsF lt sub hW re cl
 have hF36:F.length<=36:=Nat.le_trans (zaO nd lt) h36
 refine⟨!(Wt.map nW).isEmpty,by trivial,fun q=>?_,fun q=>?_⟩
 ·rcases List.eq_nil_or_concat Wt with rfl|⟨W0,p,hWt⟩
  ·simp at q
  ·rw[List.concat_eq_append] at hWt
   subst hWt
   have hpF:p∈F:=sub p (by simp)
   have hp:=lt p hpF
   have pp:=zmr (ys:=W0.map nW) (y:=nW p) g4 (by simp)
   have O1:=O.set0 (C.lst (W0.map nW))
   generalize c.set k4 (C.lst (W0.map nW))=c1 at O1 pp
   unfold zeA
   trivial
   refine zbM (zs:=b.getD p []) (en:=nW) (zgt (by trivial)) (fun d sl c=>∃new x6,sl=[some (wB b),some mk,some (nW s),some (.cel k3),some (.cel k4),some (nW p),x6]/\Own ce c [(k4,C.lst ((W0++new).map nW)),(k3,C.dct (kvs (F++new)))]/\(F++new).Nodup/\(∀x∈new,x∈b.getD p []/\okV vl s x)/\∀x∈d,okV vl s x->x∈F++new)
    ⟨[],x6,rfl,by simpa using O1,by simpa using nd,by simp,by simp⟩ ?_ ?_
   ·rintro d y r sl c e hy ⟨new,x6,rfl,O,nd2,hnew,hd⟩
    have g4:=O.g0
    have g3:=O.g1
    have gd:=zgr g3
    have hy':=hb.get hy
    obtain⟨wx,wy,i1,i2,q1⟩:=hm c y s hy' hs
    have lt2:∀x∈F++new,x<b.length:=fun x hx=>by
     rcases List.mem_append.mp hx with hx|hx
     ·exact lt x hx
     ·exact hb.get (hnew x hx).1
    have hl2:=zaO nd2 lt2
    have hk:(kvs (F++new)).length<PySem.sizeLine:=by rw[zcc];omega
    have hw:((W0++new).map nW).length<PySem.sizeLine:=by
     rw[List.length_map,List.length_append]
     rw[List.length_append] at hl2
     simp only[List.length_append,List.length_cons,List.length_nil] at hW
     omega
    unfold zez
    refine zcq (p:=!decide (y∈F++new)&&decide (vl y=vl s)) (ce':=c) (by trivial) (fun q=>?_) (fun q=>?_)
    ·simp only[Bool.and_eq_true,Bool.not_eq_true',decide_eq_false_iff_not,decide_eq_true_eq] at q
     have O2:=O.set1 (C.dct (zg6 (kvs (F++new)) (.inl (y:Int)) (.bl true)))
     rw[zeo _ _ q.1] at O2
     have g4:=O2.g0
     have e1:C.dct (kvs (F++new++[y]))=C.dct (zg6 (kvs (F++new)) (.inl (y:Int)) (.bl true)):=by rw[zeo _ _ q.1]
     rw[e1] at g4
     trivial
     refine⟨new++[y],_,rfl,?_,?_,fun x hx=>?_,fun x hx o=>?_⟩
     ·have e2:(W0++(new++[y])).map nW=(W0++new).map nW++[nW y]:=by simp
      rw[<- e1,e2,<- List.append_assoc]
      exact O2.set0 _
     ·rw[<- List.append_assoc,List.nodup_append]
      exact⟨nd2,by simp,fun a ha c hc=>by rw[List.mem_singleton] at hc;subst hc;intro e;subst e;exact q.1 ha⟩
     ·rcases List.mem_append.mp hx with hx|hx
      ·exact hnew x hx
      ·rw[List.mem_singleton] at hx;subst hx;exact⟨hy,q.2⟩
     ·rw[<- List.append_assoc]
      rcases List.mem_append.mp hx with hx|hx
      ·exact List.mem_append_left _ (hd x hx o)
      ·rw[List.mem_singleton] at hx;subst hx;simp
    ·trivial
     refine⟨new,_,rfl,O,nd2,hnew,fun x hx o=>?_⟩
     rcases List.mem_append.mp hx with hx|hx
     ·exact hd x hx o
     ·rw[List.mem_singleton] at hx
      subst hx
      have o':vl x=vl s:=o
      simp only[o',decide_true,Bool.and_true,Bool.not_eq_false',decide_eq_true_eq] at q
      exact q
   ·rintro sl c ⟨new,x6,rfl,O,nd2,hnew,hd⟩
    have lt2:∀x∈F++new,x<b.length:=fun x hx=>by
     rcases List.mem_append.mp hx with hx|hx
     ·exact lt x hx
     ·exact hb.get (hnew x hx).1
    have hl2:=zaO nd2 lt2
    simp only[List.length_append] at hl2
    simp only[List.length_append,List.length_cons,List.length_nil] at hW
    refine⟨(F++new,W0++new),?_,_,_,rfl,O,nd2,List.mem_append_left _ hsF,lt2,fun x hx=>?_,?_,fun x hx=>?_,fun x hx hn y hy o=>?_⟩
    ·show(W0++new).length+2*(36-(F++new).length)<(W0++[p]).length+2*(36-F.length)
     simp only[List.length_append,List.length_cons,List.length_nil]
     omega
    ·rcases List.mem_append.mp hx with hx|hx
     ·exact List.mem_append_left _ (sub x (by simp[hx]))
     ·exact List.mem_append_right _ hx
    ·show(W0++new).length<=(F++new).length
     simp only[List.length_append]
     omega
    ·rcases List.mem_append.mp hx with hx|hx
     ·exact re x hx
     ·exact(re p hpF).step (hnew x hx).1 (hnew x hx).2
    ·rcases List.mem_append.mp hx with hx|hx
     ·by_cases hxp:x=p
      ·subst hxp;exact hd y hy o
      ·exact List.mem_append_left _ (cl x hx (fun q=>by rcases List.mem_append.mp q with q|q;exact hn (List.mem_append_left _ q);exact hxp (by simpa using q)) y hy o)
     ·exact absurd (List.mem_append_right _ hx) hn
 ·have hW0:Wt=[]:=by simpa using q
  subst hW0
  have comp:Comp b (okV vl s) s F:=⟨nd,hsF,lt,fun x hx y hy o=>cl x hx (by simp) y hy o,re⟩
  trivial
  ·rw[zd7 g3 (by omega),zhe (by rw[List.length_map,zcn];omega)]
  ·rw[zkf comp]
   subst h3
   exact(O.alloc _).finO (by simp only[zgm];exact bels_nW _ _)
theorem zp6(fu:Nat)(hfu:200<=fu)(hm:Mk b mk vl)(hb:Bd b)(h36:b.length<=36)(hs:s<b.length):zcL (d_patch_of fu) [wB b,mk,nW s] ce=some (.ok (wL (cpt b vl s)) ce) :=
 zem (zhw fu hfu hm hb h36 hs) (bels_nW _ _)
end
section
variable {b:List (List Nat)} {mk:W} {vl:Nat->Int} {s:Nat} {ce:Ce}
theorem ziS(fu:Nat)(hfu:200<=fu)(hm:Mk b mk vl)(hb:Bd b)(sym:Sym b)(h36:b.length<=36) :
  d_patches fu [wB b,mk] ce=some (.ok (.cel ce.length) (ce++[.lst ((ptc b vl).map wL)])):=by
 have hz:=sl36
 unfold d_patches
 refine zbA [some (wB b),some mk,none,none,none,none,none] rfl ?_
 trivial
 have O0:=((Own.start ce).alloc (C.dct (kvs []))).alloc (C.lst [])
 refine(?_:Run _ _ ((ce++[C.dct (kvs [])])++[C.lst []]) _)
 generalize h3:(ce++[C.dct []]).length=k3
 have h3':(ce++[C.dct (kvs [])]).length=k3:=h3
 rw[h3'] at O0
 generalize h2:ce.length=k2 at O0 ⊢
 generalize (ce++[C.dct (kvs [])])++[C.lst []]=c0 at O0 ⊢
 have hl':b.length<=1000:=by omega
 refine zcm (zs:=List.range b.length) (en:=nW) (zet (by trivial) hl')
  (fun d sl c=>∃S x4 x5 x6,sl=[some (wB b),some mk,some (.cel k2),some (.cel k3),x4,x5,x6]/\Own ce c [(k3,C.lst (((d.filter (zbb b vl)).map (cpt b vl)).map wL)),(k2,C.dct (kvs S))]/\S.Nodup/\(∀x∈S,x<b.length)/\∀x,x∈S↔∃y∈d,x∈cpt b vl y)
  ⟨[],_,_,_,rfl,O0,by simp,by simp,by simp⟩ ?_ ?_
 ·rintro d p r sl c e hp ⟨S,x4,x5,x6,rfl,O,nd,lt,mem⟩
  have hp':p<b.length:=List.mem_range.mp hp
  have hd:=zhs e
  have g3:=O.g0
  have g2:=O.g1
  have key:p∈S↔¬zbb b vl p=true:=by
   rw[mem]
   constructor
   ·rintro⟨y,hy,hpy⟩ hl
    rw[hd] at hy
    have hy':=List.mem_range.mp hy
    unfold zbb at hl
    rw[List.all_eq_true] at hl
    have:=of_decide_eq_true (hl y (zfL hb sym (by omega) hpy))
    omega
   ·intro hl
    unfold zbb at hl
    rw[List.all_eq_true] at hl
    obtain⟨y,hy⟩:=Classical.not_forall.mp hl
    obtain⟨hy,hn⟩:=Classical.not_imp.mp hy
    have hn':¬p<=y:=fun q=>hn (decide_eq_true q)
    exact⟨y,by rw[hd];exact List.mem_range.mpr (by omega),zfL hb sym hp' hy⟩
  unfold zff
  have hdl:d.length<b.length:=by have:=congrArg List.length e;simp at this;omega
  have hm3:(((d.filter (zbb b vl)).map (cpt b vl)).map wL).length<PySem.sizeLine:=by simp only[List.length_map];have:=List.length_filter_le (zbb b vl) d;omega
  have e1:=fun c=>zp6 (ce:=c) fu hfu hm hb h36 hp'
  have e1c:=e1 c
  trivial
  ·rename_i q
   have q':p∉S:=by simpa using q
   have hl:zbb b vl p=true:=Classical.byContradiction fun h=>q' (key.mpr h)
   have O1:=O.set0 (C.lst (((d.filter (zbb b vl)).map (cpt b vl)).map wL++[wL (cpt b vl p)]))
   generalize c.set k3 (C.lst (((d.filter (zbb b vl)).map (cpt b vl)).map wL++[wL (cpt b vl p)]))=c1 at O1 ⊢
   have ef:((d++[p]).filter (zbb b vl)).map (cpt b vl)=(d.filter (zbb b vl)).map (cpt b vl)++[cpt b vl p]:=by rw[List.filter_append,List.filter_cons_of_pos hl];simp
   refine zbM (zs:=cpt b vl p) (en:=nW) (zd0 (by trivial)) (fun d' sl c=>∃S' x6,sl=[some (wB b),some mk,some (.cel k2),some (.cel k3),some (nW p),some (wL (cpt b vl p)),x6]/\Own ce c [(k3,C.lst ((((d++[p]).filter (zbb b vl)).map (cpt b vl)).map wL)),(k2,C.dct (kvs S'))]/\S'.Nodup/\(∀x∈S',x<b.length)/\∀x,x∈S'↔x∈S\/x∈d')
    ⟨S,x6,rfl,by rw[ef,List.map_append];exact O1,nd,lt,by simp⟩ ?_ ?_
   ·rintro d' y r' sl c e' hy ⟨S',x6,rfl,O,nd',lt',mem'⟩
    have gd:=zgr O.g1
    have hS:=zaO nd' lt'
    have hk:(kvs S').length<PySem.sizeLine:=by rw[zcc];omega
    unfold zfe
    trivial
    refine⟨ins S' y,_,rfl,by rw[zhf];exact O.set1 _,zka nd',fun x hx=>?_,fun x=>?_⟩
    ·rcases ins_mem.mp hx with hx|rfl
     ·exact lt' x hx
     ·exact zdL hy
    ·rw[ins_mem,mem',List.mem_append,List.mem_singleton,or_assoc]
   ·rintro sl c ⟨S',x6,rfl,O,nd',lt',mem'⟩
    refine⟨S',_,_,_,rfl,O,nd',lt',fun x=>?_⟩
    rw[mem',mem]
    constructor
    ·rintro(⟨y,hy,h⟩|h)
     ·exact⟨y,List.mem_append_left _ hy,h⟩
     ·exact⟨p,by simp,h⟩
    ·rintro⟨y,hy,h⟩
     rcases List.mem_append.mp hy with hy|hy
     ·exact .inl ⟨y,hy,h⟩
     ·rw[List.mem_singleton] at hy;subst hy;exact .inr h
  ·rename_i q
   have q':p∈S:=by simpa using q
   have hl:¬zbb b vl p=true:=key.mp q'
   refine⟨S,_,_,_,rfl,?_,nd,lt,fun x=>?_⟩
   ·rw[List.filter_append,List.filter_cons_of_neg hl,List.filter_nil,List.append_nil];exact O
   ·rw[mem]
    constructor
    ·rintro⟨y,hy,h⟩
     exact⟨y,List.mem_append_left _ hy,h⟩
    ·rintro⟨y,hy,h⟩
     rcases List.mem_append.mp hy with hy|hy
     ·exact⟨y,hy,h⟩
     ·rw[List.mem_singleton] at hy
      subst hy
      obtain⟨z,hz,hyz⟩:=(mem y).mp q'
      have hz':z<b.length:=by rw[hd] at hz;have:=List.mem_range.mp hz;omega
      exact⟨z,hz,by rw[<- zgv hb sym hz' hyz];exact h⟩
 ·rintro sl c ⟨S,x4,x5,x6,rfl,O,nd,lt,mem⟩
  trivial
  subst h2
  exact O.finO (by simp only[zgm];exact bels_wL _ _)
theorem zmw(fu:Nat)(hfu:200<=fu)(hm:Mk b mk vl)(hb:Bd b)(sym:Sym b)(h36:b.length<=36):zcL (d_patches fu) [wB b,mk] ce=some (.ok (.lst ((ptc b vl).map wL)) ce) :=
 zem (ziS fu hfu hm hb sym h36) (bels_wL _ _)
end
def zaX(b:List (List Nat))(row:List Nat):List Nat:=(List.range b.length).filter fun y=>row.any fun p=>decide (y∈b.getD p [])
section
variable {b:List (List Nat)} {b0 ce:Ce} {row:List Nat}
theorem zd1(fu:Nat)(hb:Bd b)(h36:b.length<=36){w1:W}(hw:LstOf ce w1 (row.map nW))(hr:∀p∈row,p<b.length) :
  d_points_beside fu [wB b,w1] ce=some (.ok (.cel ce.length) (ce++[.lst ((zaX b row).map nW)])):=by
 unfold d_points_beside
 have hz:=sl36
 refine zhI ?_
 simp only[List.map_cons,List.map_nil,List.cons_append,List.nil_append,List.length_cons,List.length_nil,List.replicate,Nat.reduceAdd,Nat.reduceSub]
 trivial
 have O0:=(Own.start ce).alloc (C.dct [])
 obtain⟨s,hs,hsi,_⟩:=hw.src
 have hst:∀{c1:Ce} {l:List (Nat×C)},Own ce c1 l->s.Stays c1:=by
  intro c1 l h
  obtain⟨t,rfl⟩:=h.cut
  cases hw with
  | fr=>simp only[zkM] at hs;cases hs;exact True.intro
  | cl g =>
   simp only[zkM,g] at hs
   cases hs
   show(ce++t)[_]?=_
   rw[List.getElem?_append_left (List.getElem?_eq_some_iff.mp g).1]
   exact g
 have hs':∀{c1:Ce} {l:List (Nat×C)},Own ce c1 l->zkM c1 w1=some s:=by
  intro c1 l h
  obtain⟨t,rfl⟩:=h.cut
  cases hw with
  | fr=>exact hs
  | cl g =>
   simp only[zkM,g] at hs ⊢
   rw[List.getElem?_append_left (List.getElem?_eq_some_iff.mp g).1,g]
   exact hs
 refine zj4 (xs:=row) (en:=nW) (src:=s) (ce0:=ce++[C.dct []]) (by trivial;exact hs' O0) hsi
  (fun d sl c=>∃F x3 x4,sl=[some (wB b),some w1,some (.cel ce.length),x3,x4]/\Own ce c [(ce.length,C.dct (kvs F))]/\F.Nodup/\(∀x∈F,x<b.length)/\∀x,x∈F↔∃p∈d,x∈b.getD p [])
  ⟨[],none,none,rfl,O0,by simp,by simp,by simp⟩ ?_ (fun sl c h=>by obtain⟨_,_,_,_,O,_⟩:=h;exact hst O) ?_
 ·rintro d p r sl c e hp ⟨F,x3,x4,rfl,O,nd,lt,mem⟩
  refine⟨hst O,?_⟩
  have hp':=hr p hp
  unfold zcs
  refine zbM (zs:=b.getD p []) (en:=nW) (zgt (by trivial))
   (fun d' sl c=>∃F x4,sl=[some (wB b),some w1,some (.cel ce.length),some (nW p),x4]/\Own ce c [(ce.length,C.dct (kvs F))]/\F.Nodup/\(∀x∈F,x<b.length)/\∀x,x∈F↔(∃p∈d,x∈b.getD p [])\/x∈d')
   ⟨F,x4,rfl,O,nd,lt,by simpa using mem⟩ ?_ ?_
  ·rintro d' y r' sl c e' hy ⟨F,x4,rfl,O,nd,lt,mem⟩
   unfold zcr
   have g:=zgr O.g0
   have hl:(kvs F).length<PySem.sizeLine:=by rw[zcc];have:=zaO nd lt;omega
   trivial
   refine⟨ins F y,some (nW y),rfl,?_,zka nd,fun x hx=>?_,fun x=>?_⟩
   ·rw[zhf];exact O.set0 _
   ·rcases ins_mem.mp hx with hx|rfl
    ·exact lt x hx
    ·exact hb.get hy
   ·rw[ins_mem,mem,List.mem_append,List.mem_singleton,or_assoc]
  ·rintro sl c ⟨F,x4,rfl,O,nd,lt,mem⟩
   refine⟨F,some (nW p),x4,rfl,O,nd,lt,fun x=>?_⟩
   rw[mem]
   constructor
   ·rintro(⟨q,hq,h⟩|h)
    ·exact⟨q,List.mem_append_left _ hq,h⟩
    ·exact⟨p,by simp,h⟩
   ·rintro⟨q,hq,h⟩
    rcases List.mem_append.mp hq with hq|hq
    ·exact .inl ⟨q,hq,h⟩
    ·rw[List.mem_singleton] at hq;subst hq;exact .inr h
 ·rintro sl c ⟨F,x3,x4,rfl,O,nd,lt,mem⟩
  have hl:=zaO nd lt
  have es:zcj F=zaX b row:=by
   rw[zfJ nd lt]
   unfold zaX
   apply List.filter_congr
   intro x _
   rw[Bool.eq_iff_iff]
   simp[mem]
  trivial
  ·rw[zd7 O.g0 (by omega),zhe (by rw[es,List.length_map];unfold zaX;have:=List.length_filter_le (fun y=>row.any fun p=>decide (y∈b.getD p [])) (List.range b.length);rw[List.length_range] at this;omega)]
  ·rw[es]
   exact((O.alloc _).finO (by simp only[zgm];exact bels_nW _ _))
end
def brs(b:List (List Nat))(is:List Int)(row:List Nat):List Nat:=(zaX b row).filter fun p=>decide (is.getD p 0=0)
section
variable {b:List (List Nat)} {ce:Ce} {row:List Nat} {is:List Int}
theorem zdD{y:Nat}(h:y∈zaX b row):y<b.length:=List.mem_range.mp (List.mem_filter.mp h).1
theorem zdc:(zaX b row).length<=b.length:=by
 have:=List.length_filter_le (fun y=>row.any fun p=>decide (y∈b.getD p [])) (List.range b.length)
 rw[List.length_range] at this
 exact this
theorem zmx(fu:Nat)(hb:Bd b)(h36:b.length<=36){w1:W}(hw:LstOf ce w1 (row.map nW))(hr:∀p∈row,p<b.length):zcL (d_points_beside fu) [wB b,w1] ce=some (.ok (wL (zaX b row)) ce) :=
 zem (zd1 fu hb h36 hw hr) (bels_nW _ _)
theorem ziT(fu:Nat)(hb:Bd b)(h36:b.length<=36)(hl:is.length=b.length){w1:W}(hw:LstOf ce w1 (row.map nW))(hr:∀p∈row,p<b.length) :
  d_breaths fu [wB b,wS is,w1] ce=some (.ok (.cel ce.length) (ce++[.lst ((brs b is row).map nW)])):=by
 unfold d_breaths
 have hz:=sl36
 have e1:=zmx fu hb h36 hw hr
 have h2:=zdc (b:=b) (row:=row)
 refine zbA [some (wB b),some (wS is),some w1] rfl ?_
 refine zaA (zsn (zs:=zaX b row) (en:=nW) (t:=fun p=>decide (is.getD p 0=0)) (by trivial) (by omega) (fun p hp=>?_)) ?_
 ·have:=zdD hp
  have hp':p<is.length:=by omega
  trivial
 ·exact(((Own.start ce).alloc _).finO (by simp only[zgm];exact bels_nW _ _))
end
open Classical in
def vT(T:List Nat):Nat->Int:=fun x=>if x∈T then 0 else 1
theorem zp7{T:List Nat}{x:Nat}(h:x∈T):vT T x=0:=if_pos h
theorem ziU{T:List Nat}{s y:Nat}(hs:s∈T):okV (vT T) s y↔y∈T:=by
 unfold okV
 rw[zp7 hs]
 constructor
 ·intro h
  by_cases hy:y∈T
  ·exact hy
  ·unfold vT at h;rw[if_neg hy] at h;omega
 ·exact zp7
section
variable {b:List (List Nat)} {T:List Nat} {s:Nat} {ce:Ce}
theorem znS(fu:Nat)(hfu:200<=fu)(hb:Bd b)(h36:b.length<=36)(hT:∀x∈T,x<b.length)(hs:s∈T) :
  d__law_come fu [wB b,nW s,wL T] ce=some (.ok (wL (cpt b (vT T) s)) ce):=by
 have hz:=sl36
 have hsb:=hT s hs
 unfold d__law_come
 refine zbA [some (wB b),some (nW s),some (wL T),none,none,none] rfl ?_
 trivial
 have O0:=((Own.start ce).alloc (C.dct (kvs [s]))).alloc (C.lst ([s].map nW))
 refine(?_:Run _ _ ((ce++[C.dct (kvs [s])])++[C.lst ([s].map nW)]) _)
 generalize h4:(ce++[C.dct (kvs [s])]).length=k4 at O0
 have h4':∀x:Key×W,(ce++[C.dct [x]]).length=k4:=fun x=>by rw[<- h4];simp
 rw[h4']
 generalize h3:ce.length=k3 at O0 ⊢
 generalize (ce++[C.dct (kvs [s])])++[C.lst ([s].map nW)]=c0 at O0 ⊢
 refine zeu (σ:=List Nat×List Nat) (fun st sl c=>∃x5,sl=[some (wB b),some (nW s),some (wL T),some (.cel k3),some (.cel k4),x5]/\Own ce c [(k4,C.lst (st.2.map nW)),(k3,C.dct (kvs st.1))]/\st.1.Nodup/\s∈st.1/\(∀x∈st.1,x<b.length)/\(∀x∈st.2,x∈st.1)/\st.2.length<=st.1.length/\(∀x∈st.1,Reach b (okV (vT T) s) s x)/\∀x∈st.1,x∉st.2->∀y∈b.getD x [],okV (vT T) s y->y∈st.1)
  (fun st=>st.2.length+2*(36-st.1.length)) ([s],[s]) ⟨_,rfl,O0,by simp,by simp,by simpa using hsb,by simp,by simp,by simpa using Reach.refl,by simp⟩ (by show [s].length+2*(36-[s].length)<fu;simp;omega) ?_
 rintro⟨F,Wt⟩ sl c ⟨x5,rfl,O,nd,hsF,lt,sub,hW,re,cl⟩
 have g4:=O.g0
 have g3:=O.g1
 dsimp only at g4 g3 O nd hsF lt sub hW re cl
 have hF36:F.length<=36:=Nat.le_trans (zaO nd lt) h36
 refine⟨decide ((0:Int)<(Wt.length:Int)),by trivial,fun q=>?_,fun q=>?_⟩
 ·rcases List.eq_nil_or_concat Wt with rfl|⟨W0,p,hWt⟩
  ·simp at q
  ·rw[List.concat_eq_append] at hWt
   subst hWt
   have hpF:p∈F:=sub p (by simp)
   have hp:=lt p hpF
   have pp:=zmr (ys:=W0.map nW) (y:=nW p) g4 (by simp)
   have O1:=O.set0 (C.lst (W0.map nW))
   generalize c.set k4 (C.lst (W0.map nW))=c1 at O1 pp
   unfold zdO
   refine zbM (zs:=b.getD p []) (en:=nW) (c1:=c1) (zgt (by trivial)) (fun d sl c=>∃new x5,sl=[some (wB b),some (nW s),some (wL T),some (.cel k3),some (.cel k4),x5]/\Own ce c [(k4,C.lst ((W0++new).map nW)),(k3,C.dct (kvs (F++new)))]/\(F++new).Nodup/\(∀x∈new,x∈b.getD p []/\okV (vT T) s x)/\∀x∈d,okV (vT T) s x->x∈F++new)
    ⟨[],x5,rfl,by simpa using O1,by simpa using nd,by simp,by simp⟩ ?_ ?_
   ·rintro d y r sl c e hy ⟨new,x5,rfl,O,nd2,hnew,hd⟩
    have g4:=O.g0
    have g3:=O.g1
    have gd:=zgr g3
    have hy':=hb.get hy
    have lt2:∀x∈F++new,x<b.length:=fun x hx=>by
     rcases List.mem_append.mp hx with hx|hx
     ·exact lt x hx
     ·exact hb.get (hnew x hx).1
    have hl2:=zaO nd2 lt2
    have hk:(kvs (F++new)).length<PySem.sizeLine:=by rw[zcc];omega
    have hw:((W0++new).map nW).length<PySem.sizeLine:=by
     rw[List.length_map,List.length_append]
     rw[List.length_append] at hl2
     simp only[List.length_append,List.length_cons,List.length_nil] at hW
     omega
    unfold zdN
    refine zcq (p:=decide (y∈T)&&!decide (y∈F++new)) (ce':=c) (by trivial) (fun q=>?_) (fun q=>?_)
    ·simp only[Bool.and_eq_true,Bool.not_eq_true',decide_eq_false_iff_not,decide_eq_true_eq] at q
     have O2:=O.set1 (C.dct (zg6 (kvs (F++new)) (.inl (y:Int)) (.bl true)))
     rw[zeo _ _ q.2] at O2
     have g4:=O2.g0
     have e1:C.dct (kvs (F++new++[y]))=C.dct (zg6 (kvs (F++new)) (.inl (y:Int)) (.bl true)):=by rw[zeo _ _ q.2]
     rw[e1] at g4
     trivial
     refine⟨new++[y],_,rfl,?_,?_,fun x hx=>?_,fun x hx o=>?_⟩
     ·have e2:(W0++(new++[y])).map nW=(W0++new).map nW++[nW y]:=by simp
      rw[<- e1,e2,<- List.append_assoc]
      exact O2.set0 _
     ·rw[<- List.append_assoc,List.nodup_append]
      exact⟨nd2,by simp,fun a ha c hc=>by rw[List.mem_singleton] at hc;subst hc;intro e;subst e;exact q.2 ha⟩
     ·rcases List.mem_append.mp hx with hx|hx
      ·exact hnew x hx
      ·rw[List.mem_singleton] at hx;subst hx;exact⟨hy,(ziU hs).mpr q.1⟩
     ·rw[<- List.append_assoc]
      rcases List.mem_append.mp hx with hx|hx
      ·exact List.mem_append_left _ (hd x hx o)
      ·rw[List.mem_singleton] at hx;subst hx;simp
    ·trivial
     refine⟨new,_,rfl,O,nd2,hnew,fun x hx o=>?_⟩
     rcases List.mem_append.mp hx with hx|hx
     ·exact hd x hx o
     ·rw[List.mem_singleton] at hx
      subst hx
      have o':=(ziU hs).mp o
      simp only[o',decide_true,Bool.true_and,Bool.not_eq_false',decide_eq_true_eq] at q
      exact q
   ·rintro sl c ⟨new,x5,rfl,O,nd2,hnew,hd⟩
    have lt2:∀x∈F++new,x<b.length:=fun x hx=>by
     rcases List.mem_append.mp hx with hx|hx
     ·exact lt x hx
     ·exact hb.get (hnew x hx).1
    have hl2:=zaO nd2 lt2
    simp only[List.length_append] at hl2
    simp only[List.length_append,List.length_cons,List.length_nil] at hW
    refine⟨(F++new,W0++new),?_,_,rfl,O,nd2,List.mem_append_left _ hsF,lt2,fun x hx=>?_,?_,fun x hx=>?_,fun x hx hn y hy o=>?_⟩
    ·show(W0++new).length+2*(36-(F++new).length)<(W0++[p]).length+2*(36-F.length)
     simp only[List.length_append,List.length_cons,List.length_nil]
     omega
    ·rcases List.mem_append.mp hx with hx|hx
     ·exact List.mem_append_left _ (sub x (by simp[hx]))
     ·exact List.mem_append_right _ hx
    ·show(W0++new).length<=(F++new).length
     simp only[List.length_append]
     omega
    ·rcases List.mem_append.mp hx with hx|hx
     ·exact re x hx
     ·exact(re p hpF).step (hnew x hx).1 (hnew x hx).2
    ·rcases List.mem_append.mp hx with hx|hx
     ·by_cases hxp:x=p
      ·subst hxp;exact hd y hy o
      ·exact List.mem_append_left _ (cl x hx (fun q=>by rcases List.mem_append.mp q with q|q;exact hn (List.mem_append_left _ q);exact hxp (by simpa using q)) y hy o)
     ·exact absurd (List.mem_append_right _ hx) hn
 ·have hW0:Wt=[]:=by
   have:=of_decide_eq_false q
   exact List.length_eq_zero_iff.mp (by omega)
  subst hW0
  have comp:Comp b (okV (vT T) s) s F:=⟨nd,hsF,lt,fun x hx y hy o=>cl x hx (by simp) y hy o,re⟩
  refine zaA (zbL (zak (by trivial) zat) (zd7 (mk:=zaT) g3 (by omega) |>.trans (zb6 (by rw[List.length_map,zcn];omega)))) ?_
  rw[zkf comp]
  subst h3
  exact O.finC (by simp only[Bel];exact bels_nW _ _)
def StOf(ce:Ce)(w:W)(is:List Int):Prop:=zeN ce w=some (is.map W.int)
theorem StOf.ix{w:W}{is:List Int}(h:StOf ce w is){p:Nat}(hp:p<is.length):ixW ce w (nW p)=some (.int (is.getD p 0)):=by
 rw[zeS h,List.getElem?_map,List.getD_eq_getElem?_getD,List.getElem?_eq_getElem hp];rfl
theorem zp8(is:List Int):StOf ce (wS is) is:=rfl
theorem zss{k:Nat}{is:List Int}(g:ce[k]?=some (.lst (is.map W.int))):StOf ce (.cel k) is:=zdI g
def thr(is H:List Int):List Nat:=(List.range is.length).filter fun p=>decide (is.getD p 0∈H)
def lpt(b:List (List Nat))(T:List Nat):List (List Nat):=(T.filter (zbb b (vT T))).map (cpt b (vT T))
theorem zp9{is H:List Int}{x:Nat}(h:x∈thr is H):x<is.length:=List.mem_range.mp (List.mem_filter.mp h).1
theorem zdE{is H:List Int}:(thr is H).length<=is.length:=by
 have:=List.length_filter_le (fun p=>decide (is.getD p 0∈H)) (List.range is.length)
 rw[List.length_range] at this
 exact this
theorem zeJ{b:List (List Nat)}{T:List Nat}:(lpt b T).length<=T.length:=by
 unfold lpt
 rw[List.length_map]
 exact List.length_filter_le _ _
theorem srt_pre{T d r:List Nat}{p:Nat}(h:T.Pairwise (·<·))(e:d++p::r=T){y:Nat}(hy:y∈T)(hlt:y<p):y∈d:=by
 subst e
 rcases List.mem_append.mp hy with h1|h1
 ·exact h1
 ·rcases List.mem_cons.mp h1 with h1|h1
  ·omega
  ·have:=(List.pairwise_cons.mp (List.pairwise_append.mp h).2.1).1 y h1
   omega
theorem zlQ{T d r:List Nat}{p:Nat}(h:T.Pairwise (·<·))(e:d++p::r=T){y:Nat}(hy:y∈d):y<p:=by
 subst e
 exact(List.pairwise_append.mp h).2.2 y hy p (by simp)
theorem zhx(fu:Nat)(hfu:200<=fu)(hb:Bd b)(sym:Sym b)(h36:b.length<=36){w:W}{is H:List Int}(hw:StOf ce w is)(hl:is.length=b.length) :
  d__law_patches fu [wB b,w,sW H] ce=some (.ok (.cel ce.length) (ce++[.lst ((lpt b (thr is H)).map wL)])):=by
 have hz:=sl36
 have hl':b.length<=1000:=by omega
 unfold d__law_patches
 refine zbA [some (wB b),some w,some (sW H),none,none,none] rfl ?_
 refine zan (zh5 (zs:=List.range b.length) (en:=nW) (t:=fun p=>decide (is.getD p 0∈H)) (zet (by trivial) hl').is (by simp;omega) (fun p hp=>?_)) ?_
 ·have hp':p<is.length:=by have:=List.mem_range.mp hp;omega
  have i1:=hw.ix hp'
  trivial
 have eT:(List.range b.length).filter (fun p=>decide (is.getD p 0∈H))=thr is H:=by unfold thr;rw[hl]
 rw[eT]
 have hT:∀x∈thr is H,x<b.length:=fun x hx=>by have:=zp9 hx;omega
 have srtT:(thr is H).Pairwise (·<·):=List.Pairwise.filter _ List.pairwise_lt_range
 have hTl:=zdE (is:=is) (H:=H)
 generalize thr is H=T at *
 refine zan (zes zat (Nat.zero_le _)) ?_
 have O0:=(Own.start ce).alloc (C.lst [])
 generalize h4:ce.length=k4 at O0 ⊢
 generalize (ce++[C.lst []])=c0 at O0 ⊢
 refine zcm (zs:=T) (en:=nW) (zd0 (by trivial))
  (fun d sl c=>∃x5,sl=[some (wB b),some w,some (sW H),some (wL T),some (.cel k4),x5]/\Own ce c [(k4,C.lst (((d.filter (zbb b (vT T))).map (cpt b (vT T))).map wL))])
  ⟨_,rfl,O0⟩ ?_ ?_
 ·rintro d p r sl c e hp ⟨x5,rfl,O⟩
  have hp':=hT p hp
  have g4:=O.g0
  have hdl:d.length<T.length:=by have:=congrArg List.length e;simp at this;omega
  have hdl2:((d.filter (zbb b (vT T))).map (cpt b (vT T))).length<=PySem.sizeLine:=by rw[List.length_map];have:=List.length_filter_le (zbb b (vT T)) d;omega
  have hm4:(((d.filter (zbb b (vT T))).map (cpt b (vT T))).map wL).length<PySem.sizeLine:=by rw[List.length_map,List.length_map];have:=List.length_filter_le (zbb b (vT T)) d;omega
  have e1:=znS (ce:=c) fu hfu hb h36 hT hp
  have key:(∃y∈d.filter (zbb b (vT T)),p∈cpt b (vT T) y)↔¬zbb b (vT T) p=true:=by
   constructor
   ·rintro⟨y,hy,hpy⟩ hlst
    have hyd:=(List.mem_filter.mp hy).1
    have hyp:=zlQ srtT e hyd
    have hyb:y<b.length:=hT y (by rw[<- e];exact List.mem_append_left _ hyd)
    unfold zbb at hlst
    rw[List.all_eq_true] at hlst
    have:=of_decide_eq_true (hlst y (zfL hb sym hyb hpy))
    omega
   ·intro hn
    obtain⟨m,h1,h2,h3⟩:=zdk (vl:=vT T) hb sym hp'
    have hmp:m≠p:=fun e=>by subst e;exact hn h2
    have hmT:m∈T:=(ziU hp).mp (cpt_val hb hp' h1)
    have hm':=hT m hmT
    have hpm:p∈cpt b (vT T) m:=by rw[h3];exact zb2 hb hp'
    have hlt:m<p:=by
     unfold zbb at h2
     rw[List.all_eq_true] at h2
     have:=of_decide_eq_true (h2 p hpm)
     omega
    exact⟨m,List.mem_filter.mpr ⟨srt_pre srtT e hmT hlt,h2⟩,hpm⟩
  unfold zcC
  refine zcq (p:=decide ((((d.filter (zbb b (vT T))).map (cpt b (vT T))).filter fun c=>decide (p∈c))=[])) (ce':=c) ?_ (fun q=>?_) (fun q=>?_)
  ·refine zfH (zaG (zh5 (zs:=(d.filter (zbb b (vT T))).map (cpt b (vT T))) (en:=wL) (t:=fun c=>decide (p∈c)) (zcl (by trivial) (.cl g4)) hdl2 (fun x hx=>?_)) (by trivial) (znF _))
   trivial
  ·have q':=of_decide_eq_true q
   have hl:zbb b (vT T) p=true:=by
    apply Classical.byContradiction
    intro hn
    obtain⟨y,hy,hpy⟩:=key.mpr hn
    have:cpt b (vT T) y∈(((d.filter (zbb b (vT T))).map (cpt b (vT T))).filter fun c=>decide (p∈c)):=List.mem_filter.mpr ⟨List.mem_map.mpr ⟨y,hy,rfl⟩,decide_eq_true hpy⟩
    rw[q'] at this
    simp at this
   trivial
   refine⟨_,rfl,?_⟩
   rw[List.filter_append,List.filter_cons_of_pos hl,List.map_append,List.map_append]
   exact O.set0 _
  ·have q':=of_decide_eq_false q
   have hl:¬zbb b (vT T) p=true:=by
    apply key.mp
    obtain⟨c,hc⟩:=List.exists_mem_of_ne_nil _ q'
    obtain⟨h1,h2⟩:=List.mem_filter.mp hc
    obtain⟨y,hy,rfl⟩:=List.mem_map.mp h1
    exact⟨y,hy,of_decide_eq_true h2⟩
   trivial
   refine⟨_,rfl,?_⟩
   rw[List.filter_append,List.filter_cons_of_neg hl,List.filter_nil,List.append_nil]
   exact O
 ·rintro sl c ⟨x5,rfl,O⟩
  trivial
  subst h4
  exact O.finO (by simp only[zgm];exact bels_wL _ _)
theorem zfl(fu:Nat)(hfu:200<=fu)(hb:Bd b)(sym:Sym b)(h36:b.length<=36){w:W}{is H:List Int}(hw:StOf ce w is)(hl:is.length=b.length) :
  zcL (d__law_patches fu) [wB b,w,sW H] ce=some (.ok (.lst ((lpt b (thr is H)).map wL)) ce):=zem (zhx fu hfu hb sym h36 hw hl) (bels_wL _ _)
end
theorem zqa{is:List Int}{n:Nat}{v:Int}(h02:∀i∈is,0<=i/\i<=2)(hv:0<=v/\v<=2):∀i∈is.set n v,0<=i/\i<=2:=fun i hi=>by
 rcases List.mem_or_eq_of_mem_set hi with h|rfl
 ·exact h02 i h
 ·exact hv
section
variable {b:List (List Nat)} {ce:Ce} {row:List Nat} {is:List Int}
theorem znT(fu:Nat)(hb:Bd b)(h36:b.length<=36)(hr:∀p∈row,p<b.length):d__law_edge fu [wB b,wL row] ce=some (.ok (wL (zaX b row)) ce):=by
 have hz:=sl36
 unfold d__law_edge
 refine zbA [some (wB b),some (wL row),none,none,none] rfl ?_
 trivial
 have O0:=(Own.start ce).alloc (C.dct (kvs []))
 refine(?_:Run _ _ (ce++[C.dct (kvs [])]) _)
 generalize h2:ce.length=k2 at O0 ⊢
 generalize (ce++[C.dct (kvs [])])=c0 at O0 ⊢
 refine zcm (zs:=row) (en:=nW) (zd0 (by trivial))
  (fun d sl c=>∃F x3 x4,sl=[some (wB b),some (wL row),some (.cel k2),x3,x4]/\Own ce c [(k2,C.dct (kvs F))]/\F.Nodup/\(∀x∈F,x<b.length)/\∀x,x∈F↔∃p∈d,x∈b.getD p [])
  ⟨[],none,none,rfl,O0,by simp,by simp,by simp⟩ ?_ ?_
 ·rintro d p r sl c e hp ⟨F,x3,x4,rfl,O,nd,lt,mem⟩
  have hp':=hr p hp
  unfold zdQ
  refine zbM (zs:=b.getD p []) (en:=nW) (zgt (by trivial))
   (fun d' sl c=>∃F x4,sl=[some (wB b),some (wL row),some (.cel k2),some (nW p),x4]/\Own ce c [(k2,C.dct (kvs F))]/\F.Nodup/\(∀x∈F,x<b.length)/\∀x,x∈F↔(∃p∈d,x∈b.getD p [])\/x∈d')
   ⟨F,x4,rfl,O,nd,lt,by simpa using mem⟩ ?_ ?_
  ·rintro d' y r' sl c e' hy ⟨F,x4,rfl,O,nd,lt,mem⟩
   unfold zdP
   have g:=zgr O.g0
   have hl:(kvs F).length<PySem.sizeLine:=by rw[zcc];have:=zaO nd lt;omega
   trivial
   refine⟨ins F y,some (nW y),rfl,?_,zka nd,fun x hx=>?_,fun x=>?_⟩
   ·rw[zhf];exact O.set0 _
   ·rcases ins_mem.mp hx with hx|rfl
    ·exact lt x hx
    ·exact hb.get hy
   ·rw[ins_mem,mem,List.mem_append,List.mem_singleton,or_assoc]
  ·rintro sl c ⟨F,x4,rfl,O,nd,lt,mem⟩
   refine⟨F,some (nW p),x4,rfl,O,nd,lt,fun x=>?_⟩
   rw[mem]
   constructor
   ·rintro(⟨q,hq,h⟩|h)
    ·exact⟨q,List.mem_append_left _ hq,h⟩
    ·exact⟨p,by simp,h⟩
   ·rintro⟨q,hq,h⟩
    rcases List.mem_append.mp hq with hq|hq
    ·exact .inl ⟨q,hq,h⟩
    ·rw[List.mem_singleton] at hq;subst hq;exact .inr h
 ·rintro sl c ⟨F,x3,x4,rfl,O,nd,lt,mem⟩
  have hl:=zaO nd lt
  have es:zcj F=zaX b row:=by
   rw[zfJ nd lt]
   unfold zaX
   apply List.filter_congr
   intro x _
   rw[Bool.eq_iff_iff]
   simp[mem]
  refine zaA (zbL (zak (by trivial) zat) (zd7 (mk:=zaT) O.g0 (by omega) |>.trans (zb6 (by rw[List.length_map,zcn];omega)))) ?_
  rw[es]
  exact O.finC (by simp only[Bel];exact bels_nW _ _)
theorem zhy(fu:Nat)(hb:Bd b)(h36:b.length<=36)(hl:is.length=b.length){w:W}(hw:StOf ce w is)(hr:∀p∈row,p<b.length):d__law_breaths fu [wB b,w,wL row] ce=some (.ok (wL (brs b is row)) ce):=by
 have hz:=sl36
 have e1:=znT (ce:=ce) fu hb h36 hr
 have h2:=zdc (b:=b) (row:=row)
 unfold d__law_breaths
 refine zbA [some (wB b),some w,some (wL row)] rfl ?_
 refine zaA (zh5 (zs:=zaX b row) (en:=nW) (t:=fun p=>decide (is.getD p 0=0)) (by trivial) (by omega) (fun p hp=>?_)) ?_
 ·have:=zdD hp
  have hp':=hw.ix (p:=p) (by omega)
  trivial
 ·exact zaF (by simp only[Bel];exact bels_nW _ _)
structure Less (is is':List Int):Prop where
 len:is'.length=is.length
 val:∀p,is'.getD p 0=is.getD p 0\/is'.getD p 0=0
theorem Less.refl(is:List Int):Less is is:=⟨rfl,fun _=>.inl rfl⟩
theorem zf1(is:List Int)(p q:Nat)(v:Int):(is.set p v).getD q 0=if p=q/\p<is.length then v else is.getD q 0:=by
 simp only[List.getD_eq_getElem?_getD,List.getElem?_set]
 by_cases h:p=q
 ·subst h
  by_cases h2:p<is.length
  ·simp[h2]
  ·simp[h2]
 ·simp[h]
theorem Less.set{is is':List Int}(h:Less is is')(p:Nat):Less is (is'.set p 0):=⟨by rw[List.length_set];exact h.len,fun q=>by
 rw[zf1]
 split
 ·exact .inr rfl
 ·exact h.val q⟩
theorem Less.mem{is is':List Int}(h:Less is is')(h02:∀i∈is,0<=i/\i<=2):∀i∈is',0<=i/\i<=2:=fun i hi=>by
 obtain⟨p,hp⟩:=List.getElem?_of_mem hi
 have hpl:=(List.getElem?_eq_some_iff.mp hp).1
 have e:is'.getD p 0=i:=by rw[List.getD_eq_getElem?_getD,hp];rfl
 rcases h.val p with q|q
 ·have hpl2:p<is.length:=by rw[<- h.len];exact hpl
  rw[e,List.getD_eq_getElem?_getD,List.getElem?_eq_getElem hpl2] at q
  have q:i=is[p]:=q
  rw[q]
  exact h02 _ (List.getElem_mem hpl2)
 ·rw[<- e,q];omega
theorem znU{T:List Nat}{c:List Nat}(h:c∈lpt b T):∀p∈c,p<b.length:=by
 obtain⟨s,_,rfl⟩:=List.mem_map.mp h
 exact fun p hp=>zdL hp
end
abbrev vS(is:List Int):Nat->Int:=fun x=>is.getD x 0
abbrev vH(is:List Int)(h:Int):Nat->Int:=fun x=>if is.getD x 0=h then 1 else 0
theorem zrP{is:List Int}{h:Int}{s y:Nat}(hs:is.getD s 0≠h):okV (vH is h) s y↔is.getD y 0≠h:=by
 unfold okV vH
 rw[if_neg hs]
 by_cases q:is.getD y 0=h
 ·rw[if_pos q];exact⟨fun e=>by omega,fun e=>absurd q e⟩
 ·rw[if_neg q];exact⟨fun _=>q,fun _=>rfl⟩
theorem zdr{b:List (List Nat)}{ok ok':Nat->Prop}{s:Nat}(h:∀x y,Reach b ok s x->Reach b ok' s x->y∈b.getD x []->ok y->ok' y){x:Nat}(r:Reach b ok s x):Reach b ok' s x:=by
 induction r with
 | refl=>exact .refl
 | step r hy o ih=>exact ih.step hy (h _ _ r ih hy o)
open Classical in
theorem znV{b:List (List Nat)}{vl vl':Nat->Int}{s:Nat}(e:∀y,Reach b (okV vl s) s y↔Reach b (okV vl' s) s y):cpt b vl s=cpt b vl' s:=by
 unfold cpt
 apply List.filter_congr
 intro y _
 rw[Bool.eq_iff_iff,decide_eq_true_eq,decide_eq_true_eq]
 exact e y
def zfm(b:List (List Nat))(is:List Int)(h:Int):Prop:=∀s,s<b.length->is.getD s 0=h->∃x y,Reach b (okV (vS is) s) s x/\y∈b.getD x []/\is.getD y 0=0
theorem zhz{b:List (List Nat)}{is:List Int}{r:List Nat}(hb:Bd b){y:Nat}:y∈brs b is r↔(∃x∈r,y∈b.getD x [])/\is.getD y 0=0:=by
 unfold brs zaX
 rw[List.mem_filter,List.mem_filter,List.mem_range,List.any_eq_true,decide_eq_true_eq]
 constructor
 ·rintro⟨⟨_,x,hx,q⟩,h0⟩
  exact⟨⟨x,hx,of_decide_eq_true q⟩,h0⟩
 ·rintro⟨⟨x,hx,q⟩,h0⟩
  exact⟨⟨hb.get q,x,hx,decide_eq_true q⟩,h0⟩
theorem zky{b:List (List Nat)}{r:List Nat}(hb:Bd b){y:Nat}:y∈zaX b r↔∃x∈r,y∈b.getD x []:=by
 unfold zaX
 rw[List.mem_filter,List.mem_range,List.any_eq_true]
 constructor
 ·rintro⟨_,x,hx,q⟩
  exact⟨x,hx,of_decide_eq_true q⟩
 ·rintro⟨x,hx,q⟩
  exact⟨hb.get q,x,hx,decide_eq_true q⟩
theorem znW{b:List (List Nat)}{is:List Int}{r:List Nat}(hb:Bd b):brs b is r=[]↔∀x∈r,∀y∈b.getD x [],is.getD y 0≠0:=by
 rw[List.eq_nil_iff_forall_not_mem]
 constructor
 ·intro h x hx y hy h0
  exact h y ((zhz hb).mpr ⟨⟨x,hx,hy⟩,h0⟩)
 ·intro h y hy
  obtain⟨⟨x,hx,hy⟩,h0⟩:=(zhz hb).mp hy
  exact h x hx y hy h0
structure Swp (b:List (List Nat)) (is:List Int) (h:Int) (d:List (List Nat)) (is':List Int) (D:List (List Nat)):Prop where
 len:is'.length=is.length
 sub:∀r∈D,r∈d
 zp:∀r∈D,∀q∈r,is'.getD q 0=0
 was:∀q,is'.getD q 0=is.getD q 0\/(is'.getD q 0=0/\∃r∈D,q∈r)
 fre:∀r∈d,r∈D\/∃x∈r,∃y∈b.getD x [],is'.getD y 0=0
 no:∀r∈D,∀x∈r,∀y∈b.getD x [],is.getD y 0≠0
theorem Swp.nil(b:List (List Nat))(is:List Int)(h:Int):Swp b is h [] is []:=⟨rfl,by simp,by simp,fun q=>.inl rfl,by simp,by simp⟩
theorem Swp.low{b:List (List Nat)}{is is':List Int}{h:Int}{d D:List (List Nat)}(S:Swp b is h d is' D){y:Nat}(h0:is.getD y 0=0):is'.getD y 0=0:=by
 rcases S.was y with q|q
 ·rw[q];exact h0
 ·exact q.1
theorem Swp.keep{b:List (List Nat)}{is is':List Int}{h:Int}{d D:List (List Nat)}(S:Swp b is h d is' D)(hb:Bd b){r:List Nat}(hr:brs b is' r≠[]):Swp b is h (d++[r]) is' D:=by
 refine⟨S.len,fun x hx=>List.mem_append_left _ (S.sub x hx),S.zp,S.was,fun x hx=>?_,S.no⟩
 rcases List.mem_append.mp hx with hx|hx
 ·exact S.fre x hx
 ·rw[List.mem_singleton] at hx
  subst hx
  obtain⟨y,hy⟩:=List.exists_mem_of_ne_nil _ hr
  obtain⟨⟨x,hx,hy⟩,h0⟩:=(zhz hb).mp hy
  exact .inr ⟨x,hx,y,hy,h0⟩
theorem Swp.zap{b:List (List Nat)}{is is' is'':List Int}{h:Int}{d D:List (List Nat)}(S:Swp b is h d is' D)(hb:Bd b){r:List Nat}(hr:brs b is' r=[])(hl:is''.length=is'.length)(h1:∀q∈r,is''.getD q 0=0)(h2:∀q,q∉r->is''.getD q 0=is'.getD q 0):Swp b is h (d++[r]) is'' (D++[r]):=by
 have low:∀y,is'.getD y 0=0->is''.getD y 0=0:=fun y h0=>by
  by_cases q:y∈r
  ·exact h1 y q
  ·rw[h2 y q];exact h0
 refine⟨hl.trans S.len,fun x hx=>?_,fun x hx q hq=>?_,fun q=>?_,fun x hx=>?_,fun x hx=>?_⟩
 ·rcases List.mem_append.mp hx with hx|hx
  ·exact List.mem_append_left _ (S.sub x hx)
  ·exact List.mem_append_right _ hx
 ·rcases List.mem_append.mp hx with hx|hx
  ·exact low q (S.zp x hx q hq)
  ·rw[List.mem_singleton] at hx;subst hx;exact h1 q hq
 ·by_cases hq:q∈r
  ·exact .inr ⟨h1 q hq,r,by simp,hq⟩
  ·rw[h2 q hq]
   rcases S.was q with e|⟨e,x,hx,hqx⟩
   ·exact .inl e
   ·exact .inr ⟨e,x,List.mem_append_left _ hx,hqx⟩
 ·rcases List.mem_append.mp hx with hx|hx
  ·rcases S.fre x hx with e|⟨u,hu,y,hy,h0⟩
   ·exact .inl (List.mem_append_left _ e)
   ·exact .inr ⟨u,hu,y,hy,low y h0⟩
  ·exact .inl (List.mem_append_right _ hx)
 ·rcases List.mem_append.mp hx with hx|hx
  ·exact S.no x hx
  ·rw[List.mem_singleton] at hx
   subst hx
   exact fun u hu y hy h0=>(znW hb).mp hr u hu y hy (S.low h0)
theorem thr_mem{is:List Int}{h:Int}{p:Nat}:p∈thr is [h]↔p<is.length/\is.getD p 0=h:=by
 unfold thr
 rw[List.mem_filter,List.mem_range,decide_eq_true_eq,List.mem_singleton]
theorem zqb{b:List (List Nat)}{T:List Nat}(hb:Bd b)(sym:Sym b)(hT:∀x∈T,x<b.length){s:Nat}(hs:s∈T):cpt b (vT T) s∈lpt b T:=by
 obtain⟨m,h1,h2,h3⟩:=zdk (vl:=vT T) hb sym (hT s hs)
 have hm:m∈T:=(ziU hs).mp (cpt_val hb (hT s hs) h1)
 exact List.mem_map.mpr ⟨m,List.mem_filter.mpr ⟨hm,h2⟩,h3⟩
theorem zmy{b:List (List Nat)}{T:List Nat}{c:List Nat}(h:c∈lpt b T):∃s∈T,c=cpt b (vT T) s:=by
 obtain⟨s,hs,rfl⟩:=List.mem_map.mp h
 exact⟨s,(List.mem_filter.mp hs).1,rfl⟩
theorem zkz{b:List (List Nat)}{is:List Int}(hb:Bd b)(hl:is.length=b.length){s:Nat}(hs:s<b.length):cpt b (vT (thr is [is.getD s 0])) s=cpt b (vS is) s:=by
 have hT:s∈thr is [is.getD s 0]:=thr_mem.mpr ⟨by omega,rfl⟩
 refine znV fun y=>⟨fun r=>zdr (fun x y _ _ _ o=>?_) r,fun r=>zdr (fun x y _ _ hy o=>?_) r⟩
 ·exact(thr_mem.mp ((ziU hT).mp o)).2
 ·exact(ziU hT).mpr (thr_mem.mpr ⟨by rw[hl];exact hb.get hy,o⟩)
section
variable {b:List (List Nat)} {is is':List Int} {h o:Int} {D:List (List Nat)}
theorem Swp.hand{d:List (List Nat)}(S:Swp b is h d is' D)(hb:Bd b)(hl:is.length=b.length)(hd:∀r∈d,r∈lpt b (thr is [h])){r:List Nat}(hr:r∈D){q:Nat}(hq:q∈r):is.getD q 0=h/\r=cpt b (vS is) q\/¬Sym b:=by
 by_cases sym:Sym b
 ·left
  obtain⟨s,hs,rfl⟩:=zmy (hd r (S.sub r hr))
  have hs':=thr_mem.mp hs
  have hsb:s<b.length:=by omega
  have e:=hs'.2
  subst e
  rw[zkz hb hl hsb] at hq ⊢
  exact⟨cpt_val hb hsb hq,(zgv hb sym hsb hq).symm⟩
 ·exact .inr sym
theorem Swp.hand'{d:List (List Nat)}(S:Swp b is h d is' D)(hb:Bd b)(sym:Sym b)(hl:is.length=b.length)(hd:∀r∈d,r∈lpt b (thr is [h])){r:List Nat}(hr:r∈D){q:Nat}(hq:q∈r):is.getD q 0=h/\r=cpt b (vS is) q:=(S.hand hb hl hd hr hq).resolve_right (fun n=>n sym)
theorem Swp.snd(S:Swp b is h (lpt b (thr is [h])) is' D)(hb:Bd b)(sym:Sym b)(hl:is.length=b.length)(h0:h≠0):zfm b is' h:=by
 intro s hs e
 have es:is.getD s 0=h:=by
  rcases S.was s with q|q
  ·rw[<- q];exact e
  ·exact absurd (e.symm.trans q.1) h0
 have hr:cpt b (vS is) s∈lpt b (thr is [h]):=by
  have:=zqb (T:=thr is [is.getD s 0]) hb sym (fun x hx=>by have:=(thr_mem.mp hx).1;omega) (thr_mem.mpr ⟨by omega,rfl⟩:s∈_)
  rwa [zkz hb hl hs,es] at this
 have nD:cpt b (vS is) s∉D:=fun hD=>h0 (by rw[<- e];exact S.zp _ hD s (zb2 hb hs))
 rcases S.fre _ hr with q|⟨x,hx,y,hy,hy0⟩
 ·exact absurd q nD
 ·refine⟨x,y,?_,hy,hy0⟩
  refine zdr (fun u z ru _ hz oz=>?_) ((zev hb hs).mp hx)
  have hzr:z∈cpt b (vS is) s:=(zev hb hs).mpr (ru.step hz oz)
  show is'.getD z 0=is'.getD s 0
  rw[e]
  rcases S.was z with q|⟨_,r,hrD,hzr2⟩
  ·rw[q];exact oz.trans es
  ·obtain⟨_,er⟩:=S.hand' hb sym hl (fun r hr=>hr) hrD hzr2
   rw[er,zgv hb sym hs hzr] at hrD
   exact absurd hrD nD
theorem Swp.other(S:Swp b is h (lpt b (thr is [h])) is' D)(hb:Bd b)(sym:Sym b)(hl:is.length=b.length)(ho:o≠h)(o0:o≠0)(N:zfm b is o):zfm b is' o:=by
 intro s hs e
 have st:∀z,is.getD z 0=o->is'.getD z 0=o:=fun z hz=>by
  rcases S.was z with q|⟨_,r,hrD,hzr2⟩
  ·rw[q];exact hz
  ·exact absurd (hz.symm.trans (S.hand' hb sym hl (fun r hr=>hr) hrD hzr2).1) ho
 have es:is.getD s 0=o:=by
  rcases S.was s with q|q
  ·rw[<- q];exact e
  ·exact absurd (e.symm.trans q.1) o0
 obtain⟨x,y,r,hy,hy0⟩:=N s hs es
 refine⟨x,y,zdr (fun u z _ _ _ oz=>?_) r,hy,S.low hy0⟩
 show is'.getD z 0=is'.getD s 0
 rw[e]
 exact st z (oz.trans es)
structure Pap (b:List (List Nat)) (is:List Int) (h:Int) (R C:List (List Nat)):Prop where
 row:∀r∈R,∃s,s<b.length/\is.getD s 0=h/\r=cpt b (vS is) s
 cl:∀c∈C,∃s,s<b.length/\is.getD s 0≠h/\c=cpt b (vH is h) s
 firm:∀r∈R,∃c1∈C,∃c2∈C,c1≠c2/\(∀p∈c1,is.getD p 0=0->p∈brs b is r)/\∀p∈c2,is.getD p 0=0->p∈brs b is r
 wall:∀c∈C,∀x∈c,∀y∈b.getD x [],is.getD y 0=h->∃r∈R,y∈r
structure LaidOk (b:List (List Nat)) (is:List Int) (h o:Int) (p:Nat) (is':List Int) (D:List (List Nat)):Prop where
 hl:is.length=b.length
 hp:p<b.length
 p0:is.getD p 0=0
 sw:Swp b (is.set p o) h (lpt b (thr (is.set p o) [h])) is' D
 br:∃x y,Reach b (okV (vS is') p) p x/\y∈b.getD x []/\is'.getD y 0=0
structure Hands (h o:Int):Prop where
 h0:h≠0
 o0:o≠0
 ho:o≠h
end
section
variable {b:List (List Nat)} {ce:Ce} {row:List Nat} {is:List Int}
theorem zfn(fu:Nat)(hfu:200<=fu)(B:Brd b){kf:Nat}(g:ce[kf]?=some (.lst (is.map W.int)))(hl:is.length=b.length) :
  ∃is',(Less is is'/\zfm b is' 1/\zfm b is' 2)/\d__law_cleaned fu [wB b,.cel kf] ce=some (.ok (wS is') (ce.set kf (.lst (is'.map W.int)))):=by
 have hz:=sl36
 have h36:=B.h36
 have hk:kf<ce.length:=(List.getElem?_eq_some_iff.mp g).1
 have gs:∀x:C,(ce.set kf x)[kf]?=some x:=fun x=>List.getElem?_set_self hk
 have ss:∀x y:C,(ce.set kf x).set kf y=ce.set kf y:=fun x y=>List.set_set ..
 have s0:ce.set kf (.lst (is.map W.int))=ce:=by
  apply List.ext_getElem?
  intro i
  by_cases hi:kf=i
  ·subst hi;rw[gs,g]
  ·rw[List.getElem?_set_ne hi]
 suffices h:∃w c,d__law_cleaned fu [wB b,.cel kf] ce=some (.ok w c)/\∃is',(Less is is'/\zfm b is' 1/\zfm b is' 2)/\w=wS is'/\c=ce.set kf (.lst (is'.map W.int)) by
  obtain⟨w,c,e,is',h,rfl,rfl⟩:=h
  exact⟨is',h,e⟩
 unfold d__law_cleaned
 refine zgH [some (wB b),some (.cel kf),none,none,none] rfl ?_
 refine zcm (zs:=([1,2]:List Int)) (en:=W.int) (zd0 (xs:=[.int 1,.int 2]) (by trivial))
  (fun d sl c=>∃is' x2 x3 x4,sl=[some (wB b),some (.cel kf),x2,x3,x4]/\c=ce.set kf (.lst (is'.map W.int))/\Less is is'/\∀h∈d,zfm b is' h)
  ⟨is,_,_,_,rfl,s0.symm,Less.refl is,by simp⟩ ?_ ?_
 ·rintro d h r sl c e hh ⟨is0,x2,x3,x4,rfl,rfl,L0,N0⟩
  have hh0:h≠0:=by simp only[List.mem_cons,List.not_mem_nil,or_false] at hh;omega
  have hd:∀o∈d,o≠h/\o≠0:=fun o ho=>by
   have hnd:(d++h::r).Nodup:=by rw[e];decide
   have ho2:o∈([1,2]:List Int):=by rw[<- e];exact List.mem_append_left _ ho
   refine⟨fun q=>?_,by simp only[List.mem_cons,List.not_mem_nil,or_false] at ho2;omega⟩
   exact(List.nodup_append.mp hnd).2.2 o ho h (by simp) q
  have l0:is0.length=b.length:=by rw[L0.len];exact hl
  unfold zcF
  have e1:=zfl (ce:=ce.set kf (.lst (is0.map W.int))) (H:=[h]) fu hfu B.bd B.sym h36 (zss (gs _)) l0
  refine zbM (zs:=lpt b (thr is0 [h])) (en:=wL) (zd0 (zax (ws:=[wB b,.cel kf,.lst [.int h]]) (by trivial) rfl e1))
   (fun d' sl c=>∃is' x3 x4 D,sl=[some (wB b),some (.cel kf),some (.int h),x3,x4]/\c=ce.set kf (.lst (is'.map W.int))/\Less is is'/\Swp b is0 h d' is' D)
   ⟨is0,_,_,[],rfl,rfl,L0,Swp.nil _ _ _⟩ ?_ ?_
  ·rintro d' rw_ r' sl c e' hrow ⟨is',x3,x4,D,rfl,rfl,L,S⟩
   have hr:=znU hrow
   have e2:=zhy (ce:=ce.set kf (.lst (is'.map W.int))) fu B.bd h36 (by rw[L.len];exact hl) (zss (gs _)) hr
   unfold zcE
   trivial
   ·rename_i q
    have q':brs b is' rw_=[]:=of_decide_eq_true q
    refine zbM (zs:=rw_) (en:=nW) (zd0 (by trivial)) (fun d'' sl c=>∃is'' x4,sl=[some (wB b),some (.cel kf),some (.int h),some (wL rw_),x4]/\c=ce.set kf (.lst (is''.map W.int))/\Less is is''/\(∀q∈d'',is''.getD q 0=0)/\∀q,q∉d''->is''.getD q 0=is'.getD q 0) ⟨is',_,rfl,rfl,L,by simp,fun _ _=>rfl⟩ ?_ ?_
    ·rintro d'' p r'' sl c e'' hp ⟨is'',x4,rfl,rfl,L'',z1,z2⟩
     have hp':=hr p hp
     have hpl:p<is''.length:=by rw[L''.len];omega
     unfold zcD
     refine zbI (by repeat (first|exact SetAt.zero|apply SetAt.succ)) ?_
     refine zlD (w:=.int 0) (k:=kf) (ij:=p) (j:=p) (by trivial) (by trivial) (by trivial) (gs _) (zhl (by rw[List.length_map,L''.len];omega)) ?_
     refine⟨is''.set p 0,_,rfl,?_,L''.set p,fun q hq=>?_,fun q hq=>?_⟩
     ·rw[ss,List.map_set]
     ·rw[zf1]
      split
      ·rfl
      ·rename_i hn
       rcases List.mem_append.mp hq with hq|hq
       ·exact z1 q hq
       ·rw[List.mem_singleton] at hq;exact absurd ⟨hq.symm,hpl⟩ hn
     ·rw[zf1,if_neg (fun x=>hq (by rw[<- x.1];simp))]
      exact z2 q fun x=>hq (List.mem_append_left _ x)
    ·rintro sl c ⟨is'',x4,rfl,rfl,L'',z1,z2⟩
     exact⟨is'',_,_,D++[rw_],rfl,rfl,L'',S.zap B.bd q' (by rw[L''.len,L.len]) z1 z2⟩
   ·rename_i q
    exact⟨is',_,_,D,rfl,rfl,L,S.keep B.bd (of_decide_eq_false q)⟩
  ·rintro sl c ⟨is',x3,x4,D,rfl,rfl,L,S⟩
   refine⟨is',_,_,_,rfl,rfl,L,fun o ho=>?_⟩
   rcases List.mem_append.mp ho with ho|ho
   ·exact S.other B.bd B.sym l0 (hd o ho).1 (hd o ho).2 (N0 o ho)
   ·rw[List.mem_singleton] at ho;subst ho;exact S.snd B.bd B.sym l0 hh0
 ·rintro sl c ⟨is',x2,x3,x4,rfl,rfl,L,N⟩
  have g1:=gs (.lst (is'.map W.int))
  have hz2:is'.length<=PySem.sizeLine:=by rw[L.len];omega
  trivial
  refine⟨_,_,(Own.start _).finC' ((Chg.refl ce).set kf ?_) (by simp only[Bel];exact belInts _ _),is',⟨L,N 1 (by simp),N 2 (by simp)⟩,rfl,rfl⟩
  simp only[zgm];exact belInts _ _
end
def menus:List (List Int):=[[0,1,2],[1,0,1,1,2,1],[2,0,2,2,1,2],[0,0,1,2]]
theorem zlR:∀m∈menus,(0<m.length/\∀x∈m,0<=x/\x<=2)/\m.length<=6:=by decide
section
variable {b:List (List Nat)} {ce:Ce} {is:List Int}
theorem zkA(fu:Nat)(hfu:200<=fu)(B:Brd b){k:Nat}{ns:List Int}{j:Nat}(g:ce[k]?=some (pen ns j))(hj:j<=9000) :
  ∃is,is.length=b.length/\((∀i∈is,0<=i/\i<=2)/\zfm b is 1/\zfm b is 2)/\d__law_stand fu [.cel k,wB b] ce=some (.ok (wS is) (ce.set k (pen ns (j+2)))):=by
 have hz:=sl36
 have h36:=B.h36
 have hk:k<ce.length:=(List.getElem?_eq_some_iff.mp g).1
 have gs:∀i,(ce.set k (pen ns i))[k]?=some (pen ns i):=fun i=>List.getElem?_set_self hk
 have ss:∀i i',(ce.set k (pen ns i)).set k (pen ns i')=ce.set k (pen ns i'):=fun i i'=>List.set_set ..
 obtain⟨v,v0,v4,e1⟩:=zbe fu g (by omega) (m:=4) (by omega)
 obtain⟨mi,hmi⟩:∃mi:Nat,v=mi:=⟨v.toNat,by omega⟩
 subst hmi
 obtain⟨u,u0,u1,e2⟩:=zbe fu (gs (j+1)) (by omega) (m:=2147483647) (by omega)
 rw[ss] at e2
 have hmi4:mi<menus.length:=by show mi<4;omega
 obtain⟨m,hm⟩:∃m,menus[mi]?=some m:=⟨_,List.getElem?_eq_getElem hmi4⟩
 obtain⟨⟨m0,m2⟩,m6⟩:=zlR m (List.mem_of_getElem? hm)
 suffices h:∃w c,d__law_stand fu [.cel k,wB b] ce=some (.ok w c)/\∃is,is.length=b.length/\((∀i∈is,0<=i/\i<=2)/\zfm b is 1/\zfm b is 2)/\w=wS is/\c=ce.set k (pen ns (j+2)) by
  obtain⟨w,c,e,is,h1,h2,rfl,rfl⟩:=h
  exact⟨is,h1,h2,e⟩
 unfold d__law_stand
 refine zgH [some (.cel k),some (wB b),none,none,none,none] rfl ?_
 have z6:6<=PySem.sizeLine:=by decide
 have z4:4<=PySem.sizeLine:=by decide
 have z3:3<=PySem.sizeLine:=by decide
 have im:∀c:Ce,ixW c (.lst (menus.map sW)) (nW mi)=some (sW m):=fun c=>by
  rw[zeS (xs:=menus.map sW) rfl,List.getElem?_map,hm];rfl
 refine zan (w:=sW m) (ce':=ce.set k (pen ns (j+1))) (zaG (x:=.lst (menus.map sW)) (c1:=ce) (y:=nW mi) ?_ ?_ (im _)) ?_
 ·show zbO _ _ _=_
  refine za0 (ws:=menus.map sW) ?_ z4
  refine zak (x:=sW [0,1,2]) (za0 (ws:=[.int 0,.int 1,.int 2]) (by trivial) z3) (zak (x:=sW [1,0,1,1,2,1]) (za0 (ws:=[.int 1,.int 0,.int 1,.int 1,.int 2,.int 1]) (by trivial) z6) (zak (x:=sW [2,0,2,2,1,2]) (za0 (ws:=[.int 2,.int 0,.int 2,.int 2,.int 1,.int 2]) (by trivial) z6) (zak (x:=sW [0,0,1,2]) (za0 (ws:=[.int 0,.int 0,.int 1,.int 2]) (by trivial) z4) zat)))
 ·exact zax (ws:=[.cel k,.int 4]) (by trivial) rfl e1
 refine zan (w:=.int u) (ce':=ce.set k (pen ns (j+2))) (by trivial) ?_
 refine zan (zes zat (Nat.zero_le _)) ?_
 have O0:=(Own.start (ce.set k (pen ns (j+2)))).alloc (C.lst [])
 generalize hk4:(ce.set k (pen ns (j+2))).length=k4 at O0 ⊢
 generalize (ce.set k (pen ns (j+2)))++[C.lst []]=c4 at O0 ⊢
 have hl':b.length<=1000:=by omega
 have mm:∀x:Int,CMul x 48271:=fun x=>.inr (by omega)
 refine zcm (zs:=List.range b.length) (en:=nW) (zet (by trivial) hl')
  (fun d sl c=>∃is u x5,sl=[some (.cel k),some (wB b),some (sW m),some (.int u),some (.cel k4),x5]/\Own (ce.set k (pen ns (j+2))) c [(k4,C.lst (is.map W.int))]/\0<=u/\is.length=d.length/\∀i∈is,0<=i/\i<=2)
  ⟨[],u,_,rfl,O0,u0,rfl,by simp⟩ ?_ ?_
 ·rintro d p r sl c e hp ⟨is,u,x5,rfl,O,u0,hl,h02⟩
  have hd:d.length<b.length:=by have:=congrArg List.length e;simp at this;omega
  obtain⟨t,ht,et⟩:=zjZ ((u*48271+11) % 2147483647 / 64) (n:=m.length) m0
  have e5:zbT (.int ((u*48271+11) % 2147483647 / 64)) (nW m.length)=some (nW t):=zmm m0 et
  have i5:=zht (ce:=c) (ns:=m) ht
  have l5:=zij (ce:=c) (ns:=m)
  have g4:=O.g0
  have hm4:(is.map W.int).length<PySem.sizeLine:=by rw[List.length_map];omega
  unfold zdp
  trivial
  refine⟨is++[m.getD t 0],_,_,rfl,by rw[List.map_append];exact O.set0 _,by omega,by simp[hl],fun i hi=>?_⟩
  rcases List.mem_append.mp hi with hi|hi
  ·exact h02 i hi
  ·rw[List.mem_singleton] at hi
   subst hi
   rw[List.getD_eq_getElem?_getD,List.getElem?_eq_getElem ht]
   exact m2 _ (List.getElem_mem ht)
 ·rintro sl c ⟨is,u,x5,rfl,O,u0,hl,h02⟩
  rw[List.length_range] at hl
  obtain⟨is',⟨L,N⟩,e3⟩:=zfn (ce:=c) fu hfu B O.g0 hl
  refine zaA (zax (ws:=[wB b,.cel k4]) (by trivial) rfl e3) ?_
  exact⟨_,_,(O.set0 (.lst (is'.map W.int))).finC' ((Chg.refl ce).set k (zcH _ _ _)) (by simp only[Bel];exact belInts _ _),is',by rw[L.len];exact hl,⟨L.mem h02,N⟩,rfl,rfl⟩
end
def nb(line:Bool)(n p:Nat):List Nat :=
 if line=true/\p=0 then [1] else if line=true/\p+1=n then [n-2] else [if p=0 then n-1 else p-1,if p+1=n then 0 else p+1]
def ldr(line:Bool)(n:Nat):List (List Nat):=(List.range n).map fun p=>zcj (nb line n p)
theorem zhA(line:Bool)(n i:Nat):(ldr line n).getD i []=if i<n then zcj (nb line n i) else []:=by
 unfold ldr
 rw[List.getD_eq_getElem?_getD,List.getElem?_map]
 by_cases h:i<n
 ·simp[h]
 ·rw[List.getElem?_eq_none (by simp;omega)];simp[h]
theorem znX{line:Bool}{n p j:Nat}(h3:3<=n)(hp:p<n)(h:j∈nb line n p):j<n:=by
 unfold nb at h
 split at h
 ·simp at h;omega
 ·split at h
  ·simp at h;omega
  ·simp only[List.mem_cons,List.not_mem_nil,or_false] at h
   rcases h with h|h<;>(split at h<;>omega)
theorem zqc{line:Bool}{n p j:Nat}(h3:3<=n)(hp:p<n)(h:j∈nb line n p):p∈nb line n j:=by
 have hj:=znX h3 hp h
 cases line with
 | true =>
  have hadj:j=p+1\/p=j+1:=by
   unfold nb at h
   simp only[true_and] at h
   split at h
   ·simp at h;omega
   ·split at h
    ·simp at h;omega
    ·simp only[List.mem_cons,List.not_mem_nil,or_false] at h
     rcases h with h|h<;>first|omega|(split at h<;>omega)
  unfold nb
  simp only[true_and]
  split
  ·simp;omega
  ·split
   ·simp;omega
   ·simp only[List.mem_cons,List.not_mem_nil,or_false]
    rcases hadj with h|h
    ·left;first|omega|(rw[if_neg (by omega)];omega)
    ·right;first|omega|(rw[if_neg (by omega)];omega)
 | false =>
  unfold nb at h ⊢
  simp only[Bool.false_eq_true,false_and,if_false,List.mem_cons,List.not_mem_nil,or_false] at h ⊢
  rcases h with h|h
  ·right
   split at h
   ·rw[if_pos (by omega)];omega
   ·rw[if_neg (by omega)];omega
  ·left
   split at h
   ·rw[if_pos (by omega)];omega
   ·rw[if_neg (by omega)];omega
theorem zqd(line:Bool)(n p:Nat):(nb line n p).length<=2:=by
 unfold nb
 split
 ·simp
 ·split<;>simp
theorem zqe(line:Bool){n:Nat}(h3:3<=n)(h36:n<=36):Brd (ldr line n):=by
 have hl:(ldr line n).length=n:=by simp[ldr]
 refine⟨fun r hr x hx=>?_,fun i j hj=>?_,by omega,by omega,fun i=>?_,fun i=>?_⟩
 ·obtain⟨i,hi,rfl⟩:=List.mem_map.mp hr
  rw[hl]
  exact znX h3 (List.mem_range.mp hi) ((zcP _ _).mp hx)
 ·rw[zhA] at hj ⊢
  split at hj
  ·rename_i hi
   have hj:=(zcP _ _).mp hj
   rw[if_pos (znX h3 hi hj)]
   exact(zcP _ _).mpr (zqc h3 hi hj)
  ·simp at hj
 ·rw[zhA]
  split
  ·rw[zcn];have:=zqd line n i;omega
  ·simp
 ·rw[zhA]
  split
  ·exact zgJ _
  ·exact List.length_eq_zero_iff.mp (zcn [])
def zfo(n p:Nat):List Int:=[(p:Int)-1,(p:Int)+1]
def bsI(line:Bool)(n:Nat):List (List Int):=if line=true then (((List.range n).map (zfo n)).set 0 [1]).set (n-1) [(n:Int)-2] else (List.range n).map (zfo n)
theorem zlS(line:Bool){n:Nat}(h3:3<=n):(bsI line n).map (fun r=>zcj (r.map fun o=>(o % (n:Int)).toNat))=ldr line n:=by
 apply List.ext_getElem?
 intro i
 by_cases hi:i<n
 ·have e1:(ldr line n)[i]?=some (zcj (nb line n i)):=by simp[ldr,hi]
  rw[e1,List.getElem?_map]
  have m1:((i:Int)-1) % (n:Int)=if i=0 then (n:Int)-1 else (i:Int)-1:=by
   split
   ·rename_i h
    subst h
    have:(((0:Nat):Int)-1) % (n:Int)=(((0:Nat):Int)-1+(n:Int)*1) % (n:Int):=(Int.add_mul_emod_self_left ..).symm
    rw[this,Int.emod_eq_of_lt (by omega) (by omega)]
    omega
   ·exact Int.emod_eq_of_lt (by omega) (by omega)
  have m2:((i:Int)+1) % (n:Int)=if i+1=n then 0 else (i:Int)+1:=by
   split
   ·rename_i h
    have:(i:Int)+1=n:=by omega
    rw[this];simp
   ·exact Int.emod_eq_of_lt (by omega) (by omega)
  have m3:(1:Int) % (n:Int)=1:=Int.emod_eq_of_lt (by omega) (by omega)
  have m4:((n:Int)-2) % (n:Int)=(n:Int)-2:=Int.emod_eq_of_lt (by omega) (by omega)
  cases line with
  | false =>
   have e2:(bsI false n)[i]?=some (zfo n i):=by simp[bsI,hi]
   rw[e2]
   simp only[Option.map_some,zfo,List.map_cons,List.map_nil,m1,m2]
   congr 2
   unfold nb
   simp only[Bool.false_eq_true,false_and,if_false]
   congr 1
   ·split<;>omega
   ·congr 1
    split<;>omega
  | true =>
   have e2:(bsI true n)[i]?=some (if i=0 then [1] else if i+1=n then [(n:Int)-2] else zfo n i):=by
    unfold bsI
    simp only[if_true]
    by_cases h0:i+1=n
    ·have:n-1=i:=by omega
     rw[this,List.getElem?_set_self (by simp;omega),if_neg (by omega),if_pos h0]
    ·rw[List.getElem?_set_ne (by omega)]
     by_cases h1:i=0
     ·subst h1
      rw[List.getElem?_set_self (by simp;omega),if_pos rfl]
     ·rw[List.getElem?_set_ne (by omega),if_neg h1,if_neg h0]
      simp[hi]
   rw[e2]
   simp only[Option.map_some]
   congr 2
   unfold nb
   simp only[true_and]
   by_cases h1:i=0
   ·rw[if_pos h1,if_pos h1];simp[m3]
   ·by_cases h0:i+1=n
    ·rw[if_neg h1,if_pos h0,if_neg h1,if_pos h0]
     simp only[List.map_cons,List.map_nil,m4]
     congr 1
     omega
    ·rw[if_neg h1,if_neg h0,if_neg h1,if_neg h0]
     simp only[zfo,List.map_cons,List.map_nil,m1,m2,if_neg h1,if_neg h0]
     have a1:((i:Int)-1).toNat=i-1:=by omega
     have a2:((i:Int)+1).toNat=i+1:=by omega
     rw[a1,a2]
 ·have l1:(bsI line n).length=n:=by unfold bsI;split<;>simp
  rw[List.getElem?_eq_none (by rw[List.length_map];omega),List.getElem?_eq_none (by simp[ldr];omega)]
theorem znY(line:Bool)(n:Nat):(bsI line n).length=n:=by unfold bsI;split<;>simp
theorem znZ(line:Bool)(n:Nat):∀r∈bsI line n,r.length<=2:=by
 intro r hr
 have base:∀r∈(List.range n).map (zfo n),r.length<=2:=fun r hr=>by obtain⟨p,_,rfl⟩:=List.mem_map.mp hr;simp[zfo]
 unfold bsI at hr
 split at hr
 ·rcases List.mem_or_eq_of_mem_set hr with h|rfl
  ·rcases List.mem_or_eq_of_mem_set h with h|rfl
   ·exact base r h
   ·simp
  ·simp
 ·exact base r hr
section
variable {ce:Ce}
theorem zqf(l:List Nat):wS (srt (toI l))=wT (zcj l):=by
 show W.tup _=W.tup _
 rw[zd6]
theorem zkB(fu:Nat)(hfu:200<=fu){k:Nat}{ns:List Int}{j:Nat}(g:ce[k]?=some (pen ns j))(hj:j<=9000){most:Nat}(h3:3<=most)(h36:most<=36) :
  ∃b is,d__law_ladder fu [.cel k,nW most] ce=some (.ok (.tup [wB b,wS is]) (ce.set k (pen ns (j+6))))/\b.length<=most/\Brd b/\is.length=b.length/\((∀i∈is,0<=i/\i<=2)/\zfm b is 1/\zfm b is 2):=by
 have hz:=sl36
 have hk:k<ce.length:=(List.getElem?_eq_some_iff.mp g).1
 have gs:∀i,(ce.set k (pen ns i))[k]?=some (pen ns i):=fun i=>List.getElem?_set_self hk
 have ss:∀i i',(ce.set k (pen ns i)).set k (pen ns i')=ce.set k (pen ns i'):=fun i i'=>List.set_set ..
 have hkb:∀i,k<(ce.set k (pen ns i)).length:=fun i=>by rw[List.length_set];exact hk
 obtain⟨v1,a1,b1,e1⟩:=zbe fu g (by omega) (m:=(most:Int)-2) (by omega)
 obtain⟨n,hn⟩:∃n:Nat,3+v1=n:=⟨(3+v1).toNat,by omega⟩
 have f1:zdg (.int 3) (.int v1)=some (nW n):=by rw[zdz rfl rfl,hn];rfl
 have n3:3<=n/\n<=most:=by omega
 obtain⟨v2,a2,b2,e2⟩:=zbe fu (gs (j+1)) (by omega) (m:=2) (by omega)
 rw[ss] at e2
 obtain⟨v3,a3,b3,e3⟩:=zbe fu (gs (j+2)) (by omega) (m:=2) (by omega)
 rw[ss] at e3
 suffices h:∃w c,d__law_ladder fu [.cel k,nW most] ce=some (.ok w c)/\∃b is,w=.tup [wB b,wS is]/\c=ce.set k (pen ns (j+6))/\b.length<=most/\Brd b/\is.length=b.length/\((∀i∈is,0<=i/\i<=2)/\zfm b is 1/\zfm b is 2) by
  obtain⟨w,c,e,b,is,rfl,rfl,h⟩:=h
  exact⟨b,is,e,h⟩
 unfold d__law_ladder
 refine zgH [some (.cel k),some (nW most),none,none,none,none,none,none,none] rfl ?_
 refine zan (w:=nW n) (ce':=ce.set k (pen ns (j+1))) (by trivial) ?_
 refine zan (w:=.int (1+v2)) (ce':=ce.set k (pen ns (j+2))) (by trivial) ?_
 refine zan (w:=.int v3) (ce':=ce.set k (pen ns (j+3))) (by trivial) ?_
 have n1000:n<=1000:=by omega
 have nz:(List.range n).length<=PySem.sizeLine:=by rw[List.length_range];omega
 refine zan (zqv (zs:=List.range n) (en:=nW) (g:=fun p=>W.int ((1+v2)*(((p:Int)+v3) % 2))) (zet (by trivial) n1000).is nz (fun p hp=>?_)) ?_
 ·have m1:CMul (1+v2) (((p:Int)+v3) % 2):=.inl (by omega)
  trivial
 have el:(List.range n).map (fun(p:Nat)=>W.int ((1+v2)*(((p:Int)+v3) % 2)))=((List.range n).map fun(p:Nat)=>(1+v2)*(((p:Int)+v3) % 2)).map W.int:=by rw[List.map_map];rfl
 rw[el]
 have h02:∀i∈(List.range n).map (fun(p:Nat)=>(1+v2)*(((p:Int)+v3) % 2)),0<=i/\i<=2:=fun i hi=>by
  obtain⟨p,_,rfl⟩:=List.mem_map.mp hi
  have:((p:Int)+v3) % 2=0\/((p:Int)+v3) % 2=1:=by omega
  rcases this with h|h<;>rw[h]<;>omega
 have hil:((List.range n).map fun(p:Nat)=>(1+v2)*(((p:Int)+v3) % 2)).length=n:=by simp
 generalize (List.range n).map (fun(p:Nat)=>(1+v2)*(((p:Int)+v3) % 2))=is0 at h02 hil ⊢
 have O5:=(Own.start (ce.set k (pen ns (j+3)))).alloc (C.lst (is0.map W.int))
 generalize (ce.set k (pen ns (j+3))).length=k5 at O5 ⊢
 generalize (ce.set k (pen ns (j+3)))++[C.lst (is0.map W.int)]=c5 at O5 ⊢
 obtain⟨v4,a4,b4,e4⟩:=zbe fu (ce:=c5) (ns:=ns) (j:=j+3) (by rw[O5.low (hkb _)];exact gs _) (by omega) (m:=n) (by omega)
 obtain⟨at',hat⟩:∃at':Nat,v4=at':=⟨v4.toNat,by omega⟩
 subst hat
 have O6:=O5.base_set (hkb _) (pen ns (j+4))
 rw[ss] at O6
 generalize c5.set k (pen ns (j+3+1))=c6 at e4 O6
 refine zan (w:=nW at') (ce':=c6) (by
  have e4':d__law_next fu [.cel k,nW n] c5=some (.ok (nW at') c6):=e4
  trivial) ?_
 obtain⟨v5,a5,b5,e5⟩:=zbe fu (ce:=c6) (ns:=ns) (j:=j+4) (by rw[O6.low (hkb _)];exact gs _) (by omega) (m:=6) (by omega)
 obtain⟨ch,hch⟩:∃ch:Nat,v5=ch:=⟨v5.toNat,by omega⟩
 subst hch
 have O7:=O6.base_set (hkb _) (pen ns (j+5))
 rw[ss] at O7
 generalize c6.set k (pen ns (j+4+1))=c7 at e5 O7
 have hat2:at'<is0.length:=by omega
 have i5:ixW c6 (.cel k5) (nW at')=some (.int (is0.getD at' 0)):=by
  rw[zeS (zdI O6.g0),List.getElem?_map,List.getD_eq_getElem?_getD,List.getElem?_eq_getElem hat2];rfl
 have hv0:0<=is0.getD at' 0/\is0.getD at' 0<=2:=by
  rw[List.getD_eq_getElem?_getD,List.getElem?_eq_getElem hat2]
  exact h02 _ (List.getElem_mem hat2)
 have z6:6<=PySem.sizeLine:=by decide
 have hch6:ch<[is0.getD at' 0,0,3-(1+v2),1+v2,is0.getD at' 0,is0.getD at' 0].length:=by show ch<6;omega
 obtain⟨nv,hnv⟩:∃nv,[is0.getD at' 0,0,3-(1+v2),1+v2,is0.getD at' 0,is0.getD at' 0][ch]?=some nv:=⟨_,List.getElem?_eq_getElem hch6⟩
 have hnv2:0<=nv/\nv<=2:=by
  have:=List.mem_of_getElem? hnv
  simp only[List.mem_cons,List.not_mem_nil,or_false] at this
  omega
 have inv:ixW c7 (.lst [.int (is0.getD at' 0),.int 0,.int (3-(1+v2)),.int (1+v2),.int (is0.getD at' 0),.int (is0.getD at' 0)]) (nW ch)=some (.int nv):=by
  rw[zeS (xs:=[is0.getD at' 0,0,3-(1+v2),1+v2,is0.getD at' 0,is0.getD at' 0].map W.int) rfl,List.getElem?_map,hnv];rfl
 refine zd9 (w:=.int nv) (c1:=c7) (c2:=c7) (c3:=c7) (k:=k5) (ij:=at') (j:=at') (xs:=is0.map W.int)
  (zaG (x:=.lst [.int (is0.getD at' 0),.int 0,.int (3-(1+v2)),.int (1+v2),.int (is0.getD at' 0),.int (is0.getD at' 0)]) (y:=nW ch) (c1:=c6) (za0 (ws:=[.int (is0.getD at' 0),.int 0,.int (3-(1+v2)),.int (1+v2),.int (is0.getD at' 0),.int (is0.getD at' 0)]) (by trivial) z6) (zax (ws:=[.cel k,.int 6]) (by trivial) rfl e5) inv)
  (by trivial) (by trivial) O7.g0 (zhl (by rw[List.length_map];exact hat2)) ?_
 have O8:=O7.set0 (C.lst ((is0.map W.int).set at' (.int nv)))
 have es:(is0.map W.int).set at' (.int nv)=(is0.set at' nv).map W.int:=by rw[List.map_set]
 rw[es] at O8 ⊢
 have h02':=zqa (n:=at') h02 hnv2
 have hil':(is0.set at' nv).length=n:=by rw[List.length_set];exact hil
 generalize is0.set at' nv=is1 at O8 h02' hil' ⊢
 generalize c7.set k5 (C.lst (is1.map W.int))=c8 at O8 ⊢
 refine zan (zqv (zs:=List.range n) (en:=nW) (g:=fun p=>sW (zfo n p)) (zet (by trivial) n1000).is nz (fun p hp=>?_)) ?_
 ·have e:sW (zfo n p)=.lst [.int ((p:Int)-1),.int ((p:Int)+1)]:=rfl
  rw[e]
  trivial
 have el2:(List.range n).map (fun p=>sW (zfo n p))=((List.range n).map (zfo n)).map sW:=by rw[List.map_map];rfl
 rw[el2]
 have O9:=O8.alloc (C.lst (((List.range n).map (zfo n)).map sW))
 generalize c8.length=k7 at O9 ⊢
 generalize c8++[C.lst (((List.range n).map (zfo n)).map sW)]=c9 at O9 ⊢
 obtain⟨v6,a6,b6,e6⟩:=zbe fu (ce:=c9) (ns:=ns) (j:=j+5) (by rw[O9.low (hkb _)];exact gs _) (by omega) (m:=3) (by omega)
 have O10:=O9.base_set (hkb _) (pen ns (j+6))
 rw[ss] at O10
 generalize c9.set k (pen ns (j+5+1))=c10 at e6 O10
 have last:∀(line:Bool) (c:Ce),Own (ce.set k (pen ns (j+6))) c [(k7,C.lst ((bsI line n).map sW)),(k5,C.lst (is1.map W.int))]->Run (zaz (zaV 8 (dBi zbt (zac (dLC zaT [2] (dIL (zaf 7)) zcK (dBi zbt (zac (dBi (za6 zaT) (zac (dLC zaT [1] (dIL (zaf 0)) zcK (dOp zbT (zaf 0) (zaf 1))) zal)) zal))) zal)))
   (zbg (zeP (zac (zaf 8) (zac (zao 2 (d__law_cleaned fu) (zac (zaf 8) (zac (zaf 5) zal))) zal))))) [some (.cel k),some (nW most),some (nW n),some (.int (1+v2)),some (.int v3),some (.cel k5),some (nW at'),some (.cel k7),none] c
   (Rt fun v ce'=>∃w c',finC ce ce' v=some (.ok w c')/\∃b is,w=.tup [wB b,wS is]/\c'=ce.set k (pen ns (j+6))/\b.length<=most/\Brd b/\is.length=b.length/\((∀i∈is,0<=i/\i<=2)/\zfm b is 1/\zfm b is 2)):=by
  intro line c O
  have B:=zqe line n3.1 (by omega)
  have lb:(ldr line n).length=n:=by simp[ldr]
  have hbl:=znY line n
  refine zan (w:=wB (ldr line n)) (ce':=c) (zbL (zak (zrF (zs:=bsI line n) (en:=sW) (f:=fun r=>zcj (r.map fun o=>(o % (n:Int)).toNat)) (zcl (by trivial) (.cl O.g0)) (by omega) (fun r hr=>?_)) zat) ?_) ?_
  ·have hrl:=znZ line n r hr
   have hr2:r.length<=PySem.sizeLine:=by omega
   have em:r.map (fun o=>o % (n:Int))=toI (r.map fun o=>(o % (n:Int)).toNat):=by
    unfold toI
    rw[List.map_map]
    apply List.map_congr_left
    intro o _
    have:=Int.emod_nonneg o (b:=(n:Int)) (by omega)
    simp only[Function.comp]
    omega
   have hz3:(srt (r.map fun o=>o % (n:Int))).length<=PySem.sizeLine:=by rw[(zbq _).length_eq,List.length_map];omega
   have e7:zbt [sW (srt (r.map fun o=>o % (n:Int)))] c=some (.ok (wT (zcj (r.map fun o=>(o % (n:Int)).toNat))) c):=by
    rw[zpG hz3,em,zqf]
   refine zbL (zak (zbL (zak (zpz (zs:=r) (en:=W.int) (f:=fun o=>o % (n:Int)) (zd0 (zam rfl)).is hr2 (fun o ho=>?_)) zat) (zh6 (by rw[List.length_map];omega))) zat) e7
   have md:zbT (.int o) (nW n)=some (.int (o % (n:Int))):=zbV (i:=o) (j:=n) rfl rfl (by omega)
   trivial
  ·rw[zlS line n3.1]
   exact znD (by omega)
  ·obtain⟨is',⟨L,N⟩,e8⟩:=zfn (ce:=c) (is:=is1) fu hfu B O.g1 (by omega)
   have O11:=O.set1 (C.lst (is'.map W.int))
   have z2:2<=PySem.sizeLine:=by decide
   refine zaA (zc5 (ws:=[wB (ldr line n),wS is']) (zak (by trivial) (zak (zax (ws:=[wB (ldr line n),.cel k5]) (by trivial) rfl e8) zat)) z2) ?_
   refine⟨_,_,O11.finC' ((Chg.refl ce).set k (zcH _ _ _)) ?_,ldr line n,is',rfl,rfl,by omega,B,by rw[L.len];omega,⟨L.mem h02',N⟩⟩
   simp only[Bel,zdd]
   exact⟨bel_wB _ _,belInts _ _,trivial⟩
 refine zbu (p:=decide (0<v6)) (ce':=c10) (by trivial) (fun q=>?_) (fun q=>?_)
 ·refine zdy ?_
  have l7:(((List.range n).map (zfo n)).map sW).length=n:=by simp
  refine zd9 (w:=sW [1]) (c1:=c10) (c2:=c10) (c3:=c10) (k:=k7) (ij:=0) (j:=0) (za0 (ws:=[.int 1]) (by trivial) (by decide)) (by trivial) (by trivial) O10.g0 (zhl (j:=0) (by omega)) ?_
  have O12:=O10.set0 (C.lst ((((List.range n).map (zfo n)).map sW).set 0 (sW [1])))
  generalize c10.set k7 (C.lst ((((List.range n).map (zfo n)).map sW).set 0 (sW [1])))=c12 at O12 ⊢
  refine zd9 (w:=sW [(n:Int)-2]) (c1:=c12) (c2:=c12) (c3:=c12) (k:=k7) (ij:=-1) (j:=n-1) (za0 (ws:=[.int ((n:Int)-2)]) (by trivial) (by show 1<=PySem.sizeLine;decide)) (by trivial) (by trivial) O12.g0 (by rw[zlC (by rw[List.length_set];omega),List.length_set,l7]) ?_
  have O13:=O12.set0 (C.lst (((((List.range n).map (zfo n)).map sW).set 0 (sW [1])).set (n-1) (sW [(n:Int)-2])))
  refine last true _ ?_
  have e:((((List.range n).map (zfo n)).map sW).set 0 (sW [1])).set (n-1) (sW [(n:Int)-2])=(bsI true n).map sW:=by
   unfold bsI
   rw[if_pos rfl,List.map_set,List.map_set]
  rw[e] at O13
  rw[e]
  exact O13
 ·refine za7 (last false _ ?_)
  have e:(bsI false n)=(List.range n).map (zfo n):=by unfold bsI;simp
  rw[e]
  exact O10
theorem zlT(fu:Nat)(hfu:200<=fu){k:Nat}{ns:List Int}{j:Nat}(g:ce[k]?=some (pen ns j))(hj:j<=8000){most wide:Nat}(h1:0<most)(h36:most<=36)(w3:3<=wide)(w36:wide<=36) :
  ∃b is j',d__law_world fu [.cel k,nW most,nW wide] ce=some (.ok (.tup [wB b,wS is]) (ce.set k (pen ns j')))/\j'<=j+10/\Brd b/\is.length=b.length/\((∀i∈is,0<=i/\i<=2)/\zfm b is 1/\zfm b is 2)/\(b.length<=most\/b.length<=wide):=by
 have hk:k<ce.length:=(List.getElem?_eq_some_iff.mp g).1
 have gs:∀i,(ce.set k (pen ns i))[k]?=some (pen ns i):=fun i=>List.getElem?_set_self hk
 have ss:∀i i',(ce.set k (pen ns i)).set k (pen ns i')=ce.set k (pen ns i'):=fun i i'=>List.set_set ..
 obtain⟨v,v0,v4,e1⟩:=zbe fu g (by omega) (m:=4) (by omega)
 by_cases hv:v=0
 ·obtain⟨b,is,e2,hb,B,hl,h02⟩:=zkB fu hfu (gs (j+1)) (by omega) w3 w36
  rw[ss] at e2
  refine⟨b,is,j+7,?_,by omega,B,hl,h02,.inr hb⟩
  unfold d__law_world
  refine zbA [some (.cel k),some (nW most),some (nW wide),none] rfl ?_
  refine zbu (p:=decide (v=0)) (ce':=ce.set k (pen ns (j+1))) (by trivial) (fun _=>?_) (fun q=>absurd hv (of_decide_eq_false q))
  refine zck ?_
  refine zaA (zax (ws:=[.cel k,nW wide]) (by trivial) rfl e2) ?_
  exact(Own.start _).finC' ((Chg.refl ce).set k (zcH _ _ _)) (by simp only[Bel,zdd];exact⟨bel_wB _ _,belInts _ _,trivial⟩)
 ·obtain⟨b,j',e2,hj',hb,B⟩:=zlP fu (gs (j+1)) (by omega) h1 h36
  rw[ss] at e2
  obtain⟨is,hl,h02,e3⟩:=zkA fu hfu B (gs j') (by omega)
  rw[ss] at e3
  refine⟨b,is,j'+2,?_,by omega,B,hl,h02,.inl hb⟩
  have z2:2<=PySem.sizeLine:=by decide
  unfold d__law_world
  refine zbA [some (.cel k),some (nW most),some (nW wide),none] rfl ?_
  refine zbu (p:=decide (v=0)) (ce':=ce.set k (pen ns (j+1))) (by trivial) (fun q=>absurd (of_decide_eq_true q) hv) (fun _=>?_)
  refine za7 ?_
  refine zan (w:=wB b) (ce':=ce.set k (pen ns j')) (by trivial) ?_
  refine zaA (zc5 (ws:=[wB b,wS is]) (zak (by trivial) (zak (zax (ws:=[.cel k,wB b]) (by trivial) rfl e3) zat)) z2) ?_
  exact(Own.start _).finC' ((Chg.refl ce).set k (zcH _ _ _)) (by simp only[Bel,zdd];exact⟨bel_wB _ _,belInts _ _,trivial⟩)
end
def mkB(is:List Int)(h:Int):W:=.lst ((is.map fun x=>decide (x=h)).map W.bl)
abbrev pW2(R C:List (List Nat)):W:=.tup [.lst (R.map wL),.lst (C.map wL)]
section
variable {b:List (List Nat)} {is:List Int} {h:Int} {ce:Ce}
theorem zkC{p:Nat}(hp:p<is.length):ixW ce (mkB is h) (nW p)=some (.bl (decide (is.getD p 0=h))):=by
 unfold mkB
 rw[zeS (xs:=(is.map fun x=>decide (x=h)).map W.bl) rfl,List.getElem?_map,List.getElem?_map,List.getD_eq_getElem?_getD,List.getElem?_eq_getElem hp];rfl
theorem zta(hl:is.length=b.length):Mk b (mkB is h) (vH is h):=fun ce x y hx hy=>⟨_,_,zkC (by omega),zkC (by omega),by
 rw[zso]
 congr 2
 unfold vH
 by_cases h1:is.getD x 0=h<;>by_cases h2:is.getD y 0=h<;>simp[-List.getD_eq_getElem?_getD,h1,h2]⟩
theorem zf2(hb:Bd b){vl:Nat->Int}{c:List Nat}(h:c∈ptc b vl):0<c.length/\c.length<=b.length/\∀p∈c,p<b.length:=by
 obtain⟨s,hs,_,rfl⟩:=(zhj hb).mp h
 exact⟨List.length_pos_of_mem (zb2 hb hs),zke,fun p hp=>zdL hp⟩
theorem zhB{c:List Nat}{n:Nat}(h0:0<c.length)(h:∀p∈c,p<n):c.getD 0 0<n:=by
 rw[List.getD_eq_getElem?_getD,List.getElem?_eq_getElem h0]
 exact h _ (List.getElem_mem h0)
theorem zik{c:List Nat}(h0:0<c.length):ixW ce (wL c) (.int 0)=some (nW (c.getD 0 0)):=zmq (p:=0) h0
def cls(b:List (List Nat))(is:List Int)(h:Int):List (List Nat):=(ptc b (vH is h)).filter fun c=>!decide (is.getD (c.getD 0 0) 0=h)
def zhC(b:List (List Nat))(is:List Int):List (List Nat):=(ptc b (vS is)).filter fun c=>!decide (is.getD (c.getD 0 0) 0=0)
def rowsF(b:List (List Nat))(is:List Int)(h:Int):List (List Nat):=(zhC b is).filter fun c=>decide (is.getD (c.getD 0 0) 0=h)
theorem ztb{α:Type}{en:α->W}{zs:List α}{t f:α->Bool}{js:List Nat}{di:Sl->M Src}{c:Sl->M Bool}{e:Sl->M W}{sl:Sl}{c1:Ce}(hi:zdZ di sl ce c1 (zs.map en))(hz:zs.length<=PySem.sizeLine)(hc:∀x∈zs,c (some (en x)::zcu js sl) c1=some (.ok (t x) c1))(he:∀x∈zs,t x=true->e (some (en x)::zcu js sl) c1=some (.ok (.bl (f x)) c1)) :
  dLC zaT js di c e sl ce=some (.ok (.lst (((zs.filter t).map f).map W.bl)) c1):=by
 rw[lcF hi hz hc he,List.map_map];rfl
theorem zn0(fu:Nat)(hfu:200<=fu)(B:Brd b)(hl:is.length=b.length):d_rows fu [wB b,wS is] ce=some (.ok (.lst ((zhC b is).map wL)) ce):=by
 have hz:=sl36
 have h36:=B.h36
 have e1:=zmw (ce:=ce) fu hfu (zs9 hl) B.bd B.sym h36
 have hzl:(ptc b (vS is)).length<=PySem.sizeLine:=by have:=ptc_len (b:=b) (vl:=vS is);omega
 unfold d_rows
 refine zbA [some (wB b),some (wS is)] rfl ?_
 refine zaA (zh5 (zs:=ptc b (vS is)) (en:=wL) (t:=fun c=>!decide (is.getD (c.getD 0 0) 0=0)) (zcl (zax (ws:=[wB b,wS is]) (by trivial) rfl e1) (.fr _)) hzl (fun c hc=>?_)) ?_
 ·obtain⟨p0,_,p2⟩:=zf2 B.bd hc
  have hh:c.getD 0 0<is.length:=by rw[hl];exact zhB p0 p2
  have i1:=zik (ce:=ce) p0
  have i2:=zdK (ce:=ce) hh
  trivial
 ·exact zaF (by simp only[Bel];exact bels_wL _ _)
theorem zfp(fu:Nat)(hfu:200<=fu)(B:Brd b)(hl:is.length=b.length):d_rows_of fu [wB b,wS is,.int h] ce=some (.ok (.lst ((rowsF b is h).map wL)) ce):=by
 have hz:=sl36
 have h36:=B.h36
 have e1:=zn0 (ce:=ce) fu hfu B hl
 have hzl:(zhC b is).length<=PySem.sizeLine:=by
  have:=ptc_len (b:=b) (vl:=vS is)
  have:=List.length_filter_le (fun c=>!decide (is.getD (c.getD 0 0) 0=0)) (ptc b (vS is))
  unfold zhC;omega
 unfold d_rows_of
 refine zbA [some (wB b),some (wS is),some (.int h)] rfl ?_
 refine zaA (zh5 (zs:=zhC b is) (en:=wL) (t:=fun c=>decide (is.getD (c.getD 0 0) 0=h)) (zcl (zax (ws:=[wB b,wS is]) (by trivial) rfl e1) (.fr _)) hzl (fun c hc=>?_)) ?_
 ·obtain⟨p0,_,p2⟩:=zf2 B.bd (List.mem_filter.mp hc).1
  have hh:c.getD 0 0<is.length:=by rw[hl];exact zhB p0 p2
  have i1:=zik (ce:=ce) p0
  have i2:=zdK (ce:=ce) hh
  trivial
 ·exact zaF (by simp only[Bel];exact bels_wL _ _)
theorem zgK(fu:Nat)(hfu:200<=fu)(B:Brd b)(hl:is.length=b.length):d_closes fu [wB b,wS is,.int h] ce=some (.ok (.lst ((cls b is h).map wL)) ce):=by
 have hz:=sl36
 have h36:=B.h36
 have e1:=zmw (ce:=ce) fu hfu (zta (h:=h) hl) B.bd B.sym h36
 have hisz:is.length<=PySem.sizeLine:=by omega
 have hzl:(ptc b (vH is h)).length<=PySem.sizeLine:=by have:=ptc_len (b:=b) (vl:=vH is h);omega
 unfold d_closes
 refine zbA [some (wB b),some (wS is),some (.int h),none] rfl ?_
 refine zan (w:=mkB is h) (ce':=ce) (zkd (zs:=is) (en:=W.int) (f:=fun x=>decide (x=h)) (znz (by trivial)).is hisz (fun x hx=>by trivial)) ?_
 refine zaA (zh5 (zs:=ptc b (vH is h)) (en:=wL) (t:=fun c=>!decide (is.getD (c.getD 0 0) 0=h)) (zcl (zax (ws:=[wB b,mkB is h]) (by trivial) rfl e1) (.fr _)) hzl (fun c hc=>?_)) ?_
 ·obtain⟨p0,_,p2⟩:=zf2 B.bd hc
  have hh:c.getD 0 0<is.length:=by rw[hl];exact zhB p0 p2
  have i1:=zik (ce:=ce) p0
  have i2:=zkC (ce:=ce) (h:=h) hh
  trivial
 ·exact zaF (by simp only[Bel];exact bels_wL _ _)
structure Sm (b R:List (List Nat)):Prop where
 len:R.length<=b.length
 row:∀r∈R,r.length<=b.length/\∀p∈r,p<b.length
theorem Sm.flt{R:List (List Nat)}(S:Sm b R)(t:List Nat->Bool):Sm b (R.filter t):=⟨Nat.le_trans (List.length_filter_le _ _) S.len,fun r hr=>S.row r (List.mem_filter.mp hr).1⟩
theorem Sm.ptc(hb:Bd b)(vl:Nat->Int):Sm b (ptc b vl):=⟨ptc_len,fun r hr=>(zf2 hb hr).2⟩
def ze0(is:List Int)(near c:List Nat):Bool:=((c.filter fun p=>decide (is.getD p 0=0)).map fun p=>decide (p∈near)).all id
def zbN(b:List (List Nat))(is:List Int)(C:List (List Nat))(r:List Nat):Bool:=decide ((2:Int)<=((C.filter (ze0 is (brs b is r))).length:Int))
def zgL(R:List (List Nat))(p:Nat):Bool:=(R.map fun r=>decide (p∈r)).any id
def zb8(b:List (List Nat))(is:List Int)(h:Int)(R:List (List Nat))(c:List Nat):Bool:=(((zaX b c).filter fun p=>decide (is.getD p 0=h)).map (zgL R)).all id
theorem ziV(fu:Nat){c near:List Nat}(hc:∀p∈c,p<is.length)(hcl:c.length<=36):d_is_held fu [wS is,wL c,wL near] ce=some (.ok (.bl (ze0 is near c)) ce):=by
 have hz:=sl36
 have hcz:c.length<=PySem.sizeLine:=by omega
 unfold d_is_held
 refine zbA [some (wS is),some (wL c),some (wL near)] rfl ?_
 refine zaA (zbL (zak (ztb (zs:=c) (en:=nW) (t:=fun p=>decide (is.getD p 0=0)) (f:=fun p=>decide (p∈near)) (zcl (by trivial) (.fr _)) hcz (fun p hp=>?_) (fun p hp _=>by trivial)) zat) zgu) ?_
 ·have i1:=zdK (ce:=ce) (hc p hp)
  trivial
 ·exact zaF (by simp only[Bel])
theorem zrQ(fu:Nat)(B:Brd b)(hl:is.length=b.length){r:List Nat}(hr:∀p∈r,p<b.length):zcL (d_breaths fu) [wB b,wS is,wL r] ce=some (.ok (wL (brs b is r)) ce):=zem (ziT fu B.bd B.h36 hl (.fr _) hr) (bels_nW _ _)
theorem ziW(fu:Nat)(B:Brd b)(hl:is.length=b.length){r:List Nat}{C:List (List Nat)}(hr:∀p∈r,p<b.length)(SC:Sm b C):d_is_firm fu [wB b,wS is,wL r,.lst (C.map wL)] ce=some (.ok (.bl (zbN b is C r)) ce):=by
 have hz:=sl36
 have h36:=B.h36
 have e1:=zrQ (ce:=ce) fu B hl hr
 have hcz:C.length<=PySem.sizeLine:=by have:=SC.len;omega
 unfold d_is_firm
 refine zbA [some (wB b),some (wS is),some (wL r),some (.lst (C.map wL)),none,none] rfl ?_
 refine zan (w:=wL (brs b is r)) (ce':=ce) (by trivial) ?_
 refine zan (w:=.lst ((C.filter (ze0 is (brs b is r))).map wL)) (ce':=ce) (zh5 (zs:=C) (en:=wL) (t:=ze0 is (brs b is r)) (zcl (by trivial) (.fr _)) hcz (fun c hc=>?_)) ?_
 ·obtain⟨q1,q2⟩:=SC.row c hc
  have e2:=ziV (ce:=ce) (is:=is) (near:=brs b is r) fu (fun p hp=>by rw[hl];exact q2 p hp) (by omega)
  trivial
 ·have l1:zc3 [.lst ((C.filter (ze0 is (brs b is r))).map wL)] ce=some (.ok (nW (C.filter (ze0 is (brs b is r))).length) ce):=by simp only[zc3,zeN,zcz,List.length_map];rfl
  unfold zbN
  trivial
  exact zaF (by simp only[Bel])
theorem zgM(fu:Nat){R:List (List Nat)}(hR:R.length<=36){p:Nat}:d_is_in_one fu [nW p,.lst (R.map wL)] ce=some (.ok (.bl (zgL R p)) ce):=by
 have hz:=sl36
 have hcz:R.length<=PySem.sizeLine:=by omega
 unfold d_is_in_one
 refine zbA [some (nW p),some (.lst (R.map wL))] rfl ?_
 refine zaA (zbL (zak (zkd (zs:=R) (en:=wL) (f:=fun r=>decide (p∈r)) (zcl (by trivial) (.fr _)) hcz (fun r hr=>by trivial)) zat) zpH) ?_
 exact zaF (by simp only[Bel])
theorem zgN(fu:Nat)(B:Brd b)(hl:is.length=b.length){c:List Nat}{R:List (List Nat)}(hc:∀p∈c,p<b.length)(SR:Sm b R):d_is_walled fu [wB b,wS is,.int h,wL c,.lst (R.map wL)] ce=some (.ok (.bl (zb8 b is h R c)) ce):=by
 have hz:=sl36
 have h36:=B.h36
 have e1:=zmx (ce:=ce) fu B.bd h36 (.fr _) hc
 have h2:=zdc (b:=b) (row:=c)
 have h3:((zaX b c).filter fun p=>decide (is.getD p 0=h)).length<=PySem.sizeLine:=Nat.le_trans (List.length_filter_le _ _) (by omega)
 unfold d_is_walled
 refine zbA [some (wB b),some (wS is),some (.int h),some (wL c),some (.lst (R.map wL)),none] rfl ?_
 refine zan (w:=wL ((zaX b c).filter fun p=>decide (is.getD p 0=h))) (ce':=ce) (zh5 (zs:=zaX b c) (en:=nW) (t:=fun p=>decide (is.getD p 0=h)) (zcl (zax (ws:=[wB b,wL c]) (by trivial) rfl e1) (.fr _)) (by omega) (fun p hp=>?_)) ?_
 ·have i1:=zdK (ce:=ce) (is:=is) (p:=p) (by have:=zdD hp;omega)
  trivial
 ·refine zaA (zbL (zak (zkd (zs:=(zaX b c).filter fun p=>decide (is.getD p 0=h)) (en:=nW) (f:=zgL R) (zcl (by trivial) (.fr _)) h3 (fun p hp=>?_)) zat) zgu) ?_
  ·have e2:=zgM (ce:=ce) (p:=p) fu (R:=R) (by have:=SR.len;omega)
   trivial
  ·exact zaF (by simp only[Bel])
theorem zob(R C:List (List Nat)):ixW ce (pW2 R C) (.int 0)=some (.lst (R.map wL)):=zh3 (xs:=[.lst (R.map wL),.lst (C.map wL)]) (j:=0) rfl rfl
theorem zqg(R C:List (List Nat)):ixW ce (pW2 R C) (.int 1)=some (.lst (C.map wL)):=zh3 (xs:=[.lst (R.map wL),.lst (C.map wL)]) (j:=1) rfl rfl
theorem zhD(fu:Nat)(B:Brd b)(hl:is.length=b.length){R C:List (List Nat)}(SR:Sm b R)(SC:Sm b C):d_kept fu [wB b,wS is,.int h,pW2 R C] ce=some (.ok (pW2 (R.filter (zbN b is C)) (C.filter (zb8 b is h R))) ce):=by
 have hz:=sl36
 have h36:=B.h36
 have i0:=zob (ce:=ce) R C
 have i1:=zqg (ce:=ce) R C
 have z2:2<=PySem.sizeLine:=by decide
 unfold d_kept
 refine zbA [some (wB b),some (wS is),some (.int h),some (pW2 R C),none,none] rfl ?_
 refine zan (w:=.lst ((R.filter (zbN b is C)).map wL)) (ce':=ce) (zh5 (zs:=R) (en:=wL) (t:=zbN b is C) (zcl (zaG (by trivial) (by trivial) i0) (.fr _)) (by have:=SR.len;omega) (fun r hr=>?_)) ?_
 ·have e2:=ziW (ce:=ce) fu B hl (SR.row r hr).2 SC
  trivial
 refine zan (w:=.lst ((C.filter (zb8 b is h R)).map wL)) (ce':=ce) (zh5 (zs:=C) (en:=wL) (t:=zb8 b is h R) (zcl (zaG (by trivial) (by trivial) i1) (.fr _)) (by have:=SC.len;omega) (fun c hc=>?_)) ?_
 ·have e2:=zgN (ce:=ce) (h:=h) fu B hl (SC.row c hc).2 SR
  trivial
 refine zaA (zc5 (ws:=[.lst ((R.filter (zbN b is C)).map wL),.lst ((C.filter (zb8 b is h R)).map wL)]) (by trivial) z2) ?_
 exact zaF (by simp only[Bel,zdd];exact⟨bels_wL _ _,bels_wL _ _,trivial⟩)
theorem zmz(ng:Bool)(R C R' C':List (List Nat)):eqD ng ce (pW2 R C) (pW2 R' C')=some (.bl (if ng then !decide (R=R'/\C=C') else decide (R=R'/\C=C'))):=by
 have h:∀R C:List (List Nat),zkO ce (pW2 R C)=some (pW2 R C):=fun R C=>by simp only[zkO,pW2,zeT,zb7,zdl,Option.map_some]
 have c:∀R C:List (List Nat),cln 8 (pW2 R C)=true:=fun R C=>by
  simp only[pW2,cln,List.all_cons,List.all_nil,zic,Bool.and_self]
 simp only[eqD,h,c,Bool.and_self,if_true,peq,peqs,zhm,Bool.and_true,Bool.decide_and]
end
theorem zqh{α:Type}{l:List α}(nd:l.Nodup)(h:2<=l.length):∃a∈l,∃c∈l,a≠c:=by
 match l,nd,h with
 | a::c::r,nd,_=>exact⟨a,by simp,c,by simp,fun e=>by subst e;simp at nd⟩
theorem zqi{α:Type}{l:List α}{a c:α}(ha:a∈l)(hc:c∈l)(hne:a≠c):2<=l.length:=by
 match l,ha,hc with
 | [],ha,_=>simp at ha
 | [x],ha,hc=>simp only[List.mem_singleton] at ha hc;exact absurd (ha.trans hc.symm) hne
 | x::y::r,_,_=>simp
theorem zmA{α:Type}{l:List α}{t:α->Bool}(h:l.filter t≠l):(l.filter t).length<l.length:=by
 rcases Nat.lt_or_ge (l.filter t).length l.length with q|q
 ·exact q
 ·exact absurd (List.Sublist.eq_of_length_le List.filter_sublist q) h
section
variable {b:List (List Nat)} {is:List Int} {h:Int} {ce:Ce}
theorem heldB_iff{near c:List Nat}:ze0 is near c=true↔∀p∈c,is.getD p 0=0->p∈near:=by
 unfold ze0
 rw[List.all_eq_true]
 constructor
 ·intro q p hp h0
  exact of_decide_eq_true (q _ (List.mem_map.mpr ⟨p,List.mem_filter.mpr ⟨hp,decide_eq_true h0⟩,rfl⟩))
 ·intro q x hx
  obtain⟨p,hp,rfl⟩:=List.mem_map.mp hx
  obtain⟨h1,h2⟩:=List.mem_filter.mp hp
  exact decide_eq_true (q p h1 (of_decide_eq_true h2))
theorem inOneB_iff{R:List (List Nat)}{p:Nat}:zgL R p=true↔∃r∈R,p∈r:=by
 unfold zgL
 rw[List.any_eq_true]
 constructor
 ·rintro⟨x,hx,q⟩
  obtain⟨r,hr,rfl⟩:=List.mem_map.mp hx
  exact⟨r,hr,of_decide_eq_true q⟩
 ·rintro⟨r,hr,q⟩
  exact⟨_,List.mem_map.mpr ⟨r,hr,rfl⟩,decide_eq_true q⟩
theorem zeK(hb:Bd b){R:List (List Nat)}{c:List Nat}:zb8 b is h R c=true↔∀x∈c,∀y∈b.getD x [],is.getD y 0=h->∃r∈R,y∈r:=by
 unfold zb8
 rw[List.all_eq_true]
 constructor
 ·intro q x hx y hy e
  exact inOneB_iff.mp (q _ (List.mem_map.mpr ⟨y,List.mem_filter.mpr ⟨(zky hb).mpr ⟨x,hx,hy⟩,decide_eq_true e⟩,rfl⟩))
 ·intro q x hx
  obtain⟨y,hy,rfl⟩:=List.mem_map.mp hx
  obtain⟨h1,h2⟩:=List.mem_filter.mp hy
  obtain⟨x,hx,hy⟩:=(zky hb).mp h1
  exact inOneB_iff.mpr (q x hx y hy (of_decide_eq_true h2))
theorem zlU{C:List (List Nat)}{r c1 c2:List Nat}(h1:c1∈C)(h2:c2∈C)(hne:c1≠c2)(d1:∀p∈c1,is.getD p 0=0->p∈brs b is r)(d2:∀p∈c2,is.getD p 0=0->p∈brs b is r):zbN b is C r=true:=by
 unfold zbN
 have:=zqi (l:=C.filter (ze0 is (brs b is r))) (List.mem_filter.mpr ⟨h1,heldB_iff.mpr d1⟩) (List.mem_filter.mpr ⟨h2,heldB_iff.mpr d2⟩) hne
 exact decide_eq_true (by omega)
theorem zgO{C:List (List Nat)}{r:List Nat}(nd:C.Nodup)(q:zbN b is C r=true):∃c1∈C,∃c2∈C,c1≠c2/\(∀p∈c1,is.getD p 0=0->p∈brs b is r)/\∀p∈c2,is.getD p 0=0->p∈brs b is r:=by
 unfold zbN at q
 have q:=of_decide_eq_true q
 obtain⟨c1,h1,c2,h2,hne⟩:=zqh (l:=C.filter (ze0 is (brs b is r))) (List.Pairwise.filter _ nd) (by omega)
 obtain⟨a1,a2⟩:=List.mem_filter.mp h1
 obtain⟨b1,b2⟩:=List.mem_filter.mp h2
 exact⟨c1,a1,c2,b1,hne,heldB_iff.mp a2,heldB_iff.mp b2⟩
theorem zqj(hb:Bd b){vl:Nat->Int}:(ptc b vl).Nodup:=by
 unfold ptc
 refine List.Pairwise.map _ ?_ (List.Pairwise.and_mem.mp (List.Pairwise.filter _ List.nodup_range))
 rintro s t ⟨hs,ht,hne⟩ e
 obtain⟨s1,s2⟩:=List.mem_filter.mp hs
 obtain⟨t1,t2⟩:=List.mem_filter.mp ht
 have a:=zcQ (vl:=vl) hb (List.mem_range.mp s1) s2
 rw[e,zcQ hb (List.mem_range.mp t1) t2] at a
 exact hne a.symm
theorem zeL(hb:Bd b)(sym:Sym b)(h0:h≠0){r:List Nat}:r∈rowsF b is h↔∃s,s<b.length/\is.getD s 0=h/\r=cpt b (vS is) s:=by
 unfold rowsF zhC
 rw[List.mem_filter,List.mem_filter,zhj hb]
 constructor
 ·rintro⟨⟨⟨s,hs,hm,rfl⟩,_⟩,q⟩
  rw[zcQ hb hs hm] at q
  exact⟨s,hs,of_decide_eq_true q,rfl⟩
 ·rintro⟨t,ht,et,rfl⟩
  obtain⟨m,h1,h2,h3⟩:=zdk (vl:=vS is) hb sym ht
  have hm:=zdL h1
  have em:is.getD m 0=h:=(cpt_val hb ht h1).trans et
  rw[<- h3,zcQ hb hm h2,em]
  refine⟨⟨⟨m,hm,h2,rfl⟩,?_⟩,decide_eq_true rfl⟩
  simp[h0]
theorem zhE(hb:Bd b)(sym:Sym b){c:List Nat}:c∈cls b is h↔∃s,s<b.length/\is.getD s 0≠h/\c=cpt b (vH is h) s:=by
 unfold cls
 rw[List.mem_filter,zhj hb]
 constructor
 ·rintro⟨⟨s,hs,hm,rfl⟩,q⟩
  rw[zcQ hb hs hm] at q
  refine⟨s,hs,fun e=>?_,rfl⟩
  rw[decide_eq_true e] at q
  cases q
 ·rintro⟨t,ht,et,rfl⟩
  obtain⟨m,h1,h2,h3⟩:=zdk (vl:=vH is h) hb sym ht
  have hm:=zdL h1
  have em:is.getD m 0≠h:=(zrP et).mp (cpt_val hb ht h1)
  rw[<- h3,zcQ hb hm h2]
  refine⟨⟨m,hm,h2,rfl⟩,?_⟩
  rw[decide_eq_false em];rfl
structure Mak (b:List (List Nat)) (is:List Int) (h:Int) (R C:List (List Nat)):Prop where
 sr:Sm b R
 sc:Sm b C
 nd:C.Nodup
 row:∀r∈R,r∈rowsF b is h
 cl:∀c∈C,c∈cls b is h
 gr:∀R' C',Pap b is h R' C'->(∀r∈R',r∈R)/\∀c∈C',c∈C
theorem Mak.start(hb:Bd b)(sym:Sym b)(h0:h≠0):Mak b is h (rowsF b is h) (cls b is h):=by
 refine⟨((Sm.ptc hb _).flt _).flt _,(Sm.ptc hb _).flt _,List.Pairwise.filter _ (zqj hb),fun _ h=>h,fun _ h=>h,fun R' C' P=>⟨fun r hr=>?_,fun c hc=>?_⟩⟩
 ·exact(zeL hb sym h0).mpr (P.row r hr)
 ·exact(zhE hb sym).mpr (P.cl c hc)
theorem Mak.step{R C:List (List Nat)}(M:Mak b is h R C)(hb:Bd b):Mak b is h (R.filter (zbN b is C)) (C.filter (zb8 b is h R)):=by
 refine⟨M.sr.flt _,M.sc.flt _,List.Pairwise.filter _ M.nd,fun r hr=>M.row r (List.mem_filter.mp hr).1,fun c hc=>M.cl c (List.mem_filter.mp hc).1,fun R' C' P=>⟨fun r hr=>?_,fun c hc=>?_⟩⟩
 ·obtain⟨g1,g2⟩:=M.gr R' C' P
  obtain⟨c1,h1,c2,h2,hne,d1,d2⟩:=P.firm r hr
  exact List.mem_filter.mpr ⟨g1 r hr,zlU (g2 c1 h1) (g2 c2 h2) hne d1 d2⟩
 ·obtain⟨g1,g2⟩:=M.gr R' C' P
  refine List.mem_filter.mpr ⟨g2 c hc,(zeK hb).mpr fun x hx y hy e=>?_⟩
  obtain⟨r,hr,q⟩:=P.wall c hc x hx y hy e
  exact⟨r,g1 r hr,q⟩
theorem Mak.pap{R C:List (List Nat)}(M:Mak b is h R C)(hb:Bd b)(sym:Sym b)(h0:h≠0)(e1:R.filter (zbN b is C)=R)(e2:C.filter (zb8 b is h R)=C):Pap b is h R C:=by
 refine⟨fun r hr=>(zeL hb sym h0).mp (M.row r hr),fun c hc=>(zhE hb sym).mp (M.cl c hc),fun r hr=>?_,fun c hc=>?_⟩
 ·rw[<- e1] at hr
  exact zgO M.nd (List.mem_filter.mp hr).2
 ·rw[<- e2] at hc
  exact(zeK hb).mp (List.mem_filter.mp hc).2
theorem zkD(fu:Nat)(hfu:200<=fu)(B:Brd b)(hl:is.length=b.length)(h0:h≠0):∃R C,d_safe fu [wB b,wS is,.int h] ce=some (.ok (pW2 R C) ce)/\Mak b is h R C/\Pap b is h R C:=by
 have h36:=B.h36
 have z2:2<=PySem.sizeLine:=by decide
 suffices hs:∃w c',d_safe fu [wB b,wS is,.int h] ce=some (.ok w c')/\∃R C,w=pW2 R C/\c'=ce/\Mak b is h R C/\Pap b is h R C by
  obtain⟨w,c',e,R,C,rfl,rfl,q⟩:=hs
  exact⟨R,C,e,q⟩
 have e1:=zfp (ce:=ce) (h:=h) fu hfu B hl
 have e2:=zgK (ce:=ce) (h:=h) fu hfu B hl
 have M0:Mak b is h (rowsF b is h) (cls b is h):=Mak.start B.bd B.sym h0
 generalize rowsF b is h=R0 at e1 M0
 generalize cls b is h=C0 at e2 M0
 have l1:=M0.sr.len
 have l2:=M0.sc.len
 unfold d_safe
 refine zgH [some (wB b),some (wS is),some (.int h),none,none] rfl ?_
 refine zan (w:=pW2 R0 C0) (ce':=ce) (zc5 (ws:=[.lst (R0.map wL),.lst (C0.map wL)]) (by trivial) z2) ?_
 have e3:=zhD (ce:=ce) (h:=h) fu B hl M0.sr M0.sc
 refine zan (w:=pW2 (R0.filter (zbN b is C0)) (C0.filter (zb8 b is h R0))) (ce':=ce) (zax (ws:=[wB b,wS is,.int h,pW2 R0 C0]) (by trivial) rfl e3) ?_
 refine zeu (σ:=List (List Nat)×List (List Nat)) (fun st sl c=>sl=[some (wB b),some (wS is),some (.int h),some (pW2 st.1 st.2),some (pW2 (st.1.filter (zbN b is st.2)) (st.2.filter (zb8 b is h st.1)))]/\c=ce/\Mak b is h st.1 st.2)
  (fun st=>st.1.length+st.2.length) (R0,C0) ⟨rfl,rfl,M0⟩ (by show R0.length+C0.length<fu;omega) ?_
 rintro⟨R,C⟩ sl c ⟨rfl,rfl,M⟩
 dsimp only at M ⊢
 have q1:=zmz (ce:=c) true (R.filter (zbN b is C)) (C.filter (zb8 b is h R)) R C
 refine⟨!decide (R.filter (zbN b is C)=R/\C.filter (zb8 b is h R)=C),zfH (zaG (by trivial) (by trivial) q1),fun q=>?_,fun q=>?_⟩
 ·have q':¬(R.filter (zbN b is C)=R/\C.filter (zb8 b is h R)=C):=fun q2=>by rw[decide_eq_true q2] at q;cases q
  have M':=M.step B.bd
  have f1:=List.length_filter_le (zbN b is C) R
  have f2:=List.length_filter_le (zb8 b is h R) C
  have f3:(R.filter (zbN b is C)).length+(C.filter (zb8 b is h R)).length<R.length+C.length:=by
   by_cases q2:R.filter (zbN b is C)=R
   ·have:=zmA (fun q3=>q' ⟨q2,q3⟩:C.filter (zb8 b is h R)≠C)
    omega
   ·have:=zmA q2
    omega
  generalize R.filter (zbN b is C)=R' at M' f3
  generalize C.filter (zb8 b is h R)=C' at M' f3
  have e4:=zhD (ce:=c) (h:=h) fu B hl M'.sr M'.sc
  unfold zkp
  refine zan (w:=pW2 R' C') (ce':=c) (by trivial) ?_
  refine zj2 (w:=pW2 (R'.filter (zbN b is C')) (C'.filter (zb8 b is h R'))) (ce':=c) (zax (ws:=[wB b,wS is,.int h,pW2 R' C']) (by trivial) rfl e4) ?_
  exact⟨(R',C'),f3,rfl,rfl,M'⟩
 ·have q':R.filter (zbN b is C)=R/\C.filter (zb8 b is h R)=C:=Classical.byContradiction fun q2=>by rw[decide_eq_false q2] at q;cases q
  refine zaA (w:=pW2 R C) (ce':=c) (by trivial) ?_
  exact⟨_,_,zaF (by simp only[Bel,zdd];exact⟨bels_wL _ _,bels_wL _ _,trivial⟩),R,C,rfl,rfl,M,M.pap B.bd B.sym h0 q'.1 q'.2⟩
end
theorem zmB{α:Type}[DecidableEq α]:∀{l m:List α},l.Nodup->(∀x∈l,x∈m)->l.length<=m.length
 | [],_,_,_=>Nat.zero_le _
 | x::l,m,nd,h=>by
  have hx:=h x List.mem_cons_self
  obtain⟨nx,nd'⟩:=List.nodup_cons.mp nd
  have ih:=zmB (l:=l) (m:=m.erase x) nd' fun y hy=>(List.mem_erase_of_ne (fun e=>nx (by rw[<- e];exact hy))).mpr (h y (List.mem_cons_of_mem _ hy))
  rw[List.length_erase_of_mem hx] at ih
  have:0<m.length:=List.length_pos_of_mem hx
  rw[List.length_cons];omega
section
variable {b:List (List Nat)} {is:List Int} {h:Int} {ce:Ce} {sl:Sl} {c1:Ce} {x y:Sl->M W} {p q:Bool}
theorem zkE(ha:x sl ce=some (.ok (.bl p) c1))(hb:p=true->y sl c1=some (.ok (.bl q) c1)):zi1 x y sl ce=some (.ok (.bl (p&&q)) c1):=by
 cases p with
 | true=>simp only[zi1,bnd,ha,hb rfl];rfl
 | false=>simp only[zi1,bnd,ha];rfl
structure Lb (b R:List (List Nat)):Prop where
 len:R.length<=100
 row:∀r∈R,r.length<=36/\∀p∈r,p<b.length
theorem zlV(fu:Nat){n:Nat}:d_is_whole fu [nW n] ce=some (.ok (.bl true) ce):=by
 unfold d_is_whole
 refine zbA [some (nW n)] rfl ?_
 exact zaA (w:=.bl true) (ce':=ce) rfl (zaF (by simp only[Bel]))
theorem zgP(fu:Nat){r:List Nat}(hr:r.length<=36):d_is_points fu [wL r] ce=some (.ok (.bl true) ce):=by
 have hz:=sl36
 unfold d_is_points
 refine zbA [some (wL r)] rfl ?_
 have e1:=zkd (zs:=r) (en:=nW) (f:=fun _=>true) (js:=[]) (di:=dIL (zaf 0)) (e:=zey (zao 1 (d_is_whole fu) (zac (zaf 0) zal))) (sl:=[some (wL r)]) (ce:=ce) (c1:=ce) (zcl (by trivial) (.fr _)) (by omega) (fun p hp=>by
  have e2:=zlV (ce:=ce) fu (n:=p)
  exact zgw (zax (ws:=[nW p]) (zak (zam rfl) zat) rfl e2))
 have e3:((r.map fun _=>true).all id)=true:=by simp
 refine zaA (w:=.bl true) (ce':=ce) (zpN (zbL (by trivial) ((LstOf.fr _).isL)) (zbL (zak e1 zat) (by rw[zgu,e3]))) ?_
 exact zaF (by simp only[Bel])
theorem zmC(x r:List Nat):peq (wL x) (wL r)=decide (x=r):=by simp only[wL,peq,zkh]
theorem zqk(R:List (List Nat))(r:List Nat):zoa (.lst (R.map wL)) [wL r] ce=some (.ok (.int (R.count r:Nat)) ce):=by
 have k1:cln 8 (drf ce (wL r))=true:=by show cln 8 (wL r)=true;simp only[wL,cln,zep];exact zcO _ _
 have k2:(R.map wL).all (cln 8)=true:=zic 7 R
 have k3:(R.map wL).countP (peq · (wL r))=R.count r:=by
  rw[List.countP_map,List.count]
  apply List.countP_congr
  intro z _
  simp[Function.comp,zmC]
 have k4:drf ce (wL r)=wL r:=rfl
 rw[k4] at k1
 simp only[zoa,zcz,k4,k1,k2,Bool.and_self,if_true,k3]
theorem zil(ng:Bool)(r:List Nat)(R:List (List Nat)):inW ng ce (wL r) (.lst (R.map wL))=some (.bl (if ng then !decide (r∈R) else decide (r∈R))):=by
 have h1:(R.map wL).any (fun z=>peq z (wL r))=decide (r∈R):=by
  induction R with
  | nil=>simp
  | cons x R ih =>
   rw[List.map_cons,List.any_cons,ih,zmC]
   by_cases q:x=r
   ·subst q;simp
   ·have q':¬r=x:=fun e=>q e.symm
    simp[q,q']
 have c1:cln 8 (wL r)=true:=by simp only[wL,cln,zep];exact zcO _ _
 have c2:(R.map wL).all (cln 8)=true:=zic 7 R
 have d1:drf ce (wL r)=wL r:=rfl
 simp only[inW,zeN,zcz,d1,c1,c2,Bool.and_self,if_true,h1]
def someB(K R:List (List Nat)):Bool:=(R.map fun r=>true&&(decide (r∈K)&&decide (R.count r=1))).all id
theorem someB_iff{K R:List (List Nat)}:someB K R=true↔R.Nodup/\∀r∈R,r∈K:=by
 unfold someB
 rw[List.all_map,List.all_eq_true]
 simp only[Function.comp,id,Bool.true_and,Bool.and_eq_true,decide_eq_true_eq]
 constructor
 ·intro h
  exact⟨List.nodup_iff_count.mpr fun r=>by
   by_cases hr:r∈R
   ·exact Nat.le_of_eq (h r hr).2
   ·rw[List.count_eq_zero_of_not_mem hr];omega,fun r hr=>(h r hr).1⟩
 ·rintro⟨nd,h⟩ r hr
  exact⟨h r hr,Nat.le_antisymm (List.nodup_iff_count.mp nd r) (List.one_le_count_iff.mpr hr)⟩
theorem zkF(fu:Nat){K R:List (List Nat)}(L:Lb b R):d_are_some_of fu [.lst (R.map wL),.lst (K.map wL)] ce=some (.ok (.bl (someB K R)) ce):=by
 have hz:200<PySem.sizeLine:=by decide
 have hR:=L.len
 unfold d_are_some_of
 refine zbA [some (.lst (R.map wL)),some (.lst (K.map wL))] rfl ?_
 refine zbu (p:=!true) (ce':=ce) (zfI (zfH (zbL (by trivial) ((LstOf.fr _).isL)))) (fun q=>by simp at q) (fun _=>?_)
 refine za7 ?_
 have e1:=zkd (zs:=R) (en:=wL) (f:=fun r=>true&&(decide (r∈K)&&decide (R.count r=1))) (js:=[1,0]) (di:=dIL (zaf 0)) (e:=zey (zi1 (zao 1 (d_is_points fu) (zac (zaf 0) zal)) (zi1 (zay (inW false) (zaf 0) (zaf 1)) (zay (eqW false) (dMt zoa (zaf 2) (zac (zaf 0) zal)) (dC (.int 1)))))) (sl:=[some (.lst (R.map wL)),some (.lst (K.map wL))]) (ce:=ce) (c1:=ce) (zcl (by trivial) (.fr _)) (by omega) (fun r hr=>by
  have e2:=zgP (ce:=ce) fu (L.row r hr).1
  have e3:=zil (ce:=ce) false r K
  have e4:eqW false ce (.int (R.count r:Nat)) (.int 1)=some (.bl (decide (R.count r=1))):=by
   have:decide (((R.count r:Nat):Int)=1)=decide (R.count r=1):=by
    rw[Bool.eq_iff_iff,decide_eq_true_eq,decide_eq_true_eq];omega
   rw[<- this]
   exact eqI0
  exact zgw (zkE (zax (ws:=[wL r]) (c1:=ce) (by trivial) rfl e2) (fun _=>zkE (zaG (zam rfl) (zam rfl) e3) (fun _=>zaG (ziG (zam rfl) rfl (zak (zam rfl) zat) (zqk R r)) zcZ e4))))
 refine zaA (zbL (zak e1 zat) zgu) ?_
 exact zaF (by simp only[Bel])
theorem Sm.rowsF(hb:Bd b):Sm b (rowsF b is h):=by unfold K34.rowsF zhC;exact((Sm.ptc hb _).flt _).flt _
theorem Sm.cls(hb:Bd b):Sm b (cls b is h):=by unfold K34.cls;exact(Sm.ptc hb _).flt _
theorem Sm.some{K R:List (List Nat)}(S:Sm b K)(q:someB K R=true):Sm b R:=by
 obtain⟨nd,hs⟩:=someB_iff.mp q
 exact⟨Nat.le_trans (zmB nd hs) S.len,fun r hr=>S.row r (hs r hr)⟩
open Classical in
def zdT(b:List (List Nat))(is:List Int)(h:Int)(R C:List (List Nat)):Bool:=someB (rowsF b is h) R&&(someB (cls b is h) C&&decide (R.filter (zbN b is C)=R/\C.filter (zb8 b is h R)=C))
theorem zlW(fu:Nat)(hfu:200<=fu)(B:Brd b)(hl:is.length=b.length){R C:List (List Nat)}(LR:Lb b R)(LC:Lb b C):d_holds fu [wB b,wS is,.int h,pW2 R C] ce=some (.ok (.bl (zdT b is h R C)) ce):=by
 have hz:=sl36
 have i0:=zob (ce:=ce) R C
 have i1:=zqg (ce:=ce) R C
 have e1:=zfp (ce:=ce) (h:=h) fu hfu B hl
 have e2:=zgK (ce:=ce) (h:=h) fu hfu B hl
 have e3:=zkF (ce:=ce) fu (K:=rowsF b is h) LR
 have e4:=zkF (ce:=ce) fu (K:=cls b is h) LC
 unfold d_holds
 refine zbA [some (wB b),some (wS is),some (.int h),some (pW2 R C)] rfl ?_
 refine zbu (p:=!true||false) (ce':=ce) rfl (fun q=>by simp at q) (fun _=>?_)
 refine za7 ?_
 refine zbu (p:=!someB (rowsF b is h) R) (ce':=ce) (zfI (zfH (zax (ws:=[.lst (R.map wL),.lst ((rowsF b is h).map wL)]) (zak (zaG (zam rfl) zcZ i0) (zak (zax (ws:=[wB b,wS is,.int h]) (by trivial) rfl e1) zat)) rfl e3))) (fun q=>?_) (fun q=>?_)
 ·refine zck (zaA (w:=.bl false) (ce':=ce) (by trivial) ?_)
  rw[Bool.not_eq_true'] at q
  unfold zdT
  rw[q]
  exact zaF (by simp only[Bel])
 rw[Bool.not_eq_false'] at q
 refine za7 ?_
 refine zbu (p:=!someB (cls b is h) C) (ce':=ce) (zfI (zfH (zax (ws:=[.lst (C.map wL),.lst ((cls b is h).map wL)]) (zak (zaG (zam rfl) zcZ i1) (zak (zax (ws:=[wB b,wS is,.int h]) (by trivial) rfl e2) zat)) rfl e4))) (fun q2=>?_) (fun q2=>?_)
 ·refine zck (zaA (w:=.bl false) (ce':=ce) (by trivial) ?_)
  rw[Bool.not_eq_true'] at q2
  unfold zdT
  rw[q,q2]
  exact zaF (by simp only[Bel])
 rw[Bool.not_eq_false'] at q2
 refine za7 ?_
 have e5:=zhD (ce:=ce) (h:=h) fu B hl ((Sm.rowsF B.bd).some q) ((Sm.cls B.bd).some q2)
 refine zaA (w:=.bl (zdT b is h R C)) (ce':=ce) (zaG (zax (ws:=[wB b,wS is,.int h,pW2 R C]) (by trivial) rfl e5) (zam rfl) ?_) (zaF (by simp only[Bel]))
 rw[zmz]
 unfold zdT
 rw[q,q2]
 simp
end
section
variable {b:List (List Nat)} {is:List Int} {h:Int} {ce:Ce}
def everyL(b:List (List Nat))(is:List Int)(h:Int):List (List Nat):=lpt b (thr is [0,3-h])
def ownL(b:List (List Nat))(is:List Int)(h:Int):List (List Nat):=lpt b (thr is [h])
theorem zfq(fu:Nat)(hfu:200<=fu)(B:Brd b)(hl:is.length=b.length):d__law_closes fu [wB b,wS is,.int h] ce=some (.ok (.lst ((everyL b is h).map wL)) ce):=by
 have e1:=zfl (ce:=ce) (H:=[0,3-h]) fu hfu B.bd B.sym B.h36 (zp8 is) hl
 unfold d__law_closes
 refine zbA [some (wB b),some (wS is),some (.int h)] rfl ?_
 have e2:zcL (d__law_patches fu) [wB b,wS is,.lst [.int 0,.int (3-h)]] ce=some (.ok (.lst ((everyL b is h).map wL)) ce):=e1
 refine zaA (zax (ws:=[wB b,wS is,.lst [.int 0,.int (3-h)]]) (c1:=ce) (by trivial) rfl e2) ?_
 exact zaF (by simp only[Bel];exact bels_wL _ _)
end
section
variable {b:List (List Nat)} {is:List Int} {h:Int} {ce:Ce}
theorem zgQ(B:Brd b)(hl:is.length=b.length){H:List Int}{r:List Nat}(hr:r∈lpt b (thr is H)):r.length<=36/\∀p∈r,p<b.length:=by
 obtain⟨s,hs,rfl⟩:=zmy hr
 have:=zke (b:=b) (vl:=vT (thr is H)) (s:=s)
 have h36:=B.h36
 exact⟨by omega,fun p hp=>zdL hp⟩
end
section
variable {b:List (List Nat)} {is:List Int} {h:Int} {ce:Ce}
theorem zf3{α:Type}{l:List α}{i:Nat}{d:α}(h:i<l.length):l.getD i d∈l:=by
 rw[List.getD_eq_getElem?_getD,List.getElem?_eq_getElem h];exact List.getElem_mem h
theorem zmD{x:W}{R:List (List Nat)}{i:Nat}{j:Int}(hx:zeN ce x=some (R.map wL))(e:j=i)(h:i<R.length):ixW ce x (.int j)=some (wL (R.getD i [])):=by
 rw[zh3 (xs:=R.map wL) (j:=i) hx (by rw[e]),List.getElem?_map,List.getElem?_eq_getElem h,List.getD_eq_getElem?_getD,List.getElem?_eq_getElem h];rfl
theorem zhF{R:List (List Nat)}{i:Nat}{j:Int}(e:j=i)(h:i<R.length):ixW ce (.lst (R.map wL)) (.int j)=some (wL (R.getD i [])):=zmD rfl e h
theorem zn1(xs:List W)(hi:Option Int):(zma xs none hi).length<=xs.length:=by
 unfold zma
 rw[List.length_take,List.length_drop];omega
theorem zql{sl:Sl}{c1 c2:Ce}{a:Sl->M W}{dh:Sl->M (Option Int)}{x:W}{xs:List W}{hi:Option Int}(ha:a sl ce=some (.ok x c1))(hh:dh sl c1=some (.ok hi c2))(hx:zcz c2 x=some xs)(hz:xs.length<=PySem.sizeLine):dSl zaT a zdt dh sl ce=some (.ok (.lst (zma xs none hi)) c2):=by
 simp only[dSl,bnd,ha,zdt,ret,hh,slW,hx]
 exact zb6 (Nat.le_trans (zn1 _ _) hz)
theorem zlX{α:Type}(f:α->W)(l:List α)(hi:Option Int):zma (l.map f) none hi=(l.take (HT.sIx l.length l.length hi)).map f:=by
 unfold zma
 rw[List.length_map,HT.sIx_none,List.drop_zero,Nat.sub_zero,List.map_take]
theorem zkG{sl:Sl}{c1:Ce}{a:Sl->M W}{i:Int}(ha:a sl ce=some (.ok (.int i) c1)):zef a sl ce=some (.ok (some i) c1):=by
 simp only[zef,bnd,ha];rfl
theorem zqm(fu:Nat)(hfu:200<=fu)(B:Brd b)(hl:is.length=b.length){a:Int}(ha:0<=a):∃r,d__law_odd fu [wB b,wS is,.int h,.int a] ce=some (.ok (wL r) ce)/\r.length<=36/\∀p∈r,p<b.length:=by
 have hz:=sl36
 have h36:=B.h36
 have h0:=B.pos
 have z2:2<=PySem.sizeLine:=by decide
 have z1:1<=PySem.sizeLine:=by decide
 suffices hs:∃w c,d__law_odd fu [wB b,wS is,.int h,.int a] ce=some (.ok w c)/\c=ce/\∃r,w=wL r/\r.length<=36/\∀p∈r,p<b.length by
  obtain⟨w,c,e,rfl,r,rfl,q⟩:=hs
  exact⟨r,e,q⟩
 have L:∀H:List Int,∃R:List (List Nat),(lpt b (thr is H)).map wL++[.lst [.int 0]]=R.map wL/\0<R.length/\R.getD 0 []=R.getD 0 []/\((R.getD 0 []).length<=36/\∀p∈R.getD 0 [],p<b.length):=fun H=>by
  refine⟨lpt b (thr is H)++[[0]],by rw[List.map_append];rfl,by simp,rfl,?_⟩
  have hm:(lpt b (thr is H)++[[0]]).getD 0 []∈lpt b (thr is H)++[[0]]:=zf3 (by simp)
  rcases List.mem_append.mp hm with q|q
  ·exact zgQ B hl q
  ·rw[List.mem_singleton.mp q]
   exact⟨by simp,fun p hp=>by rw[List.mem_singleton.mp hp];exact h0⟩
 have ll:∀H:List Int,((lpt b (thr is H)).map wL).length<=36:=fun H=>by rw[List.length_map];exact Nat.le_trans zeJ (Nat.le_trans zdE (by omega))
 have e1:zcL (d__law_patches fu) [wB b,wS is,.lst [.int h]] ce=some (.ok (.lst ((lpt b (thr is [h])).map wL)) ce):=zfl (ce:=ce) (H:=[h]) fu hfu B.bd B.sym h36 (zp8 is) hl
 have e2:zcL (d__law_patches fu) [wB b,wS is,.lst [.int (3-h)]] ce=some (.ok (.lst ((lpt b (thr is [3-h])).map wL)) ce):=zfl (ce:=ce) (H:=[3-h]) fu hfu B.bd B.sym h36 (zp8 is) hl
 have m5:zbT (.int a) (.int 5)=some (.int (a % 5)):=zbV rfl rfl (by omega)
 have fin:∀{r:List Nat},(r.length<=36/\∀p∈r,p<b.length)->∃w c',finC ce ce (wL r)=some (.ok w c')/\c'=ce/\∃r,w=wL r/\r.length<=36/\∀p∈r,p<b.length:=fun {r} q=>⟨_,_,zaF (by simp only[wL,Bel];exact bels_nW _ _),rfl,r,rfl,q⟩
 unfold d__law_odd
 refine zgH [some (wB b),some (wS is),some (.int h),some (.int a),none] rfl ?_
 refine zbu (p:=decide (a % 5=0)) (ce':=ce) (by trivial) (fun q=>?_) (fun q0=>?_)
 ·have m6:zbT (.int a) (nW b.length)=some (.int (a % (b.length:Int))):=zbV rfl rfl (by omega)
  have hp:=Int.emod_nonneg a (b:=(b.length:Int)) (by omega)
  have hq:=Int.emod_lt_of_pos a (b:=(b.length:Int)) (by omega)
  obtain⟨p,hp'⟩:=Int.eq_ofNat_of_zero_le hp
  rw[hp'] at m6
  refine zck (zaA (w:=wL [p]) (ce':=ce) (za0 (ws:=[nW p]) (zak (zdj (zam rfl) (zbL (zak (zam rfl) zat) zj8) m6) zat) z1) ?_)
  exact fin ⟨by simp,fun x hx=>by rw[List.mem_singleton.mp hx];omega⟩
 refine za7 ?_
 refine zbu (p:=decide (a % 5=1)) (ce':=ce) (by trivial) (fun q=>?_) (fun q1=>?_)
 ·refine zck (zaA (w:=wL []) (ce':=ce) (za0 (ws:=[]) zat (Nat.zero_le _)) ?_)
  exact fin ⟨by simp,fun x hx=>by simp at hx⟩
 refine za7 ?_
 obtain⟨R,eR,pR,_,bR⟩:=L [h]
 obtain⟨T,eT,pT,_,bT⟩:=L [3-h]
 have l1:=ll [h]
 have l2:=ll [3-h]
 refine zan (w:=.lst (R.map wL)) (ce':=ce) (by
  rw[<- eR]
  exact zhu (zax (ws:=[wB b,wS is,.lst [.int h]]) (c1:=ce) (by trivial) rfl e1) (za0 (ws:=[.lst [.int 0]]) (zak (za0 (ws:=[.int 0]) (by trivial) z1) zat) z1) rfl rfl (by show _+1<=_;omega)) ?_
 refine(?_:Run _ [some (wB b),some (wS is),some (.int h),some (.int a),some (.lst (R.map wL))] _ _)
 refine zbu (p:=decide (a % 5=2)) (ce':=ce) (by trivial) (fun q=>?_) (fun q2=>?_)
 ·refine zdy ?_
  refine zan (w:=.lst (T.map wL)) (ce':=ce) (by
   rw[<- eT]
   exact zhu (zax (ws:=[wB b,wS is,.lst [.int (3-h)]]) (c1:=ce) (by trivial) rfl e2) (za0 (ws:=[.lst [.int 0]]) (zak (za0 (ws:=[.int 0]) (by trivial) z1) zat) z1) rfl rfl (by show _+1<=_;omega)) ?_
  refine(?_:Run _ [some (wB b),some (wS is),some (.int h),some (.int a),some (.lst (T.map wL))] _ _)
  refine zck (zaA (w:=wL (T.getD 0 [])) (ce':=ce) (zaG (zam rfl) zcZ (zhF (i:=0) rfl pT)) ?_)
  exact fin bT
 refine za7 ?_
 have q0:=of_decide_eq_false q0
 have q1:=of_decide_eq_false q1
 have q2:=of_decide_eq_false q2
 have hix:ixW ce (.lst (R.map wL)) (.int 0)=some (wL (R.getD 0 [])):=zhF (i:=0) rfl pR
 generalize R.getD 0 []=r at bR hix
 have s1:dSl zaT (zay ixW (zaf 4) (dC (.int 0))) zdt (zef (dUn ziA (dC (.int 1)))) [some (wB b),some (wS is),some (.int h),some (.int a),some (.lst (R.map wL))] ce=some (.ok (wL (r.take (HT.sIx r.length r.length (some (-1))))) ce):=by
  have:=zql (ce:=ce) (c1:=ce) (c2:=ce) (x:=wL r) (xs:=r.map nW) (hi:=some (-1)) (sl:=[some (wB b),some (wS is),some (.int h),some (.int a),some (.lst (R.map wL))]) (a:=zay ixW (zaf 4) (dC (.int 0))) (dh:=zef (dUn ziA (dC (.int 1)))) (zaG (zam rfl) zcZ hix) (zkG (zly zcZ (zhi rfl))) rfl (by rw[List.length_map];omega)
  rw[zlX] at this
  exact this
 have s2:ziH zaT (zay ixW (zaf 4) (dC (.int 0))) (zef (dUn ziA (dC (.int 1)))) [some (wB b),some (wS is),some (.int h),some (.int a),some (.lst (R.map wL))] ce=some (.ok (wL r.reverse) ce):=by
  have:=znM (ce:=ce) (c1:=ce) (c2:=ce) (w:=wL r) (xs:=r.map nW) (sl:=[some (wB b),some (wS is),some (.int h),some (.int a),some (.lst (R.map wL))]) (da:=zay ixW (zaf 4) (dC (.int 0))) (dl:=zef (dUn ziA (dC (.int 1)))) (zaG (zam rfl) zcZ hix) (zkG (zly zcZ (zhi rfl))) rfl (by rw[List.length_map];omega)
  rw[<- List.map_reverse] at this
  exact this
 have es:zbO (zac (dSl zaT (zay ixW (zaf 4) (dC (.int 0))) zdt (zef (dUn ziA (dC (.int 1))))) (zac (ziH zaT (zay ixW (zaf 4) (dC (.int 0))) (zef (dUn ziA (dC (.int 1))))) zal)) [some (wB b),some (wS is),some (.int h),some (.int a),some (.lst (R.map wL))] ce=some (.ok (.lst [wL (r.take (HT.sIx r.length r.length (some (-1)))),wL r.reverse]) ce):=za0 (ws:=[wL (r.take (HT.sIx r.length r.length (some (-1)))),wL r.reverse]) (zak s1 (zak s2 zat)) z2
 have sb:dOp zg1 (dOp zbT (zaf 3) (dC (.int 5))) (dC (.int 3)) [some (wB b),some (wS is),some (.int h),some (.int a),some (.lst (R.map wL))] ce=some (.ok (.int (a % 5-3)) ce):=zdj (zdj (zam rfl) zcZ m5) zcZ (zhg rfl rfl)
 have a1:=Int.emod_nonneg a (b:=5) (by omega)
 have a2:=Int.emod_lt_of_pos a (b:=5) (by omega)
 have a3:a % 5=3\/a % 5=4:=by omega
 have i0:ixW ce (.lst [wL (r.take (HT.sIx r.length r.length (some (-1)))),wL r.reverse]) (.int (3-3))=some (wL (r.take (HT.sIx r.length r.length (some (-1))))):=zh3 (xs:=[wL (r.take (HT.sIx r.length r.length (some (-1)))),wL r.reverse]) (j:=0) rfl rfl
 have i1:ixW ce (.lst [wL (r.take (HT.sIx r.length r.length (some (-1)))),wL r.reverse]) (.int (4-3))=some (wL r.reverse):=zh3 (xs:=[wL (r.take (HT.sIx r.length r.length (some (-1)))),wL r.reverse]) (j:=1) rfl rfl
 rcases a3 with q|q<;>rw[q] at sb
 ·refine zaA (w:=wL (r.take (HT.sIx r.length r.length (some (-1))))) (ce':=ce) (zaG es sb i0) (fin ⟨by rw[List.length_take];omega,fun p hp=>bR.2 p (List.mem_of_mem_take hp)⟩)
 ·refine zaA (w:=wL r.reverse) (ce':=ce) (zaG es sb i1) (fin ⟨by rw[List.length_reverse];exact bR.1,fun p hp=>bR.2 p (List.mem_reverse.mp hp)⟩)
end
structure Lq (b:List (List Nat)) (n:Nat) (R:List (List Nat)):Prop where
 len:R.length<=n
 row:∀r∈R,r.length<=36/\∀p∈r,p<b.length
section
variable {b:List (List Nat)} {is:List Int} {h:Int} {ce c:Ce} {n k:Nat} {Z:List (List Nat)}
theorem zgR{α β:Type}(f:α->β):∀(l:List α) (i:Nat),(l.map f).eraseIdx i=(l.eraseIdx i).map f
 | [],_=>rfl
 | _::_,0=>rfl
 | x::l,i+1=>by simp only[List.map_cons,List.eraseIdx_cons_succ,zgR f l i]
theorem zn2(g:c[k]?=some (.lst (Z.map wL))){i:Nat}(hi:i<Z.length)(h62:Z.length<=100):zpX (.cel k) [.int i] c=some (.ok (wL (Z.getD i [])) (c.set k (.lst ((Z.eraseIdx i).map wL)))):=by
 have h1:0<=(i:Int)/\(i:Int)<2 ^ 62:=⟨by omega,by omega⟩
 have h2:(Z.map wL)[i]?=some (wL (Z.getD i [])):=by rw[List.getElem?_map,List.getElem?_eq_getElem hi,List.getD_eq_getElem?_getD,List.getElem?_eq_getElem hi];rfl
 simp only[zpX,zen g]
 rw[if_pos h1]
 simp only[Int.toNat_natCast,h2,zgR]
theorem zn3(g:c[k]?=some (.lst (Z.map wL))):zc3 [.cel k] c=some (.ok (nW Z.length) c):=by simp only[zc3,zdI g,List.length_map];rfl
theorem zn4:zc3 [.lst (Z.map wL)] c=some (.ok (nW Z.length) c):=by simp only[zc3,zeN,zcz,List.length_map];rfl
theorem zrR(g:c[k]?=some (.lst (Z.map wL))):eqD true c (.cel k) (.lst [])=some (.bl (!decide (Z=[]))):=by
 have e:=zid (ce:=c) true Z []
 have h1:zkO c (.cel k)=zkO c (.lst (Z.map wL)):=by simp only[zkO,zeT,Nat.not_lt_zero,if_false,g,zdl,Option.map_some]
 simp only[eqD,h1]
 simp only[eqD] at e
 exact e
theorem zrS(g:c[k]?=some (.lst (Z.map wL)))(r:List Nat):inW true c (wL r) (.cel k)=some (.bl (!decide (r∈Z))):=by
 have e:=zil (ce:=c) true r Z
 have h1:zeN c (.cel k)=zeN c (.lst (Z.map wL)):=by rw[zdI g];rfl
 simp only[inW,h1]
 simp only[inW] at e
 exact e
theorem Lq.er(L:Lq b n Z)(i:Nat):Lq b (n+1) (Z.eraseIdx i):=⟨by have:=List.length_eraseIdx_le Z i;have:=L.len;omega,fun r hr=>L.row r (List.mem_of_mem_eraseIdx hr)⟩
theorem Lq.app(L:Lq b n Z){r:List Nat}(hr:r.length<=36/\∀p∈r,p<b.length):Lq b (n+1) (Z++[r]):=⟨by rw[List.length_append];have:=L.len;show _+1<=_;omega,fun x hx=>by
 rcases List.mem_append.mp hx with q|q
 ·exact L.row x q
 ·rw[List.mem_singleton.mp q];exact hr⟩
theorem Lq.ins(L:Lq b n Z){r:List Nat}(hr:r.length<=36/\∀p∈r,p<b.length)(i:Nat):Lq b (n+1) (Z.take i++r::Z.drop i):=⟨by rw[List.length_append,List.length_cons,List.length_take,List.length_drop];have:=L.len;omega,fun x hx=>by
 rcases List.mem_append.mp hx with q|q
 ·exact L.row x (List.mem_of_mem_take q)
 ·rcases List.mem_cons.mp q with rfl|q
  ·exact hr
  ·exact L.row x (List.mem_of_mem_drop q)⟩
theorem Lq.rev(L:Lq b n Z):Lq b (n+1) Z.reverse:=⟨by rw[List.length_reverse];have:=L.len;omega,fun x hx=>L.row x (List.mem_reverse.mp hx)⟩
theorem Lq.up(L:Lq b n Z):Lq b (n+1) Z:=⟨Nat.le_succ_of_le L.len,L.row⟩
structure Two (b:List (List Nat)) (n:Nat) (bs c:Ce) (k5 k6:Nat) (R C:List (List Nat)):Prop where
 O:Own bs c [(k6,VS.C.lst (C.map wL)),(k5,VS.C.lst (R.map wL))]
 R:Lq b n R
 C:Lq b n C
structure Slt (b:List (List Nat)) (n:Nat) (bs c:Ce) (k5 k6 k:Nat) (Z:List (List Nat)):Prop where
 g:c[k]?=some (.lst (Z.map wL))
 L:Lq b n Z
 up:∀Z',Lq b (n+1) Z'->∃R C,Two b (n+1) bs (c.set k (.lst (Z'.map wL))) k5 k6 R C
theorem Two.s5{bs:Ce}{k5 k6:Nat}{R C:List (List Nat)}(T:Two b n bs c k5 k6 R C):Slt b n bs c k5 k6 k5 R:=⟨T.O.g1,T.R,fun Z' L=>⟨Z',C,T.O.set1 _,L,T.C.up⟩⟩
theorem Two.s6{bs:Ce}{k5 k6:Nat}{R C:List (List Nat)}(T:Two b n bs c k5 k6 R C):Slt b n bs c k5 k6 k6 C:=⟨T.O.g0,T.C,fun Z' L=>⟨R,Z',T.O.set0 _,T.R.up,L⟩⟩
theorem Two.pick{bs:Ce}{k5 k6:Nat}{R C:List (List Nat)}(T:Two b n bs c k5 k6 R C){i:Int}(hi:0<=i):∃k Z,ixW c (.lst [.cel k5,.cel k6]) (.int (i % 2))=some (.cel k)/\Slt b n bs c k5 k6 k Z:=by
 have h1:i % 2=0\/i % 2=1:=by omega
 rcases h1 with q|q<;>rw[q]
 ·exact⟨k5,R,zh3 (xs:=[.cel k5,.cel k6]) (j:=0) rfl rfl,T.s5⟩
 ·exact⟨k6,C,zh3 (xs:=[.cel k5,.cel k6]) (j:=1) rfl rfl,T.s6⟩
theorem ziX(fu:Nat)(hfu:200<=fu)(B:Brd b)(hl:is.length=b.length){kp j:Nat}{ns:List Int}(gp:ce[kp]?=some (pen ns j))(hj:j<=9000){R C:List (List Nat)}(hn:n<=90)(LR:Lq b n R)(LC:Lq b n C) :
  ∃R' C',zlB (d__law_changed fu) [.cel kp,wB b,wS is,.int h,pW2 R C] ce=some (.ok (pW2 R' C') (ce.set kp (pen ns (j+2))))/\Lq b (n+1) R'/\Lq b (n+1) C':=by
 have hz:=sl36
 have hz2:200<PySem.sizeLine:=by decide
 have h36:=B.h36
 have z2:2<=PySem.sizeLine:=by decide
 have hkp:kp<ce.length:=(List.getElem?_eq_some_iff.mp gp).1
 have lenR:=LR.len
 have lenC:=LC.len
 suffices hs:∃w c,d__law_changed fu [.cel kp,wB b,wS is,.int h,pW2 R C] ce=some (.ok w c)/\∃R' C' l,Own (ce.set kp (pen ns (j+2))) c l/\zeT ce.length c 6 w=some (pW2 R' C')/\Lq b (n+1) R'/\Lq b (n+1) C' by
  obtain⟨w,c,e,R',C',l,O,ht,r⟩:=hs
  exact⟨R',C',Own.frzD' e O ((Chg.refl ce).set kp (zcH _ _ _)) ht,r⟩
 have i0:=zob (ce:=ce) R C
 unfold d__law_changed
 refine zgH [some (.cel kp),some (wB b),some (wS is),some (.int h),some (pW2 R C),none,none,none,none,none,none,none,none,none] rfl ?_
 have cp:∀{c:Ce} {Z:List (List Nat)} {i:Int} {sl:Sl},sl[4]?=some (some (pW2 R C))->ixW c (pW2 R C) (.int i)=some (.lst (Z.map wL))->Lq b n Z->dLC zgi [] (dIL (zay ixW (zaf 4) (dC (.int i)))) zcK (dBi (zcV zaT) (zac (zaf 0) zal)) sl c=some (.ok (.cel c.length) (c++[.lst (Z.map wL)])):=fun {c Z i sl} h4 hi L=>by
  have:=L.len
  refine zqv (zs:=Z) (en:=wL) (g:=wL) (c1:=c) (zcl (zaG (zam h4) zcZ hi) (.fr _)) (by omega) (fun x hx=>?_)
  have:=(L.row x hx).1
  exact zbL (zak (zam rfl) zat) (zd8 (by omega))
 refine zan (cp rfl i0 LR) ?_
 have O0:=(Own.start ce).alloc (VS.C.lst (R.map wL))
 refine(?_:Run _ [some (.cel kp),some (wB b),some (wS is),some (.int h),some (pW2 R C),some (.cel ce.length),none,none,none,none,none,none,none,none] _ _)
 have hk5:¬ce.length<ce.length:=Nat.lt_irrefl _
 generalize hk:ce.length=k5 at O0 hk5 ⊢
 generalize ce++[VS.C.lst (R.map wL)]=c0 at O0 ⊢
 refine zan (cp rfl (zqg (ce:=c0) R C) LC) ?_
 have O1:=O0.alloc (VS.C.lst (C.map wL))
 have hk6:k5<c0.length:=O0.lt
 refine(?_:Run _ [some (.cel kp),some (wB b),some (wS is),some (.int h),some (pW2 R C),some (.cel k5),some (.cel c0.length),none,none,none,none,none,none,none] _ _)
 generalize c0.length=k6 at O1 hk6 ⊢
 generalize c0++[VS.C.lst (C.map wL)]=c1 at O1 ⊢
 have e1:zcL (d__law_patches fu) [wB b,wS is,.lst [.int h]] c1=some (.ok (.lst ((ownL b is h).map wL)) c1):=zfl (ce:=c1) (H:=[h]) fu hfu B.bd B.sym h36 (zp8 is) hl
 have e2:=zfq (ce:=c1) (h:=h) fu hfu B hl
 refine zan (w:=.lst ((ownL b is h).map wL)) (ce':=c1) (zax (ws:=[wB b,wS is,.lst [.int h]]) (by trivial) rfl e1) ?_
 refine(?_:Run _ [some (.cel kp),some (wB b),some (wS is),some (.int h),some (pW2 R C),some (.cel k5),some (.cel k6),some (.lst ((ownL b is h).map wL)),none,none,none,none,none,none] _ _)
 refine zan (w:=.lst ((everyL b is h).map wL)) (ce':=c1) (zax (ws:=[wB b,wS is,.int h]) (by trivial) rfl e2) ?_
 refine(?_:Run _ [some (.cel kp),some (wB b),some (wS is),some (.int h),some (pW2 R C),some (.cel k5),some (.cel k6),some (.lst ((ownL b is h).map wL)),some (.lst ((everyL b is h).map wL)),none,none,none,none,none] _ _)
 have g1:c1[kp]?=some (pen ns j):=by rw[O1.low (by omega)];exact gp
 obtain⟨way,w0,w10,e3⟩:=zbe fu g1 (by omega) (m:=10) (by omega)
 refine zan (zax (ws:=[.cel kp,.int 10]) (by trivial) rfl e3) ?_
 have O2:=O1.base_set (k:=kp) (by omega) (pen ns (j+1))
 refine(?_:Run _ [some (.cel kp),some (wB b),some (wS is),some (.int h),some (pW2 R C),some (.cel k5),some (.cel k6),some (.lst ((ownL b is h).map wL)),some (.lst ((everyL b is h).map wL)),some (.int way),none,none,none,none] _ _)
 generalize c1.set kp (pen ns (j+1))=c2 at O2 ⊢
 have g2:c2[kp]?=some (pen ns (j+1)):=by rw[O2.low (by rw[List.length_set];omega)];exact List.getElem?_set_self hkp
 have T2:Two b n _ c2 k5 k6 R C:=⟨O2,LR,LC⟩
 obtain⟨kz,_,ek,_⟩:=T2.pick w0
 have m2:zbT (.int way) (.int 2)=some (.int (way % 2)):=zbV rfl rfl (by omega)
 refine zan (w:=.cel kz) (ce':=c2) (zaG (za0 (ws:=[.cel k5,.cel k6]) (by trivial) z2) (zdj (zam rfl) zcZ m2) ek) ?_
 refine(?_:Run _ [some (.cel kp),some (wB b),some (wS is),some (.int h),some (pW2 R C),some (.cel k5),some (.cel k6),some (.lst ((ownL b is h).map wL)),some (.lst ((everyL b is h).map wL)),some (.int way),some (.cel kz),none,none,none] _ _)
 obtain⟨at',a0,a36,e4⟩:=zbe fu g2 (by omega) (m:=36) (by omega)
 refine zan (zax (ws:=[.cel kp,.int 36]) (by trivial) rfl e4) ?_
 have O3:=O2.base_set (k:=kp) (by rw[List.length_set];omega) (pen ns (j+2))
 rw[List.set_set] at O3
 refine(?_:Run _ [some (.cel kp),some (wB b),some (wS is),some (.int h),some (pW2 R C),some (.cel k5),some (.cel k6),some (.lst ((ownL b is h).map wL)),some (.lst ((everyL b is h).map wL)),some (.int way),some (.cel kz),some (.int at'),none,none] _ _)
 have e5:j+1+1=j+2:=rfl
 rw[e5]
 generalize c2.set kp (pen ns (j+2))=c3 at O3 ⊢
 have T3:Two b n _ c3 k5 k6 R C:=⟨O3,LR,LC⟩
 obtain⟨kz',Z,ek',S⟩:=T3.pick w0
 have ez:kz'=kz:=by
  have h1:∀c c':Ce,ixW c (.lst [.cel k5,.cel k6]) (.int (way % 2))=ixW c' (.lst [.cel k5,.cel k6]) (.int (way % 2)):=fun _ _=>rfl
  rw[h1 c3 c2,ek] at ek'
  cases ek';rfl
 subst ez
 have lenZ:=S.L.len
 have fin:∀x12 x13 c' ,(∃R' C',Two b (n+1) (ce.set kp (pen ns (j+2))) c' k5 k6 R' C')->Run (zbg (zeP (zac (zaf 5) (zac (zaf 6) zal)))) [some (.cel kp),some (wB b),some (wS is),some (.int h),some (pW2 R C),some (.cel k5),some (.cel k6),some (.lst ((ownL b is h).map wL)),some (.lst ((everyL b is h).map wL)),some (.int way),some (.cel kz'),some (.int at'),x12,x13] c' (Rt fun v ce'=>∃w c',zo0 ce ce' v=some (.ok w c')/\∃R' C' l,Own (ce.set kp (pen ns (j+2))) c' l/\zeT k5 c' 6 w=some (pW2 R' C')/\Lq b (n+1) R'/\Lq b (n+1) C'):=fun x12 x13 c' ⟨R',C',T⟩=>by
  refine zaA (w:=.tup [.cel k5,.cel k6]) (ce':=c') (zc5 (by trivial) z2) ?_
  refine⟨_,_,rfl,R',C',_,T.O,?_,T.R,T.C⟩
  have g5:=T.O.g1
  have g6:=T.O.g0
  have hk6':¬k6<k5:=by omega
  simp only[zeT,zb7,if_neg hk5,if_neg hk6',g5,g6,zdl,Option.map_some]
 refine zj6 ?_
 have gz:=S.g
 have nz:eqD true c3 (.cel kz') (.lst [])=some (.bl (!decide (Z=[]))):=zrR gz
 have ln:=zn3 gz
 have ix:Z≠[]->∃i:Nat,i<Z.length/\zbT (.int at') (nW Z.length)=some (nW i):=fun q=>by
  have hp:0<Z.length:=List.length_pos_iff.mpr q
  have h1:=Int.emod_nonneg at' (b:=(Z.length:Int)) (by omega)
  have h2:=Int.emod_lt_of_pos at' (b:=(Z.length:Int)) (by omega)
  obtain⟨i,hi⟩:=Int.eq_ofNat_of_zero_le h1
  exact⟨i,by omega,(zbV (i:=at') (j:=Z.length) rfl rfl (by omega)).trans (by rw[hi];rfl)⟩
 refine zcq (p:=decide (way<4)&&!decide (Z=[])) (ce':=c3) (zhd (by trivial) fun _=>zfH (zaG (zam rfl) (za0 (ws:=[]) zat (Nat.zero_le _)) nz)) (fun q=>?_) (fun q=>?_)
 ·have q':Z≠[]:=by simp only[Bool.and_eq_true,Bool.not_eq_true',decide_eq_false_iff_not] at q;exact q.2
  obtain⟨i,hi,em⟩:=ix q'
  exact zfb (w:=wL (Z.getD i [])) (ziG (zam rfl) (zc4 gz) (zak (zdj (zam rfl) (zbL (zak (zam rfl) zat) ln) em) zat) (zn2 gz hi (by omega))) ⟨_,_,rfl,fin _ _ _ (S.up _ (S.L.er i))⟩
 refine zcq (p:=decide (way<6)&&!decide (Z=[])) (ce':=c3) (zhd (by trivial) fun _=>zfH (zaG (zam rfl) (za0 (ws:=[]) zat (Nat.zero_le _)) nz)) (fun q=>?_) (fun q=>?_)
 ·have q':Z≠[]:=by simp only[Bool.and_eq_true,Bool.not_eq_true',decide_eq_false_iff_not] at q;exact q.2
  obtain⟨i,hi,em⟩:=ix q'
  obtain⟨i',hi',em'⟩:∃i:Nat,i<=Z.length/\zbT (.int at') (.int ((Z.length:Int)+1))=some (nW i):=by
   have h1:=Int.emod_nonneg at' (b:=(Z.length:Int)+1) (by omega)
   have h2:=Int.emod_lt_of_pos at' (b:=(Z.length:Int)+1) (by omega)
   obtain⟨i,hi⟩:=Int.eq_ofNat_of_zero_le h1
   exact⟨i,by omega,by rw[zbV (i:=at') (j:=(Z.length:Int)+1) rfl rfl (by omega),hi];rfl⟩
  have br:=S.L.row _ (zf3 (d:=[]) hi)
  have i1:=zmD (zdI gz) (i:=i) rfl hi
  have i2:=zpV (y:=wL (Z.getD i [])) gz (i:=i') (by rw[List.length_map];exact hi') (by rw[List.length_map];omega)
  have e6:(Z.map wL).take i'++wL (Z.getD i [])::(Z.map wL).drop i'=(Z.take i'++Z.getD i []::Z.drop i').map wL:=by rw[List.map_append,List.map_cons,List.map_take,List.map_drop]
  rw[e6] at i2
  exact zfb (w:=.non) (ziG (zam rfl) (zc4 gz) (zak (zdj (zam rfl) (zdj (zbL (zak (zam rfl) zat) ln) zcZ (zdz rfl rfl)) em') (zak (zbL (zak (zaG (zam rfl) (zdj (zam rfl) (zbL (zak (zam rfl) zat) ln) em) i1) zat) (zd8 (by omega))) zat)) i2) ⟨_,_,rfl,fin _ _ _ (S.up _ (S.L.ins br i'))⟩
 refine zcq (p:=decide (way<8)) (ce':=c3) (by trivial) (fun q8=>?_) (fun q8=>?_)
 ·obtain⟨K,eK,lK,bK⟩:∃K:List (List Nat),ixW c3 (.lst [.lst ((ownL b is h).map wL),.lst ((everyL b is h).map wL)]) (.int (way % 2))=some (.lst (K.map wL))/\K.length<=36/\∀r∈K,r.length<=36/\∀p∈r,p<b.length:=by
   have h1:way % 2=0\/way % 2=1:=by omega
   rcases h1 with q|q<;>rw[q]
   ·exact⟨ownL b is h,zh3 (xs:=[.lst ((ownL b is h).map wL),.lst ((everyL b is h).map wL)]) (j:=0) rfl rfl,Nat.le_trans zeJ (Nat.le_trans zdE (by omega)),fun r hr=>zgQ B hl hr⟩
   ·exact⟨everyL b is h,zh3 (xs:=[.lst ((ownL b is h).map wL),.lst ((everyL b is h).map wL)]) (j:=1) rfl rfl,Nat.le_trans zeJ (Nat.le_trans zdE (by omega)),fun r hr=>zgQ B hl hr⟩
  refine zan (w:=.lst (K.map wL)) (ce':=c3) (zaG (za0 (ws:=[.lst ((ownL b is h).map wL),.lst ((everyL b is h).map wL)]) (by trivial) z2) (zdj (zam rfl) zcZ m2) eK) ?_
  refine(?_:Run _ [some (.cel kp),some (wB b),some (wS is),some (.int h),some (pW2 R C),some (.cel k5),some (.cel k6),some (.lst ((ownL b is h).map wL)),some (.lst ((everyL b is h).map wL)),some (.int way),some (.cel kz'),some (.int at'),some (.lst (K.map wL)),none] _ _)
  have eN:eqD true c3 (.lst (K.map wL)) (.lst [])=some (.bl (!decide (K=[]))):=zid true K []
  refine zcq (p:=!decide (K=[])) (ce':=c3) (zfH (zaG (zam rfl) (za0 (ws:=[]) zat (Nat.zero_le _)) eN)) (fun q=>?_) (fun q=>?_)
  ·have hp:0<K.length:=List.length_pos_iff.mpr (by simpa using q)
   have h1:=Int.emod_nonneg at' (b:=(K.length:Int)) (by omega)
   have h2:=Int.emod_lt_of_pos at' (b:=(K.length:Int)) (by omega)
   obtain⟨i,hi⟩:=Int.eq_ofNat_of_zero_le h1
   have hi':i<K.length:=by omega
   have em:zbT (.int at') (nW K.length)=some (nW i):=(zbV (i:=at') (j:=K.length) rfl rfl (by omega)).trans (by rw[hi];rfl)
   have br:=bK _ (zf3 (d:=[]) hi')
   have i1:=zhF (ce:=c3) (i:=i) rfl hi'
   refine zan (w:=wL (K.getD i [])) (ce':=c3) (zbL (zak (zaG (zam rfl) (zdj (zam rfl) (zbL (zak (zam rfl) zat) zn4) em) i1) zat) (zd8 (by omega))) ?_
   refine(?_:Run _ [some (.cel kp),some (wB b),some (wS is),some (.int h),some (pW2 R C),some (.cel k5),some (.cel k6),some (.lst ((ownL b is h).map wL)),some (.lst ((everyL b is h).map wL)),some (.int way),some (.cel kz'),some (.int at'),some (.lst (K.map wL)),some (wL (K.getD i []))] _ _)
   have m3:zbT (.int at') (.int 3)=some (.int (at' % 3)):=zbV rfl rfl (by omega)
   refine zcq (p:=!decide (K.getD i []∈Z)||decide (at' % 3=0)) (ce':=c3) (zmo (zfH (zaG (zam rfl) (zam rfl) (zrS gz _))) fun _=>by trivial) (fun q=>?_) (fun q=>?_)
   ·have i2:=zj9 (y:=wL (K.getD i [])) gz (by rw[List.length_map];omega)
    have e6:Z.map wL++[wL (K.getD i [])]=(Z++[K.getD i []]).map wL:=by rw[List.map_append];rfl
    rw[e6] at i2
    exact zfb (w:=.non) (ziG (zam rfl) (zc4 gz) (zak (zam rfl) zat) i2) ⟨_,_,rfl,fin _ _ _ (S.up _ (S.L.app br))⟩
   ·exact zdi ⟨_,_,rfl,fin _ _ _ ⟨R,C,T3.O,T3.R.up,T3.C.up⟩⟩
  ·exact zdi ⟨_,_,rfl,fin _ _ _ ⟨R,C,T3.O,T3.R.up,T3.C.up⟩⟩
 refine zcq (p:=decide (way=8)) (ce':=c3) (by trivial) (fun q9=>?_) (fun q9=>?_)
 ·obtain⟨r,er,br⟩:=zqm (ce:=c3) (h:=h) fu hfu B hl a0
  have hd:0<=at' / 5:=by omega
  obtain⟨kw,Y,ey,S'⟩:=T3.pick hd
  have d5:zjx (.int at') (.int 5)=some (.int (at' / 5)):=zhh rfl rfl (by omega)
  have m6:zbT (.int (at' / 5)) (.int 2)=some (.int (at' / 5 % 2)):=zbV rfl rfl (by omega)
  have lenY:=S'.L.len
  have i2:=zj9 (y:=wL r) S'.g (by rw[List.length_map];omega)
  have e6:Y.map wL++[wL r]=(Y++[r]).map wL:=by rw[List.map_append];rfl
  rw[e6] at i2
  exact zfb (w:=.non) (ziG (zaG (za0 (ws:=[.cel k5,.cel k6]) (by trivial) z2) (zdj (zdj (zam rfl) zcZ d5) zcZ m6) ey) (zc4 S'.g) (zak (zax (ws:=[wB b,wS is,.int h,.int at']) (by trivial) rfl er) zat) i2) ⟨_,_,rfl,fin _ _ _ (S'.up _ (S'.L.app br))⟩
 ·have i2:=zpO gz
  rw[<- List.map_reverse] at i2
  exact zfb (w:=.non) (zmp (zam rfl) (zc4 gz) i2) ⟨_,_,rfl,fin _ _ _ (S.up _ S.L.rev)⟩
end
theorem zn5{α:Type}{en:α->W}{zs:List α}{di:Sl->M Src}{c:Sl->M Bool}{js:List Nat}{sl:Sl}{ce c1:Ce}(hi:SrcFix di sl ce c1 (zs.map en))(hz:zs.length<PySem.sizeLine)(R:List α->List α->Ce->Prop)(h0:R [] [] c1)(step:∀d x r ks ce,d++x::r=zs->R d ks ce->∃t ce',c (some (en x)::zcu js sl) ce=some (.ok t ce')/\R (d++[x]) (if t=true then ks++[x] else ks) ce') :
  ∃ks c2,R zs ks c2/\dLC zaT js di c (zaf 0) sl ce=some (.ok (.lst (ks.map en)) c2):=by
 obtain⟨s,h1,h2,h3⟩:=hi
 have key:∀(r d ks:List α) (ce:Ce),d++r=zs->R d ks ce->ks.length<=d.length->∃ks' c2,R zs ks' c2/\ks'.length<=zs.length/\lcL s (zcu js sl) c (zaf 0) (r.map en) (ks.map en) ce=some (.ok (ks'.map en) c2):=by
  intro r
  induction r with
  | nil =>
   intro d ks ce e hR hl
   rw[List.append_nil] at e
   subst e
   exact⟨ks,ce,hR,hl,by simp only[List.map_nil,lcL,if_pos (h3 _)]⟩
  | cons x r ih =>
   intro d ks ce e hR hl
   obtain⟨t,ce',e1,hR'⟩:=step d x r ks ce e hR
   have hdl:d.length<zs.length:=by rw[<- e];simp
   rw[List.map_cons,zeh ⟨h3 _,by rw[List.length_map];omega⟩,zbJ e1]
   cases t with
   | true =>
    obtain⟨ks',c2,q1,q2,q3⟩:=ih (d++[x]) (ks++[x]) ce' (by rw[List.append_assoc];exact e) hR' (by simp;omega)
    rw[List.map_append] at q3
    exact⟨ks',c2,q1,q2,q3⟩
   | false =>
    obtain⟨ks',c2,q1,q2,q3⟩:=ih (d++[x]) ks ce' (by rw[List.append_assoc];exact e) hR' (by simp;omega)
    exact⟨ks',c2,q1,q2,q3⟩
 obtain⟨ks',c2,q1,q2,q3⟩:=key zs [] [] c1 rfl h0 (by simp)
 refine⟨ks',c2,q1,?_⟩
 show bnd (di sl) (fun s=>bnd (lcL s (zcu js sl) c (zaf 0) s.items []) zaT) ce=_
 rw[List.map_nil] at q3
 rw[zbJ h1,h2,zbJ q3]
 exact zb6 (by rw[List.length_map];omega)
section
variable {b:List (List Nat)} {is:List Int} {h:Int}
theorem zkH(fu:Nat){ns:List Int}{sl:Sl}{j:Nat}{Z:List (List Nat)}{di:Sl->M Src}{x1:Option W}(h0:sl[0]?=some (some (.cel 0)))(hZ:Z.length<=100)(hj:j<=9000)(hi:SrcFix di sl [pen ns j] [pen ns j] (Z.map wL)) :
  ∃(Y:List (List Nat)) (i:Nat),dLC zaT [0] di (zey (dB (dOp fGt (zao 2 (d__law_next fu) (zac (zaf 1) (zac (dC (.int 3)) zal))) (dC (.int 0))))) (zaf 0) sl [pen ns j]=some (.ok (.lst (Y.map wL)) [pen ns i])/\i<=j+Z.length/\Y.length<=Z.length/\∀r∈Y,r∈Z:=by
 have hz2:200<PySem.sizeLine:=by decide
 obtain⟨Y,c2,⟨i,e,hi2,hy,hs⟩,q⟩:=zn5 (en:=wL) (zs:=Z) (js:=[0]) (c:=zey (dB (dOp fGt (zao 2 (d__law_next fu) (zac (zaf 1) (zac (dC (.int 3)) zal))) (dC (.int 0))))) hi (by omega) (fun d ks c=>∃i,c=[pen ns i]/\i<=j+d.length/\ks.length<=d.length/\∀r∈ks,r∈Z) ⟨j,rfl,by simp,by simp,by simp⟩ (by
  rintro d x r ks c e ⟨i,rfl,h1,h2,h3⟩
  have hd:d.length<Z.length:=by rw[<- e];simp
  have gi:([pen ns i]:Ce)[0]?=some (pen ns i):=rfl
  obtain⟨v,v0,v3,en⟩:=zbe fu gi (by omega) (m:=3) (by omega)
  have en':d__law_next fu [.cel 0,.int 3] [pen ns i]=some (.ok (.int v) [pen ns (i+1)]):=en
  have hc:(some (wL x)::zcu [0] sl)[1]?=some (some (W.cel 0)):=by
   simp only[zcu,List.map_cons,List.map_nil,List.getElem?_cons_succ,List.getElem?_cons_zero]
   rw[List.getD_eq_getElem?_getD,h0]
   rfl
  refine⟨decide (0<v),[pen ns (i+1)],zgw (zfH (zdj (zax (ws:=[.cel 0,.int 3]) (zak (zam hc) (zak zcZ zat)) rfl en') zcZ rfl)),i+1,rfl,by simp only[List.length_append,List.length_cons,List.length_nil];omega,?_,?_⟩
  ·split<;>simp only[List.length_append,List.length_cons,List.length_nil]<;>omega
  ·intro r' hr'
   split at hr'
   ·rcases List.mem_append.mp hr' with hr'|hr'
    ·exact h3 r' hr'
    ·rw[List.mem_singleton] at hr';subst hr';rw[<- e];simp
   ·exact h3 r' hr')
 subst e
 exact⟨Y,i,q,hi2,hy,hs⟩
theorem zlY(fu:Nat)(hfu:200<=fu)(B:Brd b)(hl:is.length=b.length){j:Nat}{ns:List Int}(hj:j<=8000) :
  ∃R C i,d__law_drawn fu [.cel 0,wB b,wS is,.int h] [pen ns j]=some (.ok (pW2 R C) [pen ns i])/\i<=j+72/\Lq b 36 R/\Lq b 36 C:=by
 have h36:=B.h36
 have z1:1<=PySem.sizeLine:=by decide
 have z2:2<=PySem.sizeLine:=by decide
 have e0:∀i,zcL (d__law_patches fu) [wB b,wS is,.lst [.int h]] [pen ns i]=some (.ok (.lst ((ownL b is h).map wL)) [pen ns i]):=fun i=>zfl (ce:=[pen ns i]) (H:=[h]) fu hfu B.bd B.sym h36 (zp8 is) hl
 have e1:∀i,d__law_closes fu [wB b,wS is,.int h] [pen ns i]=some (.ok (.lst ((everyL b is h).map wL)) [pen ns i]):=fun i=>zfq fu hfu B hl
 have l1:(ownL b is h).length<=36:=Nat.le_trans zeJ (Nat.le_trans zdE (by omega))
 have l2:(everyL b is h).length<=36:=Nat.le_trans zeJ (Nat.le_trans zdE (by omega))
 suffices hs:∃w c,d__law_drawn fu [.cel 0,wB b,wS is,.int h] [pen ns j]=some (.ok w c)/\∃R C i,w=pW2 R C/\c=[pen ns i]/\i<=j+72/\Lq b 36 R/\Lq b 36 C by
  obtain⟨w,c,e,R,C,i,rfl,rfl,q⟩:=hs
  exact⟨R,C,i,e,q⟩
 unfold d__law_drawn
 refine zgH [some (.cel 0),some (wB b),some (wS is),some (.int h),none,none] rfl ?_
 obtain⟨R,i,q1,hi,lR,sR⟩:=zkH fu (ns:=ns) (sl:=[some (.cel 0),some (wB b),some (wS is),some (.int h),none,none]) (j:=j) (Z:=ownL b is h) (x1:=none) (di:=dIL (zao 3 (zcL (d__law_patches fu)) (zac (zaf 1) (zac (zaf 2) (zac (zbO (zac (zaf 3) zal)) zal))))) rfl (by omega) (by omega) (zd0 (zax (ws:=[wB b,wS is,.lst [.int h]]) (zak (zam rfl) (zak (zam rfl) (zak (za0 (ws:=[.int h]) (zak (zam rfl) zat) z1) zat))) rfl (e0 j)))
 refine zan (w:=.lst (R.map wL)) (ce':=[pen ns i]) q1 ?_
 refine zbI (by repeat (first|exact SetAt.zero|apply SetAt.succ)) ?_
 obtain⟨C,i2,q2,hi2,lC,sC⟩:=zkH fu (ns:=ns) (sl:=[some (.cel 0),some (wB b),some (wS is),some (.int h),some (.lst (R.map wL)),none]) (j:=i) (Z:=everyL b is h) (x1:=none) (di:=dIL (zao 3 (d__law_closes fu) (zac (zaf 1) (zac (zaf 2) (zac (zaf 3) zal))))) rfl (by omega) (by omega) (zd0 (zax (ws:=[wB b,wS is,.int h]) (zak (zam rfl) (zak (zam rfl) (zak (zam rfl) zat))) rfl (e1 i)))
 refine zan (w:=.lst (C.map wL)) (ce':=[pen ns i2]) q2 ?_
 refine zbI (by repeat (first|exact SetAt.zero|apply SetAt.succ)) ?_
 refine zaA (zc5 (ws:=[.lst (R.map wL),.lst (C.map wL)]) (zak (zam rfl) (zak (zam rfl) zat)) z2) ?_
 have hcut:zeQ [pen ns j] [pen ns i2]:=⟨Nat.le_refl _,fun k c hk e=>by
  have:k=0:=by have:k<1:=hk;omega
  subst this
  simp only[List.getElem?_cons_zero,Option.some.injEq] at e
  subst e
  right
  simp only[pen,zgm,zdd,Bel]
  exact⟨belInts _ _,trivial,trivial⟩⟩
 refine⟨pW2 R C,[pen ns i2],?_,R,C,i2,rfl,rfl,by omega,⟨by omega,fun r hr=>zgQ B hl (sR r hr)⟩,⟨by omega,fun r hr=>zgQ B hl (sC r hr)⟩⟩
 unfold finC
 rw[if_pos ⟨hcut,by simp only[Bel,zdd];exact⟨bels_wL _ _,bels_wL _ _,trivial⟩⟩]
 rfl
theorem ziY{ce:Ce}(fu:Nat)(hfu:200<=fu)(B:Brd b)(hl:is.length=b.length)(h0:h≠0){R C:List (List Nat)}(P:Pap b is h R C){r:List Nat}(hr:r∈R){p:Nat}(hp:p∈r):d_taking fu [wB b,wS is,nW p] ce=some (.ok .non ce):=by
 obtain⟨s,hs,e,rfl⟩:=P.row r hr
 have hpb:=zdL hp
 have ep:is.getD p 0=h:=(cpt_val (vl:=vS is) B.bd hs hp).trans e
 have jp:=zdK (ce:=ce) (is:=is) (p:=p) (by omega)
 rw[ep] at jp
 obtain⟨R1,C1,e1,M1,_⟩:=zkD (ce:=ce) fu hfu B hl h0
 have i0:=zob (ce:=ce) R1 C1
 have e2:=zgM (ce:=ce) fu (R:=R1) (Nat.le_trans M1.sr.len B.h36) (p:=p)
 rw[inOneB_iff.mpr ⟨_,(M1.gr R C P).1 _ hr,hp⟩] at e2
 have e3:d_is_safe fu [wB b,wS is,nW p] ce=some (.ok (.bl true) ce):=by
  unfold d_is_safe
  refine zbA [some (wB b),some (wS is),some (nW p)] rfl ?_
  exact zaA (zax (ws:=[nW p,.lst (R1.map wL)]) (zak (zam rfl) (zak (zaG (zax (ws:=[wB b,wS is,.int h]) (zak (zam rfl) (zak (zam rfl) (zak (zaG (zam rfl) (zam rfl) jp) zat))) rfl e1) zcZ i0) zat)) rfl e2) (zaF (by simp only[Bel]))
 unfold d_taking
 refine zbA [some (wB b),some (wS is),some (nW p),none,none,none] rfl ?_
 refine zbu (p:=true) (ce':=ce) (zfH (zax (ws:=[wB b,wS is,nW p]) (by trivial) rfl e3)) (fun _=>?_) (fun q=>by cases q)
 exact zck (zaA (w:=.non) (ce':=ce) zcZ rfl)
theorem zkI(B:Brd b)(h0:h≠0){R C:List (List Nat)}(q:zdT b is h R C=true):Pap b is h R C:=by
 unfold zdT at q
 simp only[Bool.and_eq_true,decide_eq_true_eq] at q
 obtain⟨q1,q2,q3,q4⟩:=q
 obtain⟨n1,s1⟩:=someB_iff.mp q1
 obtain⟨n2,s2⟩:=someB_iff.mp q2
 refine⟨fun r hr=>(zeL B.bd B.sym h0).mp (s1 r hr),fun c hc=>(zhE B.bd B.sym).mp (s2 c hc),fun r hr=>?_,fun c hc=>?_⟩
 ·rw[<- q3] at hr
  exact zgO n2 (List.mem_filter.mp hr).2
 ·rw[<- q4] at hc
  exact(zeK B.bd).mp (List.mem_filter.mp hc).2
end
theorem Lq.lb{b:List (List Nat)}{n:Nat}{Z:List (List Nat)}(L:Lq b n Z)(hn:n<=100):Lb b Z:=⟨Nat.le_trans L.len hn,L.row⟩
theorem Lq.mono{b:List (List Nat)}{n m:Nat}{Z:List (List Nat)}(L:Lq b n Z)(hn:n<=m):Lq b m Z:=⟨Nat.le_trans L.len hn,L.row⟩
theorem zkJ{α:Type}{l:List α}{t:α->Bool}(h:∀x∈l,t x=false):l.filter t=[]:=by
 rw[List.filter_eq_nil_iff]
 intro x hx
 rw[h x hx]
 exact Bool.false_ne_true
theorem main(ns:List Int)(_h:ns.length<=63):∃ce',d_law FU [.lst (ns.map W.int)] []=some (.ok (.bl true) ce'):=by
 have hz:=sl36
 have hz2:200<PySem.sizeLine:=by decide
 have hfu:200<=FU:=by decide
 have g0:([pen ns 0]:Ce)[0]?=some (pen ns 0):=rfl
 obtain⟨b,is,j',e1,hj',B,hl,h02,_⟩:=zlT FU hfu g0 (by omega) (most:=14) (wide:=16) (by omega) (by omega) (by omega) (by omega)
 have h36:=B.h36
 have e1':d__law_world FU [.cel 0,.int 14,.int 16] [pen ns 0]=some (.ok (.tup [wB b,wS is]) [pen ns j']):=e1
 have z2:2<=PySem.sizeLine:=by decide
 refine⟨[],?_⟩
 unfold d_law
 refine zbA [some (sW ns),none,none,none,none,none,none,none] rfl ?_
 refine zan (zes (ws:=[sW ns,.int 0]) (by trivial) z2) ?_
 refine(?_:Run _ [some (sW ns),some (.cel 0),none,none,none,none,none,none] [pen ns 0] _)
 refine zia (x:=wB b) (y:=wS is) (c1:=[pen ns j']) (zax (ws:=[.cel 0,.int 14,.int 16]) (c1:=[pen ns 0]) (by trivial) rfl e1') ?_
 refine zcm (zs:=([1,2]:List Int)) (en:=W.int) (c1:=[pen ns j']) (zd0 (xs:=[.int 1,.int 2]) (by trivial))
  (fun d sl c=>∃x4 x5 x6 x7 j,sl=[some (sW ns),some (.cel 0),some (wB b),some (wS is),x4,x5,x6,x7]/\c=[pen ns j]/\j<=10+400*d.length) ⟨_,_,_,_,_,rfl,rfl,by simp only[List.length_nil];omega⟩ ?_ ?_
 ·rintro d h r sl c e hh ⟨x4,x5,x6,x7,j,rfl,rfl,hj⟩
  have hh12:h=1\/h=2:=by simpa using hh
  have h0:h≠0:=by omega
  have hd:d.length<=1:=by
   have:=congrArg List.length e
   simp only[List.length_append,List.length_cons,List.length_nil] at this
   omega
  obtain⟨R0,C0,e2,M0,P0⟩:=zkD (ce:=[pen ns j]) (is:=is) FU hfu B hl h0
  have L0:Lq b 36 R0:=⟨Nat.le_trans M0.sr.len h36,fun r hr=>⟨Nat.le_trans (M0.sr.row r hr).1 h36,(M0.sr.row r hr).2⟩⟩
  have K0:Lq b 36 C0:=⟨Nat.le_trans M0.sc.len h36,fun r hr=>⟨Nat.le_trans (M0.sc.row r hr).1 h36,(M0.sc.row r hr).2⟩⟩
  unfold zmu
  refine zbI (by repeat (first|exact SetAt.zero|apply SetAt.succ)) ?_
  refine zan (w:=pW2 R0 C0) (ce':=[pen ns j]) (zax (ws:=[wB b,wS is,.int h]) (c1:=[pen ns j]) (by trivial) rfl e2) ?_
  refine zbI (by repeat (first|exact SetAt.zero|apply SetAt.succ)) ?_
  refine zan (w:=pW2 R0 C0) (ce':=[pen ns j]) (zam rfl) ?_
  refine zbI (by repeat (first|exact SetAt.zero|apply SetAt.succ)) ?_
  refine zbM (zs:=List.range 5) (en:=nW) (c1:=[pen ns j]) (zet (n:=5) (zak zcZ zat) (by omega))
   (fun d' sl c=>∃R C x7 i,sl=[some (sW ns),some (.cel 0),some (wB b),some (wS is),some (.int h),some (pW2 R0 C0),some (pW2 R C),x7]/\c=[pen ns i]/\i<=j+80*d'.length/\Lq b (36+d'.length) R/\Lq b (36+d'.length) C) ⟨R0,C0,_,j,rfl,rfl,by simp,L0,K0⟩ ?_ ?_
  ·rintro d' k zeM sl c e' hk ⟨R,C,x7,i,rfl,rfl,hi,LR,LC⟩
   have hd':d'.length<5:=by
    have:=congrArg List.length e'
    simp only[List.length_append,List.length_cons,List.length_range] at this
    omega
   have hk5:=List.mem_range.mp hk
   unfold zmt
   refine zbI (by repeat (first|exact SetAt.zero|apply SetAt.succ)) ?_
   have ask:∀{R C:List (List Nat)} {i:Nat},i<=j+80*(d'.length+1)->Lq b (36+(d'.length+1)) R->Lq b (36+(d'.length+1)) C->Run (dIf (dB (zao 4 (d_holds FU) (zac (zaf 2) (zac (zaf 3) (zac (zaf 4) (zac (zeP (zac (dBi (zcV zaT) (zac (zay ixW (zaf 6) (dC (.int 0))) zal)) (zac (dBi (zcV zaT) (zac (zay ixW (zaf 6) (dC (.int 1))) zal)) zal))) zal)))))) (zaz (dIf (dB (zay (eqD true) (dLC zaT [5] (dIL (zay ixW (zaf 6) (dC (.int 0)))) (dB (zay (inW true) (zaf 0) (zay ixW (zaf 1) (dC (.int 0))))) (zaf 0)) (zbO zal))) (zbg (dC (.bl false))) zba)
     (zaz (dIf (dB (zay (eqD true) (dLC zaT [5] (dIL (zay ixW (zaf 6) (dC (.int 1)))) (dB (zay (inW true) (zaf 0) (zay ixW (zaf 1) (dC (.int 1))))) (zaf 0)) (zbO zal))) (zbg (dC (.bl false))) zba)
     (dIf (dB (zay (eqD true) (dLC zaT [2,3] (dIL (zay ixW (zaf 6) (dC (.int 0)))) (zey (dB (dUn zld (zao 3 (d_taking FU) (zac (zaf 1) (zac (zaf 2) (zac (zay ixW (zaf 0) (dC (.int 0))) zal))))))) (zaf 0)) (zbO zal))) (zbg (dC (.bl false))) zba))) zba)
     [some (sW ns),some (.cel 0),some (wB b),some (wS is),some (.int h),some (pW2 R0 C0),some (pW2 R C),some (nW k)] [pen ns i]
     (Nx fun sl c=>∃R C x7 i,sl=[some (sW ns),some (.cel 0),some (wB b),some (wS is),some (.int h),some (pW2 R0 C0),some (pW2 R C),x7]/\c=[pen ns i]/\i<=j+80*(d'++[k]).length/\Lq b (36+(d'++[k]).length) R/\Lq b (36+(d'++[k]).length) C):=by
    intro R C i hi LR LC
    have lenR:=LR.len
    have lenC:=LC.len
    have i0:=zob (ce:=[pen ns i]) R C
    have i1:=zqg (ce:=[pen ns i]) R C
    have k0:=zob (ce:=[pen ns i]) R0 C0
    have k1:=zqg (ce:=[pen ns i]) R0 C0
    have cp:∀{Z:List (List Nat)},Z.length<=100->zcV zaT [.lst (Z.map wL)] [pen ns i]=some (.ok (.lst (Z.map wL)) [pen ns i]):=fun {Z} hZ=>by
     rw[zkb (xs:=Z.map wL) rfl]
     exact zb6 (by rw[List.length_map];omega)
    have e3:=zlW (ce:=[pen ns i]) (is:=is) (h:=h) FU hfu B hl (LR.lb (by omega)) (LC.lb (by omega))
    have fin:Nx (fun sl c=>∃R C x7 i,sl=[some (sW ns),some (.cel 0),some (wB b),some (wS is),some (.int h),some (pW2 R0 C0),some (pW2 R C),x7]/\c=[pen ns i]/\i<=j+80*(d'++[k]).length/\Lq b (36+(d'++[k]).length) R/\Lq b (36+(d'++[k]).length) C) (.go .nx [some (sW ns),some (.cel 0),some (wB b),some (wS is),some (.int h),some (pW2 R0 C0),some (pW2 R C),some (nW k)] [pen ns i]):=by
     refine⟨R,C,_,i,rfl,rfl,?_,?_,?_⟩<;>simp only[List.length_append,List.length_cons,List.length_nil]
     ·exact hi
     ·exact LR
     ·exact LC
    refine zcq (p:=zdT b is h R C) (ce':=[pen ns i]) (zfH (zax (ws:=[wB b,wS is,.int h,pW2 R C]) (c1:=[pen ns i]) (zak (zam rfl) (zak (zam rfl) (zak (zam rfl) (zak (zc5 (ws:=[.lst (R.map wL),.lst (C.map wL)]) (zak (zbL (ws:=[.lst (R.map wL)]) (zak (zaG (zam rfl) zcZ i0) zat) (cp (by omega))) (zak (zbL (ws:=[.lst (C.map wL)]) (zak (zaG (zam rfl) zcZ i1) zat) (cp (by omega))) zat)) z2) zat)))) rfl e3)) (fun q=>?_) (fun _=>zdi fin)
    have P:=zkI B h0 q
    obtain⟨sR,sC⟩:=M0.gr R C P
    have z0:(0:Nat)<=PySem.sizeLine:=by omega
    have q1:dLC zaT [5] (dIL (zay ixW (zaf 6) (dC (.int 0)))) (dB (zay (inW true) (zaf 0) (zay ixW (zaf 1) (dC (.int 0))))) (zaf 0) [some (sW ns),some (.cel 0),some (wB b),some (wS is),some (.int h),some (pW2 R0 C0),some (pW2 R C),some (nW k)] [pen ns i]=some (.ok (.lst ((R.filter fun r=>!decide (r∈R0)).map wL)) [pen ns i]) :=
     zh5 (zs:=R) (en:=wL) (c1:=[pen ns i]) (zcl (zaG (zam rfl) zcZ i0) (.fr _)) (by omega) (fun x hx=>zfH (zaG (zam rfl) (zaG (x:=pW2 R0 C0) (zam rfl) zcZ k0) (zil true x R0)))
    have q2:dLC zaT [5] (dIL (zay ixW (zaf 6) (dC (.int 1)))) (dB (zay (inW true) (zaf 0) (zay ixW (zaf 1) (dC (.int 1))))) (zaf 0) [some (sW ns),some (.cel 0),some (wB b),some (wS is),some (.int h),some (pW2 R0 C0),some (pW2 R C),some (nW k)] [pen ns i]=some (.ok (.lst ((C.filter fun r=>!decide (r∈C0)).map wL)) [pen ns i]) :=
     zh5 (zs:=C) (en:=wL) (c1:=[pen ns i]) (zcl (zaG (zam rfl) zcZ i1) (.fr _)) (by omega) (fun x hx=>zfH (zaG (zam rfl) (zaG (x:=pW2 R0 C0) (zam rfl) zcZ k1) (zil true x C0)))
    have q3:dLC zaT [2,3] (dIL (zay ixW (zaf 6) (dC (.int 0)))) (zey (dB (dUn zld (zao 3 (d_taking FU) (zac (zaf 1) (zac (zaf 2) (zac (zay ixW (zaf 0) (dC (.int 0))) zal))))))) (zaf 0) [some (sW ns),some (.cel 0),some (wB b),some (wS is),some (.int h),some (pW2 R0 C0),some (pW2 R C),some (nW k)] [pen ns i]=some (.ok (.lst ((R.filter fun _=>false).map wL)) [pen ns i]) :=
     zh5 (zs:=R) (en:=wL) (c1:=[pen ns i]) (zcl (zaG (zam rfl) zcZ i0) (.fr _)) (by omega) (fun x hx=>by
      obtain⟨s,hs,_,ex⟩:=P.row x hx
      have x0:0<x.length:=by rw[ex];exact List.length_pos_of_mem (zb2 B.bd hs)
      have hx0:x.getD 0 0∈x:=by rw[List.getD_eq_getElem?_getD,List.getElem?_eq_getElem x0];exact List.getElem_mem x0
      have e5:=ziY (ce:=[pen ns i]) FU hfu B hl h0 P hx hx0
      exact zgw (zfH (zly (zax (ws:=[wB b,wS is,nW (x.getD 0 0)]) (c1:=[pen ns i]) (zak (zam rfl) (zak (zam rfl) (zak (zaG (zam rfl) zcZ (zik x0)) zat))) rfl e5) rfl)))
    rw[zkJ (fun r hr=>by rw[decide_eq_true (sR r hr)];rfl)] at q1
    rw[zkJ (fun r hr=>by rw[decide_eq_true (sC r hr)];rfl)] at q2
    rw[zkJ (fun r hr=>rfl)] at q3
    have qe:eqD true [pen ns i] (.lst (([]:List (List Nat)).map wL)) (.lst [])=some (.bl false):=by rw[show(W.lst [])=W.lst (([]:List (List Nat)).map wL) from rfl,zid];simp
    refine zbu (p:=false) (ce':=[pen ns i]) (zfH (zaG q1 (za0 (ws:=[]) zat z0) qe)) (fun q=>by cases q) (fun _=>za7 ?_)
    refine zbu (p:=false) (ce':=[pen ns i]) (zfH (zaG q2 (za0 (ws:=[]) zat z0) qe)) (fun q=>by cases q) (fun _=>za7 ?_)
    exact zcq (p:=false) (ce':=[pen ns i]) (zfH (zaG q3 (za0 (ws:=[]) zat z0) qe)) (fun q=>by cases q) (fun _=>zdi fin)
   refine zbu (p:=decide ((k:Int) % 2=0)) (ce':=[pen ns i]) (by trivial) (fun _=>?_) (fun _=>?_)
   ·have gi:([pen ns i]:Ce)[0]?=some (pen ns i):=rfl
    obtain⟨v,v0,v2,e7⟩:=zbe FU gi (by omega) (m:=2) (by omega)
    have e7':d__law_next FU [.cel 0,.int 2] [pen ns i]=some (.ok (.int v) [pen ns (i+1)]):=e7
    obtain⟨R1,C1,ex,LR1,LC1⟩:∃R1 C1,ixW [pen ns (i+1)] (.lst [pW2 R0 C0,pW2 R C]) (.int v)=some (pW2 R1 C1)/\Lq b (36+d'.length) R1/\Lq b (36+d'.length) C1:=by
     have h1:v=0\/v=1:=by omega
     rcases h1 with rfl|rfl
     ·exact⟨R0,C0,zh3 (xs:=[pW2 R0 C0,pW2 R C]) (j:=0) rfl rfl,L0.mono (by omega),K0.mono (by omega)⟩
     ·exact⟨R,C,zh3 (xs:=[pW2 R0 C0,pW2 R C]) (j:=1) rfl rfl,LR,LC⟩
    have gi1:([pen ns (i+1)]:Ce)[0]?=some (pen ns (i+1)):=rfl
    obtain⟨R2,C2,e8,LR2,LC2⟩:=ziX (ce:=[pen ns (i+1)]) (is:=is) (h:=h) FU hfu B hl gi1 (by omega) (by omega) LR1 LC1
    have e8':zlB (d__law_changed FU) [.cel 0,wB b,wS is,.int h,pW2 R1 C1] [pen ns (i+1)]=some (.ok (pW2 R2 C2) [pen ns (i+3)]):=e8
    refine zan (w:=pW2 R2 C2) (ce':=[pen ns (i+3)]) (zax (ws:=[.cel 0,wB b,wS is,.int h,pW2 R1 C1]) (c1:=[pen ns (i+1)]) (zak (zam rfl) (zak (zam rfl) (zak (zam rfl) (zak (zam rfl) (zak (zaG (za0 (ws:=[pW2 R0 C0,pW2 R C]) (zak (zam rfl) (zak (zam rfl) zat)) z2) (zax (ws:=[.cel 0,.int 2]) (by trivial) rfl e7') ex) zat))))) rfl e8') ?_
    refine zbI (by repeat (first|exact SetAt.zero|apply SetAt.succ)) ?_
    exact ask (by omega) LR2 LC2
   ·obtain⟨R2,C2,i2,e8,hi2,LR2,LC2⟩:=zlY (is:=is) (h:=h) FU hfu B hl (ns:=ns) (j:=i) (by omega)
    refine zan (w:=pW2 R2 C2) (ce':=[pen ns i2]) (zax (ws:=[.cel 0,wB b,wS is,.int h]) (c1:=[pen ns i]) (by trivial) rfl e8) ?_
    refine zbI (by repeat (first|exact SetAt.zero|apply SetAt.succ)) ?_
    exact ask (by omega) (LR2.mono (by omega)) (LC2.mono (by omega))
  ·rintro sl c ⟨R,C,x7,i,rfl,rfl,hi,LR,LC⟩
   refine⟨_,_,_,_,i,rfl,rfl,?_⟩
   rw[List.length_range] at hi
   simp only[List.length_append,List.length_cons,List.length_nil]
   omega
 ·rintro sl c ⟨x4,x5,x6,x7,j,rfl,rfl,hj⟩
  refine zaA (w:=.bl true) (ce':=[pen ns j]) zcZ ?_
  have:zeQ [] [pen ns j]:=⟨Nat.zero_le _,fun k c hk=>absurd hk (Nat.not_lt_zero _)⟩
  refine znC ?_
  simp only[finC]
  rw[if_pos ⟨this,by simp only[Bel]⟩]
  simp
end K34
namespace K34
open PySem PySem.Spec PyProof.Rows L2 VS
theorem fin_mk{w:World}{K:PySem.W.Frag}{mg:Str->Option Value}{l:PySem.W.OpenLaw}{fa:Addr}(z:∃A:Adr,Txt K mg A/\fa=A.f_law/\∀(s:Shared) (v:Value),BindsTo s A.d_law ⟨[v],[]⟩ [("_law_script",v)]) :
  ∃fd:FuncData,(∀(s:Shared) (u:Value),BindsTo s fd ⟨[u],[]⟩ [("_law_script",u)])/\∀base:Heap,K.In base->base.Ns mainGlobals mg->FnOk l.prog w K mg base CX0 9 fa fd ["_law_script"] (spLaw Gx (d_law FU) K):=by
 obtain⟨A,T,e,b⟩:=z
 subst e
 exact⟨A.d_law,b,fun base _ _=>znI T.nl (zp2 FU T)⟩
end K34
open PySem PySem.W PyProof.Rows
theorem PySem.W.Fast.te17193531525299696620 : True := trivial
theorem PySem.W.Fast.tw5240589778349134108 : True := trivial
theorem PySem.W.Fast.tw12794968844441683332 : True := trivial
theorem PySem.W.Fast.tw4963966227783379248 : True := trivial
theorem PySem.W.Fast.tw11769949431144158293 : True := trivial
theorem PySem.W.Fast.tw12688535433581299766 : True := trivial
theorem PySem.W.Fast.tw14141161763520560952 : True := trivial
theorem PySem.W.Fast.tw15530178748975915193 : True := trivial
theorem PySem.W.Fast.tw14932517264194397182 : True := trivial
set_option maxRecDepth 100000 in
set_option maxHeartbeats 0 in
theorem PySem.Challenge.cw_stonebreath_k34_whole_no_paper_says_more_holds : PySem.Challenge.rw_stonebreath_k34_whole_no_paper_says_more.Holds := by
 w_on;o_law;k_head;(case hw=>w_witness2)
 k_fill
 refine L2.walk_ofK (l:=PySem.Challenge.rw_stonebreath_k34_whole_no_paper_says_more) (n:=63) (k:=9) (x := "_law_script") (CX:=L2.CX0) (sp:=VS.spLaw K34.Gx (K34.d_law K34.FU)) rfl (by decide) rfl ⟨rfl,by decide,by decide⟩ (fun w h Y=>PySem.W.kIn_of Y) ?F (VS.law_sp K34.main) (fun _ _ _ _ z=>z)
 case F =>
  intro w mg fa h KX G hmg
  refine' K34.fin_mk (K34.all_mk KX G hmg ?a0 ?l0 ?c0 ?k0 ?a1 ?l1 ?c1 ?k1 ?a2 ?l2 ?c2 ?k2 ?a3 ?l3 ?c3 ?k3 ?a4 ?l4 ?c4 ?k4 ?a5 ?l5 ?c5 ?k5 ?a6 ?l6 ?c6 ?k6 ?a7 ?l7 ?c7 ?k7 ?a8 ?l8 ?c8 ?k8 ?a9 ?l9 ?c9 ?k9 ?a10 ?l10 ?c10 ?k10 ?a11 ?l11 ?c11 ?k11 ?a12 ?l12 ?c12 ?k12 ?a13 ?l13 ?c13 ?k13 ?a14 ?l14 ?c14 ?k14 ?a15 ?l15 ?c15 ?k15 ?a16 ?l16 ?c16 ?k16 ?a17 ?l17 ?c17 ?k17 ?a18 ?l18 ?c18 ?k18 ?a19 ?l19 ?c19 ?k19 ?a20 ?l20 ?c20 ?k20 ?a21 ?l21 ?c21 ?k21 ?a22 ?l22 ?c22 ?k22 ?a23 ?l23 ?c23 ?k23 ?a24 ?l24 ?c24 ?k24 ?a25 ?l25 ?c25 ?k25 ?a26 ?l26 ?c26 ?k26 ?a27 ?l27 ?c27 ?k27 ?a28 ?l28 ?c28 ?k28 ?a29 ?l29 ?c29 ?k29 ?a30 ?l30 ?c30 ?k30 ?a31 ?l31 ?c31 ?k31 ?a32 ?l32 ?c32 ?k32 ?a33 ?l33 ?c33 ?k33 ?a34 ?l34 ?c34 ?k34 ?a35 ?l35 ?c35 ?k35 ?a36 ?l36 ?c36 ?k36 ?a37 ?l37 ?c37 ?k37 ?a38 ?l38 ?c38 ?k38 ?a39 ?l39 ?c39 ?k39 ?a40 ?l40 ?c40 ?k40 ?a41 ?l41 ?c41 ?k41 ?a42 ?l42 ?c42 ?k42 ?a43 ?l43 ?c43 ?k43 ?q0 ?z_all ?z_any ?z_bool ?z_int ?z_isinstance ?z_len ?z_list ?z_max ?z_min ?z_range ?z_sorted ?z_tuple ?xt ?nl)
  (case a0=>k_is);(case l0=>k_is);(case c0=>k_is);(case k0=>k_is);(case a1=>k_is);(case l1=>k_is);(case c1=>k_is);(case k1=>k_is);(case a2=>k_is);(case l2=>k_is);(case c2=>k_is);(case k2=>k_is);(case a3=>k_is);(case l3=>k_is);(case c3=>k_is);(case k3=>k_is);(case a4=>k_is);(case l4=>k_is);(case c4=>k_is);(case k4=>k_is);(case a5=>k_is);(case l5=>k_is);(case c5=>k_is);(case k5=>k_is);(case a6=>k_is);(case l6=>k_is);(case c6=>k_is);(case k6=>k_is);(case a7=>k_is);(case l7=>k_is);(case c7=>k_is);(case k7=>k_is);(case a8=>k_is);(case l8=>k_is);(case c8=>k_is);(case k8=>k_is);(case a9=>k_is);(case l9=>k_is);(case c9=>k_is);(case k9=>k_is);(case a10=>k_is);(case l10=>k_is);(case c10=>k_is);(case k10=>k_is);(case a11=>k_is);(case l11=>k_is);(case c11=>k_is);(case k11=>k_is);(case a12=>k_is);(case l12=>k_is);(case c12=>k_is);(case k12=>k_is);(case a13=>k_is);(case l13=>k_is);(case c13=>k_is);(case k13=>k_is);(case a14=>k_is);(case l14=>k_is);(case c14=>k_is);(case k14=>k_is);(case a15=>k_is);(case l15=>k_is);(case c15=>k_is);(case k15=>k_is);(case a16=>k_is);(case l16=>k_is);(case c16=>k_is);(case k16=>k_is);(case a17=>k_is);(case l17=>k_is);(case c17=>k_is);(case k17=>k_is);(case a18=>k_is);(case l18=>k_is);(case c18=>k_is);(case k18=>k_is);(case a19=>k_is);(case l19=>k_is);(case c19=>k_is);(case k19=>k_is);(case a20=>k_is);(case l20=>k_is);(case c20=>k_is);(case k20=>k_is);(case a21=>k_is);(case l21=>k_is);(case c21=>k_is);(case k21=>k_is);(case a22=>k_is);(case l22=>k_is);(case c22=>k_is);(case k22=>k_is);(case a23=>k_is);(case l23=>k_is);(case c23=>k_is);(case k23=>k_is);(case a24=>k_is);(case l24=>k_is);(case c24=>k_is);(case k24=>k_is);(case a25=>k_is);(case l25=>k_is);(case c25=>k_is);(case k25=>k_is);(case a26=>k_is);(case l26=>k_is);(case c26=>k_is);(case k26=>k_is);(case a27=>k_is);(case l27=>k_is);(case c27=>k_is);(case k27=>k_is);(case a28=>k_is);(case l28=>k_is);(case c28=>k_is);(case k28=>k_is);(case a29=>k_is);(case l29=>k_is);(case c29=>k_is);(case k29=>k_is);(case a30=>k_is);(case l30=>k_is);(case c30=>k_is);(case k30=>k_is);(case a31=>k_is);(case l31=>k_is);(case c31=>k_is);(case k31=>k_is);(case a32=>k_is);(case l32=>k_is);(case c32=>k_is);(case k32=>k_is);(case a33=>k_is);(case l33=>k_is);(case c33=>k_is);(case k33=>k_is);(case a34=>k_is);(case l34=>k_is);(case c34=>k_is);(case k34=>k_is);(case a35=>k_is);(case l35=>k_is);(case c35=>k_is);(case k35=>k_is);(case a36=>k_is);(case l36=>k_is);(case c36=>k_is);(case k36=>k_is);(case a37=>k_is);(case l37=>k_is);(case c37=>k_is);(case k37=>k_is);(case a38=>k_is);(case l38=>k_is);(case c38=>k_is);(case k38=>k_is);(case a39=>k_is);(case l39=>k_is);(case c39=>k_is);(case k39=>k_is);(case a40=>k_is);(case l40=>k_is);(case c40=>k_is);(case k40=>k_is);(case a41=>k_is);(case l41=>k_is);(case c41=>k_is);(case k41=>k_is);(case a42=>k_is);(case l42=>k_is);(case c42=>k_is);(case k42=>k_is);(case a43=>k_is);(case l43=>k_is);(case c43=>k_is);(case k43=>k_is);(case q0=>k_is);(case z_all=>k_is);(case z_any=>k_is);(case z_bool=>k_is);(case z_int=>k_is);(case z_isinstance=>k_is);(case z_len=>k_is);(case z_list=>k_is);(case z_max=>k_is);(case z_min=>k_is);(case z_range=>k_is);(case z_sorted=>k_is);(case z_tuple=>k_is);(case xt=>kernel_rfl);(case nl=>kernel_rfl)
