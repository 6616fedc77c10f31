import PyProof.Rows.All
import Wide.All
import OpenK.AllK
import Wide.FinOn
import Lean
import PyProof.EqAt
import PyProof.EqKinds
import PyProof.TupleCall
import PyProof.NeKinds
import KE.KDictSum
import KE.KListLetter
import KE.KIsAll
import KE.KTryMore
import PySem.Challenge.RW_stonebreath_k40_chases_at_once
set_option Elab.async false
set_option linter.all false
set_option maxRecDepth 100000
noncomputable section
namespace L2
open PySem PySem.Spec PyProof.Rows
abbrev Key:=Sum Int Str
def zhv:Key->Value->Bool
 | .inl k,v=>Value.isInt k v
 | .inr x,v=>Value.isStrOf x v
def zrV(w:World):Key->Int
 | .inl k=>hashInt k
 | .inr x=>hashStr w x
theorem zaR:∀{k:Key} {v:Value},zhv k v=true->(∃i t,k=Sum.inl i/\v=Value.int i t)\/(∃x t,k=Sum.inr x/\v=Value.str x t)
 | .inl i,v,h=>by
  obtain⟨t,e⟩:=Value.isInt_shape (k:=i) (v:=v) h
  exact .inl ⟨i,t,rfl,e⟩
 | .inr x,v,h=>by
  obtain⟨t,e⟩:=Value.isStrOf_shape (x:=x) (v:=v) h
  exact .inr ⟨x,t,rfl,e⟩
theorem zis(i:Int)(t:Tok):zhv (.inl i) (.int i t)=true:=by simp[zhv,Value.isInt]
theorem zit(x:Str)(t:Tok):zhv (.inr x) (.str x t)=true:=by simp[zhv,Value.isStrOf]
theorem znS(a b:Int):decide ((Sum.inl a:Key)=Sum.inl b)=(a==b):=by
 by_cases e:a=b
 ·subst e;simp
 ·have h:¬(Sum.inl a:Key)=Sum.inl b:=fun q=>e (Sum.inl.inj q)
  rw[decide_eq_false h]
  exact(beq_eq_false_iff_ne.mpr e).symm
theorem znT(a b:Str):decide ((Sum.inr a:Key)=Sum.inr b)=decide (a=b):=by
 by_cases e:a=b
 ·subst e;simp
 ·have h:¬(Sum.inr a:Key)=Sum.inr b:=fun q=>e (Sum.inr.inj q)
  rw[decide_eq_false h,decide_eq_false e]
theorem znU(a:Int)(b:Str):decide ((Sum.inl a:Key)=Sum.inr b)=false:=decide_eq_false (fun q=>nomatch q)
theorem znV(a:Str)(b:Int):decide ((Sum.inr a:Key)=Sum.inl b)=false:=decide_eq_false (fun q=>nomatch q)
def zaV(prog:Program)(w:World):PySem.KeyKind prog w Key where
 is:=zhv
 hash:=zrV w
 inj:=fun v a b ha hb=>by
  rcases zaR ha with ⟨i,t,rfl,rfl⟩|⟨x,t,rfl,rfl⟩
  ·rcases zaR hb with ⟨j,u,rfl,e⟩|⟨y,u,rfl,e⟩
   ·injection e with e1 _;rw[e1]
   ·exact nomatch e
  ·rcases zaR hb with ⟨j,u,rfl,e⟩|⟨y,u,rfl,e⟩
   ·exact nomatch e
   ·injection e with e1 _;rw[e1]
 byValue:=fun k v h=>by
  rcases zaR h with ⟨i,t,rfl,rfl⟩|⟨x,t,rfl,rfl⟩<;>rfl
 pyHash:=fun hv h=>by
  rcases zaR hv with ⟨i,t,rfl,rfl⟩|⟨x,t,rfl,rfl⟩
  ·exact wpAny_pyHash_int h
  ·exact wpAny_pyHash_str h
 eqBool:=fun hu hv h=>by
  rcases zaR hu with ⟨i,t,rfl,rfl⟩|⟨x,t,rfl,rfl⟩
  ·rcases zaR hv with ⟨j,u,rfl,rfl⟩|⟨y,u,rfl,rfl⟩
   ·rw[znS] at h;exact wpAny_eqBool_int h
   ·rw[znU] at h;exact SeqAt.EqAt.int_str i t y u _ _ _ _ h
  ·rcases zaR hv with ⟨j,u,rfl,rfl⟩|⟨y,u,rfl,rfl⟩
   ·rw[znV] at h;exact SeqAt.EqAt.str_int x t j u _ _ _ _ h
   ·rw[znT] at h;exact wpAny_eqBool_str h
 «strs»:=fun k x t v h=>by
  rcases zaR h with ⟨i,u,rfl,e⟩|⟨y,u,rfl,e⟩
  ·exact nomatch e
  ·injection e with e1 _
   subst e1
   cases v<;>rfl
theorem zf3(prog:Program)(w:World)(i:Int)(t:Tok):(zaV prog w).is (.inl i) (.int i t)=true:=zis i t
theorem zf4(prog:Program)(w:World)(x:Str)(t:Tok):(zaV prog w).is (.inr x) (.str x t)=true:=zit x t
end L2
namespace L2
open PySem PySem.Spec PyProof.Rows
inductive V where
 | non|bl (b:Bool)|int (i:Int)|str (x:Str)|byt (b:Array UInt8)|flt (b:UInt64)|ref (a:Addr)|ty (n:String)
 deriving DecidableEq
def RelV:V->Value->Prop
 | .non,u=>u=Value.none
 | .bl b,u=>u=Value.bool b
 | .int i,u=>∃t,u=Value.int i t
 | .str x,u=>∃t,u=Value.str x t
 | .byt b,u=>∃t,u=Value.bytes b t
 | .flt b,u=>∃t,u=Value.float b t
 | .ref a,u=>u=Value.ref a
 | .ty n,u=>u=Value.type n
abbrev Vals:List V->List Value->Prop:=Paired RelV
theorem Vals.length{xs:List V}{us:List Value}(r:Vals xs us):xs.length=us.length:=Paired.length r
theorem Vals.get:∀{xs:List V} {us:List Value} {i:Nat} {x:V},Vals xs us->xs[i]?=some x->∃u,us[i]?=some u/\RelV x u
 | _,_,_,_,.nil,e=>by simp at e
 | _,_,0,_,.cons r _,e=>by simp at e;subst e;exact⟨_,rfl,r⟩
 | _,_,i+1,x,.cons _ t,e=>by
  obtain⟨u,h1,h2⟩:=Vals.get (i:=i) (x:=x) t (by simpa using e)
  exact⟨u,by simpa using h1,h2⟩
theorem Vals.set{x:V}{u:Value}(r:RelV x u):∀{xs:List V} {us:List Value} (i:Nat),Vals xs us->Vals (xs.set i x) (us.set i u)
 | _,_,_,.nil=>.nil
 | _,_,0,.cons _ t=>.cons r t
 | _,_,i+1,.cons q t=>.cons q (Vals.set r i t)
theorem Vals.append:∀{xs ys:List V} {us ws:List Value},Vals xs us->Vals ys ws->Vals (xs++ys) (us++ws)
 | _,_,_,_,.nil,s=>s
 | _,_,_,_,.cons r t,s=>.cons r (Vals.append t s)
def RelO:Option V->Option Value->Prop
 | some v,some u=>RelV v u
 | none,none=>True
 | _,_=>False
def KV{κ:Type}:List (κ×V)->List (κ×Value)->Prop:=Paired fun(p:κ×V) (q:κ×Value)=>p.1=q.1/\RelV p.2 q.2
def kV:Key->V
 | .inl i=>.int i
 | .inr x=>.str x
inductive HO where
  | lst (xs:List V)
  | tup (xs:List V)
  | dK (kvs:List (Key×V))|dT (kvs:List (List Key×V))
  | set (S:Int->Bool) (n:Nat)
  | ins (C dx:Addr) (fs:List (Str×V))
  | own (x:Addr)
  | xd (fs:List (Str×V))
  | met (f x:Addr)
  | rng (lo hi:Int)
  | frz (o:Obj) (u:HO)
  | tbl (ps:Array Value)
  | ext (φ:Heap->Prop)
abbrev Hp:=Addr->Option HO
def upd(H:Hp)(a:Addr)(o:HO):Hp:=fun b=>if b=a then some o else H b
theorem zaB{H:Hp}{a:Addr}{o:HO}:upd H a o a=some o:=by unfold upd;rw[if_pos rfl]
theorem zaz{H:Hp}{a b:Addr}{o:HO}(h:b≠a):upd H a o b=H b:=by unfold upd;rw[if_neg h]
theorem zp4{H:Hp}{a b:Addr}{o u:HO}(h:H a=some o)(h':H b=some u)(d:o≠u):a≠b:=by
 intro e;subst e;rw[h] at h';exact d (Option.some.inj h')
theorem zaq{H:Hp}{a b:Addr}{o:HO}(h:H a=some o)(h':H b=none):a≠b:=by
 intro e;subst e;rw[h] at h';cases h'
def TupN(h:Heap)(a:Addr)(items:Array Value):Prop:=∃o,h.get? a=some o/\o.cls=.type "tuple" /\ (∃n,o.data=.seq items n)/\o.dict=none
theorem TupN.isTup{h:Heap}{a:Addr}{items:Array Value}(t:TupN h a items):PyProof.Rows.IsTup h a items:=by
 obtain⟨o,e,c,⟨n,d⟩,_⟩:=t
 exact⟨o,e,c,n,d⟩
theorem TupN.new(h:Heap)(items:Array Value):TupN (h.push { cls:=.type "tuple",data:=.seq items }) h.objs.size items:=⟨_,Heap.get?_push_size _ rfl,rfl,⟨_,rfl⟩,rfl⟩
section
variable (P:Program) (w:World)
def ObjOk(H:Hp)(h:Heap)(a:Addr):HO->Prop
 | .lst xs=>xs.length<=sizeLine/\∃(its:List Value) (n:Nat),Vals xs its/\h.get? a=some { cls:=.type "list",data:=.seq its.toArray n }
 | .tup xs=>xs.length<=sizeLine/\∃its:List Value,Vals xs its/\TupN h a its.toArray
 | .dK kvs=>kvs.length<=sizeLine/\(a==sysModules)=false/\∃vs,KV kvs vs/\h.DictOf (zaV P w) a vs
 | .dT kvs=>kvs.length<=sizeLine/\(a==sysModules)=false/\∃xs:List (List Key×Addr×Value),
   Paired (fun(p:List Key×V) (q:List Key×Addr×Value)=>p.1=q.1/\H q.2.1=some (.tup (p.1.map kV))/\RelV p.2 q.2.2) kvs xs /\
   ∃o es ep,h.get? a=some o/\o.ExactDict/\o.data=.dict es ep/\es.toList=xs.map (entryOfKey (tupleKind (zaV P w)))/\(xs.map (·.1)).Nodup
 | .set S n=>h.SetOf (intKind P w) a S n
 | .ins C dx fs=>H dx=some (.own a)/\fs.length<=1000/\dx≠a/\h.get? a=some (PySem.W.instObj C dx) /\
   ∃mA,h.Ns1 dx mA/\(∀f,RelO (fs.lookup f) (mA f))/\PySem.Within mA (fs.map (·.1))
 | .own _=>∃o,h.get? a=some o
 | .xd fs=>∃mA,h.Ns1 a mA/\∀f,RelO (fs.lookup f) (mA f)
 | .rng lo hi=>∃t u v,h.get? a=some { cls:=.type "range",data:=.fields #[.int lo t,.int hi u,.int 1 v] }
 | .frz o u=>h.get? a=some o/\ObjOk H h a u
 | .tbl ps=>h.get? a=some { cls:=.none,data:=.fields ps }
 | .met f x=>h.get? a=some (PySem.W.methodObj (.ref f) (.ref x))
 | .ext φ=>φ h/\(∃o,h.get? a=some o)/\∀h1 h2:Heap,φ h1->(∀o,h1.get? a=some o->h2.get? a=some o)->φ h2
def HOk(H:Hp)(h:Heap):Prop:=∀a o,H a=some o->ObjOk P w H h a o
end
section
variable {P:Program} {w:World} {H H':Hp} {h h':Heap} {a:Addr} {o:HO}
theorem ObjOk.lt(x:ObjOk P w H h a o):a<h.objs.size:=by
 cases o with
 | lst xs=>obtain⟨_,_,_,_,e⟩:=x;exact Heap.lt_size e
 | tup xs=>obtain⟨_,_,_,p⟩:=x;exact(TupN.isTup p).lt
 | dK kvs=>obtain⟨_,_,_,_,o,_,_,e,_⟩:=x;exact Heap.lt_size e
 | dT kvs=>obtain⟨_,_,_,_,o,_,_,e,_⟩:=x;exact Heap.lt_size e
 | set S n=>obtain⟨o,_,_,_,e,_⟩:=x;exact Heap.lt_size e
 | ins C dx fs=>obtain⟨_,_,_,e,_⟩:=x;exact Heap.lt_size e
 | own y=>obtain⟨_,e⟩:=x;exact Heap.lt_size e
 | xd fs=>obtain⟨_,⟨_,_,_,e,_⟩,_⟩:=x;exact Heap.lt_size e
 | rng lo hi=>obtain⟨_,_,_,e⟩:=x;exact Heap.lt_size e
 | frz ob u=>obtain⟨e,_⟩:=x;exact Heap.lt_size e
 | tbl ps=>exact Heap.lt_size (show h.get? a=some _ from x)
 | met f y=>exact Heap.lt_size (show h.get? a=some _ from x)
 | ext φ=>obtain⟨_,⟨_,e⟩,_⟩:=x;exact Heap.lt_size e
theorem Paired.mapP{α β:Type}{F G:α->β->Prop}:∀{l₁:List α} {l₂:List β},Paired F l₁ l₂->(∀a b,F a b->G a b)->Paired G l₁ l₂
 | _,_,.nil,_=>.nil
 | _,_,.cons r t,f=>.cons (f _ _ r) (Paired.mapP t f)
theorem ObjOk.stay(x:ObjOk P w H h a o)(k:∀b u,(b=a\/H b=some (.own a))->h.get? b=some u->h'.get? b=some u)(ho:∀b,H b=some (.own a)->H' b=some (.own a))(ht:∀b xs,H b=some (.tup xs)->H' b=some (.tup xs)):ObjOk P w H' h' a o:=by
 induction o with
 | lst xs=>obtain⟨z,its,n,r,e⟩:=x;exact⟨z,its,n,r,k _ _ (.inl rfl) e⟩
 | tup xs=>obtain⟨z,its,r,ob,e,c⟩:=x;exact⟨z,its,r,ob,k _ _ (.inl rfl) e,c⟩
 | dK kvs=>obtain⟨z,y,vs,r,ob,es,ep,e,c⟩:=x;exact⟨z,y,vs,r,ob,es,ep,k _ _ (.inl rfl) e,c⟩
 | dT kvs =>
  obtain⟨z,y,xs,r,ob,es,ep,e,c⟩:=x
  exact⟨z,y,xs,Paired.mapP r fun p q z=>⟨z.1,ht _ _ z.2.1,z.2.2⟩,ob,es,ep,k _ _ (.inl rfl) e,c⟩
 | set S n=>obtain⟨ob,es,ep,t,e,c⟩:=x;exact⟨ob,es,ep,t,k _ _ (.inl rfl) e,c⟩
 | ins C dx fs =>
  obtain⟨d,z,ne,e,mA,⟨od,es,ep,e2,c⟩,r⟩:=x
  exact⟨ho _ d,z,ne,k _ _ (.inl rfl) e,mA,⟨od,es,ep,k _ _ (.inr d) e2,c⟩,r⟩
 | own y=>obtain⟨ob,e⟩:=x;exact⟨ob,k _ _ (.inl rfl) e⟩
 | xd fs=>obtain⟨mA,⟨od,es,ep,e,c⟩,r⟩:=x;exact⟨mA,⟨od,es,ep,k _ _ (.inl rfl) e,c⟩,r⟩
 | rng lo hi=>obtain⟨t,u,v,e⟩:=x;exact⟨t,u,v,k _ _ (.inl rfl) e⟩
 | frz ob u ih=>obtain⟨e,q⟩:=x;exact⟨k _ _ (.inl rfl) e,ih q⟩
 | tbl ps =>
  have e:h.get? a=some { cls:=.none,data:=.fields ps }:=x
  show h'.get? a=some { cls:=.none,data:=.fields ps }
  exact k a _ (.inl rfl) e
 | met f y =>
  have e:h.get? a=some (PySem.W.methodObj (.ref f) (.ref y)):=x
  show h'.get? a=some (PySem.W.methodObj (.ref f) (.ref y))
  exact k a _ (.inl rfl) e
 | ext φ=>obtain⟨p,⟨o,e⟩,st⟩:=x;exact⟨st _ _ p fun o q=>k _ _ (.inl rfl) q,⟨o,k _ _ (.inl rfl) e⟩,st⟩
theorem HOk.lt(x:HOk P w H h)(e:H a=some o):a<h.objs.size:=(x a o e).lt
theorem HOk.fresh(x:HOk P w H h)(e:h.objs.size<=a):H a=none:=by
 cases q:H a with
 | none=>rfl
 | some u=>exact absurd (Nat.lt_of_lt_of_le (x.lt q) e) (Nat.lt_irrefl _)
theorem HOk.kept(x:HOk P w H h)(k:∀b u,h.get? b=some u->h'.get? b=some u):HOk P w H h':=fun a o e =>
 (x a o e).stay (fun b u _ q=>k b u q) (fun _ q=>q) fun _ _ q=>q
theorem HOk.laid(x:HOk P w H h)(k:∀b u,h.get? b=some u->h'.get? b=some u)(hp:h.objs.size<=a)(new:ObjOk P w (upd H a o) h' a o):HOk P w (upd H a o) h':=fun b u e=>by
 have hn:=x.fresh hp
 by_cases hb:b=a
 ·subst hb;rw[zaB] at e;cases e;exact new
 ·rw[zaz hb] at e
  exact(x b u e).stay (fun c v _ q=>k c v q) (fun c q=>by rw[zaz (zaq q hn)];exact q) fun c xs q=>by rw[zaz (zaq q hn)];exact q
end
def Rd(H:Hp)(a:Addr)(u:HO):Prop:=H a=some u\/∃o,H a=some (.frz o u)
theorem Rd.ok{P:Program}{w:World}{H:Hp}{h:Heap}{a:Addr}{u:HO}(r:Rd H a u)(x:HOk P w H h):ObjOk P w H h a u:=by
 rcases r with r|⟨o,r⟩
 ·exact x a u r
 ·obtain⟨_,q⟩:=x a _ r
  exact q
def Mut:Option HO->Prop
 | some (.lst _)=>True
 | some (.dK _)=>True
 | some (.dT _)=>True
 | some (.set _ _)=>True
 | some (.ins _ _ _)=>True
 | some (.ext _)=>True
 | _=>False
section
variable {P:Program} {w:World} {H:Hp} {h h':Heap} {x e:Addr} {o':HO}
theorem HOk.write(ok:HOk P w H h)(mu:Mut (H x))(he:e=x\/H e=some (.own x))(k:∀b u,b≠e->h.get? b=some u->h'.get? b=some u)(heo:∃u,h'.get? e=some u)(new:ObjOk P w (upd H x o') h' x o'):HOk P w (upd H x o') h':=fun b u q=>by
 have nown:∀c y,H c=some (.own y)->c≠x:=fun c y r z=>by subst z;rw[r] at mu;exact mu
 have ntup:∀c xs,H c=some (.tup xs)->c≠x:=fun c xs r z=>by subst z;rw[r] at mu;exact mu
 by_cases hb:b=x
 ·subst hb;rw[zaB] at q;cases q;exact new
 ·rw[zaz hb] at q
  by_cases hbe:b=e
  ·have q':H b=some (.own x):=by
    rcases he with z|z
    ·exact absurd (hbe.trans z) hb
    ·rw[hbe];exact z
   rw[q] at q';cases q'
   obtain⟨v,hv⟩:=heo
   exact⟨v,by rw[hbe];exact hv⟩
  ·refine(ok b u q).stay (fun c v hc r=>k c v ?_ r) (fun c r=>by rw[zaz (nown c b r)];exact r) fun c xs r=>by rw[zaz (ntup c xs r)];exact r
   rcases hc with rfl|hc
   ·exact hbe
   ·rintro rfl
    rcases he with z|z
    ·exact nown c b hc z
    ·rw[hc] at z;cases z;exact hb rfl
end
structure Un (fs ex:List Addr) (H H':Hp) (h h':Heap):Prop where
 keep:∀b o,h.get? b=some o->H b=none->b∉fs->b∉ex->h'.get? b=some o
 slot:∀b o,h.get? b=some o->H b=none->b∈fs->b∉ex->∃sl,h'.get? b=some { o with slots:=sl }
 free:∀b o,h.get? b=some o->H b=none->b∉ex->H' b=none
 there:∀b o,h.get? b=some o->b∉ex->∃o',h'.get? b=some o'
 tups:∀b xs,H b=some (.tup xs)->H' b=some (.tup xs)
 frzs:∀b o u,H b=some (.frz o u)->H' b=some (.frz o u)
 tbls:∀b ps,H b=some (.tbl ps)->∃more,H' b=some (.tbl (ps++more))
section
variable {fs fs' ex ex':List Addr} {H H1 H2:Hp} {h h1 h2 h':Heap} {a x e:Addr} {o:HO}
theorem Un.any(u:Un fs ex H H1 h h1){b:Addr}{ob:Obj}(q:h.get? b=some ob)(n:H b=none)(hx:b∉ex):∃sl,h1.get? b=some { ob with slots:=sl }:=by
 by_cases hb:b∈fs
 ·exact u.slot b ob q n hb hx
 ·exact⟨ob.slots,u.keep b ob q n hb hx⟩
theorem Un.kept(k:∀b u,h.get? b=some u->h'.get? b=some u):Un fs ex H H h h' :=
 ⟨fun b ob q _ _ _=>k b ob q,fun b ob q _ _ _=>⟨ob.slots,k b ob q⟩,fun _ _ _ n _=>n,fun b ob q _=>⟨ob,k b ob q⟩,fun _ _ q=>q,fun _ _ _ q=>q,fun _ ps q=>⟨#[],by rw[q];simp⟩⟩
theorem Un.refl:Un fs ex H H h h:=Un.kept fun _ _ q=>q
theorem Un.laid(k:∀b u,h.get? b=some u->h'.get? b=some u)(hp:h.objs.size<=a)(hn:H a=none):Un fs ex H (upd H a o) h h' where
 keep:=fun b u q _ _ _=>k b u q
 slot:=fun b u q _ _ _=>⟨u.slots,k b u q⟩
 free:=fun b u q n _=>by rw[zaz (Nat.ne_of_lt (Nat.lt_of_lt_of_le (Heap.lt_size q) hp))];exact n
 there:=fun b u q _=>⟨u,k b u q⟩
 tups:=fun b xs q=>by rw[zaz (zaq q hn)];exact q
 frzs:=fun b u xs q=>by rw[zaz (zaq q hn)];exact q
 tbls:=fun b ps q=>⟨#[],by rw[zaz (zaq q hn),q];simp⟩
theorem Un.write(mu:Mut (H x))(he:e=x\/H e=some (.own x))(k:∀b u,b≠e->h.get? b=some u->h'.get? b=some u)(heo:∃u,h'.get? e=some u):Un fs ex H (upd H x o) h h':=by
 have hx:∀b,H b=none->b≠x:=fun b n z=>by subst z;rw[n] at mu;exact mu
 have hb:∀b,H b=none->b≠e:=fun b n z=>by
  subst z
  rcases he with r|r
  ·exact hx b n r
  ·rw[n] at r;cases r
 have hm:∀b u,H b=some u->¬Mut (some u)->b≠x:=fun b u q nm z=>by subst z;rw[q] at mu;exact nm mu
 refine⟨fun b u q n _ _=>k b u (hb b n) q,fun b u q n _ _=>⟨u.slots,k b u (hb b n) q⟩,fun b u q n _=>by rw[zaz (hx b n)];exact n,fun b u q _=>?_,
  fun b xs q=>by rw[zaz (hm b _ q fun z=>z)];exact q,fun b u xs q=>by rw[zaz (hm b _ q fun z=>z)];exact q,fun b ps q=>⟨#[],by rw[zaz (hm b _ q fun z=>z),q];simp⟩⟩
 by_cases hbe:b=e
 ·subst hbe;exact heo
 ·exact⟨u,k b u hbe q⟩
end
def trk(h:Heap)(H:Hp):List Addr:=(List.range h.objs.size).filter fun a=>(H a).isSome
def zkm(h:Heap)(H:Hp):Heap:=PySem.W.hideAll h (trk h H)
theorem ziu(h:Heap)(H:Hp):(zkm h H).objs.size=h.objs.size:=PySem.W.hideAll_size _ _
theorem zkn{h:Heap}{H:Hp}{b:Addr}{o:Obj}(e:h.get? b=some o)(n:H b=none):(zkm h H).get? b=some o :=
 PySem.W.hideAll_get _ e fun hm=>by
  have q:(H b).isSome=true:=(List.mem_filter.mp hm).2
  rw[n] at q;simp at q
theorem zma{h:Heap}{H:Hp}{b:Addr}{o:Obj}(e:(zkm h H).get? b=some o):h.get? b=some o/\H b=none:=by
 have e':h.get? b=some o:=PySem.W.of_hideAll (trk h H) e
 refine⟨e',?_⟩
 cases q:H b with
 | none=>rfl
 | some x =>
  have hm:b∈trk h H:=List.mem_filter.mpr ⟨List.mem_range.mpr (Heap.lt_size e'),by simp[q]⟩
  have z:(zkm h H).get? b=none:=PySem.W.hideAll_none (trk h H) hm
  rw[z] at e;cases e
def zmb(g h:Heap)(L:Addr):List (Addr×Obj):=(List.range h.objs.size).filterMap fun a=>if a=L\/(g.get? a).isSome=true then none else (h.get? a).map fun o=>(a,o)
def zdv(g h:Heap)(L d:Addr):List (Addr×Obj):=(zmb g h L).filter fun p=>decide (p.1≠d)
end L2
namespace L2
open PySem PySem.Spec PyProof.Rows
structure Mod (K:PySem.W.Frag) (mg:Str->Option Value) (base:Heap):Prop where
 kin:K.In base
 glob:base.Ns mainGlobals mg
 blt:∃mb,base.Ns builtinsNs mb/\∀x:Str,x ≠ "__name__" -> mb x=bootBuiltins x
 nolimit:base.NoLimit
structure Cx where
 prog:Program
 w:World
 K:PySem.W.Frag
 mg:Str->Option Value
 base:Heap
 A:Around
 N:List Str
 s₀:Shared
 H₀:Hp
 env:Env
 outer:List Env
 stack:List Env
 ex:List Addr
 fn:Str->Bool
 calm:Bool
 pn:List (Addr×Obj)
 xe:Value->Shared->Prop
def frs(l:List Env):List Addr:=l.filterMap (·.frame)
abbrev Cx.fs(X:Cx):List Addr:=frs X.outer
def Vis(sc:Scope)(x:Str):Prop:=sc.names.lookup x=some .local\/sc.names.lookup x=some .cell\/sc.names.lookup x=some .free
def Loc(sc:Scope)(x:Str):Prop:=sc.names.lookup x=some .local\/sc.names.lookup x=some .cell
def zrW(env:Env)(h:Heap)(m:Str->Option Value)(x:Str)(u:Value):Prop :=
 (env.kindOf x=some .local/\m x=some u)\/((env.kindOf x=some .cell\/env.kindOf x=some .free)/\∃c,env.cells.lookup x=some c/\h.IsCell c (some u))
structure Cx.Ok (X:Cx):Prop where
 mod:Mod X.K X.mg X.base
 kind:X.env.scope.kind=.function
 glob:X.env.globals=mainGlobals
 blt:X.env.builtins=builtinsNs
 above:X.s₀.heap.objs.size<=X.env.locals
 inj:∀x y c,X.env.cells.lookup x=some c->X.env.cells.lookup y=some c->x=y
 has:∀x,(X.env.kindOf x=some .cell\/X.env.kindOf x=some .free)->∃c,X.env.cells.lookup x=some c
 cab:∀x c,X.fn x=true->X.env.cells.lookup x=some c->X.s₀.heap.objs.size<=c
 hd:X.calm=true->X.A.handled=none
 frames:X.A.frames=some X.stack
 stk:X.stack=X.outer\/(X.stack=X.env::X.outer/\X.env.frame=some X.env.locals)
 exf:∀b∈X.ex,b≠X.env.locals/\∀x c,X.env.cells.lookup x=some c->c≠b
 bs:∀b o,X.base.get? b=some o->X.s₀.heap.get? b=some o/\X.H₀ b=none
 bsz:X.base.objs.size<=X.s₀.heap.objs.size
 noex:∀b o,X.base.get? b=some o->b∉X.ex
 exfs:∀b∈X.ex,b∉X.fs
 funs:X.s₀.heap.FunFrames X.base X.outer
 frf:∀b∈X.fs,X.H₀ b=none
structure Inv (X:Cx) (pins:List (Addr×Obj)) (σ:List (Option V)) (H:Hp) (s:Shared):Prop where
 ok:X.Ok
 os:s.os=X.s₀.os
 bare:AllBare s.gens
 base:Un X.fs X.ex X.H₀ H X.s₀.heap s.heap
 loc:∃m,s.heap.Ns X.env.locals m/\∀(i:Nat) (x:Str) (v:V),X.N[i]?=some x->σ[i]?=some (some v)->Vis X.env.scope x->∃u,RelV v u/\zrW X.env s.heap m x u
 cell:∀x c,X.env.cells.lookup x=some c->∃v,s.heap.IsCell c v
 free:H X.env.locals=none
 freeC:∀x c,X.env.cells.lookup x=some c->H c=none
 pin:∀p∈X.pn++pins,s.heap.get? p.1=some p.2/\H p.1=none/\p.1≠X.env.locals/\p.1∉X.fs/\∀v,p.2.data≠.cell v
 hok:HOk X.prog X.w H s.heap
 len:σ.length=X.N.length
section
variable {X:Cx} {pins:List (Addr×Obj)} {σ:List (Option V)} {H H':Hp} {s:Shared} {h':Heap}
theorem Cx.Ok.nofr(ok:X.Ok){b:Addr}{o:Obj}(e:X.base.get? b=some o):b∉X.fs:=fun hb=>by
 have:=(ok.funs.mem hb).1
 rw[e] at this;cases this
theorem Inv.bs(I:Inv X pins σ H s):∀b o,X.base.get? b=some o->s.heap.get? b=some o/\H b=none:=fun b o e =>
 ⟨I.base.keep b o (I.ok.bs b o e).1 (I.ok.bs b o e).2 (I.ok.nofr e) (I.ok.noex b o e),I.base.free b o (I.ok.bs b o e).1 (I.ok.bs b o e).2 (I.ok.noex b o e)⟩
theorem Inv.bk(I:Inv X pins σ H s):∀b o,X.base.get? b=some o->s.heap.get? b=some o:=fun b o e=>(I.bs b o e).1
theorem Inv.mod(I:Inv X pins σ H s):Mod X.K X.mg X.base:=I.ok.mod
theorem Inv.kIn(I:Inv X pins σ H s):X.K.In s.heap:=I.ok.mod.kin.keeps I.bk
theorem Inv.lt(I:Inv X pins σ H s):X.env.locals<s.heap.objs.size:=let ⟨_,hn,_⟩:=I.loc;hn.lt
theorem Inv.sz(I:Inv X pins σ H s):X.s₀.heap.objs.size<=s.heap.objs.size:=Nat.le_trans I.ok.above (Nat.le_of_lt I.lt)
theorem Inv.nofs(I:Inv X pins σ H s){a:Addr}(h:s.heap.objs.size<=a):a∉X.fs:=fun hb=>by
 obtain⟨_,o,ho,_⟩:=I.ok.funs.mem hb
 exact absurd (Nat.lt_of_lt_of_le (Heap.lt_size ho) (Nat.le_trans I.sz h)) (Nat.lt_irrefl _)
theorem Inv.cne(I:Inv X pins σ H s):∀x c,X.env.cells.lookup x=some c->c≠X.env.locals:=fun x c e z=>by
 obtain⟨v,o,ho,hd⟩:=I.cell x c e
 obtain⟨m,⟨o',es,ep,ho',hd',_⟩,_⟩:=I.loc
 rw[z,ho'] at ho;cases ho;rw[hd'] at hd;cases hd
theorem Inv.funs(I:Inv X pins σ H s):s.heap.FunFrames X.base X.outer:=by
 have all:∀(l:List Env),(∀b∈frs l,b∈X.fs)->X.s₀.heap.FunFrames X.base l->s.heap.FunFrames X.base l:=by
  intro l
  induction l with
  | nil=>intro _ _;trivial
  | cons env r ih =>
   intro hs hl
   obtain⟨hk,⟨L,o,hf,hn,ho,hd⟩,hr⟩:=hl
   have hL:L∈X.fs:=hs L (by unfold frs;rw[List.filterMap_cons,hf];exact List.mem_cons_self)
   obtain⟨sl,e⟩:=I.base.slot L o ho (I.ok.frf L hL) hL fun z=>I.ok.exfs L z hL
   exact⟨hk,⟨L,_,hf,hn,e,hd⟩,ih (fun b hb=>hs b (by unfold frs;rw[List.filterMap_cons,hf];exact List.mem_cons_of_mem _ hb)) hr⟩
 exact all X.outer (fun _ hb=>hb) I.ok.funs
theorem Inv.stack(I:Inv X pins σ H s):s.heap.FunFrames X.base X.stack:=by
 rcases I.ok.stk with e|⟨e,hf⟩
 ·rw[e];exact I.funs
 ·rw[e]
  obtain⟨m,hn,_⟩:=I.loc
  refine .cons (by rw[I.ok.kind];decide) hf hn ?_ I.funs
  exact Heap.get?_none_of_le (Nat.le_trans I.ok.bsz I.ok.above)
theorem Inv.stkSub(I:Inv X pins σ H s):∀b∈frs X.stack,b∈X.env.locals::X.fs:=fun b hb=>by
 rcases I.ok.stk with e|⟨e,hf⟩
 ·rw[e] at hb;exact List.mem_cons_of_mem _ hb
 ·rw[e] at hb
  unfold frs at hb
  rw[List.filterMap_cons,hf] at hb
  exact hb
theorem Inv.stkFree(I:Inv X pins σ H s):∀b∈frs X.stack,H b=none:=fun b hb=>by
 rcases List.mem_cons.mp (I.stkSub b hb) with e|hb
 ·rw[e];exact I.free
 ·obtain⟨_,o,ho,_⟩:=I.ok.funs.mem hb
  exact I.base.free b o ho (I.ok.frf b hb) fun z=>I.ok.exfs b z hb
theorem Inv.step{g':Array GenState}{t':Nat}{d':Drawn}{ch:List Addr}(I:Inv X pins σ H s)(hch:∀b∈ch,(b∈X.ex\/X.s₀.heap.objs.size<=b)/\b≠X.env.locals/\(∀x c,X.env.cells.lookup x=some c->c≠b)/\∀p∈X.pn++pins,p.1≠b)(keep:∀b o,b≠X.env.locals->b∉X.fs->b∉ch->s.heap.get? b=some o->H b=none->h'.get? b=some o)(slot:∀b o,b≠X.env.locals->b∈X.fs->b∉ch->s.heap.get? b=some o->H b=none->∃sl,h'.get? b=some { o with slots:=sl })(free:∀b o,b∉ch->s.heap.get? b=some o->H b=none->H' b=none)(there:∀b o,b∉ch->s.heap.get? b=some o->∃o',h'.get? b=some o')(tups:∀b xs,H b=some (.tup xs)->H' b=some (.tup xs))(frzs:∀b o u,H b=some (.frz o u)->H' b=some (.frz o u))(tbls:∀b ps,H b=some (.tbl ps)->∃more,H' b=some (.tbl (ps++more)))(ns:∀m,s.heap.Ns X.env.locals m->h'.Ns X.env.locals m)(hok:HOk X.prog X.w H' h')(hg:AllBare g') :
  Inv X pins σ H' { s with heap:=h',gens:=g',drawn:=d',toks:=t' }:=by
 have neL:∀b o,X.s₀.heap.get? b=some o->b≠X.env.locals:=fun b o e=>Nat.ne_of_lt (Nat.lt_of_lt_of_le (Heap.lt_size e) I.ok.above)
 have neC:∀b o,X.s₀.heap.get? b=some o->b∉X.ex->b∉ch:=fun b o e hx hb=>by
  rcases(hch b hb).1 with z|z
  ·exact hx z
  ·exact absurd (Nat.lt_of_lt_of_le (Heap.lt_size e) z) (Nat.lt_irrefl _)
 have cellK:∀x c,X.env.cells.lookup x=some c->∀v,s.heap.IsCell c v->h'.IsCell c v:=fun x c e v ⟨o,ho,hd⟩=>by
  have nch:c∉ch:=fun z=>(hch c z).2.2.1 x c e rfl
  by_cases hc:c∈X.fs
  ·obtain⟨sl,q⟩:=slot c o (I.cne x c e) hc nch ho (I.freeC x c e)
   exact⟨_,q,hd⟩
  ·exact⟨o,keep c o (I.cne x c e) hc nch ho (I.freeC x c e),hd⟩
 refine⟨I.ok,I.os,hg,⟨fun b o e n hb hx=>?_,fun b o e n hb hx=>?_,fun b o e n hx=>?_,fun b o e hx=>?_,fun b xs e=>tups b xs (I.base.tups b xs e),fun b o xs e=>frzs b o xs (I.base.frzs b o xs e),fun b ps e=>?_⟩,?_,fun x c e=>?_,?_,fun x c e=>?_,fun p hp=>?_,hok,I.len⟩
 ·exact keep b o (neL b o e) hb (neC b o e hx) (I.base.keep b o e n hb hx) (I.base.free b o e n hx)
 ·obtain⟨sl,e1⟩:=I.base.slot b o e n hb hx
  obtain⟨sl',e2⟩:=slot b _ (neL b o e) hb (neC b o e hx) e1 (I.base.free b o e n hx)
  exact⟨sl',e2⟩
 ·obtain⟨o',e1⟩:=I.base.there b o e hx
  exact free b o' (neC b o e hx) e1 (I.base.free b o e n hx)
 ·obtain⟨o',e1⟩:=I.base.there b o e hx
  exact there b o' (neC b o e hx) e1
 ·obtain⟨m1,e1⟩:=I.base.tbls b ps e
  obtain⟨m2,e2⟩:=tbls b _ e1
  exact⟨m1++m2,by rw[e2,Array.append_assoc]⟩
 ·obtain⟨m,hn,hl⟩:=I.loc
  refine⟨m,ns m hn,fun i x v e1 e2 e3=>?_⟩
  obtain⟨u,r,l⟩:=hl i x v e1 e2 e3
  refine⟨u,r,?_⟩
  rcases l with l|⟨k,c,e,z⟩
  ·exact .inl l
  ·exact .inr ⟨k,c,e,cellK x c e _ z⟩
 ·obtain⟨v,z⟩:=I.cell x c e
  exact⟨v,cellK x c e v z⟩
 ·obtain⟨m,⟨o,_,_,ho,_⟩,_⟩:=I.loc
  exact free _ o (fun z=>(hch _ z).2.1 rfl) ho I.free
 ·obtain⟨v,o,ho,hd⟩:=I.cell x c e
  exact free c o (fun z=>(hch c z).2.2.1 x c e rfl) ho (I.freeC x c e)
 ·obtain⟨e,n,ne,nf,d⟩:=I.pin p hp
  have nch:p.1∉ch:=fun z=>(hch p.1 z).2.2.2 p hp rfl
  exact⟨keep p.1 p.2 ne nf nch e n,free p.1 p.2 nch e n,ne,nf,d⟩
theorem Inv.un{t':Nat}(I:Inv X pins σ H s)(u:Un X.fs [] H H' s.heap h')(hok:HOk X.prog X.w H' h'):Inv X pins σ H' { s with heap:=h',toks:=t' }:=by
 obtain⟨m,⟨o,es,ep,ho,r⟩,_⟩:=id I.loc
 obtain⟨sl,hL⟩:=u.any ho I.free (by simp)
 exact I.step (g':=s.gens) (d':=s.drawn) (ch:=[]) (fun _ z=>nomatch z) (fun b o _ hb _ e n=>u.keep b o e n hb (by simp)) (fun b o _ hb _ e n=>u.slot b o e n hb (by simp)) (fun b o _ e n=>u.free b o e n (by simp)) (fun b o _ e=>u.there b o e (by simp)) u.tups u.frzs u.tbls (fun m' hm=>by
  obtain⟨o',es',ep',ho',r'⟩:=hm
  rw[ho] at ho';cases ho'
  exact⟨_,es',ep',hL,r'⟩) hok I.bare
theorem Inv.call{g':Array GenState}{t':Nat}{d':Drawn}{ch:List Addr}(I:Inv X pins σ H s)(u:Un (frs X.stack) ch H H' s.heap h')(hok:HOk X.prog X.w H' h')(hg:AllBare g')(hch:∀b∈ch,(b∈X.ex\/X.s₀.heap.objs.size<=b)/\b≠X.env.locals/\(∀x c,X.env.cells.lookup x=some c->c≠b)/\∀p∈X.pn++pins,p.1≠b) :
  Inv X pins σ H' { s with heap:=h',gens:=g',drawn:=d',toks:=t' }:=by
 obtain⟨m,⟨o,es,ep,ho,r⟩,_⟩:=id I.loc
 obtain⟨sl,hL⟩:=u.any ho I.free fun z=>(hch _ z).2.1 rfl
 exact I.step (ch:=ch) hch (fun b o hL hb hc e n=>u.keep b o e n (fun z=>(List.mem_cons.mp (I.stkSub b z)).elim hL hb) hc) (fun b o _ _ hc e n=>u.any e n hc) (fun b o hc e n=>u.free b o e n hc) (fun b o hc e=>u.there b o e hc) u.tups u.frzs u.tbls (fun m' hm=>by
  obtain⟨o',es',ep',ho',r'⟩:=hm
  rw[ho] at ho';cases ho'
  exact⟨_,es',ep',hL,r'⟩) hok hg
theorem Inv.turned{t':Nat}{it:Addr}(I:Inv X pins σ H s)(k:∀b o,b≠it->s.heap.get? b=some o->h'.get? b=some o)(hn:H it=none)(hL:it≠X.env.locals)(h1:it∈X.ex\/X.s₀.heap.objs.size<=it)(h2:∀x c,X.env.cells.lookup x=some c->c≠it)(h3:∀p∈X.pn++pins,p.1≠it):Inv X pins σ H { s with heap:=h',toks:=t' }:=by
 have nit:∀b u,H b=some u->b≠it:=fun b u e z=>by rw[z,hn] at e;cases e
 refine I.step (g':=s.gens) (d':=s.drawn) (ch:=[it]) (fun b hb=>?_) (fun b o _ _ hc e _=>k b o (fun z=>hc (by simp[z])) e) (fun b o _ _ hc e _=>⟨o.slots,k b o (fun z=>hc (by simp[z])) e⟩) (fun _ _ _ _ n=>n)
  (fun b o hc e=>⟨o,k b o (fun z=>hc (by simp[z])) e⟩) (fun _ _ e=>e) (fun _ _ _ e=>e) (fun b ps e=>⟨#[],by rw[e];simp⟩) (fun m hm=>?_) (fun b u e=>?_) I.bare
 ·have e:b=it:=by simpa using hb
  subst e
  exact⟨h1,hL,h2,h3⟩
 ·obtain⟨o,es,ep,ho,r⟩:=hm
  exact⟨o,es,ep,k _ o (Ne.symm hL) ho,r⟩
 ·refine(I.hok b u e).stay (fun c v hc q=>k c v ?_ q) (fun _ q=>q) fun _ _ q=>q
  rcases hc with z|z
  ·rw[z];exact nit b u e
  ·exact nit c _ z
theorem Inv.tok(I:Inv X pins σ H s)(t:Nat):Inv X pins σ H { s with toks:=t }:=I.un (h':=s.heap) (t':=t) Un.refl I.hok
theorem Inv.kept{t':Nat}(I:Inv X pins σ H s)(k:∀b u,s.heap.get? b=some u->h'.get? b=some u):Inv X pins σ H { s with heap:=h',toks:=t' }:=I.un (Un.kept k) (I.hok.kept k)
theorem Inv.laid{a:Addr}{o:HO}{t':Nat}(I:Inv X pins σ H s)(k:∀b u,s.heap.get? b=some u->h'.get? b=some u)(hp:s.heap.objs.size<=a)(new:ObjOk X.prog X.w (upd H a o) h' a o) :
  Inv X pins σ (upd H a o) { s with heap:=h',toks:=t' }:=I.un (Un.laid k hp (I.hok.fresh hp)) (I.hok.laid k hp new)
theorem Inv.write{x e:Addr}{o:HO}{t':Nat}(I:Inv X pins σ H s)(mu:Mut (H x))(he:e=x\/H e=some (.own x))(k:∀b u,b≠e->s.heap.get? b=some u->h'.get? b=some u)(heo:∃u,h'.get? e=some u)(new:ObjOk X.prog X.w (upd H x o) h' x o):Inv X pins σ (upd H x o) { s with heap:=h',toks:=t' }:=I.un (Un.write mu he k heo) (I.hok.write mu he k heo new)
theorem Inv.weak{σ':List (Option V)}(I:Inv X pins σ H s)(hl:σ'.length=σ.length)(w:∀(i:Nat) v,σ'[i]?=some (some v)->σ[i]?=some (some v)):Inv X pins σ' H s :=
 ⟨I.ok,I.os,I.bare,I.base,let ⟨m,hn,hl'⟩:=I.loc;⟨m,hn,fun i x v e1 e2 e3=>hl' i x v e1 (w i v e2) e3⟩,I.cell,I.free,I.freeC,I.pin,I.hok,hl.trans I.len⟩
theorem Inv.pins_of{pins':List (Addr×Obj)}(I:Inv X pins σ H s)(h:∀p∈pins',s.heap.get? p.1=some p.2/\H p.1=none/\p.1≠X.env.locals/\p.1∉X.fs/\∀v,p.2.data≠.cell v):Inv X pins' σ H s :=
 ⟨I.ok,I.os,I.bare,I.base,I.loc,I.cell,I.free,I.freeC,fun p hp=>(List.mem_append.mp hp).elim (fun z=>I.pin p (List.mem_append_left _ z)) (h p),I.hok,I.len⟩
theorem zeM{N:List Str}(hN:N.Nodup){i j:Nat}{x:Str}(a:N[i]?=some x)(b:N[j]?=some x):i=j:=by
 obtain⟨h1,e1⟩:=List.getElem?_eq_some_iff.mp a
 obtain⟨h2,e2⟩:=List.getElem?_eq_some_iff.mp b
 exact(List.getElem_inj hN).mp (e1.trans e2.symm)
theorem ziv{M:Model}{A:Around}{E:Value->Shared->Prop}{i:Nat}{x:Str}{v:V}{u:Value}{Q:Unit->Shared->Prop}(I:Inv X pins σ H s)(hN:X.N.Nodup)(hi:X.N[i]?=some x)(hx:Loc X.env.scope x)(r:RelV v u)(h:∀s',Inv X pins (σ.set i (some v)) H s'->(∃a,Heap.SameBut a s.heap s'.heap/\(a=X.env.locals\/X.env.cells.lookup x=some a))->Q () s')(hf:X.fn x=true\/X.env.scope.names.lookup x=some .local:=by first|exact .inl rfl|exact .inr rfl|assumption):wpAny M A (storeName X.env x u) Q E s:=by
 obtain⟨m,hn,hl⟩:=id I.loc
 have hcls:(X.env.scope.kind==.class||(X.env.scope.kind==.module&&X.env.locals != X.env.globals))=false:=by rw[I.ok.kind];rfl
 have hiσ:i<σ.length:=by rw[I.len];exact(List.getElem?_eq_some_iff.mp hi).1
 have cne:=I.cne
 have tracked:∀{a:Addr} {h':Heap},(∃o,s.heap.get? a=some o/\H a=none)->Heap.SameBut a s.heap h'->HOk X.prog X.w H h':=fun {a h'} ha hs b ob e=>by
  obtain⟨_,_,hfree⟩:=ha
  refine(I.hok b ob e).stay (fun c w' hc q=>(hs.2 c ?_).trans q) (fun _ q=>q) fun _ _ q=>q
  rintro rfl
  rcases hc with rfl|hc
  ·rw[hfree] at e;cases e
  ·rw[hfree] at hc;cases hc
 rcases hx with hk|hk
 ·refine wpAny_storeName_local hk hn (fun h' hn' hs=>?_) hcls
  obtain⟨oL,_,_,hoL,_⟩:=id hn
  refine h _ ⟨I.ok,I.os,I.bare,⟨fun b o e n hb hx=>?_,fun b o e n hb hx=>?_,I.base.free,fun b o e hx=>?_,I.base.tups,I.base.frzs,I.base.tbls⟩,⟨_,hn',fun j y v' e1 e2 e3=>?_⟩,fun y c e=>?_,I.free,I.freeC,fun p hp=>?_,tracked ⟨oL,hoL,I.free⟩ hs,by simpa using I.len⟩ ⟨_,hs,.inl rfl⟩
  ·exact(hs.2 b (Nat.ne_of_lt (Nat.lt_of_lt_of_le (Heap.lt_size e) I.ok.above))).trans (I.base.keep b o e n hb hx)
  ·obtain⟨sl,e1⟩:=I.base.slot b o e n hb hx
   exact⟨sl,(hs.2 b (Nat.ne_of_lt (Nat.lt_of_lt_of_le (Heap.lt_size e) I.ok.above))).trans e1⟩
  ·obtain⟨o',e1⟩:=I.base.there b o e hx
   exact⟨o',(hs.2 b (Nat.ne_of_lt (Nat.lt_of_lt_of_le (Heap.lt_size e) I.ok.above))).trans e1⟩
  ·by_cases hj:j=i
   ·subst hj
    rw[hi] at e1;cases e1
    rw[List.getElem?_set_self hiσ] at e2
    cases e2
    exact⟨u,r,.inl ⟨hk,by simp⟩⟩
   ·rw[List.getElem?_set_ne (Ne.symm hj)] at e2
    obtain⟨u',r',q⟩:=hl j y v' e1 e2 e3
    refine⟨u',r',?_⟩
    rcases q with ⟨k,e⟩|⟨k,c,e,z⟩
    ·refine .inl ⟨k,?_⟩
     have:y≠x:=fun e=>hj (zeM hN e1 (e▸hi))
     simp[this,e]
    ·exact .inr ⟨k,c,e,z.sameBut hs (cne y c e)⟩
  ·obtain⟨w',z⟩:=I.cell y c e
   exact⟨w',z.sameBut hs (cne y c e)⟩
  ·obtain⟨e,n,ne,nf,d⟩:=I.pin p hp
   exact⟨(hs.2 p.1 ne).trans e,n,ne,nf,d⟩
 ·have hfn:X.fn x=true:=by
   rcases hf with z|z
   ·exact z
   ·rw[z] at hk;cases hk
  obtain⟨c,hc⟩:=I.ok.has x (.inl hk)
  obtain⟨w',z⟩:=I.cell x c hc
  refine wpAny_storeName_cell I.ok.kind hk hc z (fun h' hc' hs=>?_)
  obtain⟨oc,hoc,hocd⟩:=id z
  refine h { s with heap:=h' } ⟨I.ok,I.os,I.bare,⟨fun b o e n hb hx=>?_,fun b o e n hb hx=>?_,I.base.free,fun b o e hx=>?_,I.base.tups,I.base.frzs,I.base.tbls⟩,⟨m,hn.sameBut hs (Ne.symm (cne x c hc)),fun j y v' e1 e2 e3=>?_⟩,fun y c' e=>?_,I.free,I.freeC,fun p hp=>?_,tracked ⟨oc,hoc,I.freeC x c hc⟩ hs,by simpa using I.len⟩ ⟨c,hs,.inr hc⟩
  ·exact(hs.2 b (Nat.ne_of_lt (Nat.lt_of_lt_of_le (Heap.lt_size e) (I.ok.cab x c hfn hc)))).trans (I.base.keep b o e n hb hx)
  ·obtain⟨sl,e1⟩:=I.base.slot b o e n hb hx
   exact⟨sl,(hs.2 b (Nat.ne_of_lt (Nat.lt_of_lt_of_le (Heap.lt_size e) (I.ok.cab x c hfn hc)))).trans e1⟩
  ·obtain⟨o',e1⟩:=I.base.there b o e hx
   exact⟨o',(hs.2 b (Nat.ne_of_lt (Nat.lt_of_lt_of_le (Heap.lt_size e) (I.ok.cab x c hfn hc)))).trans e1⟩
  ·by_cases hj:j=i
   ·subst hj
    rw[hi] at e1;cases e1
    rw[List.getElem?_set_self hiσ] at e2
    cases e2
    exact⟨u,r,.inr ⟨.inl hk,c,hc,hc'⟩⟩
   ·rw[List.getElem?_set_ne (Ne.symm hj)] at e2
    obtain⟨u',r',q⟩:=hl j y v' e1 e2 e3
    refine⟨u',r',?_⟩
    rcases q with q|⟨k,c',e,z'⟩
    ·exact .inl q
    ·refine .inr ⟨k,c',e,z'.sameBut hs ?_⟩
     rintro rfl
     exact hj (zeM hN e1 (I.ok.inj _ _ _ e hc▸hi))
  ·by_cases hcc:c'=c
   ·subst hcc;exact⟨_,hc'⟩
   ·obtain⟨w2,z2⟩:=I.cell y c' e
    exact⟨w2,z2.sameBut hs hcc⟩
  ·obtain⟨e,n,ne,nf,d⟩:=I.pin p hp
   refine⟨(hs.2 p.1 ?_).trans e,n,ne,nf,d⟩
   intro q
   rw[q,hoc] at e
   have q':oc=p.2:=Option.some.inj e
   exact d w' (by rw[<- q'];exact hocd)
theorem zdw{M:Model}{A:Around}{E:Value->Shared->Prop}{i:Nat}{x:Str}{v:V}{u:Value}{Q:Unit->Shared->Prop}(I:Inv X pins σ H s)(hN:X.N.Nodup)(hi:X.N[i]?=some x)(hx:Loc X.env.scope x)(r:RelV v u)(h:∀s',Inv X pins (σ.set i (some v)) H s'->Q () s')(hf:X.fn x=true\/X.env.scope.names.lookup x=some .local:=by first|exact .inl rfl|exact .inr rfl|assumption):wpAny M A (storeName X.env x u) Q E s :=
 ziv I hN hi hx r (fun s' I' _=>h s' I') hf
theorem Inv.call'{s':Shared}{ch:List Addr}(I:Inv X pins σ H s)(ho:s'.os=s.os)(u:Un (frs X.stack) ch H H' s.heap s'.heap)(hok:HOk X.prog X.w H' s'.heap)(hg:AllBare s'.gens)(hch:∀b∈ch,(b∈X.ex\/X.s₀.heap.objs.size<=b)/\b≠X.env.locals/\(∀x c,X.env.cells.lookup x=some c->c≠b)/\∀p∈X.pn++pins,p.1≠b):Inv X pins σ H' s':=by
 obtain⟨h',g',d',t',o'⟩:=s'
 have e:o'=s.os:=ho
 subst e
 exact I.call (g':=g') (t':=t') (d':=d') u hok hg hch
end
abbrev XK:=Value->Option Addr->Hp->Prop
abbrev St:=List (Option V)
abbrev VK:=V->Hp->Prop
abbrev TE:=St->Hp->VK->Prop
abbrev TT:=St->Hp->(Bool->Hp->Prop)->Prop
abbrev TA:=St->Hp->(List V->Hp->Prop)->Prop
structure Ends where
 nx:St->Hp->Prop
 rt:VK
 bk:St->Hp->Prop:=fun _ _=>False
 ct:St->Hp->Prop:=fun _ _=>False
abbrev TS:=Ends->St->Hp->Prop
def EP(X:Cx)(pins:List (Addr×Obj))(σ:St)(Q:VK)(u:Value)(s':Shared):Prop:=∃v H',Inv X pins σ H' s'/\RelV v u/\Q v H'
def TP(X:Cx)(pins:List (Addr×Obj))(σ:St)(Q:Bool->Hp->Prop)(b:Bool)(s':Shared):Prop:=∃H',Inv X pins σ H' s'/\Q b H'
def AP(X:Cx)(pins:List (Addr×Obj))(σ:St)(Q:List V->Hp->Prop)(us:List Value)(s':Shared):Prop:=∃vs H',Inv X pins σ H' s'/\Vals vs us/\Q vs H'
def SP(X:Cx)(pins:List (Addr×Obj))(D:Ends)(f:Flow)(s':Shared):Prop :=
 match f with
 | .next=>∃σ' H',Inv X pins σ' H' s'/\D.nx σ' H'
 | .brk=>∃σ' H',Inv X pins σ' H' s'/\D.bk σ' H'
 | .cont=>∃σ' H',Inv X pins σ' H' s'/\D.ct σ' H'
 | .ret u=>∃v σ' H',Inv X pins σ' H' s'/\RelV v u/\D.rt v H'
def PE(X:Cx)(e:Expr)(t:TE):Prop :=
 ∀(pins:List (Addr×Obj)) (s:Shared) (σ:St) (H:Hp) (Q:VK),Inv X pins σ H s->t σ H Q->wpAny (model X.prog X.w) X.A (eval e X.env) (EP X pins σ Q) X.xe s
def PT(X:Cx)(e:Expr)(t:TT):Prop :=
 ∀(pins:List (Addr×Obj)) (s:Shared) (σ:St) (H:Hp) (Q:Bool->Hp->Prop),Inv X pins σ H s->t σ H Q->wpAny (model X.prog X.w) X.A (isTrue e X.env (eval e X.env)) (TP X pins σ Q) X.xe s
def PW(X:Cx)(e:Expr)(t:TT):Prop :=
 ∀(whole:Sem Value) (pins:List (Addr×Obj)) (s:Shared) (σ:St) (H:Hp) (Q:Bool->Hp->Prop),Inv X pins σ H s->t σ H Q->wpAny (model X.prog X.w) X.A (isTrue e X.env whole) (TP X pins σ Q) X.xe s
theorem PW.pt{X:Cx}{e:Expr}{t:TT}(h:PW X e t):PT X e t:=h _
def PA(X:Cx)(es:List Expr)(t:TA):Prop :=
 ∀(pos:Pos) (pins:List (Addr×Obj)) (s:Shared) (σ:St) (H:Hp) (Q:List V->Hp->Prop),Inv X pins σ H s->t σ H Q->wpAny (model X.prog X.w) X.A (spliced (backTo pos (starEach es X.env))) (AP X pins σ Q) X.xe s
def PS(X:Cx)(st:Stmt)(t:TS):Prop :=
 ∀(pins:List (Addr×Obj)) (s:Shared) (σ:St) (H:Hp) (D:Ends),Inv X pins σ H s->t D σ H->wpAny (model X.prog X.w) X.A (exec st X.env) (SP X pins D) X.xe s
def PSs(X:Cx)(st:List Stmt)(t:TS):Prop :=
 ∀(pins:List (Addr×Obj)) (s:Shared) (σ:St) (H:Hp) (D:Ends),Inv X pins σ H s->t D σ H->wpAny (model X.prog X.w) X.A (execs st X.env) (SP X pins D) X.xe s
theorem thn{α:Type}{t:Sem α}{Q Q':α->Shared->Prop}{M:Model}{A:Around}{E:Value->Shared->Prop}{s:Shared}(h:wpAny M A t Q E s)(hQ:∀a s,Q a s->Q' a s):wpAny M A t Q' E s:=wpAny_mono h hQ fun _ _ x=>x
end L2
namespace L2
open PySem PySem.Spec PyProof.Rows
section
variable {X:Cx}
def zrX(i:Nat):TE:=fun σ H Q=>∃v,σ[i]?=some (some v)/\Q v H
def tC(v:V):TE:=fun _ H Q=>Q v H
theorem zls{i:Nat}{x:Str}{pos:Pos}(hN:X.N[i]?=some x)(hv:Vis X.env.scope x)(hd:(x==("__debug__" : Str))=false:=by decide)(hcd:(x==("__classdict__" : Str))=false:=by decide):PE X (.Name x pos) (zrX i):=by
 intro pins s σ H Q I h
 obtain⟨v,e,h⟩:=h
 obtain⟨m,hn,hl⟩:=I.loc
 obtain⟨u,r,l⟩:=hl i x v hN e hv
 have fin:EP X pins σ Q u s:=⟨v,H,I,r,h⟩
 rcases l with ⟨hk,hm⟩|⟨hk,c,hc,hcell⟩
 ·exact wpAny_Name (wpAny_loadName_local I.ok.kind hk hn hm fin) hd
 ·rcases hk with hk|hk
  ·exact wpAny_Name (wpAny_loadName_cell I.ok.kind hk hc hcell fin) hd
  ·exact wpAny_Name (wpAny_loadName_free I.ok.kind hk hc hcell fin hcd) hd
theorem znW{i j pos}:PE X (.Constant (.int i) j pos) (tC (.int i)):=fun _ _ _ H _ I h=>wpAny_Constant_int ⟨.int i,H,I.tok _,⟨_,rfl⟩,h⟩
theorem zp5{b j pos}:PE X (.Constant (.bool b) j pos) (tC (.bl b)):=fun _ _ _ H _ I h=>Constant_bool ⟨.bl b,H,I,rfl,h⟩
theorem znX{j pos}:PE X (.Constant .none j pos) (tC .non):=fun _ _ _ H _ I h=>Constant_none ⟨.non,H,I,rfl,h⟩
theorem znY{x j pos}:PE X (.Constant (.str x) j pos) (tC (.str x)):=fun _ _ _ H _ I h=>Calls.Constant_str ⟨.str x,H,I.tok _,⟨_,rfl⟩,h⟩
def Gl(X:Cx)(x:Str):Prop:=X.env.kindOf x=some .globalImplicit
theorem zbR{E:Value->Shared->Prop}{pins:List (Addr×Obj)}{s:Shared}{σ:St}{H:Hp}{x:Str}{u:Value}{pos:Pos}{Q:Value->Shared->Prop}(I:Inv X pins σ H s)(hg:Gl X x)(hm:X.mg x=some u)(h:Q u s)(hd:(x==("__debug__" : Str))=false:=by decide):wpAny (model X.prog X.w) X.A (eval (.Name x pos) X.env) Q E s :=
 Calls.Name_function_global I.ok.kind hg (Calls.loadGlobal_global (by rw[I.ok.glob];exact I.mod.glob.keeps I.bk) hm h) hd
theorem zer{E:Value->Shared->Prop}{pins:List (Addr×Obj)}{s:Shared}{σ:St}{H:Hp}{x:Str}{u:Value}{pos:Pos}{Q:Value->Shared->Prop}(I:Inv X pins σ H s)(hg:Gl X x)(hm:X.mg x=none)(hv:bootBuiltins x=some u)(h:Q u s)(hn:x ≠ "__name__" := by decide)(hd:(x==("__debug__" : Str))=false:=by decide):wpAny (model X.prog X.w) X.A (eval (.Name x pos) X.env) Q E s:=by
 obtain⟨mb,h1,h2⟩:=I.mod.blt
 exact Calls.Name_function_global I.ok.kind hg (Calls.loadGlobal_builtin (by rw[I.ok.glob];exact I.mod.glob.keeps I.bk) hm (by rw[I.ok.blt];exact h1.keeps I.bk) ((h2 x hn).trans hv) h) hd
theorem ziw{x:Str}{v:V}{u:Value}{pos:Pos}(hg:Gl X x)(hm:X.mg x=some u)(r:RelV v u)(hd:(x==("__debug__" : Str))=false:=by decide):PE X (.Name x pos) (tC v) :=
 fun _ _ _ H _ I h=>zbR I hg hm ⟨v,H,I,r,h⟩ hd
theorem zmc{x:Str}{v:V}{u:Value}{pos:Pos}(hg:Gl X x)(hm:X.mg x=none)(hv:bootBuiltins x=some u)(r:RelV v u)(hn:x ≠ "__name__" := by decide)(hd:(x==("__debug__" : Str))=false:=by decide):PE X (.Name x pos) (tC v) :=
 fun _ _ _ H _ I h=>zer I hg hm hv ⟨v,H,I,r,h⟩ hn hd
variable {a b:Expr} {ta tb:TE} {pos:Pos}
def PC(X:Cx)(op:CmpOp)(a b:Expr)(t:TE):Prop :=
 ∀(pins:List (Addr×Obj)) (s:Shared) (σ:St) (H:Hp) (Q:VK),Inv X pins σ H s->t σ H Q ->
  wpAny (model X.prog X.w) X.A (eval a X.env) (fun v s₁=>wpAny (model X.prog X.w) X.A (eval b X.env) (fun u s₂=>wpAny (model X.prog X.w) X.A (compareOp op v u) (EP X pins σ Q) X.xe s₂) X.xe s₁) X.xe s
def zrY(ta:TE):TE:=fun σ H Q=>ta σ H fun x H1=>Q (.bl (decide (x=.non))) H1
theorem RelV.none_iff{x:V}{v:Value}(r:RelV x v):(v==Value.none)=decide (x=.non):=by
 cases x with
 | non=>cases r;rfl
 | bl _=>cases r;rfl
 | int _=>obtain⟨t,rfl⟩:=r;rfl
 | str _=>obtain⟨t,rfl⟩:=r;rfl
 | byt _=>obtain⟨t,rfl⟩:=r;rfl
 | flt _=>obtain⟨t,rfl⟩:=r;rfl
 | ref _=>cases r;rfl
 | ty _=>cases r;rfl
theorem znZ{j pos'}(ha:PE X a ta):PC X .Is a (.Constant .none j pos') (zrY ta):=by
 intro pins s σ H Q I h
 refine thn (ha pins s σ H _ I h) fun v s1 ⟨x,H1,I1,r1,q1⟩=>?_
 exact Constant_none (is_none_gen ⟨.bl _,H1,I1,by rw[r1.none_iff];rfl,q1⟩)
def tB(t:TE):TT:=fun σ H Q=>t σ H fun x H1=>∃c,x=.bl c/\Q c H1
theorem zn0{op:CmpOp}{t:TE}(h:PC X op a b t)(h1:behindInMarks op b=false:=by first|exact nobehind _ (by decide) (by decide)|rfl):PT X (.Compare a [op] [b] pos) (tB t):=by
 intro pins s σ H Q I hw
 refine wpAny_isTrue_Compare1 (thn (h pins s σ H _ I hw) fun v s1 h1=>thn h1 fun u s2 h2=>thn h2 fun c s3 ⟨x,H1,I1,r1,q1⟩=>?_) h1
 obtain⟨d,rfl,q⟩:=q1
 cases r1
 exact wpAny_truthy_bool ⟨H1,I1,q⟩
theorem zn1{e:Expr}{t:TE}(h:PE X e t)(he:∀whole,isTrue e X.env whole=(do let v <- whole;standAt e.pos;holding [v] (truthy v)):=by intro _;rfl):PT X e (tB t):=by
 intro pins s σ H Q I hw
 refine isTrue_plain (thn (h pins s σ H _ I hw) fun v s1 ⟨x,H1,I1,r1,q1⟩=>?_) (he _)
 obtain⟨d,rfl,q⟩:=q1
 cases r1
 exact wpAny_truthy_bool ⟨H1,I1,q⟩
variable {tA tB':TT} {zdv:List Expr}
def zrZ(t u:TT):TT:=fun σ H Q=>t σ H fun c H1=>if c=true then u σ H1 Q else Q false H1
def tOr(t u:TT):TT:=fun σ H Q=>t σ H fun c H1=>if c=true then Q true H1 else u σ H1 Q
def zr0(t:TT):TT:=fun σ H Q=>t σ H fun c H1=>Q (!c) H1
theorem zmd(ha:PT X a tA):PW X (.BoolOp .And [a] pos) tA:=by
 intro wh pins s σ H Q I h
 refine isTrue_and (thn (ha pins s σ H Q I h) fun c s1 e=>?_)
 cases c with
 | true=>exact isTrue_and_nil e
 | false=>exact e
theorem zn2(ha:PT X a tA):PW X (.BoolOp .Or [a] pos) tA:=by
 intro wh pins s σ H Q I h
 refine isTrue_or (thn (ha pins s σ H Q I h) fun c s1 e=>?_)
 cases c with
 | false=>exact isTrue_or_nil e
 | true=>exact e
theorem zn3(ha:PT X a tA)(hb:PW X (.BoolOp .And (b::zdv) pos) tB'):PW X (.BoolOp .And (a::b::zdv) pos) (zrZ tA tB'):=by
 intro wh pins s σ H Q I h
 refine isTrue_and (thn (ha pins s σ H _ I h) fun c s1 ⟨H1,I1,q1⟩=>?_)
 cases c with
 | true=>exact hb wh pins s1 σ H1 Q I1 q1
 | false=>exact⟨H1,I1,q1⟩
theorem zp6(ha:PT X a tA)(hb:PW X (.BoolOp .Or (b::zdv) pos) tB'):PW X (.BoolOp .Or (a::b::zdv) pos) (tOr tA tB'):=by
 intro wh pins s σ H Q I h
 refine isTrue_or (thn (ha pins s σ H _ I h) fun c s1 ⟨H1,I1,q1⟩=>?_)
 cases c with
 | true=>exact⟨H1,I1,q1⟩
 | false=>exact hb wh pins s1 σ H1 Q I1 q1
theorem zn4(ha:PT X a tA):PT X (.UnaryOp .Not a pos) (zr0 tA):=by
 intro pins s σ H Q I h
 exact isTrue_not (ha pins s σ H (fun c H1=>Q (!c) H1) I h)
def zp7(ta tb:TE):TE:=fun σ H Q=>ta σ H fun x H1=>∃c,x=.bl c/\if c=true then tb σ H1 Q else Q (.bl false) H1
def zp8(ta:TE):TE:=fun σ H Q=>ta σ H fun x H1=>∃c,x=.bl c/\Q (.bl (!c)) H1
theorem zn5{op}{t:TE}(h:PE X a t):PE X (.BoolOp op [a] pos) t:=fun pins s σ H Q I hw=>BoolOp_one (h pins s σ H Q I hw)
theorem zn6(ha:PE X a ta)(hb:PE X (.BoolOp .And (b::zdv) pos) tb):PE X (.BoolOp .And (a::b::zdv) pos) (zp7 ta tb):=by
 intro pins s σ H Q I h
 refine BoolOp_and (thn (ha pins s σ H _ I h) fun v s1 ⟨x,H1,I1,r1,q1⟩=>?_)
 obtain⟨c,rfl,q1⟩:=q1
 cases r1
 refine wpAny_truthy_bool ?_
 cases c with
 | true=>exact hb pins s1 σ H1 Q I1 q1
 | false=>exact⟨.bl false,H1,I1,rfl,q1⟩
theorem zn7(ha:PE X a ta):PE X (.UnaryOp .Not a pos) (zp8 ta):=by
 intro pins s σ H Q I h
 refine UnaryOp_ (thn (ha pins s σ H _ I h) fun v s1 ⟨x,H1,I1,r1,q1⟩=>?_)
 obtain⟨c,rfl,q1⟩:=q1
 cases r1
 exact not_of (wpAny_truthy_bool ⟨.bl (!c),H1,I1,rfl,q1⟩)
end
end L2
namespace L2
open PySem PySem.Spec PyProof.Rows
def SqL(K:PySem.W.Frag)(H:Hp)(a:Addr)(xs:List V):Prop :=
 Rd H a (.lst xs) \/
  ∃(o:Obj) (its:Array Value) (n:Nat),K.lookup a=some o/\o.cls=.type "list" /\ o.dict=none/\o.data=.seq its n/\its.size<=sizeLine/\Vals xs its.toList
def SqT(K:PySem.W.Frag)(H:Hp)(a:Addr)(xs:List V):Prop :=
 Rd H a (.tup xs) \/
  ∃(o:Obj) (its:Array Value) (n:Nat),K.lookup a=some o/\o.cls=.type "tuple" /\ o.data=.seq its n/\its.size<=sizeLine/\Vals xs its.toList
def zr1:Value->Option V
 | .none=>some .non
 | .bool b=>some (.bl b)
 | .int i _=>some (.int i)
 | .str x _=>some (.str x)
 | .bytes b _=>some (.byt b)
 | .float b _=>some (.flt b)
 | .ref a=>some (.ref a)
 | .type n=>some (.ty n)
 | _=>none
theorem RelV.abs{x:V}{u:Value}(r:RelV x u):zr1 u=some x:=by
 cases x with
 | non=>cases r;rfl
 | bl _=>cases r;rfl
 | int _=>obtain⟨t,rfl⟩:=r;rfl
 | str _=>obtain⟨t,rfl⟩:=r;rfl
 | byt _=>obtain⟨t,rfl⟩:=r;rfl
 | flt _=>obtain⟨t,rfl⟩:=r;rfl
 | ref _=>cases r;rfl
 | ty _=>cases r;rfl
theorem RelV.inj{x y:V}{u:Value}(r:RelV x u)(q:RelV y u):x=y:=Option.some.inj (r.abs.symm.trans q.abs)
theorem Vals.inj:∀{xs ys:List V} {us:List Value},Vals xs us->Vals ys us->xs=ys
 | _,_,_,.nil,.nil=>rfl
 | _,_,_,.cons r t,.cons r' t'=>by rw[r.inj r',Vals.inj t t']
section
variable {X:Cx} {pins:List (Addr×Obj)} {σ:St} {H:Hp} {s:Shared} {a:Addr} {xs ys:List V}
theorem Inv.list(I:Inv X pins σ H s)(h:SqL X.K H a xs):∃its:List Value,Vals xs its/\PlainL s.heap a its.toArray/\xs.length<=sizeLine:=by
 rcases h with h|⟨o,its,n,hk,hc,hd,hs,hz,r⟩
 ·obtain⟨z,its,n,r,e⟩:=h.ok I.hok
  exact⟨its,r,⟨_,n,e,rfl,rfl,rfl⟩,z⟩
 ·refine⟨its.toList,r,⟨o,n,I.kIn a o hk,hc,hd,by simpa using hs⟩,?_⟩
  have e:=r.length
  simp only[Array.length_toList] at e
  omega
theorem Inv.tuple(I:Inv X pins σ H s)(h:SqT X.K H a xs):∃its:List Value,Vals xs its/\IsTup s.heap a its.toArray/\xs.length<=sizeLine:=by
 rcases h with h|⟨o,its,n,hk,hc,hs,hz,r⟩
 ·obtain⟨z,its,r,p⟩:=h.ok I.hok
  exact⟨its,r,p.isTup,z⟩
 ·refine⟨its.toList,r,⟨o,I.kIn a o hk,hc,n,by simpa using hs⟩,?_⟩
  have e:=r.length
  simp only[Array.length_toList] at e
  omega
theorem Inv.list_inj(I:Inv X pins σ H s)(h:SqL X.K H a xs)(h':SqL X.K H a ys):xs=ys:=by
 obtain⟨its,r,⟨o,n,e,_,_,d⟩,_⟩:=I.list h
 obtain⟨its',r',⟨o',n',e',_,_,d'⟩,_⟩:=I.list h'
 rw[e] at e';cases e'
 rw[d] at d'
 injection d' with d1 _
 have:its=its':=by simpa using congrArg Array.toList d1
 subst this
 exact r.inj r'
theorem Inv.tuple_inj(I:Inv X pins σ H s)(h:SqT X.K H a xs)(h':SqT X.K H a ys):xs=ys:=by
 obtain⟨its,r,⟨o,e,_,n,d⟩,_⟩:=I.tuple h
 obtain⟨its',r',⟨o',e',_,n',d'⟩,_⟩:=I.tuple h'
 rw[e] at e';cases e'
 rw[d] at d'
 injection d' with d1 _
 have:its=its':=by simpa using congrArg Array.toList d1
 subst this
 exact r.inj r'
end
abbrev Cx.wish(X:Cx)(E:Value->Shared->Prop):Cx:={ X with xe:=E }
abbrev Cx.nox(X:Cx):Cx:=X.wish fun _ _=>False
theorem Cx.Ok.wish{X:Cx}(ok:X.Ok)(E:Value->Shared->Prop):(X.wish E).Ok :=
 ⟨ok.mod,ok.kind,ok.glob,ok.blt,ok.above,ok.inj,ok.has,ok.cab,ok.hd,ok.frames,ok.stk,ok.exf,ok.bs,ok.bsz,ok.noex,ok.exfs,ok.funs,ok.frf⟩
theorem Cx.Ok.unwish{X:Cx}{E:Value->Shared->Prop}(ok:(X.wish E).Ok):X.Ok :=
 ⟨ok.mod,ok.kind,ok.glob,ok.blt,ok.above,ok.inj,ok.has,ok.cab,ok.hd,ok.frames,ok.stk,ok.exf,ok.bs,ok.bsz,ok.noex,ok.exfs,ok.funs,ok.frf⟩
section
variable {X:Cx} {pins:List (Addr×Obj)} {σ:St} {H:Hp} {s:Shared} {E:Value->Shared->Prop}
theorem Inv.wish(I:Inv X pins σ H s)(E:Value->Shared->Prop):Inv (X.wish E) pins σ H s:=⟨I.ok.wish E,I.os,I.bare,I.base,I.loc,I.cell,I.free,I.freeC,I.pin,I.hok,I.len⟩
theorem Inv.unwish(I:Inv (X.wish E) pins σ H s):Inv X pins σ H s:=⟨I.ok.unwish,I.os,I.bare,I.base,I.loc,I.cell,I.free,I.freeC,I.pin,I.hok,I.len⟩
end
section
variable {X:Cx} {st:Stmt} {zdv:List Stmt} {t u:TS} {e:Expr} {te:TE} {pos:Pos}
def zp9:TS:=fun D σ H=>D.nx σ H
def zr2(t u:TS):TS:=fun D σ H=>t { D with nx:=u D } σ H
theorem zme:PSs X [] zp9:=fun _ _ σ H _ I h=>wpAny_execs_nil ⟨σ,H,I,h⟩
theorem zko(h1:PS X st t)(h2:PSs X zdv u):PSs X (st::zdv) (zr2 t u):=by
 intro pins s σ H D I h
 refine wpAny_execs_cons (thn (h1 pins s σ H { D with nx:=u D } I h) fun f s1 q=>?_)
 cases f with
 | next =>
  obtain⟨σ',H',I',q⟩:=q
  exact h2 pins s1 σ' H' D I' q
 | ret v=>exact q
 | brk=>exact q
 | cont=>exact q
theorem zmf(h1:PS X st t):PSs X [st] t:=by
 intro pins s σ H D I h
 refine wpAny_execs_cons (thn (h1 pins s σ H D I h) fun f s1 q=>?_)
 cases f with
 | next=>exact wpAny_execs_nil q
 | ret v=>exact q
 | brk=>exact q
 | cont=>exact q
def zqa:TS:=fun D σ H=>D.ct σ H
theorem zf5:PS X (.Continue pos) zqa:=fun _ _ σ H _ I h=>wpAny_Continue ⟨σ,H,I,h⟩
theorem Inv.quiet{pins:List (Addr×Obj)}{σ:St}{H:Hp}{s:Shared}(I:Inv X pins σ H s):interactive X.env=false:=by simp[interactive,I.ok.kind]
def zqb(te:TE):TS:=fun D σ H=>te σ H fun _ H1=>D.nx σ H1
theorem zmg(he:PE X e te)(hs:swapsWith e none pos.line X.env=pure false:=by rfl):PS X (.Expr e pos) (zqb te):=by
 intro pins s σ H D I h
 exact wpAny_Expr_any (thn (he pins s σ H _ I h) fun v s1 ⟨x,H1,I1,r1,q1⟩=>⟨σ,H1,I1,q1⟩) I.quiet hs
def zr3(te:TE):TS:=fun D σ H=>te σ H D.rt
theorem zn8(he:PE X e te):PS X (.Return (some e) pos) (zr3 te):=by
 intro pins s σ H D I h
 exact wpAny_Return_some (thn (he pins s σ H _ I h) fun v s1 ⟨x,H1,I1,r1,q1⟩=>⟨x,σ,H1,I1,r1,q1⟩)
def zr4(c:TT)(t u:TS):TS:=fun D σ H=>c σ H fun b H1=>if b=true then t D σ H1 else u D σ H1
theorem zqc{c:Expr}{a b:List Stmt}{tc:TT}(hc:PT X c tc)(ha:PSs X a t)(hb:PSs X b u):PS X (.If c a b pos) (zr4 tc t u):=by
 intro pins s σ H D I h
 refine wpAny_If (thn (hc pins s σ H _ I h) fun d s1 ⟨H1,I1,q1⟩=>?_)
 cases d with
 | true=>exact ha pins s1 σ H1 D I1 q1
 | false=>exact hb pins s1 σ H1 D I1 q1
end
abbrev TG:=V->St->Hp->(St->Hp->Prop)->Prop
abbrev TGs:=List V->St->Hp->(St->Hp->Prop)->Prop
def PG(X:Cx)(target:Expr)(t:TG):Prop :=
 ∀(pins:List (Addr×Obj)) (s:Shared) (σ:St) (H:Hp) (v:V) (u:Value) (Q:St->Hp->Prop),Inv X pins σ H s->RelV v u->t v σ H Q ->
  wpAny (model X.prog X.w) X.A (assign target X.env u) (fun _ s'=>∃σ' H',Inv X pins σ' H' s'/\Q σ' H') X.xe s
def PGs(X:Cx)(ts:List Expr)(t:TGs):Prop :=
 ∀(pins:List (Addr×Obj)) (s:Shared) (σ:St) (H:Hp) (vs:List V) (us:List Value) (Q:St->Hp->Prop),Inv X pins σ H s->Vals vs us->t vs σ H Q ->
  wpAny (model X.prog X.w) X.A (assignInOrder ((assignEach ts X.env).map (·.2)) us) (fun _ s'=>∃σ' H',Inv X pins σ' H' s'/\Q σ' H') X.xe s
abbrev zqd:=V->V->V->Hp->(Hp->Prop)->Prop
def zrk(X:Cx)(t:zqd):Prop :=
 ∀(pins:List (Addr×Obj)) (s:Shared) (σ:St) (H:Hp) (o i v:V) (ov iv u:Value) (Q:Hp->Prop),Inv X pins σ H s->RelV o ov->RelV i iv->RelV v u->t o i v H Q ->
  wpAny (model X.prog X.w) X.A (setItem ov iv u) (fun _ s'=>∃H',Inv X pins σ H' s'/\Q H') X.xe s
section
variable {X:Cx} {pos:Pos}
def gName(i:Nat):TG:=fun v σ H Q=>Q (σ.set i (some v)) H
theorem zf6{i:Nat}{x:Str}(hN:X.N.Nodup)(hi:X.N[i]?=some x)(hx:Loc X.env.scope x)(hf:X.fn x=true\/X.env.scope.names.lookup x=some .local:=by first|exact .inl rfl|exact .inr rfl|assumption):PG X (.Name x pos) (gName i):=by
 intro pins s σ H v u Q I r h
 exact wpAny_assign_Name (zdw I hN hi hx r (fun s' I'=>⟨_,H,I',h⟩) hf)
def zr5:TGs:=fun vs σ H Q=>vs=[]/\Q σ H
def zqe(t:TG)(u:TGs):TGs:=fun vs σ H Q=>∃v r,vs=v::r/\t v σ H fun σ' H'=>u r σ' H' Q
theorem zmh:PGs X [] zr5:=by
 intro pins s σ H vs us Q I r h
 obtain⟨e,h⟩:=h
 subst e
 cases r
 exact assignInOrder_nil ⟨σ,H,I,h⟩
theorem zkp{e:Expr}{es:List Expr}{t:TG}{u:TGs}(h1:PG X e t)(h2:PGs X es u)(hs:(assignEach (e::es) X.env).map (·.2)=assign e X.env::(assignEach es X.env).map (·.2):=by rfl):PGs X (e::es) (zqe t u):=by
 intro pins s σ H vs us Q I r h
 obtain⟨v,vr,e1,h⟩:=h
 subst e1
 cases r with
 | cons r rr =>
  rw[hs]
  refine assignInOrder_cons (thn (h1 pins s σ H _ _ _ I r h) fun _ s1 ⟨σ1,H1,I1,q1⟩=>?_)
  exact h2 pins s1 σ1 H1 _ _ Q I1 rr q1
def zr6(K:PySem.W.Frag)(n:Nat)(t:TGs):TG:=fun v σ H Q=>∃a xs,v=.ref a/\SqT K H a xs/\xs.length=n/\t xs σ H Q
theorem zn9{es:List Expr}{k:Nat}{t:TGs}{n:Nat}(hc:X.calm=true)(h:PGs X es t)(hn:(assignEach es X.env).length=n:=by rfl)(hst:(assignEach es X.env).findIdx? (·.1)=none:=by rfl):PG X (.Tuple es k pos) (zr6 X.K n t):=by
 intro pins s σ H v u Q I r hw
 obtain⟨a,xs,e1,hq,hl,hw⟩:=hw
 subst e1
 cases r
 obtain⟨its,rv,ht,hz⟩:=I.tuple hq
 refine assign_Tuple_tuple (I.ok.hd hc) ht (by simp[hn,<- hl,rv.length]) hst fun h' hx=>?_
 have I1:Inv X pins σ H { s with heap:=h' }:=I.kept (t':=s.toks) fun b o e=>hx b o (Nat.ne_of_lt (Heap.lt_size e)) e
 exact h pins _ σ H xs _ Q I1 (by simpa using rv) hw
def zr7(to ti:TE)(t:zqd):TG:=fun v σ H Q=>to σ H fun o H1=>ti σ H1 fun i H2=>t o i v H2 fun H3=>Q σ H3
theorem zoa{o i:Expr}{to ti:TE}{t:zqd}(ho:PE X o to)(hi:PE X i ti)(hs:zrk X t)(ha:∀v,assign (.Subscript o i pos) X.env v=(do
   let ov <- holding [v] (eval o X.env)
   let iv <- holding [v,ov] (eval i X.env)
   standAt pos
   holding [v,ov,iv] (setItem ov iv v)
   release [v,ov,iv] []):=by intro _;rfl):PG X (.Subscript o i pos) (zr7 to ti t):=by
 intro pins s σ H v u Q I r h
 rw[ha]
 refine wpAny_bind (wpAny_holding (thn (ho pins s σ H _ I h) fun ov s1 ⟨x,H1,I1,r1,q1⟩=>?_))
 refine wpAny_bind (wpAny_holding (thn (hi pins s1 σ H1 _ I1 q1) fun iv s2 ⟨y,H2,I2,r2,q2⟩=>?_))
 refine wpAny_bind (wpAny_standAt (wpAny_bind (wpAny_holding (thn (hs pins s2 σ H2 x y v ov iv u _ I2 r1 r2 r q2) fun _ s3 ⟨H3,I3,q3⟩=>?_))))
 exact wpAny_release ⟨σ,H3,I3,q3⟩
def zqf(te:TE)(g:TG):TS:=fun D σ H=>te σ H fun x H1=>g x σ H1 D.nx
theorem zob{tg e:Expr}{te:TE}{g:TG}(he:PE X e te)(hg:PG X tg g)(hs:swapsWithSole [tg] e pos.line X.env=pure false:=by rfl)(hw:swappedStores [tg] e X.env=pure none:=by rfl)(h1:(assignEach [tg] X.env).map (·.2)=[assign tg X.env]:=by rfl):PS X (.Assign [tg] e pos) (zqf te g):=by
 intro pins s σ H D I h
 refine wpAny_Assign_stores (thn (he pins s σ H _ I h) fun v s1 ⟨x,H1,I1,r1,q1⟩=>?_) hs hw
 rw[h1]
 exact thn (hg pins s1 σ H1 x v _ I1 r1 q1) fun _ s2 q=>q
theorem zoc{i:Nat}{x:Str}{e:Expr}{te:TE}{pos':Pos}(hN:X.N.Nodup)(hi:X.N[i]?=some x)(hx:Loc X.env.scope x)(he:PE X e te)(hs:swapsWith e (some (.Name x pos')) pos.line X.env=pure false:=by rfl)(hf:X.fn x=true\/X.env.scope.names.lookup x=some .local:=by first|exact .inl rfl|exact .inr rfl|assumption) :
  PS X (.Assign [.Name x pos'] e pos) (zqf te (gName i)):=by
 intro pins s σ H D I h
 refine wpAny_Assign_Name (thn (he pins s σ H _ I h) fun v s1 ⟨y,H1,I1,r1,q1⟩=>?_) hs
 exact zdw I1 hN hi hx r1 (fun s2 I2=>⟨_,H1,I2,q1⟩) hf
end
section
variable {X:Cx} {pos:Pos}
def zod(c:TT)(tb:TS):TS:=fun D σ H=>∃W:Nat->St->Hp->Prop,(∃m,W m σ H)/\∀m σ H,W m σ H ->
 c σ H fun b H1=>if b=true then ∃N:St->Hp->Prop,(∀σ' H',N σ' H'->∃m',m'<m/\W m' σ' H')/\tb { D with nx:=N,ct:=N,bk:=D.nx } σ H1 else D.nx σ H1
theorem zkq{c:Expr}{body:List Stmt}{tc:TT}{tb:TS}(hp:PassesOwn (model X.prog X.w) X.A X.env X.xe)(hc:PT X c tc)(hb:PSs X body tb):PS X (.While c body [] pos) (zod tc tb):=by
 intro pins s σ H D I h
 obtain⟨W,⟨m0,w0⟩,turn⟩:=h
 refine wpAny_While (codeAny_whileLoop (fun n s'=>∃σ' H',Inv X pins σ' H' s'/\W n σ' H') ?_ m0 ⟨σ,H,I,w0⟩)
 rintro n s1 ⟨σ1,H1,I1,w1⟩
 refine wpAny_passesOwn hp (thn (hc pins s1 σ1 H1 _ I1 (turn n σ1 H1 w1)) fun b s2 ⟨H2,I2,q2⟩=>?_)
 cases b with
 | true =>
  obtain⟨N,hN,q2⟩:=q2
  rw[if_pos rfl]
  refine wpAny_passesOwn hp (thn (hb pins s2 σ1 H2 _ I2 q2) fun f s3 q3=>?_)
  cases f with
  | next =>
   obtain⟨σ3,H3,I3,n3⟩:=q3
   obtain⟨m',hm,w3⟩:=hN σ3 H3 n3
   exact⟨m',hm,σ3,H3,I3,w3⟩
  | cont =>
   obtain⟨σ3,H3,I3,n3⟩:=q3
   obtain⟨m',hm,w3⟩:=hN σ3 H3 n3
   exact⟨m',hm,σ3,H3,I3,w3⟩
  | brk=>exact q3
  | ret v=>exact q3
 | false =>
  rw[if_neg Bool.false_ne_true]
  exact wpAny_execs_nil ⟨σ1,H2,I2,q2⟩
end
structure It where
 go:Nat->Hp->Prop
 yld:Nat->Hp->V->Hp->Prop
 stop:Nat->Hp->Prop
def zlt(X:Cx)(pins:List (Addr×Obj))(H:Hp)(b:Addr):Prop :=
 H b=none/\b≠X.env.locals/\b∉X.fs/\(b∈X.ex\/X.s₀.heap.objs.size<=b)/\(∀x c,X.env.cells.lookup x=some c->c≠b)/\∀p∈X.pn++pins,p.1≠b
theorem Inv.fpOk{X:Cx}{pins:List (Addr×Obj)}{σ:St}{H H':Hp}{s:Shared}{b:Addr}(I:Inv X pins σ H s)(hb:s.heap.objs.size<=b)(hn:H' b=none):zlt X pins H' b:=by
 refine⟨hn,Nat.ne_of_gt (Nat.lt_of_lt_of_le I.lt hb),I.nofs hb,.inr (Nat.le_trans I.sz hb),fun x c e z=>?_,fun p hp z=>?_⟩
 ·obtain⟨v,q⟩:=I.cell x c e
  exact absurd (Nat.lt_of_lt_of_le q.lt (by rw[z];exact hb)) (Nat.lt_irrefl _)
 ·exact absurd (Nat.lt_of_lt_of_le (Heap.lt_size (I.pin p hp).1) (by rw[z];exact hb)) (Nat.lt_irrefl _)
structure Turn (P:Program) (w:World) (K:PySem.W.Frag) (tg:Expr) (J:It) (fp:List Addr) (it:Addr) (tn:Nat->Heap->Prop):Prop where
 mem:it∈fp
 obj:∀i h,tn i h->∀b∈fp,∃o,h.get? b=some o/\∀v,o.data≠.cell v
 keep:∀i h h',tn i h->(∀b∈fp,∀o,h.get? b=some o->h'.get? b=some o)->tn i h'
 item:∀(X:Cx),X.prog=P->X.w=w->X.K=K->X.calm=true->∀(i:Nat) (pins:List (Addr×Obj)) (s:Shared) (σ:St) (H:Hp) (E:Value->Shared->Prop),Inv X pins σ H s->(∀b∈fp,zlt X pins H b)->tn i s.heap->J.go i H ->
  wpAny (model P w) X.A (pyNext (.ref it)) (fun r s1=>∃u,r=some u /\
   wpAny (model P w) X.A (letOwnedTupleGo tg (.ref it) u) (fun _ s2=>∃x H',Inv X pins σ H' s2/\RelV x u/\J.yld i H x H'/\tn (i+1) s2.heap/\∀b∈fp,H' b=none) E s1) E s
 done:∀(X:Cx),X.prog=P->X.w=w->X.K=K->X.calm=true->∀(i:Nat) (pins:List (Addr×Obj)) (s:Shared) (σ:St) (H:Hp) (E:Value->Shared->Prop),Inv X pins σ H s->(∀b∈fp,zlt X pins H b)->tn i s.heap->J.stop i H ->
  wpAny (model P w) X.A (pyNext (.ref it)) (fun r s1=>r=none/\Inv X pins σ H s1) E s
 self:∀(A:Around) (i:Nat) (s:Shared) (Q:Value->Shared->Prop) (E:Value->Shared->Prop),tn i s.heap->Q (.ref it) s->wpAny (model P w) A (pyIter (.ref it)) Q E s
abbrev TI:=St->Hp->(It->Hp->Prop)->Prop
def PIE(X:Cx)(pins:List (Addr×Obj))(σ:St)(tg:Expr)(R:It->Hp->Prop)(itv:Value)(s2:Shared):Prop :=
 ∃(it:Addr) (fp:List Addr) (tn:Nat->Heap->Prop) (J:It) (H':Hp),itv=.ref it/\Inv X pins σ H' s2/\Turn X.prog X.w X.K tg J fp it tn/\tn 0 s2.heap/\(∀b∈fp,zlt X pins H' b)/\R J H'
def PI(X:Cx)(tg iter:Expr)(wi:TI):Prop :=
 ∀(pins:List (Addr×Obj)) (s:Shared) (σ:St) (H:Hp) (R:It->Hp->Prop),Inv X pins σ H s->wi σ H R ->
  wpAny (model X.prog X.w) X.A (eval iter X.env) (fun v s1=>wpAny (model X.prog X.w) X.A (pyIter v) (PIE X pins σ tg R) X.xe s1) X.xe s
theorem zmi{M:Model}{A:Around}{E:Value->Shared->Prop}{s:Shared}{tg:Expr}{it:Addr}{u:Value}{o:Obj}{n:String}{vs:Array Value}{Q:Unit->Shared->Prop}(ho:s.heap.get? it=some o)(hc:o.cls=.type n)(hd:o.data=.fields vs)(hn:["enumerate", "zip", "dict_itemiterator", "dict_reverseitemiterator", "odict_iterator", "itertools.zip_longest", "itertools.pairwise"].contains n=false)(hQ:Q () s):wpAny M A (letOwnedTupleGo tg (.ref it) u) Q E s:=by
 unfold letOwnedTupleGo
 cases tg<;>first
  | exact wpAny_pure hQ
  | (cases u<;>first
    | exact wpAny_pure hQ
    | (refine wpAny_bind (wpAny_load ho ?_)
       rw[hc,hd]
       show wpAny M A (if (["enumerate", "zip", "dict_itemiterator", "dict_reverseitemiterator", "odict_iterator", "itertools.zip_longest", "itertools.pairwise"].contains n&&vs[0]?==some (rawInt _))=true then _ else _) Q E s
       rw[if_neg (by intro h;rw[hn,Bool.false_and] at h;cases h)]
       exact wpAny_pure hQ))
def Itl(K:PySem.W.Frag)(a:Addr):It :=
 ⟨fun i H=>∃xs x,SqL K H a xs/\xs[i]?=some x,fun i H x H'=>H'=H/\∀xs,SqL K H a xs->xs[i]?=some x,fun i H=>∃xs,SqL K H a xs/\xs.length<=i⟩
def Itt(K:PySem.W.Frag)(a:Addr):It :=
 ⟨fun i H=>∃xs x,SqT K H a xs/\xs[i]?=some x,fun i H x H'=>H'=H/\∀xs,SqT K H a xs->xs[i]?=some x,fun i H=>∃xs,SqT K H a xs/\xs.length<=i⟩
def Itr(lo:Int)(n:Nat):It:=⟨fun i _=>i<n,fun i H x H'=>H'=H/\x=.int (lo+i),fun i _=>n<=i⟩
theorem zix{P:Program}{w:World}{K:PySem.W.Frag}{tg:Expr}(a it:Addr):Turn P w K tg (Itl K a) [it] it (fun i h=>h.IsListIter it a i) where
 mem:=by simp
 obj:=fun i h st b hb=>by
  have e:b=it:=by simpa using hb
  subst e
  obtain⟨o,e,c,d⟩:=st
  exact⟨o,e,fun v z=>by rw[d] at z;cases z⟩
 keep:=fun i h h' st k=>st.at fun o e=>k it (by simp) o e
 item:=by
  intro X hP hw hK hc i pins s σ H E I hf st hg
  subst hP hw hK
  obtain⟨xs,x,hq,hx⟩:=hg
  obtain⟨its,rv,p,hz⟩:=I.list hq
  obtain⟨u,hu,ru⟩:=rv.get hx
  obtain⟨f0,f1,f2,f3,f4,f5⟩:=hf it (by simp)
  refine wpAny_pyNext_list_item st p.isList (x:=u) (by simpa using hu) fun h' st' sb=>?_
  have I1:Inv X pins σ H { s with heap:=h' }:=I.turned (t':=s.toks) (fun b o hb e=>(sb.2 b hb).trans e) f0 f1 f3 f4 f5
  obtain⟨o,e,c,d⟩:=id st'
  exact⟨u,rfl,zmi (s:={ s with heap:=h' }) e c d (by decide) ⟨x,H,I1,ru,⟨rfl,fun ys hy=>by rw[I.list_inj hy hq];exact hx⟩,st',fun b hb=>(hf b hb).1⟩⟩
 done:=by
  intro X hP hw hK hc i pins s σ H E I hf st hg
  subst hP hw hK
  obtain⟨xs,hq,hx⟩:=hg
  obtain⟨its,rv,p,hz⟩:=I.list hq
  obtain⟨f0,f1,f2,f3,f4,f5⟩:=hf it (by simp)
  have hl:=rv.length
  exact wpAny_pyNext_list_end (I.ok.hd hc) st p.isList (by simp;omega) fun h' eb=>⟨rfl,I.turned (t':=s.toks) (fun b o hb e=>eb b o hb e) f0 f1 f3 f4 f5⟩
 self:=fun _ _ _ _ _ st h=>wpAny_pyIter_listiter st h
theorem zhw{P:Program}{w:World}{K:PySem.W.Frag}{tg:Expr}(a it:Addr):Turn P w K tg (Itt K a) [it] it (fun i h=>h.IsTupleIter it a i) where
 mem:=by simp
 obj:=fun i h st b hb=>by
  have e:b=it:=by simpa using hb
  subst e
  obtain⟨o,e,c,d⟩:=st
  exact⟨o,e,fun v z=>by rw[d] at z;cases z⟩
 keep:=fun i h h' st k=>st.at fun o e=>k it (by simp) o e
 item:=by
  intro X hP hw hK hc i pins s σ H E I hf st hg
  subst hP hw hK
  obtain⟨xs,x,hq,hx⟩:=hg
  obtain⟨its,rv,p,hz⟩:=I.tuple hq
  obtain⟨u,hu,ru⟩:=rv.get hx
  obtain⟨f0,f1,f2,f3,f4,f5⟩:=hf it (by simp)
  refine wpAny_pyNext_tuple_item st (show s.heap.IsTuple a its.toArray from p) (x:=u) (by simpa using hu) fun h' st' sb=>?_
  have I1:Inv X pins σ H { s with heap:=h' }:=I.turned (t':=s.toks) (fun b o hb e=>(sb.2 b hb).trans e) f0 f1 f3 f4 f5
  obtain⟨o,e,c,d⟩:=id st'
  exact⟨u,rfl,zmi (s:={ s with heap:=h' }) e c d (by decide) ⟨x,H,I1,ru,⟨rfl,fun ys hy=>by rw[I.tuple_inj hy hq];exact hx⟩,st',fun b hb=>(hf b hb).1⟩⟩
 done:=by
  intro X hP hw hK hc i pins s σ H E I hf st hg
  subst hP hw hK
  obtain⟨xs,hq,hx⟩:=hg
  obtain⟨its,rv,p,hz⟩:=I.tuple hq
  obtain⟨f0,f1,f2,f3,f4,f5⟩:=hf it (by simp)
  have hl:=rv.length
  exact wpAny_pyNext_tuple_end (I.ok.hd hc) st (show s.heap.IsTuple a its.toArray from p) (by simp;omega) fun h' eb=>⟨rfl,I.turned (t':=s.toks) (fun b o hb e=>eb b o hb e) f0 f1 f3 f4 f5⟩
 self:=fun _ _ _ _ _ st h=>wpAny_pyIter_tupleiter st h
theorem zhx{P:Program}{w:World}{K:PySem.W.Frag}{tg:Expr}(it:Addr)(lo:Int)(n:Nat):Turn P w K tg (Itr lo n) [it] it (fun i h=>IsRangeIter h it (lo+(i:Nat)*1) ((n:Int)-(i:Nat)) 1) where
 mem:=by simp
 obj:=fun i h st b hb=>by
  have e:b=it:=by simpa using hb
  subst e
  exact⟨_,st,fun v z=>by
   have z':Data.fields _=Data.cell v:=z
   cases z'⟩
 keep:=fun i h h' st k=>k it (by simp) _ st
 item:=by
  intro X hP hw hK hc i pins s σ H E I hf st hg
  subst hP hw hK
  obtain⟨f0,f1,f2,f3,f4,f5⟩:=hf it (by simp)
  have W:=Walks.range (prog:=X.prog) (w:=X.w) (I.ok.hd hc) it lo 1 n
  refine W.item i s _ _ hg st fun v h' tk hv st' kk=>?_
  obtain⟨t,rfl⟩:=hv
  have I1:Inv X pins σ H { s with heap:=h',toks:=tk }:=I.turned (fun b o hb e=>kk b o (by simpa using hb) e) f0 f1 f3 f4 f5
  refine⟨_,rfl,zmi (s:={ s with heap:=h',toks:=tk }) (n := "range_iterator") st' rfl rfl (by decide) ⟨.int (lo+i),H,I1,⟨t,?_⟩,⟨rfl,rfl⟩,st',fun b hb=>(hf b hb).1⟩⟩
  rw[Int.mul_one]
 done:=by
  intro X hP hw hK hc i pins s σ H E I hf st hg
  subst hP hw hK
  obtain⟨f0,f1,f2,f3,f4,f5⟩:=hf it (by simp)
  exact wpAny_pyNext_range_end (I.ok.hd hc) st (by have:n<=i:=hg;omega) fun h' eb=>⟨rfl,I.turned (t':=s.toks) (fun b o hb e=>eb b o hb e) f0 f1 f3 f4 f5⟩
 self:=fun _ _ _ _ _ st h=>wpAny_pyIter_rangeiter st h
end L2
namespace L2
open PySem PySem.Spec PyProof.Rows
section
variable {X:Cx} {tg:Expr}
def zqg(K:PySem.W.Frag)(tl:TE):TI:=fun σ H R=>tl σ H fun x H1=>∃a,x=.ref a/\(∃xs,SqL K H1 a xs)/\R (Itl K a) H1
def zr8(K:PySem.W.Frag)(tl:TE):TI:=fun σ H R=>tl σ H fun x H1=>∃a,x=.ref a/\(∃xs,SqT K H1 a xs)/\R (Itt K a) H1
theorem zmj{l:Expr}{tl:TE}(hl:PE X l tl):PI X tg l (zqg X.K tl):=by
 intro pins s σ H R I h
 refine thn (hl pins s σ H _ I h) fun v s1 ⟨x,H1,I1,r1,q1⟩=>?_
 obtain⟨a,e,⟨xs,hq⟩,q⟩:=q1
 subst e
 cases r1
 obtain⟨its,rv,p,hz⟩:=I1.list hq
 refine wpAny_pyIter_list p.isList ?_
 refine⟨s1.heap.objs.size,[s1.heap.objs.size],_,_,H1,rfl,I1.kept (t':=s1.toks) fun b o e=>Heap.get?_push_of_some _ e,zix a _,⟨_,Heap.get?_push_size _ rfl,rfl,rfl⟩,fun b hb=>?_,q⟩
 have e:b=s1.heap.objs.size:=by simpa using hb
 subst e
 exact I1.fpOk (Nat.le_refl _) (I1.hok.fresh (Nat.le_refl _))
theorem zoe{l:Expr}{tl:TE}(hl:PE X l tl):PI X tg l (zr8 X.K tl):=by
 intro pins s σ H R I h
 refine thn (hl pins s σ H _ I h) fun v s1 ⟨x,H1,I1,r1,q1⟩=>?_
 obtain⟨a,e,⟨xs,hq⟩,q⟩:=q1
 subst e
 cases r1
 obtain⟨its,rv,p,hz⟩:=I1.tuple hq
 refine wpAny_pyIter_tuple (show s1.heap.IsTuple a its.toArray from p) ?_
 refine⟨s1.heap.objs.size,[s1.heap.objs.size],_,_,H1,rfl,I1.kept (t':=s1.toks) fun b o e=>Heap.get?_push_of_some _ e,zhw a _,⟨_,Heap.get?_push_size _ rfl,rfl,rfl⟩,fun b hb=>?_,q⟩
 have e:b=s1.heap.objs.size:=by simpa using hb
 subst e
 exact I1.fpOk (Nat.le_refl _) (I1.hok.fresh (Nat.le_refl _))
theorem zkr{pins:List (Addr×Obj)}{σ:St}{H:Hp}{s:Shared}{R:It->Hp->Prop}{E:Value->Shared->Prop}{lo hi:Int}{t u v:Tok}{tk:Nat}(I:Inv X pins σ H s)(h1:-(2 ^ 62)<=lo)(h2:lo<2 ^ 62)(h3:-(2 ^ 62)<=hi)(h4:hi<2 ^ 62)(q:R (Itr lo (hi-lo).toNat) H):wpAny (model X.prog X.w) X.A (pyIter (.ref s.heap.objs.size)) (PIE X pins σ tg R) E { s with heap:=s.heap.push { cls:=.type "range",data:=.fields #[.int lo t,.int hi u,.int 1 v] },toks:=tk }:=by
 refine wpAny_pyIter_range (IsRange.new ..) (small_one h1 h2 h3 h4) ?_
 have I1:Inv X pins σ H { s with heap:=s.heap.push { cls:=.type "range",data:=.fields #[.int lo t,.int hi u,.int 1 v] },toks:=tk }:=I.kept fun b o e=>Heap.get?_push_of_some _ e
 refine⟨(s.heap.push { cls:=.type "range",data:=.fields #[.int lo t,.int hi u,.int 1 v] }).objs.size,[(s.heap.push { cls:=.type "range",data:=.fields #[.int lo t,.int hi u,.int 1 v] }).objs.size],_,_,H,rfl,
  I1.kept (t':=tk) fun b o e=>Heap.get?_push_of_some _ e,zhx _ lo (hi-lo).toNat,?_,fun b hb=>?_,q⟩
 ·have e1:lo+((0:Nat):Int)*1=lo:=by simp
  have e2:(((hi-lo).toNat:Nat):Int)-((0:Nat):Int)=Builtin.Range.rangeSize lo hi 1:=by rw[rangeSize_one];split<;>omega
  show IsRangeIter _ _ (lo+((0:Nat):Int)*1) ((((hi-lo).toNat:Nat):Int)-((0:Nat):Int)) 1
  rw[e1,e2]
  exact Heap.get?_push_size _ rfl
 ·have e:b=(s.heap.push { cls:=.type "range",data:=.fields #[.int lo t,.int hi u,.int 1 v] }).objs.size:=by simpa using hb
  subst e
  exact I1.fpOk (Nat.le_refl _) (I1.hok.fresh (Nat.le_refl _))
def zqh(ta:TA):TI:=fun σ H R=>ta σ H fun vs H1=>∃j:Int,vs=[.int j]/\-(2 ^ 62)<=j/\j<2 ^ 62/\R (Itr 0 j.toNat) H1
theorem ziy{a:Expr}{ta:TA}{p pos:Pos}(hg:Gl X "range")(hm:X.mg "range" = none)(ha:PA X [a] ta)(hs:starEach [a] X.env=[(false,eval a X.env)]:=by rfl):PI X tg (.Call (.Name "range" p) [a] [] pos) (zqh ta):=by
 intro pins s σ H R I h
 refine Call_ (zer I hg hm boot_range (PyProof.Rows.callWith_type1 (thn (ha pos pins s σ H _ I h) fun us s1 ⟨vs,H1,I1,r1,q1⟩=>?_) hs rfl))
 obtain⟨j,e,q1,q2,q⟩:=q1
 subst e
 cases r1 with
 | cons r rr =>
  cases rr
  obtain⟨t,rfl⟩:=r
  exact call_range_1 (zkr I1 (by omega) (by omega) q1 q2 (by simpa using q))
def zr9(wi:TI)(g:TG)(tb:TS):TS:=fun D σ H=>wi σ H fun J H1=>∃W:Nat->Nat->St->Hp->Prop,(∃m,W 0 m σ H1)/\∀i m σ H,W i m σ H ->
 (J.stop i H/\D.nx σ H)\/(J.go i H/\∃N:St->Hp->Prop,(∀σ' H',N σ' H'->∃m',m'<m/\W (i+1) m' σ' H')/\∀x H',J.yld i H x H'->g x σ H' fun σ2 H2=>tb { D with nx:=N,ct:=N,bk:=D.nx } σ2 H2)
def zes(fp:List Addr)(h:Heap):List (Addr×Obj):=fp.filterMap fun b=>(h.get? b).map fun o=>(b,o)
theorem zco{fp:List Addr}{h:Heap}{b:Addr}{o:Obj}(hb:b∈fp)(e:h.get? b=some o):(b,o)∈zes fp h:=List.mem_filterMap.mpr ⟨b,hb,by rw[e];rfl⟩
theorem ziz{fp:List Addr}{h:Heap}{p:Addr×Obj}(hp:p∈zes fp h):p.1∈fp/\h.get? p.1=some p.2:=by
 obtain⟨b,hb,e⟩:=List.mem_filterMap.mp hp
 cases q:h.get? b with
 | none=>rw[q] at e;cases e
 | some o =>
  rw[q] at e
  have e':(b,o)=p:=Option.some.inj e
  subst e'
  exact⟨hb,q⟩
theorem Inv.pinned{pins:List (Addr×Obj)}{σ:St}{H:Hp}{s:Shared}{fp:List Addr}(I:Inv X pins σ H s)(hf:∀b∈fp,zlt X pins H b)(ho:∀b∈fp,∃o,s.heap.get? b=some o/\∀v,o.data≠.cell v):Inv X (pins++zes fp s.heap) σ H s :=
 I.pins_of fun p hp=>(List.mem_append.mp hp).elim (fun z=>I.pin p (List.mem_append_right _ z)) fun z=>by
  obtain⟨hb,e⟩:=ziz z
  obtain⟨f0,f1,f2,_⟩:=hf p.1 hb
  obtain⟨o,e',d⟩:=ho p.1 hb
  rw[e] at e';cases e'
  exact⟨e,f0,f1,f2,d⟩
theorem Inv.unpinned{pins pl:List (Addr×Obj)}{σ:St}{H:Hp}{s:Shared}(I:Inv X (pins++pl) σ H s):Inv X pins σ H s:=I.pins_of fun p hp=>I.pin p (List.mem_append_right _ (List.mem_append_left _ hp))
theorem zof{iter:Expr}{body:List Stmt}{wi:TI}{g:TG}{tb:TS}{pos:Pos}(hp:PassesOwn (model X.prog X.w) X.A X.env X.xe)(hc:X.calm=true)(hi:PI X tg iter wi)(hg:PG X tg g)(hb:PSs X body tb)(hs:∀x,foldedSetIterable iter X.env x=pure x:=by intro _;rfl):PS X (.For tg iter body [] pos) (zr9 wi g tb):=by
 intro pins s σ H D I h
 refine wpAny_For (thn (hi pins s σ H _ I h) fun v s1 h1=>thn h1 fun itv s2 h2=>?_) hs
 obtain⟨it,fp,tn,J,H2,e,I2,T,st2,f2,W,⟨m0,w0⟩,turn⟩:=h2
 subst e
 have stat:∀{H':Hp},(∀b∈fp,H' b=none)->∀b∈fp,zlt X pins H' b:=fun hn b hb=>⟨hn b hb,(f2 b hb).2⟩
 refine codeAny_forLoop_any (fun n s'=>∃i σ' H',Inv X pins σ' H' s'/\tn i s'.heap/\(∀b∈fp,H' b=none)/\W i n σ' H') ?_ m0 ⟨0,σ,H2,I2,st2,fun b hb=>(f2 b hb).1,w0⟩
 rintro n s3 ⟨i,σ3,H3,I3,st3,fr3,w3⟩
 rcases turn i n σ3 H3 w3 with ⟨stop,qn⟩|⟨go,N,hN,step⟩
 ·refine wpAny_passesOwn hp (thn (T.done X rfl rfl rfl hc i pins s3 σ3 H3 X.xe I3 (stat fr3) st3 stop) fun r s4 ⟨hr,I4⟩=>?_)
  subst hr
  exact wpAny_execs_nil ⟨σ3,H3,I4,qn⟩
 ·refine wpAny_passesOwn hp (thn (T.item X rfl rfl rfl hc i pins s3 σ3 H3 X.xe I3 (stat fr3) st3 go) fun r s4 ⟨u,hr,h4⟩=>?_)
  subst hr
  refine wpAny_passesOwn hp (thn h4 fun _ s5 ⟨x,H5,I5,r5,y5,st5,fr5⟩=>?_)
  have I5':=I5.pinned (stat fr5) (T.obj _ _ st5)
  refine wpAny_passesOwn hp (thn (hg _ s5 σ3 H5 x u _ I5' r5 (step x H5 y5)) fun _ s6 ⟨σ6,H6,I6,q6⟩=>?_)
  refine wpAny_passesOwn hp (thn (hb _ s6 σ6 H6 _ I6 q6) fun f s7 q7=>?_)
  have again:∀{σ7:St} {H7:Hp},Inv X (pins++zes fp s5.heap) σ7 H7 s7->N σ7 H7->∃m,m<n/\∃i σ' H',Inv X pins σ' H' s7/\tn i s7.heap/\(∀b∈fp,H' b=none)/\W i m σ' H':=fun {σ7 H7} I7 n7=>by
   obtain⟨m',hm,w7⟩:=hN σ7 H7 n7
   refine⟨m',hm,i+1,σ7,H7,I7.unpinned,T.keep _ _ _ st5 fun b hb o e=>(I7.pin (b,o) (List.mem_append_right _ (List.mem_append_right _ (zco hb e)))).1,fun b hb=>?_,w7⟩
   obtain⟨o,e,d⟩:=T.obj _ _ st5 b hb
   exact(I7.pin (b,o) (List.mem_append_right _ (List.mem_append_right _ (zco hb e)))).2.1
  cases f with
  | next=>obtain⟨σ7,H7,I7,n7⟩:=q7;exact again I7 n7
  | cont=>obtain⟨σ7,H7,I7,n7⟩:=q7;exact again I7 n7
  | brk=>obtain⟨σ7,H7,I7,q7⟩:=q7;exact⟨σ7,H7,I7.unpinned,q7⟩
  | ret v=>obtain⟨x7,σ7,H7,I7,r7,q7⟩:=q7;exact⟨x7,σ7,H7,I7.unpinned,r7,q7⟩
end
end L2
namespace L2
open PySem PySem.Spec PyProof.Rows
abbrev R2:=V->V->Hp->VK->Prop
def OpR(X:Cx)(f:Value->Value->Sem Value)(r:R2):Prop :=
 ∀(pins:List (Addr×Obj)) (s:Shared) (σ:St) (H:Hp) (x y:V) (v u:Value) (Q:VK),Inv X pins σ H s->RelV x v->RelV y u->r x y H Q ->
  wpAny (model X.prog X.w) X.A (f v u) (EP X pins σ Q) X.xe s
def UnR(X:Cx)(f:Value->Sem Value)(r:V->Hp->VK->Prop):Prop :=
 ∀(pins:List (Addr×Obj)) (s:Shared) (σ:St) (H:Hp) (x:V) (v:Value) (Q:VK),Inv X pins σ H s->RelV x v->r x H Q ->
  wpAny (model X.prog X.w) X.A (f v) (EP X pins σ Q) X.xe s
def CallR(X:Cx)(f:Value)(r:List V->Hp->VK->Prop):Prop :=
 ∀(pins:List (Addr×Obj)) (s:Shared) (σ:St) (H:Hp) (xs:List V) (us:List Value) (Q:VK),Inv X pins σ H s->Vals xs us->r xs H Q ->
  wpAny (model X.prog X.w) X.A (call f us) (EP X pins σ Q) X.xe s
def zsa(X:Cx)(r:V->Hp->(Bool->Hp->Prop)->Prop):Prop :=
 ∀(pins:List (Addr×Obj)) (s:Shared) (σ:St) (H:Hp) (x:V) (v:Value) (Q:Bool->Hp->Prop),Inv X pins σ H s->RelV x v->r x H Q ->
  wpAny (model X.prog X.w) X.A (truthy v) (TP X pins σ Q) X.xe s
def tOp(r:R2)(ta tb:TE):TE:=fun σ H Q=>ta σ H fun x H1=>tb σ H1 fun y H2=>r x y H2 Q
def tUn(r:V->Hp->VK->Prop)(ta:TE):TE:=fun σ H Q=>ta σ H fun x H1=>r x H1 Q
def rI(C:Int->Int->Prop)(g:Int->Int->V):R2:=fun x y H Q=>∃i j,x=.int i/\y=.int j/\C i j/\Q (g i j) H
def rI0(g:Int->Int->V):R2:=fun x y H Q=>∃i j,x=.int i/\y=.int j/\Q (g i j) H
def rU(g:Int->V):V->Hp->VK->Prop:=fun x H Q=>∃i,x=.int i/\Q (g i) H
section
variable {X:Cx} {a b c:Expr} {ta tb tc:TE} {pos:Pos}
theorem zqi(ha:PE X a ta)(hb:PE X b tb){pins:List (Addr×Obj)}{s:Shared}{σ:St}{H:Hp}{R:V->V->Hp->Prop}(I:Inv X pins σ H s)(h:ta σ H fun x H1=>tb σ H1 fun y H2=>R x y H2){Q:Value->Shared->Prop}{f:Value->Value->Sem Value}(hf:∀v u s2 x y H2,Inv X pins σ H2 s2->RelV x v->RelV y u->R x y H2->wpAny (model X.prog X.w) X.A (f v u) Q X.xe s2) :
  wpAny (model X.prog X.w) X.A (eval a X.env) (fun v s₁=>wpAny (model X.prog X.w) X.A (eval b X.env) (fun u s₂=>wpAny (model X.prog X.w) X.A (f v u) Q X.xe s₂) X.xe s₁) X.xe s:=by
 refine thn (ha pins s σ H _ I h) fun v s1 ⟨x,H1,I1,r1,q1⟩=>?_
 refine thn (hb pins s1 σ H1 _ I1 q1) fun u s2 ⟨y,H2,I2,r2,q2⟩=>?_
 exact hf v u s2 x y H2 I2 r1 r2 q2
theorem zks{op:Operator}{r:R2}(ho:OpR X (binaryOp op) r)(ha:PE X a ta)(hb:PE X b tb):PE X (.BinOp a op b pos) (tOp r ta tb):=by
 intro pins s σ H Q I h
 exact wpAny_BinOp (zqi ha hb I h fun v u s2 x y H2 I2 rx ry q=>ho pins s2 σ H2 x y v u Q I2 rx ry q)
theorem zqj{op:UnaryOp}{r:V->Hp->VK->Prop}(ho:UnR X (unaryOp op) r)(ha:PE X a ta):PE X (.UnaryOp op a pos) (tUn r ta):=by
 intro pins s σ H Q I h
 exact UnaryOp_ (thn (ha pins s σ H _ I h) fun v s1 ⟨x,H1,I1,r1,q1⟩=>ho pins s1 σ H1 x v Q I1 r1 q1)
theorem opI{f:Value->Value->Sem Value}{C:Int->Int->Prop}{g:Int->Int->Int}(rule:∀(i j:Int) (t u:Tok) (s:Shared) (Q:Value->Shared->Prop) (E:Value->Shared->Prop),C i j->Q (.int (g i j) s.toks) { s with toks:=s.toks+1 }->wpAny (model X.prog X.w) X.A (f (.int i t) (.int j u)) Q E s) :
  OpR X f (rI C fun i j=>.int (g i j)):=by
 intro pins s σ H x y v u Q I rx ry h
 obtain⟨i,j,rfl,rfl,hc,q⟩:=h
 obtain⟨t,rfl⟩:=rx
 obtain⟨t',rfl⟩:=ry
 exact rule i j t t' s _ _ hc ⟨.int (g i j),H,I.tok _,⟨_,rfl⟩,q⟩
theorem zrl{f:Value->Value->Sem Value}{g:Int->Int->Int}(rule:∀(i j:Int) (t u:Tok) (s:Shared) (Q:Value->Shared->Prop) (E:Value->Shared->Prop),Q (.int (g i j) s.toks) { s with toks:=s.toks+1 }->wpAny (model X.prog X.w) X.A (f (.int i t) (.int j u)) Q E s) :
  OpR X f (rI0 fun i j=>.int (g i j)):=by
 intro pins s σ H x y v u Q I rx ry h
 obtain⟨i,j,rfl,rfl,q⟩:=h
 obtain⟨t,rfl⟩:=rx
 obtain⟨t',rfl⟩:=ry
 exact rule i j t t' s _ _ ⟨.int (g i j),H,I.tok _,⟨_,rfl⟩,q⟩
theorem zpT{f:Value->Value->Sem Value}{g:Int->Int->Bool}(rule:∀(i j:Int) (t u:Tok) (s:Shared) (Q:Value->Shared->Prop) (E:Value->Shared->Prop),Q (.bool (g i j)) s->wpAny (model X.prog X.w) X.A (f (.int i t) (.int j u)) Q E s) :
  OpR X f (rI0 fun i j=>.bl (g i j)):=by
 intro pins s σ H x y v u Q I rx ry h
 obtain⟨i,j,rfl,rfl,q⟩:=h
 obtain⟨t,rfl⟩:=rx
 obtain⟨t',rfl⟩:=ry
 exact rule i j t t' s _ _ ⟨.bl (g i j),H,I,rfl,q⟩
def zqk(i j:Int):Prop:=0<j/\j<1073741824
def CMul(i j:Int):Prop:=(-(2 ^ 64)<i/\i<2 ^ 64)\/(-(2 ^ 64)<j/\j<2 ^ 64)
theorem CMul.ok{i j:Int}(h:CMul i j):IntMulOk i j:=by
 rcases h with ⟨h1,h2⟩|⟨h1,h2⟩
 ·exact .of_left (intBits_le_64 h1 h2)
 ·exact .of_right (intBits_le_64 h1 h2)
theorem zog:OpR X (binaryOp .Add) (rI0 fun i j=>.int (i+j)):=zrl fun _ _ _ _ _ _ _ q=>add_int q
theorem zoh:OpR X (binaryOp .Sub) (rI0 fun i j=>.int (i-j)):=zrl fun _ _ _ _ _ _ _ q=>sub_int q
theorem zoi:OpR X (binaryOp .Mult) (rI CMul fun i j=>.int (i*j)):=opI fun _ _ _ _ _ _ _ hc q=>mul_int q hc.ok
theorem zmk:OpR X (binaryOp .FloorDiv) (rI zqk fun i j=>.int (i / j)):=opI fun i j _ _ _ _ _ hc q=>by
 have h1:(0:Int)<j:=hc.1
 have h2:j<1073741824:=hc.2
 exact floordiv_int (by omega) (by rw[Int.fdiv_eq_ediv_of_nonneg i (by omega)];exact q) (.inl (PyProof.noPylong_small (by omega)))
theorem zoj:OpR X (binaryOp .Mod) (rI (fun _ j=>0<j) fun i j=>.int (i % j)):=opI fun i j _ _ _ _ _ hc q=>by
 have h1:(0:Int)<j:=hc
 exact mod_int' (by omega) (by rw[Int.fmod_eq_emod_of_nonneg i (by omega)];exact q)
theorem unI{f:Value->Sem Value}{g:Int->Int}(rule:∀(i:Int) (t:Tok) (s:Shared) (Q:Value->Shared->Prop) (E:Value->Shared->Prop),Q (.int (g i) s.toks) { s with toks:=s.toks+1 }->wpAny (model X.prog X.w) X.A (f (.int i t)) Q E s) :
  UnR X f (rU fun i=>.int (g i)):=by
 intro pins s σ H x v Q I rx h
 obtain⟨i,rfl,q⟩:=h
 obtain⟨t,rfl⟩:=rx
 exact rule i t s _ _ ⟨.int (g i),H,I.tok _,⟨_,rfl⟩,q⟩
theorem zok:UnR X (unaryOp .USub) (rU fun i=>.int (-i)):=unI fun _ _ _ _ _ q=>neg_int q
end
def zsb:V->V->Bool
 | .non,.non=>true|.non,.int _=>true|.int _,.non=>true|.non,.bl _=>true|.bl _,.non=>true|.non,.str _=>true|.str _,.non=>true
 | .int _,.int _=>true|.bl _,.bl _=>true|.str _,.str _=>true|.byt _,.byt _=>true
 | .int _,.str _=>true|.str _,.int _=>true|.bl _,.str _=>true|.str _,.bl _=>true
 | _,_=>false
def rEq:R2:=fun x y H Q=>zsb x y=true/\Q (.bl (decide (x=y))) H
theorem zml{i j:Int}:decide (V.int i=V.int j)=(i==j):=by
 rw[Bool.eq_iff_iff]
 simp
theorem zol{i j:Bool}:decide (V.bl i=V.bl j)=(i==j):=by
 rw[Bool.eq_iff_iff]
 simp
theorem zmm{i j:Str}:decide (V.str i=V.str j)=(i==j):=by
 rw[Bool.eq_iff_iff]
 simp
theorem zmn{i j:Array UInt8}:decide (V.byt i=V.byt j)=(i.toList==j.toList):=by
 rw[Bool.eq_iff_iff]
 cases i
 cases j
 simp
section
variable {X:Cx} {a b c:Expr} {ta tb tc:TE} {pos:Pos}
theorem zbx{pins:List (Addr×Obj)}{σ:St}{H:Hp}{s:Shared}{Q:VK}{k k':Bool}(I:Inv X pins σ H s)(q:Q (.bl k) H)(e:k=k'):EP X pins σ Q (.bool k') s:=by
 subst e
 exact⟨.bl k,H,I,rfl,q⟩
theorem zql:OpR X (compareOp .Eq) rEq:=by
 intro pins s σ H x y v u Q I rx ry h
 obtain⟨hs,q⟩:=h
 cases x with
 | non =>
  cases rx
  cases y with
  | non=>cases ry;exact PySem.EqNone.eq_none_none (zbx I q (by simp))
  | bl j=>cases ry;exact PySem.EqNone.eq_none_bool (zbx I q (by simp))
  | int j=>obtain⟨t',rfl⟩:=ry;exact PySem.EqNone.eq_none_int (zbx I q (by simp))
  | str j=>obtain⟨t',rfl⟩:=ry;exact PySem.EqNone.eq_none_str (zbx I q (by simp))
  | _=>exact absurd (show false=true from hs) Bool.false_ne_true
 | bl i =>
  cases rx
  cases y with
  | non=>cases ry;exact PySem.EqNone.eq_bool_none (zbx I q (by simp))
  | bl j=>cases ry;exact eq_bool (zbx I q zol)
  | str j=>obtain⟨t',rfl⟩:=ry;exact PySem.EqMixed.eq_bool_str (zbx I q (by simp))
  | _=>exact absurd (show false=true from hs) Bool.false_ne_true
 | int i =>
  obtain⟨t,rfl⟩:=rx
  cases y with
  | non=>cases ry;exact PySem.EqNone.eq_int_none (zbx I q (by simp))
  | int j=>obtain⟨t',rfl⟩:=ry;exact eq_int (zbx I q zml)
  | str j=>obtain⟨t',rfl⟩:=ry;exact PySem.EqMixed.eq_int_str (zbx I q (by simp))
  | _=>exact absurd (show false=true from hs) Bool.false_ne_true
 | str i =>
  obtain⟨t,rfl⟩:=rx
  cases y with
  | non=>cases ry;exact PySem.EqNone.eq_str_none (zbx I q (by simp))
  | bl j=>cases ry;exact PySem.EqMixed.eq_str_bool (zbx I q (by simp))
  | int j=>obtain⟨t',rfl⟩:=ry;exact PySem.EqMixed.eq_str_int (zbx I q (by simp))
  | str j=>obtain⟨t',rfl⟩:=ry;exact eq_str (zbx I q zmm)
  | _=>exact absurd (show false=true from hs) Bool.false_ne_true
 | byt i =>
  obtain⟨t,rfl⟩:=rx
  cases y with
  | byt j=>obtain⟨t',rfl⟩:=ry;exact PySem.W.eq_bytes (zbx I q zmn)
  | _=>exact absurd (show false=true from hs) Bool.false_ne_true
 | _=>cases y<;>exact absurd (show false=true from hs) Bool.false_ne_true
theorem zqm:OpR X (compareOp .Lt) (rI0 fun i j=>.bl (decide (i<j))):=zpT fun _ _ _ _ _ _ _ q=>lt_int q
theorem zqn:OpR X (compareOp .LtE) (rI0 fun i j=>.bl (decide (i<=j))):=zpT fun _ _ _ _ _ _ _ q=>le_int q
theorem zqo:OpR X (compareOp .Gt) (rI0 fun i j=>.bl (decide (j<i))):=zpT fun _ _ _ _ _ _ _ q=>gt_int q
theorem zqp:OpR X (compareOp .GtE) (rI0 fun i j=>.bl (decide (j<=i))):=zpT fun _ _ _ _ _ _ _ q=>ge_int q
theorem zcQ(b:Expr){op:CmpOp}(h:op≠.In:=by decide)(h2:op≠.NotIn:=by decide):behindInMarks op b=false:=by
 have e1:(op==CmpOp.In)=false:=by cases op<;>first|rfl|exact absurd rfl h
 have e2:(op==CmpOp.NotIn)=false:=by cases op<;>first|rfl|exact absurd rfl h2
 cases b<;>simp[behindInMarks,e1,e2]
theorem zf7{op:CmpOp}{r:R2}(ho:OpR X (compareOp op) r)(ha:PE X a ta)(hb:PE X b tb)(hm:behindInMarks op b=false):PE X (.Compare a [op] [b] pos) (tOp r ta tb):=by
 intro pins s σ H Q I h
 exact wpAny_Compare1 (zqi ha hb I h fun v u s2 x y H2 I2 rx ry q=>ho pins s2 σ H2 x y v u Q I2 rx ry q) hm
def zqq(t:TE):TT:=fun σ H Q=>t σ H fun x H'=>∃k,x=.bl k/\Q k H'
theorem zmo{op:CmpOp}{r:R2}(ho:OpR X (compareOp op) r)(ha:PE X a ta)(hb:PE X b tb)(hm:behindInMarks op b=false):PT X (.Compare a [op] [b] pos) (zqq (tOp r ta tb)):=by
 intro pins s σ H Q I h
 refine wpAny_isTrue_Compare1 (thn (ha pins s σ H _ I h) fun v s1 ⟨x,H1,I1,r1,q1⟩=>thn (hb pins s1 σ H1 _ I1 q1) fun u s2 ⟨y,H2,I2,r2,q2⟩ =>
  thn (ho pins s2 σ H2 x y v u _ I2 r1 r2 q2) fun c s3 ⟨z,H3,I3,r3,k,e,q3⟩=>?_) hm
 subst e
 cases r3
 exact wpAny_truthy_bool ⟨H3,I3,q3⟩
def zpU(K:PySem.W.Frag)(x:V)(H:Hp)(k:Bool):Prop :=
 match x with
 | .non=>k=false
 | .bl b=>k=b
 | .int i=>k=(i != 0)
 | .str y=>y.length<=sizeLine/\k=((y.length:Int) != 0)
 | .byt y=>y.size<=sizeLine/\k=((y.size:Int) != 0)
 | .ref p=>(∃xs,SqL K H p xs/\k=!xs.isEmpty)\/(∃xs,SqT K H p xs/\k=!xs.isEmpty)\/∃kvs,H p=some (.dK kvs)/\k=!kvs.isEmpty
 | _=>False
theorem zhy{κ:Type}{kvs:List (κ×V)}{vs:List (κ×Value)}(r:KV kvs vs):(!vs.isEmpty)=!kvs.isEmpty:=by
 cases r<;>rfl
theorem zet{xs:List V}{its:List Value}(r:Vals xs its):(!its.toArray.isEmpty)=!xs.isEmpty:=by
 cases r<;>simp
theorem zfl:(sizeLine:Nat)<2 ^ 63:=by rw[sizeLine_eq];decide
theorem zom:zsa X (fun x H Q=>∃k,zpU X.K x H k/\Q k H):=by
 intro pins s σ H x v Q I rx h
 obtain⟨k,e,q⟩:=h
 have hl:=zfl
 have hs:sizeLine=16777216:=sizeLine_eq
 cases x with
 | non =>
  cases rx
  have e':k=false:=e
  subst e'
  exact truthy_none ⟨H,I,q⟩
 | bl b =>
  cases rx
  have e':k=b:=e
  subst e'
  exact wpAny_truthy_bool ⟨H,I,q⟩
 | int i =>
  obtain⟨t,rfl⟩:=rx
  have e':k=(i != 0):=e
  subst e'
  exact PySem.P.truthy_int ⟨H,I,q⟩
 | str y =>
  obtain⟨t,rfl⟩:=rx
  obtain⟨hy,e'⟩:y.length<=sizeLine/\k=((y.length:Int) != 0):=e
  subst e'
  exact PySem.P.truthy_str (by omega) ⟨H,I.tok _,q⟩
 | byt y =>
  obtain⟨t,rfl⟩:=rx
  obtain⟨hy,e'⟩:y.size<=sizeLine/\k=((y.size:Int) != 0):=e
  subst e'
  exact PySem.W.truthy_bytes (by omega) ⟨H,I.tok _,q⟩
 | ref p =>
  cases rx
  have e':(∃xs,SqL X.K H p xs/\k=!xs.isEmpty)\/(∃xs,SqT X.K H p xs/\k=!xs.isEmpty)\/∃kvs,H p=some (.dK kvs)/\k=!kvs.isEmpty:=e
  rcases e' with ⟨xs,hx,e'⟩|⟨xs,hx,e'⟩|⟨kvs,hx,e'⟩
  ·subst e'
   obtain⟨its,r,pl,hz⟩:=I.list hx
   have hlen:=r.length
   exact wpAny_truthy_list pl.isList (by simp only[List.size_toArray];omega) ⟨H,I.tok _,by rw[zet r];exact q⟩
  ·subst e'
   obtain⟨its,r,pl,hz⟩:=I.tuple hx
   have hlen:=r.length
   exact truthy_tuple pl (by simp only[List.size_toArray];omega) ⟨H,I.tok _,by rw[zet r];exact q⟩
  ·subst e'
   obtain⟨hz,hS,vs,r,m⟩:kvs.length<=sizeLine/\(p==sysModules)=false/\∃vs,KV kvs vs/\s.heap.DictOf (zaV X.prog X.w) p vs:=I.hok p _ hx
   have hlen:kvs.length=vs.length:=Paired.length r
   exact wpAny_truthy_dict hS m (by omega) ⟨H,I.tok _,by rw[zhy r];exact q⟩
 | _=>exact(show False from e).elim
theorem zkt(ha:PE X a ta)(he:∀whole,isTrue a X.env whole=(do let v <- whole;standAt a.pos;holding [v] (truthy v))) :
  PT X a (fun σ H Q=>ta σ H fun x H'=>∃k,zpU X.K x H' k/\Q k H'):=by
 intro pins s σ H Q I h
 exact isTrue_plain (thn (ha pins s σ H _ I h) fun v s1 ⟨x,H1,I1,r1,q1⟩=>zom pins s1 σ H1 x v Q I1 r1 q1) (he _)
theorem zdN{x:V}{us:List Value}(r:Vals [x] us):∃u,us=[u]/\RelV x u:=by
 cases r with
 | cons r1 r2=>cases r2;exact⟨_,rfl,r1⟩
theorem zmp{x y:V}{us:List Value}(r:Vals [x,y] us):∃u w',us=[u,w']/\RelV x u/\RelV y w':=by
 cases r with
 | cons r1 r2 =>
  cases r2 with
  | cons r3 r4=>cases r4;exact⟨_,_,rfl,r1,r3⟩
theorem ziA:CallR X (.type "int") (fun xs H Q=>(∃i,xs=[.int i]/\Q (.int i) H)\/∃k,xs=[.bl k]/\Q (.int (if k then 1 else 0)) H):=by
 intro pins s σ H xs us Q I r h
 rcases h with ⟨i,rfl,q⟩|⟨k,rfl,q⟩
 ·obtain⟨u,rfl,t,rfl⟩:=zdN r
  exact call_int_int ⟨.int i,H,I,⟨_,rfl⟩,q⟩
 ·obtain⟨u,rfl,r1⟩:=zdN r
  cases r1
  exact call_int_bool ⟨.int (if k then 1 else 0),H,I.tok _,⟨_,rfl⟩,q⟩
def zrm(K:PySem.W.Frag)(x:V)(H:Hp)(n:Nat):Prop :=
 match x with
 | .str y=>y.length<=sizeLine/\n=y.length
 | .byt y=>y.size<=sizeLine/\n=y.size
 | .ref p=>(∃xs,SqL K H p xs/\n=xs.length)\/∃xs,SqT K H p xs/\n=xs.length
 | _=>False
theorem zku:CallR X (.builtin "len") (fun xs H Q=>∃x n,xs=[x]/\zrm X.K x H n/\Q (.int n) H):=by
 intro pins s σ H xs us Q I r h
 obtain⟨x,n,rfl,e,q⟩:=h
 obtain⟨u,rfl,rx⟩:=zdN r
 have hl:=zfl
 have hs:sizeLine=16777216:=sizeLine_eq
 cases x with
 | str y =>
  obtain⟨t,rfl⟩:=rx
  obtain⟨hy,e'⟩:y.length<=sizeLine/\n=y.length:=e
  subst e'
  exact len_str (by omega) ⟨.int _,H,I.tok _,⟨_,rfl⟩,q⟩
 | byt y =>
  obtain⟨t,rfl⟩:=rx
  obtain⟨hy,e'⟩:y.size<=sizeLine/\n=y.size:=e
  subst e'
  exact PySem.W.len_bytes (by omega) ⟨.int _,H,I.tok _,⟨_,rfl⟩,q⟩
 | ref p =>
  cases rx
  have e':(∃xs,SqL X.K H p xs/\n=xs.length)\/∃xs,SqT X.K H p xs/\n=xs.length:=e
  rcases e' with ⟨xs,hx,e'⟩|⟨xs,hx,e'⟩
  ·subst e'
   obtain⟨its,r',pl,hz⟩:=I.list hx
   have hlen:=r'.length
   exact Calls.call_len_list pl.isList (by simp only[List.size_toArray];omega) ⟨.int xs.length,H,I.tok _,⟨_,by simp only[List.size_toArray];rw[hlen]⟩,q⟩
  ·subst e'
   obtain⟨its,r',pl,hz⟩:=I.tuple hx
   have hlen:=r'.length
   exact len_tuple pl (by simp only[List.size_toArray];omega) ⟨.int xs.length,H,I.tok _,⟨_,by simp only[List.size_toArray];rw[hlen]⟩,q⟩
 | _=>exact(show False from e).elim
end
end L2
namespace L2
open PySem PySem.Spec PyProof.Rows
structure ObjM (h:Heap) (x dx C:Addr) (mA:Str->Option Value):Prop where
 obj:h.get? x=some (PySem.W.instObj C dx)
 ns:h.Ns1 dx mA
 ne:dx≠x
theorem ziB{h:Heap}{dx:Addr}{mA:Str->Option Value}(n:h.Ns1 dx mA):∃od,h.get? dx=some od/\∀name,PySem.W.lookIn name od=some (mA name):=by
 obtain⟨o,es,ep,ho,hd,hk,_,hm⟩:=n
 refine⟨o,ho,fun name=>?_⟩
 have e:=hm name
 unfold nsFind findBy at e
 rw[<- Array.find?_toList] at e
 unfold PySem.W.lookIn
 rw[hd]
 dsimp only
 split
 ·rename_i y q
  rw[q] at e
  exact congrArg some e
 ·rename_i q
  rw[q] at e
  have a:es.toList.any (·.refKey)=false:=by
   rw[List.any_eq_false]
   intro y hy
   obtain⟨z,t,hkey⟩:=hk y (Array.mem_toList_iff.mp hy)
   simp[DictEntry.refKey,hkey]
  have a':¬es.toList.any (·.refKey)=true:=by rw[a];exact Bool.false_ne_true
  rw[if_neg a']
  exact congrArg some e
theorem ObjM.look{h:Heap}{x dx C:Addr}{mA:Str->Option Value}(I:ObjM h x dx C mA):∃od,PySem.W.InstAt h x (PySem.W.instObj C dx) C (some od)/\∀name,PySem.W.lookIn name od=some (mA name) :=
 let ⟨od,ho,hl⟩:=ziB I.ns
 ⟨od,⟨I.obj,rfl,rfl,ho⟩,hl⟩
section
variable {prog:Program} {w:World} {A:Around} {E:Value->Shared->Prop} {s:Shared} {K:PySem.W.Frag} {x dx C f:Addr} {mA:Str->Option Value} {name:Str} {v:Value}
theorem zmq{expr:Bool}{Q:Value->Shared->Prop}(X:K.In s.heap)(I:ObjM s.heap x dx C mA)(hg:PySem.W.plainGet K C name=true)(hh:PySem.W.hasDictIn K C=true)(ha:PySem.W.findIn K (.ref C) name=some none)(hv:mA name=some v)(hv':PySem.W.handedIn v=true)(h:Q v { s with toks:=s.toks+1 }) :
  wpAny (model prog w) A (getAttr (.ref x) name expr) Q E s:=by
 obtain⟨od,J,hl⟩:=I.look
 exact PySem.W.get_value X J (PySem.W.plainGet_of hg).1 (PySem.W.findObj_own hh ha rfl (by rw[hl,hv])) hv' h
theorem zkv{pl:Sem Bool}{Q:Value×List Value->Shared->Prop}(X:K.In s.heap)(I:ObjM s.heap x dx C mA)(hg:PySem.W.plainGet K C name=true)(hf:PySem.W.findIn K (.ref C) name=some (some (.ref f)))(ht:PySem.W.isFn K (.ref f)=true)(hv:mA name=none)(h:Q (.ref f,[.ref x]) s) :
  wpAny (model prog w) A (getMethod (.ref x) name pl) Q E s:=by
 obtain⟨od,J,hl⟩:=I.look
 exact PySem.W.method_fn X J (PySem.W.plainGet_of hg).1 (PySem.W.plainGet_of hg).2 hf (beq_iff_eq.mp ht) (by show(PySem.W.lookIn name od).map (·.isSome)=some false;rw[hl,hv];rfl) h
theorem zmr{ns:List Str}{Q:Unit->Shared->Prop}(X:K.In s.heap)(I:ObjM s.heap x dx C mA)(hs:PySem.W.findIn K (.ref C) "__setattr__" = some (some (.builtin "object.__setattr__")))(hp:PySem.W.plainOver K C=true)(ht:PySem.W.takerIn K C name=some none)(hh:PySem.W.hasDictIn K C=true)(hw:PySem.Within mA ns)(hsz:ns.length<=sizeLine)(h:∀h',ObjM h' x dx C (fun y=>if y=name then some v else mA y)->Heap.SameBut dx s.heap h'->Q () { s with heap:=h',toks:=s.toks+2 }) :
  wpAny (model prog w) A (setAttr (.ref x) name v) Q E s:=by
 obtain⟨od,J,hl⟩:=I.look
 refine PySem.W.set_plain X J hs (PySem.W.osa_open (s:={ s with toks:=s.toks+1 }) (r:=none) X J hp ht fun b=>?_)
 obtain⟨cd,hc,hd'⟩:=PySem.W.any_some hh
 have hx:s.heap.get? x=some ⟨.ref C,some dx,.plain,#[]⟩:=I.obj
 refine wpAny_bind (wpAny_pure (wpAny_bind (wpAny_bind (wpAny_loadPart hx (wpAny_bind (PySem.W.Looks.here (s:={ s with toks:=s.toks+1 }) (PySem.W.looks_clsIn X hc) ?_))))))
 rw[hd']
 refine wpAny_pure (a:=some dx) (wpAny_bind (wpAny_pure (wpAny_bind ?_)))
 refine wpAny_nsSet1 (s:={ s with toks:=s.toks+1 }) I.ns fun h' hn2 hs2=>?_
 obtain⟨oD,esD,epD,hoD,hdD,hcD⟩:=hn2.count (PySem.Within.cons name v hw)
 refine wpAny_bind (wpAny_lookBehind hoD (by rw[hdD];exact pastItsLine_dict (Nat.le_trans hcD (by rw[List.length_cons];omega))) ?_)
 exact wpAny_pure (h _ ⟨(hs2.2 _ (Ne.symm I.ne)).trans I.obj,hn2,I.ne⟩ hs2)
theorem zkw{R:Result->Shared->Prop}{vs:List Value}{kw:List (Str×Value)}(X:K.In s.heap)(hm:PySem.W.makesIn K C=true)(hi:PySem.W.findIn K (.ref C) "__init__" = some (some (.ref f)))(hf:PySem.W.typeIn K (.ref f)=some (.type "function"))(h:codeAny (model prog w) (A.under (.builtin "type.__call__" ⟨.ref C::vs,kw⟩)) (.call (.ref f) ⟨.ref (s.heap.objs.size+1)::vs,kw⟩) (PySem.W.InitBack (s.heap.objs.size+1) R)
   { s with heap:=(s.heap.push PySem.W.emptyDict).push (PySem.W.instObj C s.heap.objs.size) }) :
  codeAny (model prog w) A (.call (.ref C) ⟨vs,kw⟩) R s:=by
 obtain⟨hh,g,d,t,os⟩:=s
 exact PySem.W.make_core (PySem.W.makes_of X hm) (PySem.W.looks_findIn X hi) (fun self=>PySem.W.bind_fn X self hf) (.inl rfl) h
end
def zeN(f:Str)(v:V):List (Str×V)->List (Str×V)
 | []=>[(f,v)]
 | (g,x)::r=>if g=f then (g,v)::r else (g,x)::zeN f v r
theorem zdO(f g:Str)(v:V):∀fs:List (Str×V),(zeN f v fs).lookup g=if g=f then some v else fs.lookup g
 | []=>by
  show List.lookup g [(f,v)]=_
  by_cases h:g=f
  ·have hb:(g==f)=true:=beq_iff_eq.mpr h
   simp only[List.lookup,hb,if_pos h]
  ·have hb:(g==f)=false:=beq_eq_false_iff_ne.mpr h
   simp only[List.lookup,hb,if_neg h]
 | (k,x)::r=>by
  have ih:=zdO f g v r
  rw[show zeN f v ((k,x)::r)=(if k=f then (k,v)::r else (k,x)::zeN f v r) from rfl]
  by_cases hk:k=f
  ·rw[if_pos hk]
   by_cases h:g=k
   ·have hb:(g==k)=true:=beq_iff_eq.mpr h
    simp only[List.lookup,hb,if_pos (h.trans hk)]
   ·have hb:(g==k)=false:=beq_eq_false_iff_ne.mpr h
    simp only[List.lookup,hb,if_neg (fun e:g=f=>h (e.trans hk.symm))]
  ·rw[if_neg hk]
   by_cases h:g=k
   ·have hb:(g==k)=true:=beq_iff_eq.mpr h
    simp only[List.lookup,hb,if_neg (fun e:g=f=>hk (h.symm.trans e))]
   ·have hb:(g==k)=false:=beq_eq_false_iff_ne.mpr h
    simp only[List.lookup,hb]
    exact ih
theorem zdP(f:Str)(v:V):∀fs:List (Str×V),f∈(zeN f v fs).map (·.1)/\∀g,g∈fs.map (·.1)->g∈(zeN f v fs).map (·.1)
 | []=>⟨by simp[zeN],fun g h=>by simp at h⟩
 | (k,x)::r=>by
  obtain⟨i1,i2⟩:=zdP f v r
  rw[show zeN f v ((k,x)::r)=(if k=f then (k,v)::r else (k,x)::zeN f v r) from rfl]
  by_cases hk:k=f
  ·rw[if_pos hk]
   subst hk
   exact⟨by simp,fun g h=>by simpa using h⟩
  ·rw[if_neg hk]
   refine⟨?_,fun g h=>?_⟩
   ·rw[List.map_cons]
    exact List.mem_cons_of_mem _ i1
   ·rw[List.map_cons] at h ⊢
    rcases List.mem_cons.mp h with e|e
    ·exact List.mem_cons.mpr (.inl e)
    ·exact List.mem_cons_of_mem _ (i2 g e)
theorem zdQ(f:Str)(v:V):∀fs:List (Str×V),(zeN f v fs).length<=fs.length+1
 | []=>by simp[zeN]
 | (k,x)::r=>by
  have ih:=zdQ f v r
  rw[show zeN f v ((k,x)::r)=(if k=f then (k,v)::r else (k,x)::zeN f v r) from rfl]
  by_cases hk:k=f
  ·rw[if_pos hk,List.length_cons,List.length_cons];omega
  ·rw[if_neg hk,List.length_cons,List.length_cons];omega
theorem RelO.some_of{v:V}{o:Option Value}(r:RelO (some v) o):∃u,o=some u/\RelV v u:=by
 cases o with
 | none=>exact(show False from r).elim
 | some u=>exact⟨u,rfl,r⟩
theorem RelO.none_of{o:Option Value}(r:RelO none o):o=none:=by
 cases o with
 | none=>rfl
 | some u=>exact(show False from r).elim
theorem ziC{v:V}{u:Value}(r:RelV v u):PySem.W.handedIn u=true:=by
 cases v with
 | non=>cases (show u=Value.none from r);rfl
 | bl b=>cases (show u=Value.bool b from r);rfl
 | int i=>obtain⟨t,e⟩:=(show ∃t,u=Value.int i t from r);cases e;rfl
 | str x=>obtain⟨t,e⟩:=(show ∃t,u=Value.str x t from r);cases e;rfl
 | byt b=>obtain⟨t,e⟩:=(show ∃t,u=Value.bytes b t from r);cases e;rfl
 | flt b=>obtain⟨t,e⟩:=(show ∃t,u=Value.float b t from r);cases e;rfl
 | ref a=>cases (show u=Value.ref a from r);rfl
 | ty n=>cases (show u=Value.type n from r);rfl
section
variable {P:Program} {w:World} {H H':Hp} {h h':Heap} {a C dx:Addr} {fs fs':List (Str×V)}
theorem zf8(hok:HOk P w H h)(e:H a=some (.ins C dx fs)):∃mA,ObjM h a dx C mA/\(∀f,RelO (fs.lookup f) (mA f))/\PySem.Within mA (fs.map (·.1))/\fs.length<=1000/\H dx=some (.own a):=by
 obtain⟨d,z,ne,ob,mA,n,r,q⟩:=(show ObjOk P w H h a (.ins C dx fs) from hok a _ e)
 exact⟨mA,⟨ob,n,ne⟩,r,q,z,d⟩
end
structure Cls (K:PySem.W.Frag) (C:Addr):Prop where
 pg:PySem.W.plainGet K C Str.empty=true
 hd:PySem.W.hasDictIn K C=true
 po:PySem.W.plainOver K C=true
 sa:PySem.W.findIn K (.ref C) "__setattr__" = some (some (.builtin "object.__setattr__"))
theorem Cls.get{K:PySem.W.Frag}{C:Addr}(c:Cls K C)(f:Str):PySem.W.plainGet K C f=true:=c.pg
def NoAttr(K:PySem.W.Frag)(C:Addr)(f:Str):Prop:=PySem.W.findIn K (.ref C) f=some none
theorem NoAttr.taker{K:PySem.W.Frag}{C:Addr}{f:Str}(n:NoAttr K C f):PySem.W.takerIn K C f=some none:=by
 unfold PySem.W.takerIn
 rw[show PySem.W.findIn K (.ref C) f=some none from n]
 rfl
structure Meth (K:PySem.W.Frag) (C:Addr) (m:Str) (f:Addr):Prop where
 at_:PySem.W.findIn K (.ref C) m=some (some (.ref f))
 fn:PySem.W.isFn K (.ref f)=true
 kp:PySem.W.keepIn K (.ref f)=true
section
variable {X:Cx} {pins:List (Addr×Obj)} {σ:St} {H:Hp} {s:Shared} {a C dx:Addr} {fs:List (Str×V)} {f:Str} {v:V} {A:Around} {E:Value->Shared->Prop}
theorem zhz{b:Bool}{Q:Value->Shared->Prop}(I:Inv X pins σ H s)(e:H a=some (.ins C dx fs))(c:Cls X.K C)(n:NoAttr X.K C f)(l:fs.lookup f=some v)(h:∀u s',Inv X pins σ H s'->RelV v u->Q u s'):wpAny (model X.prog X.w) A (getAttr (.ref a) f b) Q E s:=by
 obtain⟨mA,O,r,_,_,_⟩:=zf8 I.hok e
 obtain⟨u,hu,ru⟩:=RelO.some_of (v:=v) (o:=mA f) (by rw[<- l];exact r f)
 exact zmq I.kIn O (c.get f) c.hd n hu (ziC ru) (h u _ (I.tok _) ru)
theorem zhA{m:Str}{g:Addr}{pl:Sem Bool}{Q:Value×List Value->Shared->Prop}(I:Inv X pins σ H s)(e:H a=some (.ins C dx fs))(c:Cls X.K C)(k:Meth X.K C m g)(l:fs.lookup m=none)(h:Q (.ref g,[.ref a]) s):wpAny (model X.prog X.w) A (getMethod (.ref a) m pl) Q E s:=by
 obtain⟨mA,O,r,_,_,_⟩:=zf8 I.hok e
 have hn:mA m=none:=RelO.none_of (by rw[<- l];exact r m)
 exact zkv I.kIn O (c.get m) k.at_ k.fn hn h
theorem zhB{y:V}{u:Value}{Q:Unit->Shared->Prop}(I:Inv X pins σ H s)(e:H a=some (.ins C dx fs))(c:Cls X.K C)(n:NoAttr X.K C f)(hl:fs.length<1000)(ry:RelV y u)(h:∀s',Inv X pins σ (upd H a (.ins C dx (zeN f y fs))) s'->Q () s'):wpAny (model X.prog X.w) A (setAttr (.ref a) f u) Q E s:=by
 obtain⟨mA,O,r,wi,_,ho⟩:=zf8 I.hok e
 have hz:(fs.map (·.1)).length<=sizeLine:=by rw[List.length_map,sizeLine_eq];omega
 refine zmr I.kIn O c.sa c.po n.taker c.hd wi hz fun h' O' sb=>h _ ?_
 have hd:∃o,h'.get? dx=some o:=let ⟨o,_,_,e',_⟩:=O'.ns;⟨o,e'⟩
 refine I.write (x:=a) (e:=dx) (by rw[e];exact True.intro) (.inr ho) (fun b q hb z=>(sb.2 b hb).trans z) hd ?_
 refine⟨by rw[zaz O.ne];exact ho,?_,O.ne,O'.obj,_,O'.ns,fun g=>?_,fun g hg=>?_⟩
 ·have:=zdQ f y fs;omega
 ·show RelO ((zeN f y fs).lookup g) (if g=f then some u else mA g)
  rw[zdO]
  by_cases q:g=f
  ·rw[if_pos q,if_pos q];exact ry
  ·rw[if_neg q,if_neg q];exact r g
 ·by_cases q:g=f
  ·rw[q];exact(zdP f y fs).1
  ·refine(zdP f y fs).2 g (wi g fun z=>hg ?_)
   show(if g=f then some u else mA g)=none
   rw[if_neg q];exact z
theorem Inv.made(I:Inv X pins σ H s):Inv X pins σ (upd (upd H s.heap.objs.size (.own (s.heap.objs.size+1))) (s.heap.objs.size+1) (.ins C s.heap.objs.size []))
  { s with heap:=(s.heap.push PySem.W.emptyDict).push (PySem.W.instObj C s.heap.objs.size) }:=by
 have e1:(s.heap.push PySem.W.emptyDict).get? s.heap.objs.size=some PySem.W.emptyDict:=Heap.get?_push_size s.heap rfl
 have e2:((s.heap.push PySem.W.emptyDict).push (PySem.W.instObj C s.heap.objs.size)).get? (s.heap.objs.size+1)=some (PySem.W.instObj C s.heap.objs.size):=by
  have:=Heap.get?_push_size (s.heap.push PySem.W.emptyDict) (o:=PySem.W.instObj C s.heap.objs.size) rfl
  rwa [Heap.size_push] at this
 have e3:(s.heap.push PySem.W.emptyDict).Ns s.heap.objs.size (fun _=>none):=⟨PySem.W.emptyDict,#[],_,e1,rfl,(fun e he=>absurd he (by simp)),fun _=>rfl⟩
 have I1:=I.laid (a:=s.heap.objs.size) (o:=.own (s.heap.objs.size+1)) (h':=s.heap.push PySem.W.emptyDict) (t':=s.toks) (fun b u q=>Heap.get?_push_of_some _ q) (Nat.le_refl _) ⟨_,e1⟩
 refine I1.laid (a:=s.heap.objs.size+1) (o:=.ins C s.heap.objs.size []) (t':=s.toks) (fun b u q=>Heap.get?_push_of_some _ q) (Nat.le_of_eq (Heap.size_push _ _)) ?_
 have ne:s.heap.objs.size≠s.heap.objs.size+1:=Nat.ne_of_lt (Nat.lt_succ_self _)
 refine⟨by rw[zaz ne,zaB],Nat.zero_le _,ne,e2,fun _=>none,(Heap.Ns1.of_empty e3).at fun o q=>Heap.get?_push_of_some _ q,fun _=>True.intro,fun y hy=>absurd rfl hy⟩
theorem zms{prog:Program}{w:World}{env:Env}{e:Expr}{f:Str}{pos:Pos}{s:Shared}{Q:Value->Shared->Prop}(hb:attributeBase e f env (eval e env)=eval e env)(h:wpAny (model prog w) A (eval e env) (fun o s₁=>wpAny (model prog w) A (getAttr o f true) Q E s₁) E s):wpAny (model prog w) A (eval (.Attribute e f pos) env) Q E s :=
 Attribute_any_ h (by rw[arm_eval_Attribute,hb])
end
def zsc(K:PySem.W.Frag)(ta:TE)(f:Str):TE:=fun σ H Q=>ta σ H fun x H1=>∃a C dx fs v,x=.ref a/\H1 a=some (.ins C dx fs)/\Cls K C/\NoAttr K C f/\fs.lookup f=some v/\Q v H1
def zsd(K:PySem.W.Frag)(ta tv:TE)(f:Str):TS:=fun D σ H=>tv σ H fun y H1=>ta σ H1 fun x H2=>∃a C dx fs,x=.ref a/\H2 a=some (.ins C dx fs)/\Cls K C/\NoAttr K C f/\fs.length<1000 /\
 D.nx σ (upd H2 a (.ins C dx (zeN f y fs)))
section
variable {X:Cx} {o e value:Expr} {f:Str} {pos pos' tpos:Pos} {ta tv:TE}
theorem zon(he:PE X e ta)(hb:attributeBase e f X.env (eval e X.env)=eval e X.env):PE X (.Attribute e f pos) (zsc X.K ta f):=by
 intro pins s σ H Q I h
 refine zms hb (thn (he pins s σ H _ I h) fun u s1 ⟨x,H1,I1,rx,a,C,dx,fs,v,ex,ea,c,n,l,q⟩=>?_)
 subst ex
 obtain rfl:u=Value.ref a:=rx
 exact zhz I1 ea c n l fun u' s2 I2 ru=>⟨v,H1,I2,ru,q⟩
theorem zoo(ha:PE X o ta)(hv:PE X value tv)(hs:swapsWith value (some (.Attribute o f pos')) pos.line X.env=pure false):PS X (.Assign [.Attribute o f pos'] value pos) (zsd X.K ta tv f):=by
 intro pins s σ H D I h
 refine plainObj_wpAny_Assign_Attribute (thn (hv pins s σ H _ I h) fun u s1 ⟨y,H1,I1,ry,q⟩=>thn (ha pins s1 σ H1 _ I1 q) fun ov s2 ⟨x,H2,I2,rx,a,C,dx,fs,ex,ea,c,n,l,q2⟩=>?_) hs
 subst ex
 obtain rfl:ov=Value.ref a:=rx
 exact zhB I2 ea c n l ry fun s3 I3=>⟨σ,_,I3,q2⟩
end
section
variable {X:Cx} {pins:List (Addr×Obj)} {σ:St} {H:Hp} {s:Shared} {A:Around} {E:Value->Shared->Prop} {Q:Value->Shared->Prop} {c:Value} {b:Bool}
end
end L2
namespace L2
open PySem PySem.Spec PyProof.Rows
structure Room (k:Nat) (A:Around):Prop where
 hd:A.handled=none
 dp:A.depth+3*k+5<recursionLimit
 un:A.units+16*k+200<cLine
theorem Room.mono{j k:Nat}{A:Around}(r:Room k A)(h:j<=k):Room j A:=⟨r.hd,by have:=r.dp;omega,by have:=r.un;omega⟩
theorem Room.deeper{k:Nat}{A:Around}(r:Room (k+1) A)(env:Env):Room k (A.deeper env) :=
 ⟨r.hd,by have:=r.dp;show A.depth+1+3*k+5<_;omega,by have:=r.un;show A.units+3+16*k+200<_;omega⟩
theorem zhC{A:Around}{C:Addr}{us:List Value}{kw:List (Str×Value)}:(A.under (.builtin "type.__call__" ⟨.ref C::us,kw⟩)).depth=A.depth+1:=by
 first|rfl|simp[Around.under,Code.weight,Code.isCreation,Code.isGuard,Code.isCaller,Code.frames,Code.isFrame,guardIds]
theorem zhD{A:Around}{C:Addr}{us:List Value}{kw:List (Str×Value)}:(A.under (.builtin "type.__call__" ⟨.ref C::us,kw⟩)).units=A.units+1:=by
 first|rfl|simp[Around.under,Code.cUnits,Code.frames,Code.isFrame]
theorem Room.make{k:Nat}{A:Around}(r:Room (k+1) A)(C:Addr)(us:List Value)(kw:List (Str×Value)):Room k (A.under (.builtin "type.__call__" ⟨.ref C::us,kw⟩)) :=
 ⟨r.hd,by have:=r.dp;rw[zhC];omega,by have:=r.un;rw[zhD];omega⟩
theorem Room.depth{k:Nat}{A:Around}(r:Room k A):A.depth<recursionLimit:=by have:=r.dp;omega
theorem Room.units{k:Nat}{A:Around}(r:Room k A):A.units+64<cLine:=by have:=r.un;omega
def zse:TA:=fun _ H Q=>Q [] H
def zqr(ta:TE)(tr:TA):TA:=fun σ H Q=>ta σ H fun x H1=>tr σ H1 fun xs H2=>Q (x::xs) H2
section
variable {X:Cx} {e:Expr} {es:List Expr} {te:TE} {t:TA} {pos:Pos}
theorem zgG:PA X [] zse:=fun _ _ _ _ H Q I h=>Calls.spliced_nil ⟨[],H,I,.nil,h⟩
theorem zdR(ha:PE X e te)(hr:PA X es t)(hs:starEach (e::es) X.env=(false,eval e X.env)::starEach es X.env:=by rfl):PA X (e::es) (zqr te t):=by
 intro pos pins s σ H Q I h
 rw[hs]
 show wpAny _ _ (spliced ((false,eval e X.env)::backTo pos (starEach es X.env))) _ _ s
 refine Calls.spliced_cons (thn (ha pins s σ H _ I h) fun u s1 ⟨x,H1,I1,r1,q1⟩=>?_)
 exact thn (hr pos pins s1 σ H1 _ I1 q1) fun us s2 ⟨xs,H2,I2,r2,q2⟩=>⟨x::xs,H2,I2,.cons r1 r2,q2⟩
def zsf(t:TA):TE:=fun σ H Q=>t σ H fun xs H1=>xs.length<=sizeLine/\∀p,H1 p=none->Q (.ref p) (upd H1 p (.tup xs))
def zsg(t:TA):TE:=fun σ H Q=>t σ H fun xs H1=>xs.length<=sizeLine/\∀p,H1 p=none->Q (.ref p) (upd H1 p (.lst xs))
theorem zop{x1}(h:PA X es t):PE X (.Tuple es x1 pos) (zsf t):=by
 intro pins s σ H Q I hq
 refine wpAny_Tuple_spliced (thn (h pos pins s σ H _ I hq) fun us s1 ⟨xs,H1,I1,r,z,q⟩=>⟨by rw[<- r.length];exact z,?_⟩)
 have hf:H1 s1.heap.objs.size=none:=I1.hok.fresh (Nat.le_refl _)
 refine⟨.ref s1.heap.objs.size,upd H1 s1.heap.objs.size (.tup xs),I1.laid (t':=s1.toks) (fun b u e=>Heap.get?_push_of_some _ e) (Nat.le_refl _) ?_,rfl,q _ hf⟩
 exact⟨z,us,r,⟨_,Heap.get?_push_size _ rfl,rfl,⟨_,rfl⟩,rfl⟩⟩
theorem ziD(h:PA X es t):PE X (.List es pos) (zsg t):=by
 intro pins s σ H Q I hq
 refine wpAny_List_spliced (thn (h pos pins s σ H _ I hq) fun us s1 ⟨xs,H1,I1,r,z,q⟩=>⟨by rw[<- r.length];exact z,?_⟩)
 have hf:H1 s1.heap.objs.size=none:=I1.hok.fresh (Nat.le_refl _)
 refine⟨.ref s1.heap.objs.size,upd H1 s1.heap.objs.size (.lst xs),I1.laid (t':=s1.toks) (fun b u e=>Heap.get?_push_of_some _ e) (Nat.le_refl _) ?_,rfl,q _ hf⟩
 exact⟨z,us,0,r,Heap.get?_push_size _ rfl⟩
end
abbrev Sp:=List V->Hp->VK->XK->Prop
abbrev CXT:=List Env->Hp->Shared->XK->Value->Shared->Prop
structure Env0 (P:Program) (w:World) (K:PySem.W.Frag) (mg:Str->Option Value) (base:Heap) (A:Around) (outer:List Env) (s:Shared) (H:Hp):Prop where
 frames:A.frames=some outer
 mod:Mod K mg base
 bs:∀b o,base.get? b=some o->s.heap.get? b=some o/\H b=none
 bsz:base.objs.size<=s.heap.objs.size
 funs:s.heap.FunFrames base outer
 frf:∀b∈frs outer,H b=none
 hok:HOk P w H s.heap
 bare:AllBare s.gens
def CE(outer:List Env)(P:Program)(w:World)(H:Hp)(s:Shared)(Q:VK)(u:Value)(s':Shared):Prop :=
 ∃v H',s'.os=s.os/\AllBare s'.gens/\Un (frs outer) [] H H' s.heap s'.heap/\HOk P w H' s'.heap/\RelV v u/\Q v H'
def CR(CX:CXT)(outer:List Env)(P:Program)(w:World)(H:Hp)(s:Shared)(Q:VK)(E:XK)(r:Result)(s':Shared):Prop :=
 match r with
 | .ok (.ret u)=>CE outer P w H s Q u s'
 | .ok _=>False
 | .error e=>CX outer H s E e s'
structure FnOk (P:Program) (w:World) (K:PySem.W.Frag) (mg:Str->Option Value) (base:Heap) (CX:CXT) (k:Nat) (f:Addr) (fd:FuncData) (ps:List Str) (sp:Sp):Prop where
 len:∀vs H Q E,sp vs H Q E->vs.length=ps.length
 run:∀(A:Around) (outer:List Env) (s:Shared) (H:Hp) (args:Args) (us:List Value) (vs:List V) (Q:VK) (E:XK),Room k A->Env0 P w K mg base A outer s H->BindsTo s fd args (ps.zip us)->Vals vs us->sp vs H Q E ->
  codeAny (model P w) A (.call (.ref f) args) (CR CX outer P w H s Q E) s
theorem FnOk.imp{P:Program}{w:World}{K:PySem.W.Frag}{mg:Str->Option Value}{base:Heap}{CX:CXT}{k:Nat}{f:Addr}{fd:FuncData}{ps:List Str}{sp sp':Sp}(F:FnOk P w K mg base CX k f fd ps sp)(h:∀vs H Q E,sp' vs H Q E->sp vs H Q E):FnOk P w K mg base CX k f fd ps sp' :=
 ⟨fun vs H Q E q=>F.len vs H Q E (h _ _ _ _ q),fun A outer s H args us vs Q E hr he hb hv hs=>F.run A outer s H args us vs Q E hr he hb hv (h _ _ _ _ hs)⟩
theorem Env0.make{P:Program}{w:World}{K:PySem.W.Frag}{mg:Str->Option Value}{base:Heap}{A:Around}{outer:List Env}{s:Shared}{H:Hp}(e:Env0 P w K mg base A outer s H)(C:Addr)(us:List Value)(kw:List (Str×Value)) :
  Env0 P w K mg base (A.under (.builtin "type.__call__" ⟨.ref C::us,kw⟩)) outer s H:=⟨by first|exact e.frames|(simpa[Around.under,Code.envs,Code.isFrame,pushEnvs] using e.frames),e.mod,e.bs,e.bsz,e.funs,e.frf,e.hok,e.bare⟩
section
variable {X:Cx} {pins:List (Addr×Obj)} {σ:St} {H:Hp} {s s':Shared}
theorem Inv.env0(I:Inv X pins σ H s):Env0 X.prog X.w X.K X.mg X.base X.A X.stack s H :=
 ⟨I.ok.frames,I.ok.mod,I.bs,Nat.le_trans I.ok.bsz I.sz,I.stack,I.stkFree,I.hok,I.bare⟩
theorem Inv.after{Q:VK}{u:Value}(I:Inv X pins σ H s)(h:CE X.stack X.prog X.w H s Q u s'):EP X pins σ Q u s':=by
 obtain⟨v,H',os,bare,un,hok,r,q⟩:=h
 obtain⟨hh,g,d,t,os'⟩:=s'
 obtain rfl:os'=s.os:=os
 exact⟨v,H',I.call (h':=hh) (g':=g) (d':=d) (t':=t) (ch:=[]) un hok bare (fun b z=>absurd z (by simp)),r,q⟩
end
def zqs(sp:Sp)(dvs:List V)(E:XK)(t:TA):TE:=fun σ H Q=>t σ H fun vs H1=>sp (vs++dvs) H1 Q E
def zqt(C:Addr)(m:Str)(sp:Sp)(dvs:List V)(E:XK)(ta:TE)(t:TA):TE:=fun σ H Q=>ta σ H fun x H1=>∃a dx fs,x=.ref a/\H1 a=some (.ins C dx fs)/\fs.lookup m=none /\
 t σ H1 fun vs H2=>sp (x::(vs++dvs)) H2 Q E
def zqu(C:Addr)(sp:Sp)(dvs:List V)(E:XK)(t:TA):TE:=fun σ H Q=>t σ H fun vs H1=>∀x dx,H1 x=none->H1 dx=none->dx≠x ->
 sp (.ref x::(vs++dvs)) (upd (upd H1 dx (.own x)) x (.ins C dx [])) (fun v H2=>v=.non/\Q (.ref x) H2) E
def Binds(K:PySem.W.Frag)(fd:FuncData)(ps:List Str)(ds:List Value):Prop :=
 ∀(s:Shared) (us:List Value),K.In s.heap->(us++ds).length=ps.length->BindsTo s fd ⟨us,[]⟩ (ps.zip (us++ds))
theorem Binds.all{K:PySem.W.Frag}{fd:FuncData}{ps:List Str}(h:∀us:List Value,us.length=ps.length->bindArgs fd ⟨us,[]⟩=pure (ps.zip us)):Binds K fd ps []:=fun s us _ hl=>by
 rw[List.append_nil] at hl ⊢
 exact .of_eq (h us hl)
def zcv(CX:CXT)(X:Cx)(E:XK):Prop:=∀(pins:List (Addr×Obj)) (σ:St) (H:Hp) (s:Shared) (e:Value) (s':Shared),Inv X pins σ H s->CX X.stack H s E e s'->X.xe e s'
section
variable {X:Cx} {CX:CXT} {k:Nat} {f C:Addr} {fd:FuncData} {ps:List Str} {sp:Sp} {dvs:List V} {ds:List Value} {E:XK} {x m:Str} {p pos apos:Pos} {e o:Expr} {es:List Expr} {ta:TE} {t:TA}
theorem zfm{pins:List (Addr×Obj)}{σ:St}{H:Hp}{s:Shared}{Q:VK}{us:List Value}{vs:List V}(F:FnOk X.prog X.w X.K X.mg X.base CX k f fd ps sp)(hr:Room k X.A)(hb:Binds X.K fd ps ds)(hd:Vals dvs ds)(hx:zcv CX X E)(I:Inv X pins σ H s)(r:Vals vs us)(h:sp (vs++dvs) H Q E):wpAny (model X.prog X.w) X.A (call (.ref f) us) (EP X pins σ Q) X.xe s:=by
 have r2:Vals (vs++dvs) (us++ds):=r.append hd
 have hl:(us++ds).length=ps.length:=by rw[<- r2.length];exact F.len _ _ _ _ h
 refine wpAny_call (codeAny_mono (F.run X.A X.stack s H ⟨us,[]⟩ (us++ds) (vs++dvs) Q E hr I.env0 (hb s us I.kIn hl) r2 h) fun r s' hq=>?_)
 cases r with
 | error e=>exact hx pins σ H s e s' I hq
 | ok fl =>
  cases fl with
  | ret u=>exact I.after hq
  | next=>exact False.elim hq
  | brk=>exact False.elim hq
  | cont=>exact False.elim hq
theorem zmt(F:FnOk X.prog X.w X.K X.mg X.base CX k f fd ps sp)(hr:Room k X.A)(hg:Gl X x)(hm:X.mg x=some (.ref f))(hk:PySem.W.keepIn X.K (.ref f)=true)(hb:Binds X.K fd ps ds)(hd:Vals dvs ds)(hx:zcv CX X E)(ha:PA X (e::es) t)(hdb:(x==("__debug__" : Str))=false:=by decide)(he:starEach (e::es) X.env=(false,eval e X.env)::starEach es X.env:=by rfl)(hpl:(backTo pos (starEach es X.env)).any (·.1)=false:=by rfl) :
  PE X (.Call (.Name x p) (e::es) [] pos) (zqs sp dvs E t):=by
 intro pins s σ H Q I h
 refine wpAny_Call_Name_kw (zbR I hg hm ?_ hdb)
 refine PySem.W.callWith_K (h₀:=X.base) I.ok.mod.kin hk (thn (ha pos pins s σ H _ I h) fun us s1 ⟨vs,H1,I1,r,q⟩=>⟨I1.kIn,?_⟩) he hpl
 exact zfm F hr hb hd hx I1 r q
theorem zmu{pl:Sem Bool}(he:PE X o ta)(c:Cls X.K C)(hm:Meth X.K C m f)(F:FnOk X.prog X.w X.K X.mg X.base CX k f fd ps sp)(hr:Room k X.A)(hb:Binds X.K fd ps ds)(hd:Vals dvs ds)(hx:zcv CX X E)(ha:PA X (e::es) t)(hst:starEach (e::es) X.env=(false,eval e X.env)::starEach es X.env:=by rfl)(hpl:(backTo pos (starEach es X.env)).any (·.1)=false:=by rfl)(ht:eval (.Call (.Attribute o m apos) (e::es) [] pos) X.env=(do
   let ov <- eval o X.env
   standAt apos.atName
   let (f,first) <- holding [ov] (getMethod ov m pl)
   callWith pos f first (backTo pos (starEach (e::es) X.env)) (backToKw pos (keywordEach [] X.env))):=by rfl) :
  PE X (.Call (.Attribute o m apos) (e::es) [] pos) (zqt C m sp dvs E ta t):=by
 intro pins s σ H Q I h
 refine PySem.W.methodCall_KW (pl:=pl) (thn (he pins s σ H _ I h) fun u s1 ⟨x,H1,I1,rx,a,dx,fs,ex,ea,l,q⟩=>?_) ht
 subst ex
 obtain rfl:u=Value.ref a:=rx
 refine zhA I1 ea c hm l ?_
 refine PySem.W.callWith_K (first:=[.ref a]) (h₀:=X.base) I.ok.mod.kin hm.kp (thn (ha pos pins s1 σ H1 _ I1 q) fun us s2 ⟨vs,H2,I2,r,q2⟩=>⟨I2.kIn,?_⟩) hst hpl
 exact zfm (us:=.ref a::us) (vs:=.ref a::vs) F hr hb hd hx I2 (.cons rfl r) q2
structure Mk (K:PySem.W.Frag) (C f:Addr):Prop where
 makes:PySem.W.makesIn K C=true
 init:PySem.W.findIn K (.ref C) "__init__" = some (some (.ref f))
 fn:PySem.W.isFn K (.ref f)=true
 kp:PySem.W.keepIn K (.ref C)=true
theorem zkx{pins:List (Addr×Obj)}{σ:St}{H:Hp}{s:Shared}{Q:VK}{us:List Value}{vs:List V}(M:Mk X.K C f)(F:FnOk X.prog X.w X.K X.mg X.base CX k f fd ps sp)(hr:Room (k+1) X.A)(hb:Binds X.K fd ps ds)(hd:Vals dvs ds)(hx:zcv CX X E)(I:Inv X pins σ H s)(r:Vals vs us)(h:∀x dx,H x=none->H dx=none->dx≠x->sp (.ref x::(vs++dvs)) (upd (upd H dx (.own x)) x (.ins C dx [])) (fun v H2=>v=.non/\Q (.ref x) H2) E) :
  wpAny (model X.prog X.w) X.A (call (.ref C) us) (EP X pins σ Q) X.xe s:=by
 have hq:=h (s.heap.objs.size+1) s.heap.objs.size (I.hok.fresh (Nat.le_succ _)) (I.hok.fresh (Nat.le_refl _)) (Nat.ne_of_lt (Nat.lt_succ_self _))
 have I2:=Inv.made (C:=C) I
 have r2:Vals (V.ref (s.heap.objs.size+1)::(vs++dvs)) (Value.ref (s.heap.objs.size+1)::(us++ds)):=.cons rfl (r.append hd)
 have hl:(Value.ref (s.heap.objs.size+1)::us++ds).length=ps.length:=by
  have e:=r2.length
  rw[F.len _ _ _ _ hq] at e
  exact e.symm
 refine wpAny_call (zkw (f:=f) I.kIn M.makes M.init (beq_iff_eq.mp M.fn) (codeAny_mono (F.run _ X.stack _ _ ⟨Value.ref (s.heap.objs.size+1)::us,[]⟩ (Value.ref (s.heap.objs.size+1)::(us++ds)) _ _ E (hr.make C us [])
  (I2.env0.make C us []) (hb _ (Value.ref (s.heap.objs.size+1)::us) I2.kIn hl) r2 hq) fun r s' hq'=>?_))
 cases r with
 | error e=>exact hx pins σ _ _ e s' I2 hq'
 | ok fl =>
  cases fl with
  | ret u =>
   obtain⟨v,H',I3,rv,ev,q3⟩:=I2.after hq'
   subst ev
   exact⟨rv,⟨V.ref (s.heap.objs.size+1),H',I3,rfl,q3⟩⟩
  | next=>exact False.elim hq'
  | brk=>exact False.elim hq'
  | cont=>exact False.elim hq'
theorem zmv(M:Mk X.K C f)(F:FnOk X.prog X.w X.K X.mg X.base CX k f fd ps sp)(hr:Room (k+1) X.A)(hg:Gl X x)(hm:X.mg x=some (.ref C))(hb:Binds X.K fd ps ds)(hd:Vals dvs ds)(hx:zcv CX X E)(ha:PA X (e::es) t)(hdb:(x==("__debug__" : Str))=false:=by decide)(he:starEach (e::es) X.env=(false,eval e X.env)::starEach es X.env:=by rfl)(hpl:(backTo pos (starEach es X.env)).any (·.1)=false:=by rfl) :
  PE X (.Call (.Name x p) (e::es) [] pos) (zqu C sp dvs E t):=by
 intro pins s σ H Q I h
 refine wpAny_Call_Name_kw (zbR I hg hm ?_ hdb)
 refine PySem.W.callWith_K (h₀:=X.base) I.ok.mod.kin M.kp (thn (ha pos pins s σ H _ I h) fun us s1 ⟨vs,H1,I1,r,q⟩=>⟨I1.kIn,?_⟩) he hpl
 exact zkx M F hr hb hd hx I1 r q
end
section
variable {X:Cx} {CX:CXT} {k:Nat} {f C:Addr} {fd:FuncData} {ps ks:List Str} {sp:Sp} {E:XK} {x m:Str} {p pos apos kpos:Pos} {e o:Expr} {es:List Expr} {kws:List Keyword} {te ta:TE} {t tk:TA} {nm:Option Str}
variable {g:List Value->List Value->List Value} {gV:List V->List V->List V}
end
structure FnScope (N P:List Str) (sc:Scope):Prop where
 kind:sc.kind=.function
 co:sc.isCoroutine=false
 gen:sc.isGenerator=false
 nd:N.Nodup
 pre:N.take P.length=P
 par:∀x∈P,sc.names.lookup x=some .local\/sc.names.lookup x=some .cell
 nofree:∀y∈sc.names,y.2≠.free
theorem zfn{kindOf:Str->Option NameKind}{x:Str}:∀{binds:List (Str×Value)} {m:Str->Option Value},(∀v,(x,v)∉binds)->bindL kindOf binds m x=m x
 | [],_,_=>rfl
 | (n,v)::r,m,h=>by
  unfold bindL
  rw[zfn fun w hw=>h w (List.mem_cons_of_mem _ hw)]
  split
  ·have:x≠n:=by rintro rfl;exact h v List.mem_cons_self
   simp[this]
  ·rfl
theorem zfo{kindOf:Str->Option NameKind}{x:Str}:∀{binds:List (Str×Value)} {m:Str->Option Value},(∀v,(x,v)∉binds)->bindC kindOf binds m x=m x
 | [],_,_=>rfl
 | (n,v)::r,m,h=>by
  unfold bindC
  rw[zfo fun w hw=>h w (List.mem_cons_of_mem _ hw)]
  split
  ·rfl
  ·have:x≠n:=by rintro rfl;exact h v List.mem_cons_self
   simp[this]
theorem zfp{kindOf:Str->Option NameKind}{x:Str}{v:Value}:∀{P:List Str} {vs:List Value} {i:Nat} {m:Str->Option Value},P.Nodup->P[i]?=some x->vs[i]?=some v->kindOf x=some .local ->
  bindL kindOf (P.zip vs) m x=some v
 | [],_,_,_,_,h,_,_=>by simp at h
 | _::_,[],_,_,_,_,h,_=>by simp at h
 | p::P,w::vs,0,m,nd,h1,h2,hk=>by
  simp at h1 h2;subst h1;subst h2
  show bindL kindOf ((p,w)::P.zip vs) m p=_
  unfold bindL
  rw[zfn fun v hv=>(List.nodup_cons.mp nd).1 (List.of_mem_zip hv).1,if_pos hk]
  simp
 | p::P,w::vs,i+1,m,nd,h1,h2,hk=>by
  show bindL kindOf ((p,w)::P.zip vs) m x=_
  unfold bindL
  exact zfp (i:=i) (List.nodup_cons.mp nd).2 (by simpa using h1) (by simpa using h2) hk
theorem zfq{kindOf:Str->Option NameKind}{x:Str}{v:Value}:∀{P:List Str} {vs:List Value} {i:Nat} {m:Str->Option Value},P.Nodup->P[i]?=some x->vs[i]?=some v->kindOf x≠some .local ->
  bindC kindOf (P.zip vs) m x=some v
 | [],_,_,_,_,h,_,_=>by simp at h
 | _::_,[],_,_,_,_,h,_=>by simp at h
 | p::P,w::vs,0,m,nd,h1,h2,hk=>by
  simp at h1 h2;subst h1;subst h2
  show bindC kindOf ((p,w)::P.zip vs) m p=_
  unfold bindC
  rw[zfo fun v hv=>(List.nodup_cons.mp nd).1 (List.of_mem_zip hv).1,if_neg hk]
  simp
 | p::P,w::vs,i+1,m,nd,h1,h2,hk=>by
  show bindC kindOf ((p,w)::P.zip vs) m x=_
  unfold bindC
  exact zfq (i:=i) (List.nodup_cons.mp nd).2 (by simpa using h1) (by simpa using h2) hk
def start(N:List Str)(vs:List V):St:=vs.map some++List.replicate (N.length-vs.length) none
def zim(CX:CXT)(P:Program)(w:World)(K:PySem.W.Frag)(mg:Str->Option Value)(base:Heap)(N:List Str)(qual:Str)(scope:Scope)(f:Addr)(cd:Value)(A:Around)(outer:List Env)(s:Shared)(H:Hp)(E:XK):Cx where
 prog:=P
 w:=w
 K:=K
 mg:=mg
 base:=base
 A:=A.deeper (envOfC qual scope s.heap.objs.size f cd)
 N:=N
 s₀:=s
 H₀:=H
 env:=envOfC qual scope s.heap.objs.size f cd
 outer:=outer
 stack:=envOfC qual scope s.heap.objs.size f cd::outer
 ex:=[]
 calm:=true
 fn:=fun _=>true
 pn:=[]
 xe:=fun e s'=>wpAny (model P w) (A.deeper (envOfC qual scope s.heap.objs.size f cd)) (leaving (envOfC qual scope s.heap.objs.size f cd) e) (fun _ s''=>CX outer H s E e s'') (fun e' s''=>CX outer H s E e' s'') s'
theorem zgH{sc:Scope}{n:Nat}{x:Str}(h:sc.names.lookup x=some .cell):∃c,(cellsFrom n sc.names []).lookup x=some c:=by
 have q:=PySem.W.cellsFrom_some sc.names n [] (.inl h)
 exact Option.isSome_iff_exists.mp q
theorem ziE{CX:CXT}{P:Program}{w:World}{K:PySem.W.Frag}{mg:Str->Option Value}{base:Heap}{N ps:List Str}{qual:Str}{scope:Scope}{f:Addr}{cd:Value}{A:Around}{outer:List Env}{s s1:Shared}{H:Hp}{E:XK}{us:List Value}{vs:List V}(S:FnScope N ps scope)(hd:A.handled=none)(e0:Env0 P w K mg base A outer s H)(hl:vs.length=ps.length)(r:Vals vs us)(x:InCallC s s.heap.objs.size (bindL (envOfC qual scope s.heap.objs.size f cd).kindOf (ps.zip us) fun _=>none) (cellsFrom (s.heap.objs.size+1) scope.names []) (bindC (envOfC qual scope s.heap.objs.size f cd).kindOf (ps.zip us) fun _=>none) s1) :
  Inv (zim CX P w K mg base N qual scope f cd A outer s H E) [] (start N vs) H s1:=by
 have hpl:ps.length<=N.length:=by have:=congrArg List.length S.pre;rw[List.length_take] at this;omega
 obtain⟨h1,tk,rfl,hk⟩:=x.done
 have noA:∀b:Addr,b∉(zim CX P w K mg base N qual scope f cd A outer s H E).ex:=fun b z=>absurd (show b∈([]:List Addr) from z) (by simp)
 refine⟨⟨e0.mod,S.kind,rfl,rfl,Nat.le_refl _,fun y z c h1 h2=>?_,fun y hy=>?_,fun y c _ h=>?_,fun _=>hd,Around.frames_deeper e0.frames,.inr ⟨rfl,rfl⟩,fun b z=>absurd z (noA b),e0.bs,e0.bsz,fun b _ _=>noA b,fun b z=>absurd z (noA b),e0.funs,e0.frf⟩,
  rfl,e0.bare,Un.kept hk,⟨_,x.toInCall.ns,fun i y v h1 h2 h3=>?_⟩,fun y c h=>⟨_,x.cell y c h⟩,e0.hok.fresh (Nat.le_refl _),fun y c h=>?_,fun p hp=>absurd (show p∈([]:List (Addr×Obj)) from hp) (by simp),e0.hok.kept hk,?_⟩
 ·exact name_of_addr x.apart (PySem.mem_of_lookup h1) (PySem.mem_of_lookup h2)
 ·have hy:scope.names.lookup y=some .cell\/scope.names.lookup y=some .free:=hy
  rcases hy with hy|hy
  ·exact zgH hy
  ·exact absurd rfl (S.nofree _ (PySem.mem_of_lookup hy))
 ·exact Nat.le_of_lt (x.above y c (PySem.mem_of_lookup h))
 ·have hi:i<vs.length:=by
   unfold start at h2
   by_cases hi:i<vs.length
   ·exact hi
   ·rw[List.getElem?_append_right (by simpa using hi)] at h2
    rw[List.getElem?_replicate] at h2
    split at h2<;>cases h2
  have ha:vs[i]?=some v:=by
   unfold start at h2
   rw[List.getElem?_append_left (by simpa using hi),List.getElem?_map] at h2
   cases e:vs[i]? with
   | none=>rw[e] at h2;cases h2
   | some a=>rw[e] at h2;cases h2;rfl
  obtain⟨u,hu,rv⟩:=r.get ha
  have hp:ps[i]?=some y:=by
   rw[<- S.pre,List.getElem?_take_of_lt (by omega)];exact h1
  have ndP:ps.Nodup:=by rw[<- S.pre];exact S.nd.sublist (List.take_sublist _ _)
  refine⟨u,rv,?_⟩
  rcases S.par y (List.mem_of_getElem? hp) with k|k
  ·exact .inl ⟨k,zfp ndP hp hu k⟩
  ·obtain⟨c,e⟩:=zgH (n:=s.heap.objs.size+1) k
   refine .inr ⟨.inl k,c,e,?_⟩
   have q:=x.cell y c e
   rw[zfq ndP hp hu (by show scope.names.lookup y≠_;rw[k];decide)] at q
   exact q
 ·exact e0.hok.fresh (Nat.le_of_lt (x.above y c (PySem.mem_of_lookup h)))
 ·unfold start
  show _=N.length
  rw[List.length_append,List.length_map,List.length_replicate]
  omega
theorem zqv{CX:CXT}{P:Program}{w:World}{K:PySem.W.Frag}{mg:Str->Option Value}{base:Heap}{k:Nat}{f:Addr}{name qual:Str}{params:Arguments}{body:List Stmt}{scope:Scope}{dV kV doc pm cdv ct oc:Value}{an od:Option Addr}{osl:Array (Option Value)}{N ps:List Str}{sp:Sp}(lk:K.lookup f=some ⟨oc,od,.func (PySem.W.fnOf name qual params body scope dV kV doc pm an cdv ct),osl⟩)(hcd:PySem.W.codeIn K cdv qual=true)(S:FnScope N ps scope)(len:∀vs H Q E,sp vs H Q E->vs.length=ps.length)(hbody:∀(A:Around) (outer:List Env) (s:Shared) (H:Hp) (vs:List V) (Q:VK) (E:XK),Room k (A.deeper (envOfC qual scope s.heap.objs.size f cdv))->sp vs H Q E ->
   ∃t,PSs (zim CX P w K mg base N qual scope f cdv A outer s H E) body t/\t { nx:=fun _ H'=>Q .non H',rt:=Q } (start N vs) H) :
  FnOk P w K mg base CX (k+1) f (PySem.W.fnOf name qual params body scope dV kV doc pm an cdv ct) ps sp:=by
 refine⟨len,fun A outer s H args us vs Q E hr e0 hb r hsp=>?_⟩
 have hl:=len _ _ _ _ hsp
 have KX:K.In s.heap:=e0.mod.kin.keeps fun b o e=>(e0.bs b o e).1
 have lim:s.heap.NoLimit:=e0.mod.nolimit.keeps fun b o e=>(e0.bs b o e).1
 have hkind:∀y∈ps.zip us,scope.names.lookup y.1=some .local\/(scope.names.lookup y.1=some .cell/\((cellsFrom (s.heap.objs.size+1) scope.names []).lookup y.1).isSome=true):=fun⟨n,v⟩ hy=>by
  rcases S.par n (List.of_mem_zip hy).1 with q|q
  ·exact .inl q
  ·exact .inr ⟨q,PySem.W.cellsFrom_some _ _ _ (.inl q)⟩
 refine codeAny_call_function hr.depth (KX _ _ lk) rfl S.co S.gen rfl (PySem.W.codeRec_of KX hcd) (hb _ _ _ _ ?_)
 refine wpAny_newFunctionEnv_cells S.kind hkind fun env he s1 x=>?_
 subst he
 refine⟨lim.keeps x.toInCall.keep,codeAny_func ?_⟩
 obtain⟨t,ht,hq⟩:=hbody A outer s H vs Q E (hr.deeper _) hsp
 have I:Inv (zim CX P w K mg base N qual scope f cdv A outer s H E) [] (start N vs) H s1:=ziE S hr.hd e0 hl r x
 refine wpAny_mono (ht [] s1 (start N vs) H _ I hq) (fun fl s' hs=>?_) fun e s' hs=>hs
 have fin:∀{σ':St} {H':Hp} {v:V} {u:Value},Inv (zim CX P w K mg base N qual scope f cdv A outer s H E) [] σ' H' s'->RelV v u->Q v H'->CE outer P w H s Q u s' :=
  fun {σ' H' v u} J rv q=>⟨v,H',J.os,J.bare,J.base,J.hok,rv,q⟩
 cases fl with
 | ret u =>
  obtain⟨v,σ',H',J,rv,q⟩:=hs
  exact fin J rv q
 | next =>
  obtain⟨σ',H',J,q⟩:=hs
  exact fin (v:=V.non) (u:=Value.none) J rfl q
 | brk =>
  obtain⟨_,_,_,q⟩:=hs
  exact False.elim q
 | cont =>
  obtain⟨_,_,_,q⟩:=hs
  exact False.elim q
end L2
namespace L2
open PySem PySem.Spec PyProof.Rows
section
variable {X:Cx} {x:Str} {p pos:Pos} {e:Expr} {es:List Expr} {t:TA} {id T:String} {r:List V->Hp->VK->Prop}
def tCB(r:List V->Hp->VK->Prop)(t:TA):TE:=fun σ H Q=>t σ H fun vs H1=>r vs H1 Q
theorem zgI(hc:CallR X (.builtin id) r)(hg:Gl X x)(hm:X.mg x=none)(hv:bootBuiltins x=some (.builtin id))(ha:PA X (e::es) t)(hn:x ≠ "__name__" := by decide)(hdb:(x==("__debug__" : Str))=false:=by decide)(he:starEach (e::es) X.env=(false,eval e X.env)::starEach es X.env:=by rfl)(hpl:(backTo pos (starEach es X.env)).any (·.1)=false:=by rfl):PE X (.Call (.Name x p) (e::es) [] pos) (tCB r t):=by
 intro pins s σ H Q I h
 refine wpAny_Call_Name_kw (zer I hg hm hv ?_ hn hdb)
 exact PyProof.Rows.callWith_builtin1 (thn (ha pos pins s σ H _ I h) fun us s1 ⟨vs,H1,I1,r1,q1⟩=>hc pins s1 σ H1 vs us Q I1 r1 q1) he hpl
theorem zdS(hc:CallR X (.type T) r)(hg:Gl X x)(hm:X.mg x=none)(hv:bootBuiltins x=some (.type T))(ha:PA X (e::es) t)(hn:x ≠ "__name__" := by decide)(hdb:(x==("__debug__" : Str))=false:=by decide)(he:starEach (e::es) X.env=(false,eval e X.env)::starEach es X.env:=by rfl)(hpl:(backTo pos (starEach es X.env)).any (·.1)=false:=by rfl):PE X (.Call (.Name x p) (e::es) [] pos) (tCB r t):=by
 intro pins s σ H Q I h
 refine wpAny_Call_Name_kw (zer I hg hm hv ?_ hn hdb)
 exact PyProof.Rows.callWith_type1 (thn (ha pos pins s σ H _ I h) fun us s1 ⟨vs,H1,I1,r1,q1⟩=>hc pins s1 σ H1 vs us Q I1 r1 q1) he hpl
end
end L2
namespace HT
open PySem PyProof.Rows
section
open PySem.SeqAt
open PySem.AutoSeq1 (wpAny_loadPart')
open PySem.MeetsSeq PySem.MeetsSeq2 PySem.MeetsSeq3
end
section
variable {prog:Program} {w:World} {A:Around} {E:Value->Shared->Prop} {s:Shared}
theorem cat_tup{t b:Addr}{vs ws:List Value}{Q:Value->Shared->Prop}(ht:IsTup s.heap t vs.toArray)(hb:IsTup s.heap b ws.toArray)(hv:vs≠[])(h1:ws=[]->Q (.ref t) s)(h2:ws≠[]->Q (.ref s.heap.objs.size) { s with heap:=s.heap.push { cls:=.type "tuple",data:=.seq (vs++ws).toArray } })(hsz:vs.length+ws.length<=sizeLine):wpAny (model prog w) A (binaryOp .Add (.ref t) (.ref b)) Q E s:=by
 obtain⟨⟨cls,dd,data,sl⟩,ho,hc,n,hd⟩:=id ht
 obtain⟨⟨cls2,dd2,data2,sl2⟩,ho2,hc2,n2,hd2⟩:=id hb
 simp only at hc hd hc2 hd2
 subst hc hd hc2 hd2
 have e:vs.toArray++ws.toArray=(vs++ws).toArray:=by simp
 by_cases hw:ws=[]
 ·exact concat_meets ⟨_,ho,rfl⟩ ⟨_,ho2,rfl⟩ noFill_tuple_add seq_tuple_add PySem.F.slot_tuple_add PySem.F.entry_tuple_add (PySem.F.args_tuple_add_2 _ _)
   (tuple_addW1 t b vs.toArray ws.toArray n n2 dd dd2 sl sl2 (by simpa using hv) (by simp[hw])) ⟨ho,ho2,h1 hw⟩
 ·refine concat_meets ⟨_,ho,rfl⟩ ⟨_,ho2,rfl⟩ noFill_tuple_add seq_tuple_add PySem.F.slot_tuple_add PySem.F.entry_tuple_add (PySem.F.args_tuple_add_2 _ _)
   (tuple_addW2 t b vs.toArray ws.toArray n n2 dd dd2 sl sl2 (by simpa using hv) (by simpa using hw) (by rw[List.size_toArray,List.size_toArray];exact hsz)) ⟨ho,ho2,?_⟩
  rw[e]
  exact h2 hw
def sIx(n d:Nat):Option Int->Nat
 | none=>d
 | some v=>if v<0 then (v+(n:Int)).toNat else min v.toNat n
end
end HT
namespace L2
open PySem PySem.Spec PyProof.Rows
abbrev TO:=St->Hp->(Option Int->Hp->Prop)->Prop
def PO(X:Cx)(e:Option Expr)(t:TO):Prop :=
 ∀(pins:List (Addr×Obj)) (s:Shared) (σ:St) (H:Hp) (Q:Option Int->Hp->Prop),Inv X pins σ H s->t σ H Q ->
  wpAny (model X.prog X.w) X.A (evalPart e X.env) (fun u s'=>∃o H',Inv X pins σ H' s'/\IsPart u o/\Q o H') X.xe s
theorem zhE{ns:List Int}:∀{us:List Value},Vals (ns.map V.int) us->IntsAre us ns:=by
 induction ns with
 | nil=>intro us r;rw[List.map_nil] at r;cases r;exact .nil
 | cons n ns ih =>
  intro us r
  rw[List.map_cons] at r
  cases r with
  | cons r1 r2 =>
   obtain⟨t,e⟩:=r1
   subst e
   exact .cons n t (ih r2)
section
variable {X:Cx} {e:Expr} {te:TE} {lo hi:Option Expr} {tl th:TO} {pos p2:Pos}
def SlR(X:Cx)(r:V->Option Int->Option Int->Hp->VK->Prop):Prop :=
 ∀(pins:List (Addr×Obj)) (s:Shared) (σ:St) (H:Hp) (x:V) (v vl vu:Value) (lo hi:Option Int) (sl:Addr) (Q:VK),Inv X pins σ H s->RelV x v->s.heap.IsSliceOf sl vl vu .none->IsPart vl lo->IsPart vu hi->r x lo hi H Q ->
  ∃T id,typeLookup (.type T) "__getitem__" = pure (some (.builtin id))/\s.TypeIs v T/\wpAny (model X.prog X.w) X.A (getItem v (.ref sl)) (EP X pins σ Q) X.xe s
def zsh(xs:List V)(lo hi:Option Int):List V:=(xs.drop (HT.sIx xs.length 0 lo)).take (HT.sIx xs.length xs.length hi-HT.sIx xs.length 0 lo)
def zqw(K:PySem.W.Frag):R2:=fun x y H Q=>∃a b xs ys,x=.ref a/\y=.ref b/\SqT K H a xs/\SqT K H b ys/\xs≠[]/\xs.length+ys.length<=sizeLine /\
 (ys=[]->Q (.ref a) H)/\(ys≠[]->∀p,H p=none->Q (.ref p) (upd H p (.tup (xs++ys))))
theorem Vals.nil_iff{xs:List V}{us:List Value}(r:Vals xs us):us=[]↔xs=[]:=by
 cases r with
 | nil=>simp
 | cons _ _=>simp
theorem zmw:OpR X (binaryOp .Add) (zqw X.K):=by
 intro pins s σ H x y v u Q I rx ry h
 obtain⟨a,b,xs,ys,rfl,rfl,ha,hb,hx,hz,q1,q2⟩:=h
 cases rx
 cases ry
 obtain⟨its,r1,p1,_⟩:=I.tuple ha
 obtain⟨its2,r2,p2,_⟩:=I.tuple hb
 refine HT.cat_tup p1 p2 (fun z=>hx (r1.nil_iff.mp z)) (fun z=>⟨.ref a,H,I,rfl,q1 (r2.nil_iff.mp z)⟩) (fun z=>?_) (by rw[<- r1.length,<- r2.length];exact hz)
 refine⟨.ref s.heap.objs.size,_,I.laid (t':=s.toks) (o:=.tup (xs++ys)) (fun b ob q=>Heap.get?_push_of_some _ q) (Nat.le_refl _) ?_,rfl,q2 (fun w=>z (r2.nil_iff.mpr w)) _ (I.hok.fresh (Nat.le_refl _))⟩
 exact⟨by rw[List.length_append];exact hz,_,r1.append r2,TupN.new _ _⟩
end
end L2
namespace L2
open PySem PySem.Spec PyProof.Rows
def ixN(n:Nat)(i:Int):Option Nat:=if 0<=i then (if i<n then some i.toNat else none) else if -(n:Int)<=i then some (i+n).toNat else none
def atI{α:Type}(xs:List α)(i:Int):Option α:=(ixN xs.length i).bind fun j=>xs[j]?
theorem ziF{n:Nat}{i:Int}{j:Nat}(h:ixN n i=some j):seqIndex? i n=some j/\j<n/\-(n:Int)<=i/\i<n:=by
 unfold ixN at h
 by_cases h0:0<=i
 ·rw[if_pos h0] at h
  by_cases h1:i<n
  ·rw[if_pos h1] at h
   have e:i.toNat=j:=Option.some.inj h
   exact⟨by rw[seqIndex_of h0 h1,e],by omega,by omega,h1⟩
  ·rw[if_neg h1] at h;cases h
 ·rw[if_neg h0] at h
  by_cases h1:-(n:Int)<=i
  ·rw[if_pos h1] at h
   have e:(i+n).toNat=j:=Option.some.inj h
   exact⟨by rw[seqIndex_neg (by omega) h1,e],by omega,h1,by omega⟩
  ·rw[if_neg h1] at h;cases h
theorem ziG{α:Type}{xs:List α}{i:Int}{v:α}(h:atI xs i=some v):∃j,seqIndex? i xs.length=some j/\xs[j]?=some v/\j<xs.length/\-(xs.length:Int)<=i/\i<xs.length:=by
 unfold atI at h
 cases e:ixN xs.length i with
 | none=>rw[e] at h;cases h
 | some j =>
  rw[e] at h
  obtain⟨h1,h2,h3,h4⟩:=ziF e
  exact⟨j,h1,h,h2,h3,h4⟩
def ziH(b:Expr):Prop:=∀o i,subscripted b false o i=operate [o,i] (getItem o i)
def IxR(X:Cx)(r:R2):Prop :=
 ∀(value slice:Expr) (pins:List (Addr×Obj)) (s:Shared) (σ:St) (H:Hp) (x y:V) (v u:Value) (Q:VK),Inv X pins σ H s->RelV x v->RelV y u->r x y H Q ->
  subscripted slice false v u=operate [v,u] (getItem v u)->wpAny (model X.prog X.w) X.A (subscriptTail value slice v u) (EP X pins σ Q) X.xe s
def MtR(X:Cx)(id:String)(r:V->List V->Hp->VK->Prop):Prop :=
 ∀(pins:List (Addr×Obj)) (s:Shared) (σ:St) (H:Hp) (x:V) (xs:List V) (v:Value) (us:List Value) (Q:VK),Inv X pins σ H s->RelV x v->Vals xs us->r x xs H Q ->
  wpAny (model X.prog X.w) X.A (call (.builtin id) (v::us)) (EP X pins σ Q) X.xe s
section
variable {X:Cx} {a b:Expr} {ta tb:TE} {pos:Pos}
theorem IxR.or{r r':R2}(h:IxR X r)(h':IxR X r'):IxR X (fun x y H Q=>r x y H Q\/r' x y H Q):=by
 intro value slice pins s σ H x y v u Q I rx ry q hs
 rcases q with q|q
 ·exact h value slice pins s σ H x y v u Q I rx ry q hs
 ·exact h' value slice pins s σ H x y v u Q I rx ry q hs
theorem zqx{r:R2}(hr:IxR X r)(ha:PE X a ta)(hb:PE X b tb)(hs:ziH b):PE X (.Subscript a b pos) (tOp r ta tb):=by
 intro pins s σ H Q I h
 exact Subscript_ (zqi ha hb I h fun v u s2 x y H2 I2 rx ry q=>hr a b pins s2 σ H2 x y v u Q I2 rx ry q (hs _ _))
def zqy(K:PySem.W.Frag):R2:=fun x y H Q=>∃p xs i v,x=.ref p/\y=.int i/\SqL K H p xs/\atI xs i=some v/\Q v H
def zqz(K:PySem.W.Frag):R2:=fun x y H Q=>∃p xs i v,x=.ref p/\y=.int i/\SqT K H p xs/\atI xs i=some v/\Q v H
theorem zmx:IxR X (zqy X.K):=by
 intro value slice pins s σ H x y v u Q I rx ry h hs
 obtain⟨p,xs,i,z,rfl,rfl,hq,he,q⟩:=h
 cases rx
 obtain⟨t,rfl⟩:=ry
 obtain⟨its,r,pl,hz⟩:=I.list hq
 obtain⟨j,h1,h2,h3,h4,h5⟩:=ziG he
 obtain⟨w,ew,rw'⟩:=r.get h2
 have hl:=r.length
 have hn:=zfl
 have fin:EP X pins σ Q w s:=⟨z,H,I,rw',q⟩
 by_cases h0:0<=i
 ·have hj:i.toNat=j:=by
   rw[seqIndex_of h0 h5] at h1
   exact Option.some.inj h1
  exact item_listR pl.isList h0 (by omega) (by rw[hj];simpa using ew) fin hs
 ·have hj:(i+(its.toArray.size:Int)).toNat=j:=by
   rw[seqIndex_neg (by omega) h4] at h1
   rw[List.size_toArray,<- hl]
   exact Option.some.inj h1
  exact subscriptTail_builtinR (x:=w) pl.isList.typeIs slot_list_getitem.lookup
   (wpAny_getItem_list_neg (Q:=fun r s'=>r=w/\EP X pins σ Q r s') pl.isList (by omega) (by rw[List.size_toArray]<;>omega) (by omega) (by rw[hj];simpa using ew) ⟨rfl,fin⟩) hs
theorem zoq:IxR X (zqz X.K):=by
 intro value slice pins s σ H x y v u Q I rx ry h hs
 obtain⟨p,xs,i,z,rfl,rfl,hq,he,q⟩:=h
 cases rx
 obtain⟨t,rfl⟩:=ry
 obtain⟨its,r,pl,hz⟩:=I.tuple hq
 obtain⟨j,h1,h2,h3,h4,h5⟩:=ziG he
 obtain⟨w,ew,rw'⟩:=r.get h2
 have hl:=r.length
 have hn:=zfl
 have fin:EP X pins σ Q w s:=⟨z,H,I,rw',q⟩
 exact subscriptTail_builtinR (x:=w) pl.typeIs slot_tuple_getitem.lookup
  (getItem_tuple (j:=j) (Q:=fun r s'=>r=w/\EP X pins σ Q r s') pl (by omega) (by omega) (by rw[List.size_toArray,<- hl];exact h1) (by simpa using ew) ⟨rfl,fin⟩) hs
theorem zhF(its:List Value)(n j:Nat)(u:Value):Obj.mapSeq (·.setIfInBounds j u) { cls:=.type "list",data:=.seq its.toArray n }={ cls:=.type "list",data:=.seq (its.set j u).toArray n }:=by
 simp[Obj.mapSeq]
theorem Inv.lst{pins:List (Addr×Obj)}{σ:St}{H:Hp}{s:Shared}{p:Addr}{xs:List V}(I:Inv X pins σ H s)(h:H p=some (.lst xs)) :
  ∃(its:List Value) (n:Nat),Vals xs its/\s.heap.get? p=some { cls:=.type "list",data:=.seq its.toArray n }/\xs.length<=sizeLine:=by
 obtain⟨z,its,n,r,e⟩:=I.hok p _ h
 exact⟨its,n,r,e,z⟩
theorem Inv.lstUpd{pins:List (Addr×Obj)}{σ:St}{H:Hp}{s:Shared}{p:Addr}{xs ys:List V}{its its':List Value}{n n':Nat}{f:Obj->Obj}(I:Inv X pins σ H s)(h:H p=some (.lst xs))(ho:s.heap.get? p=some { cls:=.type "list",data:=.seq its.toArray n })(hf:f { cls:=.type "list",data:=.seq its.toArray n }={ cls:=.type "list",data:=.seq its'.toArray n' })(r:Vals ys its')(hz:ys.length<=sizeLine)(t:Nat) :
  Inv X pins σ (upd H p (.lst ys)) { s with heap:=s.heap.update p f,toks:=t }:=by
 have e:(s.heap.update p f).get? p=some { cls:=.type "list",data:=.seq its'.toArray n' }:=by
  rw[Heap.get?_update_self f ho (by rw[hf]<;>rfl),hf]
 refine I.write (x:=p) (e:=p) (by rw[h];trivial) (.inl rfl) (fun b u hb q=>(Heap.get?_update_other _ _ (Ne.symm hb)).trans q) ⟨_,e⟩ ?_
 exact⟨hz,its',n',r,e⟩
def zqA:V->V->V->Hp->(Hp->Prop)->Prop:=fun o i v H Q=>∃p xs k j,o=.ref p/\i=.int k/\H p=some (.lst xs)/\ixN xs.length k=some j/\Q (upd H p (.lst (xs.set j v)))
theorem zky:zrk X zqA:=by
 intro pins s σ H o i v ov iv u Q I ro ri rv h
 obtain⟨p,xs,k,j,rfl,rfl,hp,hj,q⟩:=h
 cases ro
 obtain⟨t,rfl⟩:=ri
 obtain⟨its,n,r,ho,hz⟩:=I.lst hp
 obtain⟨h1,h2,h3,h4⟩:=ziF hj
 have hl:=r.length
 have hn:=zfl
 have I':Inv X pins σ (upd H p (.lst (xs.set j v))) { s with heap:=s.heap.update p (Obj.mapSeq (·.setIfInBounds j u)) } :=
  I.lstUpd hp ho (zhF its n j u) (r.set rv j) (by rw[List.length_set];exact hz) s.toks
 by_cases h0:0<=k
 ·have hk:k.toNat=j:=by
   rw[seqIndex_of h0 h4] at h1
   exact Option.some.inj h1
  exact PySem.W.ki_setAt ho h0 (by omega) (by rw[List.size_toArray,<- hl];exact h4) (by rw[hk];exact⟨_,I',q⟩)
 ·have hk:(k+(its.toArray.size:Int)).toNat=j:=by
   rw[seqIndex_neg (by omega) h3] at h1
   rw[List.size_toArray,<- hl]
   exact Option.some.inj h1
  exact PySem.W.ki_setBack ho (by omega) (by rw[List.size_toArray,<- hl];exact h3) (by omega) (by rw[hk];exact⟨_,I',q⟩)
def zsA(K:PySem.W.Frag):V->Option Int->Option Int->Hp->VK->Prop:=fun x lo hi H Q=>∃a xs,x=.ref a/\SqL K H a xs/\∀p,H p=none->Q (.ref p) (upd H p (.lst (zsh xs lo hi)))
theorem zfr:CallR X (.type "list") (fun xs H Q=>∃p ys,xs=[.ref p]/\(SqL X.K H p ys\/SqT X.K H p ys)/\∀l,H l=none->Q (.ref l) (upd H l (.lst ys))):=by
 intro pins s σ H xs us Q I r h
 obtain⟨p,ys,rfl,hq,q⟩:=h
 obtain⟨u,rfl,rx⟩:=zdN r
 cases rx
 have fin:∀(its:List Value),Vals ys its->ys.length<=sizeLine->∀(h':Heap) (c':Nat),(∀b o',s.heap.get? b=some o'->h'.get? b=some o') ->
   h'.get? s.heap.objs.size=some { cls:=.type "list",dict:=none,data:=.seq its.toArray c',slots:=#[] }->EP X pins σ Q (.ref s.heap.objs.size) { s with heap:=h' }:=fun its r' hz h' c' kp e =>
  ⟨.ref s.heap.objs.size,_,I.laid (t':=s.toks) kp (Nat.le_refl _) (show ObjOk X.prog X.w _ h' _ (.lst ys) from⟨hz,its,c',r',e⟩),rfl,q _ (I.hok.fresh (Nat.le_refl _))⟩
 rcases hq with hq|hq
 ·obtain⟨its,r',pl,hz⟩:=I.list hq
  have hlen:=r'.length
  obtain⟨o,ho,hc,n,hd⟩:=pl.isList
  exact call_list_seq p (.inl rfl) ho hc hd (fun h' c' kp e=>fin its r' hz h' c' kp e) (by simp only[List.size_toArray]<;>omega)
 ·obtain⟨its,r',pl,hz⟩:=I.tuple hq
  have hlen:=r'.length
  obtain⟨o,ho,hc,n,hd⟩:=pl
  exact call_list_seq p (.inr rfl) ho hc hd (fun h' c' kp e=>fin its r' hz h' c' kp e) (by simp only[List.size_toArray]<;>omega)
theorem zeO:CallR X (.type "tuple") (fun xs H Q=>∃p ys,xs=[.ref p]/\((SqL X.K H p ys/\∀l,H l=none->Q (.ref l) (upd H l (.tup ys)))\/(SqT X.K H p ys/\Q (.ref p) H))):=by
 intro pins s σ H xs us Q I r h
 obtain⟨p,ys,rfl,h⟩:=h
 obtain⟨u,rfl,rx⟩:=zdN r
 cases rx
 rcases h with ⟨hq,q⟩|⟨hq,q⟩
 ·obtain⟨its,r',pl,hz⟩:=I.list hq
  have hlen:=r'.length
  refine call_tuple_list pl.isList (fun h' kp=>?_) (by simp only[List.size_toArray]<;>omega)
  have I1:Inv X pins σ H { s with heap:=h' }:=I.kept (t':=s.toks) kp
  have I2:Inv X pins σ (upd H h'.objs.size (.tup ys)) { s with heap:=h'.push { cls:=.type "tuple",data:=.seq its.toArray } } :=
   I1.laid (t':=s.toks) (fun b o e=>Heap.get?_push_of_some _ e) (Nat.le_refl _) (show ObjOk X.prog X.w _ _ _ (.tup ys) from⟨hz,its,r',TupN.new _ _⟩)
  exact⟨.ref h'.objs.size,_,I2,rfl,q _ (I1.hok.fresh (Nat.le_refl _))⟩
 ·obtain⟨its,r',pl,hz⟩:=I.tuple hq
  exact call_tuple_same pl ⟨.ref p,H,I,rfl,q⟩
def tyV(K:PySem.W.Frag)(T:String)(x:V)(H:Hp):Prop:=match x with
 | .str _=>T = "str"
 | .int _=>T = "int"
 | .ref p=>(T = "list" /\ ∃xs,SqL K H p xs)\/(T = "tuple" /\ ∃o,K.lookup p=some o/\o.cls=.type "tuple" /\ o.dict=none) \/
   (T = "dict" /\ ((∃kvs,H p=some (.dK kvs))\/∃kvs,H p=some (.dT kvs)))\/(T = "set" /\ ∃S n,H p=some (.set S n))
 | _=>False
theorem zlu{pins:List (Addr×Obj)}{σ:St}{H:Hp}{s:Shared}{T:String}{x:V}{v:Value}(I:Inv X pins σ H s)(r:RelV x v)(ty:tyV X.K T x H) :
  s.TypeIs v T/\∀a,v=.ref a->∃ob,s.heap.get? a=some ob/\ob.dict=none:=by
 cases x with
 | str z =>
  obtain⟨t,rfl⟩:=r
  cases (show T = "str" from ty)
  exact⟨typeIs_str s z t,fun _ e=>nomatch e⟩
 | int i =>
  obtain⟨t,rfl⟩:=r
  cases (show T = "int" from ty)
  exact⟨typeIs_int s i t,fun _ e=>nomatch e⟩
 | ref p =>
  cases r
  rcases ty with ⟨rfl,xs,hq⟩|⟨rfl,o,hk,hc,hd⟩|⟨rfl,hk⟩|⟨rfl,S,n,hk⟩
  ·obtain⟨its,_,pl,_⟩:=I.list hq
   refine⟨pl.isList.typeIs,fun a e=>?_⟩
   cases e
   obtain⟨o,n,e,c,hd,_⟩:=pl
   exact⟨o,e,hd⟩
  ·refine⟨⟨o,I.kIn p o hk,hc⟩,fun a e=>?_⟩
   cases e
   exact⟨o,I.kIn _ o hk,hd⟩
  ·have z:∃o,s.heap.get? p=some o/\o.ExactDict:=by
    rcases hk with ⟨kvs,hk⟩|⟨kvs,hk⟩
    ·obtain⟨_,_,_,_,o,_,_,e,ex,_⟩:=I.hok p _ hk
     exact⟨o,e,ex⟩
    ·obtain⟨_,_,_,_,o,_,_,e,ex,_⟩:=I.hok p _ hk
     exact⟨o,e,ex⟩
   obtain⟨o,e,ex⟩:=z
   refine⟨⟨o,e,ex.1⟩,fun a e2=>?_⟩
   cases e2
   exact⟨o,e,ex.2.1⟩
  ·obtain⟨o,_,_,_,e,ex,_⟩:=I.hok p _ hk
   refine⟨⟨o,e,ex.1⟩,fun a e2=>?_⟩
   cases e2
   exact⟨o,e,ex.2.1⟩
 | _=>exact False.elim ty
def zsi(K:PySem.W.Frag)(T:String)(r:V->List V->Hp->VK->Prop)(to:TE):TE:=fun σ H Q=>to σ H fun x H1=>tyV K T x H1/\r x [] H1 Q
def tBM(K:PySem.W.Frag)(T:String)(r:V->List V->Hp->VK->Prop)(to:TE)(t:TA):TE:=fun σ H Q=>to σ H fun x H1=>tyV K T x H1/\t σ H1 fun xs H2=>r x xs H2 Q
variable {o e:Expr} {es:List Expr} {to:TE} {t:TA} {name:Str} {apos cpos:Pos} {T id:String} {r:V->List V->Hp->VK->Prop}
theorem zor(pa:PlainAttrs T)(slot:Slot T name id)(hty:typeOf (.builtin id)=pure (.type "method_descriptor"))(hm:MtR X id r)(ho:PE X o to)(hbase:attributeBase o name X.env (eval o X.env)=eval o X.env:=by rfl)(hline:(apos.endLine==cpos.line)=true:=by rfl):PE X (.Call (.Attribute o name apos) [] [] cpos) (zsi X.K T r to):=by
 intro pins s σ H Q I h
 refine wpAny_Call_method0_late hbase hline (thn (ho pins s σ H _ I h) fun v s1 ⟨x,H1,I1,r1,ty,q1⟩=>?_)
 obtain⟨h1,h2⟩:=zlu I1 r1 ty
 exact⟨T,id,pa,slot,hty,h1,h2,Calls.callWith_builtin rfl (PySem.evalArgs_none (hm pins s1 σ H1 x [] v [] Q I1 r1 .nil q1))⟩
theorem zqB(pa:PlainAttrs T)(slot:Slot T name id)(hty:typeOf (.builtin id)=pure (.type "method_descriptor"))(hm:MtR X id r)(ho:PE X o to)(ha:PA X (e::es) t)(hbase:attributeBase o name X.env (eval o X.env)=eval o X.env:=by rfl)(hfew:((backTo cpos (starEach (e::es) X.env)).all (fun x=>!x.1)&&(backToKw cpos (keywordEach [] X.env)).all (fun x=>x.1.isSome)
   && decide ((e::es).length+([]:List Keyword).length+(if ([]:List Keyword).isEmpty then 0 else 1)<30))=true:=by rfl)(hline:(apos.endLine==cpos.line)=true:=by rfl)(hs:starEach (e::es) X.env=(false,eval e X.env)::starEach es X.env:=by rfl)(hplain:(backTo cpos (starEach es X.env)).any (·.1)=false:=by rfl) :
  PE X (.Call (.Attribute o name apos) (e::es) [] cpos) (tBM X.K T r to t):=by
 intro pins s σ H Q I h
 refine wpAny_Call_method_late hbase hfew hline rfl (thn (ho pins s σ H _ I h) fun v s1 ⟨x,H1,I1,r1,ty,q1⟩=>?_)
 obtain⟨h1,h2⟩:=zlu I1 r1 ty
 refine⟨T,id,pa,slot,hty,h1,h2,?_⟩
 have hA:=ha cpos pins s1 σ H1 _ I1 q1
 rw[hs] at hA ⊢
 refine Calls.callWith_builtin (by show(false||(backTo cpos (starEach es X.env)).any (·.1))=false;rw[hplain]<;>rfl) (Calls.evalArgs_plain ?_)
 exact thn hA fun us s2 ⟨vs,H2,I2,r2,q2⟩=>hm pins s2 σ H2 x vs v us Q I2 r1 r2 q2
end
end L2
namespace L2
open PySem PySem.Spec PyProof.Rows
def MtM(X:Cx)(id:String)(r:V->List V->Hp->VK->Prop):Prop :=
 ∀(pins:List (Addr×Obj)) (s:Shared) (σ:St) (H:Hp) (x:V) (xs:List V) (v:Value) (us:List Value) (Q:VK),Inv X pins σ H s->RelV x v->Vals xs us->r x xs H Q ->
  wpAny (model X.prog X.w) X.A (call (.builtin id) (v::us)) (EP X pins σ Q) X.xe s
theorem Vals.one:∀{x:V} {us:List Value},Vals [x] us->∃u,us=[u]/\RelV x u
 | _,_,.cons r .nil=>⟨_,rfl,r⟩
theorem Vals.zero:∀{us:List Value},Vals [] us->us=[]
 | _,.nil=>rfl
theorem Vals.dropLast{xs:List V}{us:List Value}(h:Vals xs us):Vals xs.dropLast us.dropLast:=by
 induction h with
 | nil=>exact .nil
 | cons r t ih =>
  cases t with
  | nil=>exact .nil
  | cons q t'=>exact .cons r ih
theorem Vals.rep{xs:List V}{us:List Value}(h:Vals xs us):∀k:Nat,Vals (List.replicate k xs).flatten (List.replicate k us).flatten
 | 0=>.nil
 | k+1=>by
  rw[List.replicate_succ,List.replicate_succ,List.flatten_cons,List.flatten_cons]
  exact Vals.append h (Vals.rep h k)
theorem zhG{α:Type}(l:List α):l.eraseIdx (l.length-1)=l.dropLast:=by
 induction l with
 | nil=>rfl
 | cons a r ih =>
  cases r with
  | nil=>rfl
  | cons b r =>
   have e:(a::b::r).length-1=((b::r).length-1)+1:=by
    have h1:(a::b::r).length=r.length+2:=rfl
    have h2:(b::r).length=r.length+1:=rfl
    omega
   rw[e,List.eraseIdx_cons_succ,ih]
   all_goals rfl
theorem zfs(its:List Value):∀(k:Nat) (acc:List Value),
  List.foldl (fun x1 x2=>x1++x2) acc.toArray (List.replicate k its.toArray)=(acc++(List.replicate k its).flatten).toArray
 | 0,acc=>by simp
 | k+1,acc=>by
  have e:acc.toArray++its.toArray=(acc++its).toArray:=by simp
  have e2:(acc++its)++(List.replicate k its).flatten=acc++(List.replicate (k+1) its).flatten:=by
   rw[List.replicate_succ,List.flatten_cons,List.append_assoc]
  rw[<- e2,<- zfs its k (acc++its),<- e,List.replicate_succ,List.foldl_cons]
section
variable {X:Cx} {pins:List (Addr×Obj)} {σ:St} {H:Hp} {s:Shared} {l b:Addr} {xs ys zs:List V}
theorem Inv.lset{its its':List Value}{n:Nat}{f:Array Value->Array Value}{t':Nat}(I:Inv X pins σ H s)(hH:H l=some (.lst xs))(e:s.heap.get? l=some { cls:=.type "list",data:=.seq its.toArray n })(hf:f its.toArray=its'.toArray)(hv:Vals ys its')(hz:ys.length<=sizeLine) :
  Inv X pins σ (upd H l (.lst ys)) { s with heap:=s.heap.update l (Obj.mapSeq f),toks:=t' }:=by
 have q:=PySem.IsL.update e f
 rw[hf] at q
 refine I.write (x:=l) (e:=l) (by rw[hH];exact trivial) (.inl rfl) (fun b' u hb hu=>(Heap.get?_update_other s.heap (Obj.mapSeq f) (Ne.symm hb)).trans hu) ⟨_,q⟩ ?_
 exact⟨hz,its',_,hv,q⟩
theorem Inv.lnew{its:List Value}{t':Nat}(I:Inv X pins σ H s)(hv:Vals ys its)(hz:ys.length<=sizeLine) :
  Inv X pins σ (upd H s.heap.objs.size (.lst ys)) { s with heap:=s.heap.push { cls:=.type "list",data:=.seq its.toArray },toks:=t' } :=
 I.laid (fun _ _ q=>Heap.get?_push_of_some _ q) (Nat.le_refl _) ⟨hz,its,0,hv,Heap.get?_push_size _ rfl⟩
theorem Inv.fresh(I:Inv X pins σ H s):H s.heap.objs.size=none:=I.hok.fresh (Nat.le_refl _)
theorem Inv.lstM(I:Inv X pins σ H s)(hH:H l=some (.lst xs)):xs.length<=sizeLine/\∃(its:List Value) (n:Nat),Vals xs its/\xs.length=its.length/\s.heap.get? l=some { cls:=.type "list",data:=.seq its.toArray n }:=by
 obtain⟨z,its,n,r,e⟩:=I.hok l _ hH
 exact⟨z,its,n,r,r.length,e⟩
theorem zgJ{n:Nat}(h:n<=sizeLine):Builtin.List.listTooLong n=false:=by
 unfold Builtin.List.listTooLong
 exact decide_eq_false (by omega)
end
section
variable {X:Cx}
def ziI:V->List V->Hp->VK->Prop:=fun x vs H Q=>∃l xs y,x=.ref l/\vs=[y]/\H l=some (.lst xs)/\xs.length<sizeLine/\Q .non (upd H l (.lst (xs++[y])))
theorem zbI:MtM X "list.append" ziI:=by
 intro pins s σ H x vs v us Q I rx rv h
 obtain⟨l,xs,y,rfl,rfl,hH,hz,q⟩:=h
 cases rx
 obtain⟨u,rfl,ru⟩:=rv.one
 obtain⟨z,its,n,r,hl,e⟩:=I.lstM hH
 refine call_meets F.slot_list_append ⟨_,e,rfl⟩ F.entry_list_append (F.args_list_append_2 _ _) (PySem.list_append l its.toArray n u (by rw[List.size_toArray];omega)) ⟨e,?_⟩
 refine⟨.non,_,I.lset (its':=its++[u]) hH e (by simp) (r.append (.cons ru .nil)) ?_,rfl,q⟩
 rw[List.length_append,List.length_singleton]
 omega
def zrn:V->List V->Hp->VK->Prop:=fun x vs H Q=>∃l xs y,x=.ref l/\vs=[]/\H l=some (.lst xs)/\xs[xs.length-1]?=some y/\Q y (upd H l (.lst xs.dropLast))
theorem zos:MtM X "list.pop" zrn:=by
 intro pins s σ H x vs v us Q I rx rv h
 obtain⟨l,xs,y,rfl,rfl,hH,hy,q⟩:=h
 cases rx
 have hus:=rv.zero
 subst hus
 obtain⟨z,its,n,r,hl,e⟩:=I.lstM hH
 obtain⟨u,hu,ru⟩:=r.get hy
 have hy':its.toArray[its.toArray.size-1]?=some u:=by
  show its.toArray[its.length-1]?=some u
  rw[<- Array.getElem?_toList,<- hl]
  exact hu
 refine call_meets F.slot_list_pop ⟨_,e,rfl⟩ F.entry_list_pop (F.args_list_pop_1 _) (MeetsSeq.list_pop_last l its.toArray n u hy' (by rw[List.size_toArray];omega)) ⟨e,?_⟩
 refine⟨y,_,I.lset (its':=its.dropLast) hH e ?_ r.dropLast ?_,ru,q⟩
 ·show its.toArray.eraseIdxIfInBounds (its.toArray.size-1)=its.dropLast.toArray
  rw[List.size_toArray,List.eraseIdxIfInBounds_toArray,zhG]
 ·rw[List.length_dropLast]
  omega
def zsj:R2:=fun x y H Q=>∃l k xs,x=.ref l/\y=.int k/\H l=some (.lst xs)/\-(2 ^ 63)<=k/\k<2 ^ 63/\xs.length*k.toNat<=sizeLine /\
 ∀p,H p=none->Q (.ref p) (upd H p (.lst (List.replicate k.toNat xs).flatten))
theorem len_rep{α:Type}(xs:List α)(k:Nat):(List.replicate k xs).flatten.length=k*xs.length:=by
 induction k with
 | zero=>simp
 | succ k ih=>rw[List.replicate_succ,List.flatten_cons,List.length_append,ih,Nat.succ_mul,Nat.add_comm]
theorem zot:OpR X (binaryOp .Mult) zsj:=by
 intro pins s σ H x y v u Q I rx ry h
 obtain⟨l,k,xs,rfl,rfl,hH,h1,h2,hz,q⟩:=h
 cases rx
 obtain⟨t,rfl⟩:=ry
 obtain⟨z,its,n,r,hl,e⟩:=I.lstM hH
 have hlen:its.toArray.size*k.toNat<=sizeLine:=by rw[List.size_toArray,<- hl];exact hz
 have hcap:¬its.toArray.size*k.toNat>(2 ^ 63-1) / 8:=by
  have:(sizeLine:Nat)<=(2 ^ 63-1) / 8:=by decide
  omega
 have hfit:¬(!Builtin.List.listFitsIndex k)=true:=by
  rw[fitsIndex_both h1 h2]
  exact Bool.false_ne_true
 have hlong:¬Builtin.List.listTooLong (its.toArray.size*k.toNat)=true:=by
  rw[zgJ hlen]
  exact Bool.false_ne_true
 have hnew:List.foldl (fun x1 x2=>x1++x2) #[] (List.replicate (if its.toArray.isEmpty=true then 0 else k.toNat) its.toArray)=(List.replicate k.toNat its).flatten.toArray:=by
  have f0:∀m:Nat,List.foldl (fun x1 x2=>x1++x2) #[] (List.replicate m its.toArray)=(List.replicate m its).flatten.toArray:=fun m=>by
   have:=zfs its m []
   rw[List.nil_append] at this
   exact this
  rw[f0]
  cases its with
  | nil=>simp
  | cons a r'=>rw[if_neg (by simp)]
 refine wpAny_binaryOp_repeat_ref (T := "list") (U := "int") (by decide) ⟨_,e,rfl⟩ (fun s'=>typeIs_int s' k t) noFill_list_mul F.fills_int_mul F.slot_int_rmul repeat_list F.slot_int_index.lookup
  (call_meets F.slot_int_rmul (typeIs_int s k t) F.entry_int_rmul (F.args_int_rmul_2 _ _) (int___rmul___int_list k t l its.toArray n)
   ⟨e,rfl,⟨_,e,rfl⟩,call_meets F.slot_list_mul ⟨_,e,rfl⟩ F.entry_list_mul (F.args_list_mul_2 _ _) (AutoListH.list___mul___list_int_3 l its.toArray n k t hfit hcap hlong) ⟨e,?_⟩⟩)
 rw[hnew]
 exact⟨.ref _,_,I.lnew (t':=s.toks) (r.rep k.toNat) (by rw[len_rep,Nat.mul_comm];exact hz),rfl,q _ I.fresh⟩
end
section
variable {prog:Program} {w:World} {A:Around} {E:Value->Shared->Prop} {s:Shared}
end
section
variable {X:Cx}
end
end L2
namespace Att
open PySem PySem.W PySem.Calls PyProof.Rows
theorem zdT{P:Params}{h:Heap}:∀(ns:List Int) (vs:List Value),WellAll P h vs (ns.map WData.int)->IntsAre vs ns:=by
 intro ns
 induction ns with
 | nil =>
  intro vs w
  rw[List.map_nil] at w
  cases w
  exact .nil
 | cons n ns ih =>
  intro vs w
  rw[List.map_cons] at w
  cases w with
  | cons a b =>
   cases a
   exact .cons _ _ (ih _ b)
theorem ziJ{l:OpenLaw}{n:Nat}(hn:l.most=some n){P:Params}{h:Heap}{args:List WData}{vals:List Value}(hpre:l.row.toRowW.claim.pre args=true)(hwl:WellAll P h vals args) :
  ∃a vs ns,vals=[Value.ref a]/\args=[WData.list (ns.map WData.int)]/\h.get? a=some { cls:=.type "list",data:=.seq vs.toArray }/\IntsAre vs ns/\ns.length<=n:=by
 have hsh:WShape.hasAll [] args [.list .int]=true:=(pre_splitW hpre).1
 have hc:l.pre.holds [] { args:=args }=true:=(pre_splitW hpre).2
 obtain⟨d,r,rfl,h1,h2⟩:=hasAllW_cons hsh
 obtain rfl:=hasAllW_nil h2
 obtain⟨xs,rfl,h3⟩:=hasW_list h1
 obtain⟨ns,rfl⟩:=items_int h3
 have hlen:ns.length<=n:=by
  unfold OpenLaw.pre at hc
  have h4:(WTm.not (.lt (.lit (.int (n:Int))) (.len (.arg 0)))).holds [] { args:=[.list (ns.map .int)] }=true:=by
   have h4:=(holds_andW hc).1
   rw[hn] at h4
   exact h4
  have h5:=condW_of h4 (w_not (w_lt w_lit (w_len_list (w_arg rfl))))
  rw[List.length_map] at h5
  refine Nat.le_of_not_lt fun q=>?_
  have q':(n:Int)<((ns.length:Nat):Int):=by omega
  first
   | (rw[decide_eq_true q'] at h5;exact absurd h5 (by decide))
   | (simp at h5;omega)
 cases hwl with
 | cons w1 w2 =>
  cases w2
  cases w1 with
  | list ho hall=>exact⟨_,_,ns,rfl,rfl,ho,zdT ns _ hall,hlen⟩
theorem ziK(l:OpenLaw)(args:List WData):l.row.toRowW.claim.post args (.bool true) args=true :=
 postW_of (r:=l.row.toRowW) (X:=(true==true))
  (show WShape.has [] (.bool true) .bool=true by first|rfl|decide|simp[WShape.has,WShape.arms,WShape.armsAll])
  (show(WTm.eq .res (.lit (.bool true))).value [] { args:=args,res:=some (.bool true),after:=args }=some (.bool (true==true)) from w_eq_bool (w_res rfl) w_lit) rfl
theorem attach_call{l:OpenLaw}{n:Nat}{q:Program}{loose:List Str}{XP:(Str->Option Value)->Heap->Prop}{YP:World->Heap->Prop}{d:DefRec}(hn:l.most=some n)(hdf:d.params.defaults=[])(call:∀(w:World) (s₀ s₁:Shared) (mg mb:Str->Option Value) (fa:Addr) (o:Obj) (pm cd doc:Value) (a:Addr) (vs:List Value) (ns:List Int),
   Ground q loose [] XP w s₀ mg mb s₁.heap->YP w s₁.heap ->
   s₁.heap.get? fa=some o->o.data=.func (docDef d.name d.params d.body d.scope pm cd doc)->s₁.heap.CodeRec cd d.name->mg d.name=some (.ref fa) ->
   s₁.heap.get? a=some { cls:=.type "list",data:=.seq vs.toArray }->IntsAre vs ns->ns.length<=n->s₁.gens=#[] ->
   codeAny (model l.prog w) callerA (.call (.ref fa) ⟨[.ref a],[]⟩) (fun r s'=>r=.ok (.ret (.bool true))/\OldK s₁.heap s'.heap/\s'.os=s₁.os/\AllBare s'.gens) s₁) :
  WalkO q loose XP YP l.row.toRowW d [] (fun f vs=>PySem.call f vs):=by
 intro w s₀ s₁ mg mb G Y fa o pm cd doc dV kV ho hd hcd hD hmg hg args vals as hpre hlay hrd hwl hlo
 obtain rfl:dV=.none:=Dflts.none hD hdf
 obtain rfl:kV=.none:=Dflts.noKw hD
 obtain⟨a,vs,ns,rfl,rfl,hobj,hints,hlen⟩:=ziJ hn hpre hwl
 refine enter_call (codeAny_mono (call w s₀ s₁ mg mb fa o pm cd doc a vs ns G Y ho (fd_plain hd) hcd hmg hobj hints hlen hg) fun r s' hq=>?_)
 obtain⟨rfl,h2,h3,h4⟩:=hq
 exact⟨.inl ⟨.bool true,.bool true,[],rfl,fun _=>rfl,.bool true,ziK l _,fun _=>⟨List.Pairwise.nil,fun _ hm=>(nomatch hm)⟩⟩,h2,h3,h4⟩
section
variable {prog:Program} {w:World} {A:Around} {E:Value->Shared->Prop} {s:Shared} {K:Frag}
def zro(h:Heap)(L d:Addr):List (Addr×Obj):=(List.range h.objs.size).filterMap fun a=>if a=L\/a=d then none else (h.get? a).map fun o=>(a,o)
end
end Att
namespace L2
open PySem PySem.Spec PyProof.Rows
theorem zb7:∀{vs:List Value} {ns:List Int},IntsAre vs ns->Vals (ns.map V.int) vs
 | _,_,.nil=>.nil
 | _,_,.cons n t h=>.cons ⟨t,rfl⟩ (zb7 h)
def zou(H:Hp):Prop:=∀b,H b=none\/∃o xs,H b=some (.frz o (.lst xs))
theorem zkz{P:Program}{w:World}{K:PySem.W.Frag}{mg mb:Str->Option Value}{CX:CXT}{k:Nat}{fa a:Addr}{fd:FuncData}{x:Str}{sp:Sp}{s₁:Shared}{vs:List Value}{ns:List Int}(KX:K.In s₁.heap)(hns:s₁.heap.Ns mainGlobals mg)(hb:s₁.heap.Ns builtinsNs mb)(hbb:∀x:Str,x ≠ "__name__" -> mb x=bootBuiltins x)(hlim:s₁.heap.NoLimit)(hg:s₁.gens=#[])(ha:s₁.heap.get? a=some { cls:=.type "list",data:=.seq vs.toArray })(hi:IntsAre vs ns)(hl:ns.length<=sizeLine)(hr:Room k callerA)(F:∀base:Heap,K.In base->base.Ns mainGlobals mg->FnOk P w K mg base CX k fa fd [x] sp)(hbind:∀(s:Shared) (u:Value),BindsTo s fd ⟨[u],[]⟩ [(x,u)])(hsp:∀H:Hp,zou H->SqL K H a (ns.map V.int)->sp [.ref a] H (fun v _=>v=.bl true) fun _ _ _=>False)(hCX:∀H e s',CX [] H s₁ (fun _ _ _=>False) e s'->False) :
  codeAny (model P w) callerA (.call (.ref fa) ⟨[.ref a],[]⟩) (fun r s'=>r=.ok (.ret (.bool true))/\OldK s₁.heap s'.heap/\s'.os=s₁.os/\AllBare s'.gens) s₁:=by
 have rv:=zb7 hi
 have lenV:=hi.length
 have core:∀H:Hp,zou H->SqL K H a (ns.map V.int)->HOk P w H s₁.heap->(∀b,H b≠none->b=a)->(H a≠none->K.lookup a=none) ->
   codeAny (model P w) callerA (.call (.ref fa) ⟨[.ref a],[]⟩) (fun r s'=>r=.ok (.ret (.bool true))/\OldK s₁.heap s'.heap/\s'.os=s₁.os/\AllBare s'.gens) s₁:=by
  intro H hO hS hok hA hK
  have base_of:∀{b:Addr} {o:Obj},s₁.heap.get? b=some o->H b=none->(zkm s₁.heap H).get? b=some o:=fun e n=>zkn e n
  have noA:∀{b:Addr} {o:Obj} {es:Array DictEntry} {ep:Nat},s₁.heap.get? b=some o->o.data=.dict es ep->H b=none:=fun {b o es ep} e d=>by
   cases q:H b with
   | none=>rfl
   | some u =>
    have e':b=a:=hA b (by rw[q];simp)
    subst e'
    rw[ha] at e;cases e
    have d':Data.seq vs.toArray _=Data.dict es ep:=d
    cases d'
  have nsK:∀{b:Addr} {m:Str->Option Value},s₁.heap.Ns b m->(zkm s₁.heap H).Ns b m:=fun {b m} ⟨o,es,ep,e,d,r⟩=>⟨o,es,ep,base_of e (noA e d),d,r⟩
  have hKb:K.In (zkm s₁.heap H):=fun b o e=>base_of (KX b o e) (by
   cases q:H b with
   | none=>rfl
   | some u =>
    have e':b=a:=hA b (by rw[q];simp)
    subst e'
    rw[hK (by rw[q];simp)] at e;cases e)
  have hM:Mod K mg (zkm s₁.heap H):=⟨hKb,nsK hns,⟨mb,nsK hb,hbb⟩,let ⟨mc,h1,h2⟩:=hlim;⟨mc,nsK h1,h2⟩⟩
  have e0:Env0 P w K mg (zkm s₁.heap H) callerA [] s₁ H:=⟨rfl,hM,fun b o e=>zma e,Nat.le_of_eq (ziu _ _),trivial,fun b hb=>absurd (show b∈([]:List Addr) from hb) (by simp),hok,.of_eq hg⟩
  refine codeAny_mono ((F _ hKb (nsK hns)).run callerA [] s₁ H ⟨[.ref a],[]⟩ [.ref a] [.ref a] _ _ hr e0 (hbind s₁ (.ref a)) (.cons rfl .nil) (hsp H hO hS)) fun r s' h=>?_
  cases r with
  | error e=>exact(hCX H e s' h).elim
  | ok fl =>
   cases fl with
   | next=>exact False.elim h
   | brk=>exact False.elim h
   | cont=>exact False.elim h
   | ret u =>
    obtain⟨v,H',os,bare,un,hok',r',q⟩:=h
    have q':v=.bl true:=q
    subst q'
    obtain rfl:u=Value.bool true:=r'
    refine⟨rfl,OldK.of_keep fun b o e=>?_,os,bare⟩
    cases q:H b with
    | none=>exact un.keep b o e q (by intro z;exact absurd (show b∈([]:List Addr) from z) (by simp)) (by simp)
    | some u =>
     rcases hO b with z|⟨ob,xs,z⟩
     ·rw[q] at z;cases z
     ·have z2:=un.frzs b ob _ z
      obtain⟨e1,_⟩:=hok b _ z
      obtain⟨e2,_⟩:=hok' b _ z2
      rw[e] at e1;cases e1
      exact e2
 cases hk:K.lookup a with
 | some o =>
  have e:=KX a o hk
  rw[ha] at e
  cases e
  refine core (fun _=>none) (fun _=>.inl rfl) (.inr ⟨_,vs.toArray,_,hk,rfl,rfl,rfl,by rw[List.size_toArray,lenV];exact hl,by simpa using rv⟩) (fun b u z=>by have z':(none:Option HO)=some u:=z;cases z') (fun b z=>absurd rfl z) fun z=>absurd rfl z
 | none =>
  refine core (fun b=>if b=a then some (.frz { cls:=.type "list",data:=.seq vs.toArray } (.lst (ns.map V.int))) else none) (fun b=>?_) (.inl (.inr ⟨{ cls:=.type "list",data:=.seq vs.toArray },if_pos rfl⟩)) (fun b u z=>?_) (fun b z=>?_) fun _=>hk
  ·by_cases hb:b=a
   ·exact .inr ⟨_,_,if_pos hb⟩
   ·exact .inl (if_neg hb)
  ·by_cases hb:b=a
   ·have z':=(if_pos hb).symm.trans z
    cases z'
    subst hb
    exact⟨ha,by rw[List.length_map];exact hl,vs,_,rv,ha⟩
   ·have z':=(if_neg hb).symm.trans z
    cases z'
  ·by_cases hb:b=a
   ·exact hb
   ·exact absurd (if_neg hb) z
end L2
namespace L2
open PySem PySem.Spec PyProof.Rows
theorem zmy{l:PySem.W.OpenLaw}{n k:Nat}{q:Program}{loose:List Str}{XP:(Str->Option Value)->Heap->Prop}{YP:World->Heap->Prop}{d:DefRec}{K:Params->PySem.W.Frag}{CX:World->CXT}{sp:World->Sp}{x:Str}(hn:l.most=some n)(hn2:n<=sizeLine)(hdf:d.params.defaults=[])(hr:Room k callerA)(hY:∀(w:World) (h:Heap),YP w h->(K w.params).In h)(F:∀(w:World) (mg:Str->Option Value) (fa:Addr) (h:Heap),(K w.params).In h->h.Ns mainGlobals mg->mg d.name=some (.ref fa) ->
   ∃fd:FuncData,(∀(s:Shared) (u:Value),BindsTo s fd ⟨[u],[]⟩ [(x,u)]) /\
    ∀base:Heap,(K w.params).In base->base.Ns mainGlobals mg->FnOk l.prog w (K w.params) mg base (CX w) k fa fd [x] (sp w))(hsp:∀(w:World) (H:Hp) (a:Addr) (ns:List Int),ns.length<=n->zou H->SqL (K w.params) H a (ns.map V.int)->sp w [.ref a] H (fun v _=>v=.bl true) fun _ _ _=>False)(hCX:∀(w:World) (H:Hp) (s:Shared) (e:Value) (s':Shared),CX w [] H s (fun _ _ _=>False) e s'->False) :
  PySem.W.WalkO q loose XP YP l.row.toRowW d [] (fun f vs=>PySem.call f vs):=by
 refine Att.attach_call hn hdf fun w s₀ s₁ mg mb fa o pm cd doc a vs ns G Y ho hd hcd hmg hobj hints hlen hg=>?_
 have KX:=hY w _ Y
 obtain⟨fd,hb,hF⟩:=F w mg fa _ KX G.T.g hmg
 exact zkz KX G.T.g G.T.b G.T.builtins G.T.nolimit hg hobj hints (Nat.le_trans hlen hn2) hr hF hb (fun H hO hS=>hsp w H a ns hlen hO hS) fun H e s'=>hCX w H s₁ e s'
theorem walk_ofK{l:PySem.W.OpenLaw}{n k:Nat}{q:Program}{loose:List Str}{XP:(Str->Option Value)->Heap->Prop}{YP:World->Heap->Prop}{d:DefRec}{K:Params->PySem.W.Frag}{CX:CXT}{sp:PySem.W.Frag->Sp}{x:Str}(hn:l.most=some n)(hn2:n<=sizeLine)(hdf:d.params.defaults=[])(hr:Room k callerA)(hY:∀(w:World) (h:Heap),YP w h->(K w.params).In h)(F:∀(w:World) (mg:Str->Option Value) (fa:Addr) (h:Heap),(K w.params).In h->h.Ns mainGlobals mg->mg d.name=some (.ref fa) ->
   ∃fd:FuncData,(∀(s:Shared) (u:Value),BindsTo s fd ⟨[u],[]⟩ [(x,u)]) /\
    ∀base:Heap,(K w.params).In base->base.Ns mainGlobals mg->FnOk l.prog w (K w.params) mg base CX k fa fd [x] (sp (K w.params)))(hsp:∀(K:PySem.W.Frag) (H:Hp) (a:Addr) (ns:List Int),ns.length<=n->zou H->SqL K H a (ns.map V.int)->sp K [.ref a] H (fun v _=>v=.bl true) fun _ _ _=>False)(hCX:∀(H:Hp) (s:Shared) (e:Value) (s':Shared),CX [] H s (fun _ _ _=>False) e s'->False) :
  PySem.W.WalkO q loose XP YP l.row.toRowW d [] (fun f vs=>PySem.call f vs) :=
 zmy (K:=K) (CX:=fun _=>CX) (sp:=fun w=>sp (K w.params)) hn hn2 hdf hr hY F (fun w H a ns h1 h2 h3=>hsp (K w.params) H a ns h1 h2 h3) fun _ H s e s'=>hCX H s e s'
end L2
namespace L2
open PySem PySem.Spec PyProof.Rows
def zaw(s:Stmt):Arguments:=match s with
 | .FunctionDef _ a _ _ _ _ _ _ _ _=>a
 | _=>{ posonlyargs:=[],args:=[],vararg:=none,kwonlyargs:=[],kw_defaults:=[],kwarg:=none,defaults:=[] }
def zas(s:Stmt):List Stmt:=match s with
 | .FunctionDef _ _ b _ _ _ _ _ _ _=>b
 | _=>[]
def zag(s:Stmt):Scope:=match s with
 | .FunctionDef _ _ _ _ _ _ sc _ _ _=>sc
 | _=>{ kind:=.function,names:=[],isGenerator:=false,isCoroutine:=false }
abbrev CX0:CXT:=fun _ _ _ _ _ _=>False
abbrev E0:XK:=fun _ _ _=>False
structure Fun (K:PySem.W.Frag) (x qual:Str) (st:Stmt) (f:Addr) (fd:FuncData):Prop where
 ex:∃(oc:Value) (od:Option Addr) (kV doc pm:Value) (an:Option Addr) (cdv ct:Value) (osl:Array (Option Value)),
  fd=PySem.W.fnOf x qual (zaw st) (zas st) (zag st) .none kV doc pm an cdv ct/\K.lookup f=some ⟨oc,od,.func fd,osl⟩/\PySem.W.codeIn K cdv qual=true
 kp:PySem.W.keepIn K (.ref f)=true
section
variable {P:Program} {w:World} {K:PySem.W.Frag} {mg:Str->Option Value} {base:Heap}
theorem Fun.binds{x qual:Str}{st:Stmt}{f:Addr}{fd:FuncData}{ps:List Str}(F:Fun K x qual st f fd)(h:∀(kV doc pm:Value) (an:Option Addr) (cdv ct:Value) (us:List Value),us.length=ps.length->bindArgs (PySem.W.fnOf x qual (zaw st) (zas st) (zag st) .none kV doc pm an cdv ct) ⟨us,[]⟩=pure (ps.zip us)):Binds K fd ps []:=by
 obtain⟨oc,od,kV,doc,pm,an,cdv,ct,osl,rfl,lk,hcd⟩:=F.ex
 exact .all (h kV doc pm an cdv ct)
theorem zaO{x qual:Str}{st:Stmt}{f:Addr}{oc:Value}{od an:Option Addr}{osl:Array (Option Value)}{kV doc pm cdv ct:Value}(l:K.lookup f=some ⟨oc,od,.func (PySem.W.fnOf x qual (zaw st) (zas st) (zag st) .none kV doc pm an cdv ct),osl⟩)(c:PySem.W.codeIn K cdv qual=true)(k:PySem.W.keepIn K (.ref f)=true):Fun K x qual st f (PySem.W.fnOf x qual (zaw st) (zas st) (zag st) .none kV doc pm an cdv ct):=⟨⟨oc,od,kV,doc,pm,an,cdv,ct,osl,rfl,l,c⟩,k⟩
end
section
variable {X:Cx}
end
def zsB(H H':Hp):Prop:=∀b o,H b=some o->H' b=some o
end L2
namespace L2
open PySem PySem.Spec PyProof.Rows
def zhH(js:List Nat)(σ:St):St:=js.map fun j=>σ.getD j none
structure BlkS (N:List Str) (psc:Scope) (js:List Nat) (N':List Str) (scope:Scope):Prop where
 cell:∀y∈scope.names,y.2≠.cell
 kind:scope.kind=.function
 names:∀y∈scope.names,y.2=.local->scope.names.lookup y.1=some .local
 frees:∀y∈scope.names,y.2=.free->psc.names.lookup y.1=some .cell\/psc.names.lookup y.1=some .free
 nd:N'.Nodup
 len:N'.length=js.length+1
 cap:∀p∈js.zip (N'.drop 1),N[p.1]?=some p.2/\scope.names.lookup p.2=some .free
def zcw(env:Env)(cs:List (Str×Addr))(y:Str×NameKind):List (Str×Addr):=if y.2==.free then (y.1,(env.cells.lookup y.1).getD 0)::cs else cs
def clOf(scope:Scope)(env:Env):List (Str×Addr):=scope.names.foldl (zcw env) []
theorem zdU{α β:Type}(f:α->β->Sem (ForInStep β))(g:β->α->β):∀(l:List α) (b:β),(∀x∈l,∀c,f x c=pure (.yield (g c x)))->forIn l b f=pure (l.foldl g b)
 | [],_,_=>rfl
 | x::l,b,h=>by
  rw[List.forIn_cons,h x List.mem_cons_self,pure_bind]
  exact zdU f g l (g b x) fun y hy=>h y (List.mem_cons_of_mem _ hy)
theorem zhI{scope:Scope}{env:Env}(h:∀y∈scope.names,y.2=.free->∃c,env.cells.lookup y.1=some c):closureFor scope env=pure (clOf scope env):=by
 simp only[closureFor,clOf]
 rw[zdU _ (zcw env) scope.names [] (fun y hy c=>by
  obtain⟨n,k⟩:=y
  by_cases hk:k=.free
  ·subst hk
   obtain⟨a,ha⟩:=h _ hy rfl
   have ha':env.cells.lookup n=some a:=ha
   simp[cellOf,ha',zcw]
  ·have hb:(k==NameKind.free)=false:=by simpa using hk
   simp[hb,zcw])]
 rfl
theorem zeu{env:Env}{P:Str×Addr->Prop}:∀(l:List (Str×NameKind)) (acc:List (Str×Addr)),(∀p∈acc,P p)->(∀y∈l,y.2=.free->P (y.1,(env.cells.lookup y.1).getD 0))->∀p∈l.foldl (zcw env) acc,P p
 | [],_,ha,_=>ha
 | y::l,acc,ha,hl=>by
  refine zeu l _ (fun p hp=>?_) fun z hz=>hl z (List.mem_cons_of_mem _ hz)
  unfold zcw at hp
  by_cases hk:y.2=.free
  ·rw[if_pos (by simp[hk])] at hp
   rcases List.mem_cons.mp hp with e|hp
   ·rw[e];exact hl y List.mem_cons_self hk
   ·exact ha p hp
  ·rw[if_neg (by simp[hk])] at hp
   exact ha p hp
theorem zev{env:Env}:∀(l:List (Str×NameKind)) (acc:List (Str×Addr)),∀p∈acc,p∈l.foldl (zcw env) acc
 | [],_,_,hp=>hp
 | y::l,acc,p,hp=>by
  refine zev l _ p ?_
  unfold zcw
  split
  ·exact List.mem_cons_of_mem _ hp
  ·exact hp
theorem zew{env:Env}{y:Str}:∀(l:List (Str×NameKind)) (acc:List (Str×Addr)),(y,NameKind.free)∈l->∃c,(y,c)∈l.foldl (zcw env) acc
 | z::l,acc,h=>by
  rcases List.mem_cons.mp h with e|h
  ·subst e
   exact⟨(env.cells.lookup y).getD 0,zev l _ _ (by simp[zcw])⟩
  ·exact zew l _ h
theorem zcR{β:Type}{y:Str}{c:β}:∀{l:List (Str×β)},(y,c)∈l->∃c',l.lookup y=some c'
 | (n,d)::l,h=>by
  rw[List.lookup_cons]
  cases e:y==n with
  | true=>exact⟨d,rfl⟩
  | false =>
   rcases List.mem_cons.mp h with q|q
   ·have q1:y=n:=congrArg Prod.fst q
    rw[q1] at e
    simp at e
   ·exact zcR q
theorem zft{scope:Scope}{env:Env}(h:∀y∈scope.names,y.2=.free->∃c,env.cells.lookup y.1=some c){y:Str}{c:Addr}(e:(clOf scope env).lookup y=some c):env.cells.lookup y=some c:=by
 refine zeu (P:=fun p=>env.cells.lookup p.1=some p.2) scope.names [] (fun _ hp=>nomatch hp) (fun z hz hf=>?_) (y,c) (PySem.mem_of_lookup e)
 obtain⟨a,ha⟩:=h z hz hf
 simp[ha]
theorem zgK{scope:Scope}{env:Env}{y:Str}(h:(y,NameKind.free)∈scope.names):∃c,(clOf scope env).lookup y=some c:=by
 obtain⟨c,hc⟩:=zew (env:=env) scope.names [] h
 exact zcR hc
theorem relabel_of{env:Env}{y:Str}{k':NameKind}:∀{names:List (Str×NameKind)},(names.map fun(n,k)=>if (k==NameKind.free&&env.scope.kind==.function&&env.kindOf n==some .cell) then (n,NameKind.cell) else (n,k)).lookup y=some k' ->
  ∃k,(y,k)∈names/\(k'=k\/(k=.free/\k'=.cell))
 | [],h=>by simp at h
 | (n,k)::r,h=>by
  have ih:=@relabel_of env y k' r
  have h:List.lookup y ((if (k==NameKind.free&&env.scope.kind==.function&&env.kindOf n==some .cell)=true then (n,NameKind.cell) else (n,k))::_)=some k':=h
  cases e:y==n with
  | true =>
   have e':y=n:=by simpa using e
   by_cases hc:(k==NameKind.free&&env.scope.kind==.function&&env.kindOf n==some .cell)=true
   ·rw[if_pos hc] at h
    simp only[List.lookup_cons,e] at h
    cases h
    have hk:k=.free:=by
     simp only[Bool.and_eq_true] at hc
     simpa using hc.1.1
    subst hk
    exact⟨.free,by rw[e'];exact List.mem_cons_self,.inr ⟨rfl,rfl⟩⟩
   ·rw[if_neg hc] at h
    simp only[List.lookup_cons,e] at h
    have hk:=Option.some.inj h
    exact⟨k,by rw[e'];exact List.mem_cons_self,.inl hk.symm⟩
  | false =>
   have h':List.lookup y (r.map fun(n,k)=>if (k==NameKind.free&&env.scope.kind==.function&&env.kindOf n==some .cell) then (n,NameKind.cell) else (n,k))=some k':=by
    by_cases hc:(k==NameKind.free&&env.scope.kind==.function&&env.kindOf n==some .cell)=true
    ·rw[if_pos hc] at h
     simp only[List.lookup_cons,e] at h
     exact h
    ·rw[if_neg hc] at h
     simp only[List.lookup_cons,e] at h
     exact h
   obtain⟨k0,h1,h2⟩:=ih h'
   exact⟨k0,List.mem_cons_of_mem _ h1,h2⟩
theorem relabel_free{env:Env}{y:Str}:∀{names:List (Str×NameKind)},names.lookup y=some .free ->
  (names.map fun(n,k)=>if (k==NameKind.free&&env.scope.kind==.function&&env.kindOf n==some .cell) then (n,NameKind.cell) else (n,k)).lookup y=some .cell \/
  (names.map fun(n,k)=>if (k==NameKind.free&&env.scope.kind==.function&&env.kindOf n==some .cell) then (n,NameKind.cell) else (n,k)).lookup y=some .free
 | [],h=>by simp at h
 | (n,k)::r,h=>by
  have ih:=@relabel_free env y r
  show List.lookup y ((if (k==NameKind.free&&env.scope.kind==.function&&env.kindOf n==some .cell)=true then (n,NameKind.cell) else (n,k))::_)=_\/List.lookup y ((if (k==NameKind.free&&env.scope.kind==.function&&env.kindOf n==some .cell)=true then (n,NameKind.cell) else (n,k))::_)=_
  cases e:y==n with
  | true =>
   simp only[List.lookup_cons,e] at h
   cases h
   by_cases hc:(NameKind.free==NameKind.free&&env.scope.kind==.function&&env.kindOf n==some .cell)=true
   ·rw[if_pos hc];exact .inl (by simp[List.lookup_cons,e])
   ·rw[if_neg hc];exact .inr (by simp[List.lookup_cons,e])
  | false =>
   simp only[List.lookup_cons,e] at h
   by_cases hc:(k==NameKind.free&&env.scope.kind==.function&&env.kindOf n==some .cell)=true
   ·rw[if_pos hc];simp only[List.lookup_cons,e];exact ih h
   ·rw[if_neg hc];simp only[List.lookup_cons,e];exact ih h
def blk(X:Cx)(N':List Str)(scope:Scope)(C:Addr)(fp:List Addr)(s₀:Shared)(H₀:Hp):Cx :=
 { X with N:=N',s₀:=s₀,H₀:=H₀,env:=compEnvC scope (clOf scope X.env) C X.env,outer:=X.stack,stack:=X.stack,ex:=fp,fn:=fun _=>false,pn:=[],xe:=fun _ _=>False }
theorem HOk.track{P:Program}{w:World}{H:Hp}{h:Heap}{a:Addr}{o:HO}(x:HOk P w H h)(hn:H a=none)(new:ObjOk P w (upd H a o) h a o):HOk P w (upd H a o) h:=fun b u e=>by
 by_cases hb:b=a
 ·subst hb;rw[zaB] at e;cases e;exact new
 ·rw[zaz hb] at e
  exact(x b u e).stay (fun c v _ q=>q) (fun c q=>by rw[zaz (zaq q hn)];exact q) fun c xs q=>by rw[zaz (zaq q hn)];exact q
section
variable {X:Cx} {pins:List (Addr×Obj)} {σ:St} {H:Hp} {s:Shared}
theorem Inv.stkNe(I:Inv X pins σ H s){b:Addr}(h1:b≠X.env.locals)(h2:b∉X.fs):b∉frs X.stack:=fun hb=>(List.mem_cons.mp (I.stkSub b hb)).elim h1 h2
theorem Inv.frees(I:Inv X pins σ H s){js:List Nat}{N':List Str}{scope:Scope}(B:BlkS X.N X.env.scope js N' scope):∀y∈scope.names,y.2=.free->∃c,X.env.cells.lookup y.1=some c :=
 fun y hy hf=>I.ok.has y.1 (B.frees y hy hf)
theorem ziL{js:List Nat}{x:Str}{caps:List Str}{scope:Scope}{C:Addr}{fp:List Addr}{h₁:Heap}{tk:Nat}{m:Str->Option Value}(B:BlkS X.N X.env.scope js (x::caps) scope)(I:Inv X pins σ H s)(f2:∀b∈fp,zlt X pins H b)(ho:∀b∈fp,∃o,s.heap.get? b=some o)(hC:s.heap.objs.size<=C)(old:∀b o,s.heap.get? b=some o->h₁.get? b=some o)(ns:h₁.Ns C m) :
  Inv (blk X (x::caps) scope C fp s H) [] (none::zhH js σ) H { s with heap:=h₁,toks:=tk }:=by
 have fr:=I.frees B
 have clo:∀y c,(clOf scope X.env).lookup y=some c->X.env.cells.lookup y=some c:=fun y c e=>zft fr e
 have lt:∀b∈fp,b<s.heap.objs.size:=fun b hb=>let ⟨o,e⟩:=ho b hb;Heap.lt_size e
 refine⟨⟨I.ok.mod,B.kind,I.ok.glob,I.ok.blt,hC,fun a b c h1 h2=>I.ok.inj a b c (clo _ _ h1) (clo _ _ h2),fun y hy=>?_,fun y c h _=>absurd (show false=true from h) Bool.false_ne_true,I.ok.hd,I.ok.frames,.inl rfl,
   fun b hb=>⟨Nat.ne_of_lt (Nat.lt_of_lt_of_le (lt b hb) hC),fun y c h=>(f2 b hb).2.2.2.2.1 y c (clo y c h)⟩,I.bs,Nat.le_trans I.ok.bsz I.sz,fun b o e hb=>?_,fun b hb=>I.stkNe (f2 b hb).2.1 (f2 b hb).2.2.1,I.stack,I.stkFree⟩,
  rfl,I.bare,Un.kept old,⟨m,ns,fun i y v e1 e2 e3=>?_⟩,fun y c h=>?_,I.hok.fresh hC,fun y c h=>I.freeC y c (clo y c h),fun p hp=>absurd (show p∈([]:List (Addr×Obj)) from hp) (by simp),I.hok.kept old,?_⟩
 ·have hy':(relabel scope X.env).names.lookup y=some .cell\/(relabel scope X.env).names.lookup y=some .free:=hy
  have hm:(y,NameKind.free)∈scope.names:=by
   rcases hy' with z|z
   ·obtain⟨k,h1,h2⟩:=relabel_of z
    rcases h2 with h2|⟨h2,_⟩
    ·exact absurd h2.symm (B.cell _ h1)
    ·rw[h2] at h1;exact h1
   ·obtain⟨k,h1,h2⟩:=relabel_of z
    rcases h2 with h2|⟨_,h2⟩
    ·rw[<- h2] at h1;exact h1
    ·cases h2
  exact zgK hm
 ·rcases(f2 b hb).2.2.2.1 with z|z
  ·exact I.ok.noex b o e z
  ·exact absurd (Nat.lt_of_lt_of_le (Heap.lt_size e) (Nat.le_trans I.ok.bsz z)) (Nat.lt_irrefl _)
 ·cases i with
  | zero =>
   have q:some (none:Option V)=some (some v):=e2
   cases q
  | succ k =>
   have e1':caps[k]?=some y:=e1
   have e2':(js.map fun j=>σ.getD j none)[k]?=some (some v):=e2
   rw[List.getElem?_map] at e2'
   cases hj:js[k]? with
   | none=>rw[hj] at e2';cases e2'
   | some j =>
    rw[hj] at e2'
    have hv:σ.getD j none=some v:=Option.some.inj e2'
    have hσ:σ[j]?=some (some v):=by
     rw[List.getD_eq_getElem?_getD] at hv
     cases q:σ[j]? with
     | none=>rw[q] at hv;cases hv
     | some z=>rw[q] at hv;exact congrArg some hv
    have hz:(j,y)∈js.zip caps:=List.mem_of_getElem? (List.getElem?_zip_eq_some.mpr ⟨hj,e1'⟩)
    obtain⟨hN,hf⟩:=B.cap (j,y) hz
    have hk:=B.frees (y,.free) (PySem.mem_of_lookup hf) rfl
    obtain⟨m',_,hl⟩:=I.loc
    obtain⟨u,r,l⟩:=hl j y v hN hσ (.inr hk)
    rcases l with ⟨k1,_⟩|⟨k1,c,hcl,o,hco,hcd⟩
    ·have k1':X.env.scope.names.lookup y=some .local:=k1
     have hk':X.env.scope.names.lookup y=some .cell\/X.env.scope.names.lookup y=some .free:=hk
     rw[k1'] at hk'
     rcases hk' with z|z<;>cases z
    ·obtain⟨c',hc'⟩:=zgK (env:=X.env) (PySem.mem_of_lookup hf)
     have:=clo _ _ hc'
     rw[hcl] at this
     cases this
     exact⟨u,r,.inr ⟨relabel_free hf,c,hc',o,old c o hco,hcd⟩⟩
 ·obtain⟨v,o,h1,h2⟩:=I.cell y c (clo y c h)
  exact⟨v,o,old c o h1,h2⟩
 ·show(none::zhH js σ).length=(x::caps).length
  rw[B.len]
  simp[zhH]
end
end L2
namespace L2
open PySem PySem.Spec PyProof.Rows
def PIfs(Y:Cx)(ifs:List Expr)(tt:TT):Prop :=
 ∀(pins:List (Addr×Obj)) (s:Shared) (σ:St) (H:Hp) (Q:Bool->Hp->Prop),Inv Y pins σ H s->tt σ H Q ->
  wpAny (model Y.prog Y.w) Y.A (forIn ifs true fun c r=>if r=true then do let ok <- isTrue c Y.env (eval c Y.env);pure (ForInStep.yield ok) else pure (ForInStep.yield r)) (TP Y pins σ Q) Y.xe s
def zqC:TT:=fun _ H Q=>Q true H
theorem zkA{Y:Cx}:PIfs Y [] zqC:=fun _ _ _ H _ I h=>wpAny_tests_nil ⟨H,I,h⟩
theorem zkB{Y:Cx}{c:Expr}{tc:TT}(h:PT Y c tc):PIfs Y [c] tc:=fun pins s σ H Q I hw=>wpAny_tests_one (h pins s σ H Q I hw)
def zsk(J:It)(cs:St)(tt:TT)(te:TE)(Q:VK)(H1:Hp):Prop:=∃W:Nat->Nat->List V->Hp->Prop,(∃m,W 0 m [] H1)/\∀i m ys H2,W i m ys H2 ->
 (J.stop i H2/\∀p,H2 p=none->Q (.ref p) (upd H2 p (.lst ys))) \/
 (J.go i H2/\ys.length<sizeLine/\∃N:List V->Hp->Prop,(∀ys' H',N ys' H'->∃m',m'<m/\W (i+1) m' ys' H') /\
  ∀x H',J.yld i H2 x H'->tt (some x::cs) H' fun b H4=>if b=true then te (some x::cs) H4 fun y H5=>N (ys++[y]) H5 else N ys H4)
def tLC(js:List Nat)(wi:TI)(tt:TT)(te:TE):TE:=fun σ H Q=>wi σ H fun J H1=>zsk J (zhH js σ) tt te Q H1
theorem zkC{α:Type}{M:Model}{A:Around}{Φ:Unit->Shared->Prop}{E E':Value->Shared->Prop}{s:Shared}{t:Sem α}{Ψ:α->Shared->Prop}(h:wpAny M A (pure ()) Φ E s)(k:Φ () s->wpAny M A t Ψ E' s):wpAny M A t Ψ E' s :=
 fun Γ p hΓ=>k (h Γ p hΓ) Γ p hΓ
section
variable {X:Cx} {elt iter:Expr} {x:Str} {px pos p:Pos} {ifs:List Expr} {scope:Scope} {js:List Nat} {caps:List Str} {wi:TI} {tt:TT} {te:TE}
theorem ziM{use:Option (Value->Sem Unit)}{Qf:Value->Shared->Prop}{pins:List (Addr×Obj)}{s:Shared}{σ:St}{H:Hp}{Q:VK}(B:BlkS X.N X.env.scope js (x::caps) scope)(hc:X.calm=true)(hx:scope.names.lookup x=some .local)(hi:PI X (.Name x px) iter wi)(ht:∀C fp s₀ H₀,PIfs (blk X (x::caps) scope C fp s₀ H₀) ifs tt)(he:∀C fp s₀ H₀,PE (blk X (x::caps) scope C fp s₀ H₀) elt te)(hs:∀v,foldedSetIterable iter X.env v=pure v)(I:Inv X pins σ H s)(hw:tLC js wi tt te σ H Q)(fin:∀(C D:Addr) (oC:Obj) (ys:List V) (H':Hp) (s1:Shared),Inv X (pins++[(C,oC)]) σ (upd H' D (.lst ys)) s1->Q (.ref D) (upd H' D (.lst ys)) ->
   (∀σ' H'' s',Inv X (pins++[(C,oC)]) σ' H'' s'->(∃m,s'.heap.Ns C m)/\∀h',Heap.SameBut C s'.heap h'->Inv X pins σ' H'' { s' with heap:=h' }) ->
   compPost (model X.prog X.w) X.A X.xe use Qf (.ref D) C (.ok .next) s1) :
  wpAny (model X.prog X.w) X.A (comprehension (.ListComp elt [⟨.Name x px,iter,ifs,0⟩] scope pos) scope X.env p (newList []) false (eval iter X.env) use) Qf X.xe s:=by
 have fr:=I.frees B
 refine wpAny_comprehension_free (use:=use) rfl hs (zhI fr) B.kind B.names (thn (hi pins s σ H _ I hw) fun v s1 h1=>thn h1 fun itv s2 h2=>?_)
 obtain⟨it,fp,tn,J,H2,e,I2,T,st2,f2,W,⟨m0,w0⟩,turn⟩:=h2
 subst e
 refine wpAny_newObj_type (wpAny_newFunctionEnv B.cell (by intro y hy;simp at hy) (fun h₁ hns₁ hsb₁=>?_) B.kind)
 dsimp only at hns₁ hsb₁ ⊢
 generalize hG:s2.heap.push { cls:=.type "list",dict:=none,data:=.seq ([]:List Value).toArray }=G at hns₁ hsb₁ ⊢
 have hC:G.objs.size=s2.heap.objs.size+1:=by rw[<- hG,Heap.size_push]
 have hDC:s2.heap.objs.size≠G.objs.size:=by rw[hC];exact Nat.ne_of_lt (Nat.lt_succ_self _)
 have hCle:s2.heap.objs.size<=G.objs.size:=by rw[hC];exact Nat.le_succ _
 have old:∀b o,s2.heap.get? b=some o->h₁.get? b=some o:=fun b o e =>
  hsb₁.extBut b o (Nat.ne_of_lt (Nat.lt_of_lt_of_le (Heap.lt_size e) hCle)) (Heap.get?_push_of_some _ (hG▸Heap.get?_push_of_some _ e))
 have hacc:h₁.get? s2.heap.objs.size=some (LCg.lst []):=hsb₁.extBut _ _ hDC (Heap.get?_push_of_some _ (hG▸Heap.get?_push_size _ rfl))
 have fpo:∀b∈fp,∃o,s2.heap.get? b=some o:=fun b hb=>let ⟨o,e,_⟩:=T.obj 0 _ st2 b hb;⟨o,e⟩
 have fpl:∀b∈fp,b<s2.heap.objs.size:=fun b hb=>let ⟨o,e⟩:=fpo b hb;Heap.lt_size e
 have clo:∀y c,(clOf scope X.env).lookup y=some c->X.env.cells.lookup y=some c:=fun y c e=>zft fr e
 have cls2:∀y c,X.env.cells.lookup y=some c->c<s2.heap.objs.size:=fun y c e=>let ⟨v,o,h1,_⟩:=I2.cell y c e;Heap.lt_size h1
 have st1:tn 0 h₁:=T.keep 0 _ _ st2 fun b _ o e=>old b o e
 have D_fs:s2.heap.objs.size∉frs X.stack:=I2.stkNe (Nat.ne_of_gt I2.lt) (I2.nofs (Nat.le_refl _))
 have C_fs:G.objs.size∉X.fs:=I2.nofs hCle
 have C_L:G.objs.size≠X.env.locals:=Nat.ne_of_gt (Nat.lt_of_lt_of_le I2.lt hCle)
 have fpY:∀{pl:List (Addr×Obj)} {H':Hp},(∀b∈fp,H' b=none)->(∀p∈pl,s2.heap.objs.size<=p.1)->∀b∈fp,zlt (blk X (x::caps) scope G.objs.size fp s2 H2) pl H' b:=fun {pl H'} hn hp b hb =>
  ⟨hn b hb,Nat.ne_of_lt (Nat.lt_of_lt_of_le (fpl b hb) hCle),I2.stkNe (f2 b hb).2.1 (f2 b hb).2.2.1,.inl hb,fun y c h=>(f2 b hb).2.2.2.2.1 y c (clo y c h),fun p hp' z =>
   absurd (Nat.lt_of_lt_of_le (fpl b hb) (by rw[<- z];exact hp p (by simpa[blk] using hp'))) (Nat.lt_irrefl _)⟩
 have rel:∀{oC:Obj} {mC:Str->Option Value},LCg.NsObj oC mC->∀σ' H'' s',Inv X (pins++[(G.objs.size,oC)]) σ' H'' s'->(∃m,s'.heap.Ns G.objs.size m)/\∀h',Heap.SameBut G.objs.size s'.heap h'->Inv X pins σ' H'' { s' with heap:=h' }:=by
  intro oC mC hns σ' H'' s' I'
  obtain⟨e1,e2,e3,e4,e5⟩:=I'.pin (G.objs.size,oC) (List.mem_append_right _ (List.mem_append_right _ (by simp)))
  refine⟨⟨mC,hns.ns e1⟩,fun h' hs'=>?_⟩
  exact(I'.unpinned).turned (t':=s'.toks) (it:=G.objs.size) (fun b o hb e=>(hs'.2 b hb).trans e) e2 e3 (.inr (Nat.le_trans I2.sz hCle)) (fun y c h z=>absurd (Nat.lt_of_lt_of_le (cls2 y c h) (by rw[z];exact hCle)) (Nat.lt_irrefl _))
   (fun q hq z=>absurd (Nat.lt_of_lt_of_le (Heap.lt_size (I2.pin q hq).1) (by rw[z];exact hCle)) (Nat.lt_irrefl _))
 have I1:Inv (blk X (x::caps) scope G.objs.size fp s2 H2) [] (none::zhH js σ) H2 { s2 with heap:=h₁,toks:=s2.toks+([]:List (Str×Value)).length }:=ziL B I2 f2 fpo hCle old hns₁
 have hxl:(blk X (x::caps) scope G.objs.size fp s2 H2).env.scope.names.lookup x=some .local:=lookup_relabel_local hx
 have pinD:∀{us:List Value} {σ3:St} {H3:Hp} {s3:Shared},Inv (blk X (x::caps) scope G.objs.size fp s2 H2) [] σ3 H3 s3->s3.heap.get? s2.heap.objs.size=some (LCg.lst us)->H3 s2.heap.objs.size=none ->
   Inv (blk X (x::caps) scope G.objs.size fp s2 H2) [(s2.heap.objs.size,LCg.lst us)] σ3 H3 s3:=fun {us σ3 H3 s3} I3 hD nD=>I3.pins_of fun p hp=>by
  have e:p=(s2.heap.objs.size,LCg.lst us):=by simpa using hp
  subst e
  exact⟨hD,nD,hDC,D_fs,fun v z=>by
   have z':Data.seq _ _=Data.cell v:=z
   cases z'⟩
 have back:∀{us us':List Value} {ts:Option V} {H8:Hp} {s5 s8:Shared} {h9:Heap} {i:Nat},Inv (blk X (x::caps) scope G.objs.size fp s2 H2) ([(s2.heap.objs.size,LCg.lst us)]++zes fp s5.heap) (ts::zhH js σ) H8 s8->tn (i+1) s5.heap ->
   (∀b,b≠s2.heap.objs.size->h9.get? b=s8.heap.get? b)->h9.get? s2.heap.objs.size=some (LCg.lst us') ->
   Inv (blk X (x::caps) scope G.objs.size fp s2 H2) [] (none::zhH js σ) H8 { s8 with heap:=h9 }/\tn (i+1) h9/\(∀b∈fp,H8 b=none)/\H8 s2.heap.objs.size=none:=by
  intro us us' ts H8 s5 s8 h9 i I8 st5 hk hD9
  have pn:∀q∈[(s2.heap.objs.size,LCg.lst us)]++zes fp s5.heap,s8.heap.get? q.1=some q.2/\H8 q.1=none:=fun q hq=>let z:=I8.pin q (List.mem_append_right _ hq);⟨z.1,z.2.1⟩
  have nD:H8 s2.heap.objs.size=none:=(pn (s2.heap.objs.size,LCg.lst us) (by simp)).2
  have Iw:Inv (blk X (x::caps) scope G.objs.size fp s2 H2) [] (none::zhH js σ) H8 s8:=(I8.pins_of (pins':=[]) fun q hq=>nomatch hq).weak rfl fun j v e=>by
   cases j with
   | zero =>
    have q:some (none:Option V)=some (some v):=e
    cases q
   | succ j=>exact e
  refine⟨Iw.turned (t':=s8.toks) (it:=s2.heap.objs.size) (fun b o hb e=>(hk b hb).trans e) nD hDC (.inr (Nat.le_refl _)) (fun y c h z=>absurd (cls2 y c (clo y c h)) (by rw[z];exact Nat.lt_irrefl _)) (fun q hq=>absurd (show q∈([]:List (Addr×Obj)) from hq) (by simp)),
   T.keep _ _ _ st5 fun b hb o e=>?_,fun b hb=>?_,nD⟩
  ·rw[hk b (Nat.ne_of_lt (fpl b hb))]
   exact(pn (b,o) (List.mem_append_right _ (zco hb e))).1
  ·obtain⟨o,e,_⟩:=T.obj _ _ st5 b hb
   exact(pn (b,o) (List.mem_append_right _ (zco hb e))).2
 have loop:codeAny (model X.prog X.w) X.A (.compLoop (.ListComp elt [⟨.Name x px,iter,ifs,0⟩] scope pos) 0 (.ref it) (.ref s2.heap.objs.size) (compEnvC scope (clOf scope X.env) G.objs.size X.env))
   (compPost (model X.prog X.w) X.A X.xe use Qf (.ref s2.heap.objs.size) G.objs.size) { s2 with heap:=h₁,toks:=s2.toks+([]:List (Str×Value)).length }:=by
  refine codeAny_compLoop_tests (fun n s'=>∃(i:Nat) (ys:List V) (us:List Value) (H':Hp),Inv (blk X (x::caps) scope G.objs.size fp s2 H2) [] (none::zhH js σ) H' s'/\tn i s'.heap/\(∀b∈fp,H' b=none) /\
   s'.heap.get? s2.heap.objs.size=some (LCg.lst us)/\Vals ys us/\H' s2.heap.objs.size=none/\ys.length<=sizeLine/\W i n ys H') ?_ m0 ⟨0,[],[],H2,I1,st1,fun b hb=>(f2 b hb).1,hacc,.nil,I2.hok.fresh (Nat.le_refl _),Nat.zero_le _,w0⟩
  rintro n s3 ⟨i,ys,us,H3,I3,st3,fr3,hD,rv,nD,hz,w3⟩
  have I3':=pinD I3 hD nD
  have hpl:∀p∈[(s2.heap.objs.size,LCg.lst us)],s2.heap.objs.size<=p.1:=fun p hp=>by
   have e:p=(s2.heap.objs.size,LCg.lst us):=by simpa using hp
   subst e
   exact Nat.le_refl _
  rcases turn i n ys H3 w3 with ⟨stop,q⟩|⟨go,hlt,N,hN,step⟩
  ·refine wpAny_mono (T.done (blk X (x::caps) scope G.objs.size fp s2 H2) rfl rfl rfl hc i _ s3 _ H3 (fun _ _=>False) I3' (fpY fr3 hpl) st3 stop) (fun r s4 hr=>?_) fun _ _ z=>z.elim
   obtain⟨hr,I4⟩:=hr
   subst hr
   have hD4:s4.heap.get? s2.heap.objs.size=some (LCg.lst us):=(I4.pin (s2.heap.objs.size,LCg.lst us) (List.mem_append_right _ (by simp))).1
   have un:Un (frs X.stack) fp H2 (upd H3 s2.heap.objs.size (.lst ys)) s2.heap s4.heap :=
    ⟨fun b o e n hb hx=>I4.base.keep b o e n hb hx,fun b o e n hb hx=>I4.base.slot b o e n hb hx,fun b o e n hx=>by rw[zaz (Nat.ne_of_lt (Heap.lt_size e))];exact I4.base.free b o e n hx,fun b o e hx=>I4.base.there b o e hx,
     fun b zs e=>by have q:=I4.base.tups b zs e;rw[zaz (zaq q nD)];exact q,fun b o u e=>by have q:=I4.base.frzs b o u e;rw[zaz (zaq q nD)];exact q,
     fun b ps e=>by obtain⟨more,q⟩:=I4.base.tbls b ps e;exact⟨more,by rw[zaz (zaq q nD)];exact q⟩⟩
   have hok4:HOk X.prog X.w (upd H3 s2.heap.objs.size (.lst ys)) s4.heap:=HOk.track I4.hok nD ⟨hz,us,us.length,rv,hD4⟩
   have IX:Inv X pins σ (upd H3 s2.heap.objs.size (.lst ys)) s4:=I2.call' (ch:=fp) I4.os un hok4 I4.bare fun b hb=>⟨(f2 b hb).2.2.2.1,(f2 b hb).2.1,(f2 b hb).2.2.2.2.1,(f2 b hb).2.2.2.2.2⟩
   obtain⟨mC,hnC,_⟩:=I4.loc
   obtain⟨oC,eC,nsC⟩:=LCg.ns_obj hnC
   have nC:(upd H3 s2.heap.objs.size (.lst ys)) G.objs.size=none:=by rw[zaz (Ne.symm hDC)];exact I4.free
   have dC:∀v,oC.data≠.cell v:=fun v z=>by
    obtain⟨es,ep,d,_⟩:=nsC
    rw[d] at z;cases z
   have IX':Inv X (pins++[(G.objs.size,oC)]) σ (upd H3 s2.heap.objs.size (.lst ys)) s4:=IX.pins_of fun q hq=>by
    rcases List.mem_append.mp hq with z|z
    ·exact IX.pin q (List.mem_append_right _ z)
    ·have e:q=(G.objs.size,oC):=by simpa using z
     subst e
     exact⟨eC,nC,C_L,C_fs,dC⟩
   exact fin G.objs.size s2.heap.objs.size oC ys H3 s4 IX' (q _ nD) (rel nsC)
  ·refine wpAny_mono (T.item (blk X (x::caps) scope G.objs.size fp s2 H2) rfl rfl rfl hc i _ s3 _ H3 (fun _ _=>False) I3' (fpY fr3 hpl) st3 go) (fun r s4 hr=>?_) fun _ _ z=>z.elim
   obtain⟨u,hr,h4⟩:=hr
   subst hr
   show wpAny _ _ (assign _ _ u) _ _ s4
   refine zkC h4 fun h5=>?_
   obtain⟨xv,H5,I5,r5,y5,st5,fr5⟩:=h5
   have I5':=I5.pinned (fpY fr5 hpl) (T.obj _ _ st5)
   refine wpAny_mono (zf6 (X:=blk X (x::caps) scope G.objs.size fp s2 H2) (i:=0) (x:=x) B.nd rfl (Or.inl hxl) (.inr hxl) _ s4 _ H5 xv u (fun σ' H'=>σ'=some xv::zhH js σ/\H'=H5) I5' r5 ⟨rfl,rfl⟩) (fun _ s6 h6=>?_) fun _ _ z=>False.elim z
   obtain⟨σ6,H6,I6,e6,e6'⟩:=h6
   subst e6 e6'
   refine wpAny_mono (ht _ _ _ _ _ s6 _ _ _ I6 (step xv _ y5)) (fun b s7 h7=>?_) fun _ _ z=>False.elim z
   obtain⟨H7,I7,q7⟩:=h7
   cases b with
   | false =>
    rw[if_neg Bool.false_ne_true] at q7
    show if false=true then _ else _
    rw[if_neg Bool.false_ne_true]
    have hD7:s7.heap.get? s2.heap.objs.size=some (LCg.lst us):=(I7.pin (s2.heap.objs.size,LCg.lst us) (List.mem_append_right _ (List.mem_append_left _ (by simp)))).1
    obtain⟨J1,J2,J3,J4⟩:=back I7 st5 (fun _ _=>rfl) hD7
    obtain⟨m',hm,w'⟩:=hN _ _ q7
    exact⟨m',hm,i+1,ys,us,H7,J1,J2,J3,hD7,rv,J4,hz,w'⟩
   | true =>
    rw[if_pos rfl] at q7
    show if true=true then _ else _
    rw[if_pos rfl]
    refine wpAny_mono (he _ _ _ _ _ s7 _ _ _ I7 q7) (fun yu s8 h8=>?_) fun _ _ z=>False.elim z
    obtain⟨yv,H8,I8,r8,q8⟩:=h8
    have hD8:s8.heap.get? s2.heap.objs.size=some (LCg.lst us):=(I8.pin (s2.heap.objs.size,LCg.lst us) (List.mem_append_right _ (List.mem_append_left _ (by simp)))).1
    have hlu:us.length=ys.length:=rv.length.symm
    refine append_at hD8 (fun h9 hs9 hD9=>?_) (by rw[List.size_toArray,hlu];exact hz)
    have hD9':h9.get? s2.heap.objs.size=some (LCg.lst (us++[yu])):=hD9.trans (congrArg some (LCg.lst_snoc us yu))
    obtain⟨J1,J2,J3,J4⟩:=back I8 st5 hs9.2 hD9'
    obtain⟨m',hm,w'⟩:=hN _ _ q8
    exact⟨m',hm,i+1,ys++[yv],us++[yu],H8,J1,J2,J3,hD9',rv.append (.cons r8 .nil),J4,by rw[List.length_append,List.length_singleton];exact hlt,w'⟩
 exact codeAny_compStart_list loop (T.self X.A 0 _ _ _ st1 loop)
theorem zqD(B:BlkS X.N X.env.scope js (x::caps) scope)(hc:X.calm=true)(hx:scope.names.lookup x=some .local)(hi:PI X (.Name x px) iter wi)(ht:∀C fp s₀ H₀,PIfs (blk X (x::caps) scope C fp s₀ H₀) ifs tt)(he:∀C fp s₀ H₀,PE (blk X (x::caps) scope C fp s₀ H₀) elt te)(hs:∀v,foldedSetIterable iter X.env v=pure v:=by intro _;rfl):PE X (.ListComp elt [⟨.Name x px,iter,ifs,0⟩] scope pos) (tLC js wi tt te):=by
 intro pins s σ H Q I hw
 rw[eval_ListComp]
 refine ziM (use:=none) (Q:=Q) B hc hx hi ht he hs I hw fun C D oC ys H' s1 IX q rel=>?_
 obtain⟨⟨m,hn⟩,rl⟩:=rel _ _ _ IX
 exact⟨m,hn,fun h' hs'=>⟨.ref D,_,rl h' hs',rfl,q⟩⟩
theorem zqE{y:Str}{py spos:Pos}{k:Nat}(B:BlkS X.N X.env.scope js (x::caps) scope)(hc:X.calm=true)(hx:scope.names.lookup x=some .local)(hi:PI X (.Name x px) iter wi)(ht:∀C fp s₀ H₀,PIfs (blk X (x::caps) scope C fp s₀ H₀) ifs tt)(he:∀C fp s₀ H₀,PE (blk X (x::caps) scope C fp s₀ H₀) elt te)(hN:X.N.Nodup)(hk:X.N[k]?=some y)(hy:X.env.scope.names.lookup y=some .local)(hsw:swapsWith (.ListComp elt [⟨.Name x px,iter,ifs,0⟩] scope pos) (some (.Name y py)) spos.line X.env=pure true)(hs:∀v,foldedSetIterable iter X.env v=pure v:=by intro _;rfl):PS X (.Assign [.Name y py] (.ListComp elt [⟨.Name x px,iter,ifs,0⟩] scope pos) spos) (zqf (tLC js wi tt te) (gName k)):=by
 intro pins s σ H D I hw
 rw[exec_Assign_Name_used _ _ _ _ hsw]
 refine wpAny_bind (wpAny_standAt (wpAny_bind ?_))
 show wpAny _ _ (do let _ <- comprehension (.ListComp elt [⟨.Name x px,iter,ifs,0⟩] scope pos) scope X.env _ (newList []) false (eval iter X.env) (some (assign (.Name y py) X.env))) _ _ s
 refine wpAny_bind (thn (ziM (use:=some (assign (.Name y py) X.env)) (Qf:=fun _ s'=>SP X pins D .next s') (Q:=fun v H1=>D.nx (σ.set k (some v)) H1) B hc hx hi ht he hs I hw fun C a oC ys H' s1 IX q rel=>?_) fun _ s' hq=>wpAny_pure (wpAny_pure hq))
 show wpAny _ _ (assign (.Name y py) X.env (.ref a)) _ _ s1
 refine thn (zf6 (i:=k) hN hk (Or.inl hy) (.inr hy) _ s1 σ _ (.ref a) (.ref a) (fun σ' H'=>D.nx σ' H') IX rfl q) fun _ s' h=>?_
 obtain⟨σ',H'',I',q'⟩:=h
 obtain⟨⟨m,hn⟩,rl⟩:=rel _ _ _ I'
 exact⟨m,hn,fun h' hs'=>⟨σ',H'',rl h' hs',q'⟩⟩
end
end L2
namespace L2
open PySem PySem.Spec PyProof.Rows
section
variable {X:Cx} {p pos:Pos}
theorem zf9:CallR X (.builtin "sorted") (fun xs H Q=>∃(a:Addr) (ns:List Int),xs=[.ref a]/\SqL X.K H a (ns.map V.int)/\ns.length<64/\∀ms:List Int,ms.Perm ns->ms.Pairwise (·<=·)->∀l,H l=none->Q (.ref l) (upd H l (.lst (ms.map V.int)))):=by
 intro pins s σ H xs us Q I r h
 obtain⟨a,ns,rfl,hq,h64,q⟩:=h
 obtain⟨u,rfl,rx⟩:=zdN r
 cases rx
 obtain⟨its,rv,pl,hz⟩:=I.list hq
 have hlen:ns.length=its.length:=by have:=rv.length;simpa using this
 refine sorted_ints pl.isList (zhE rv) (by omega) fun out ms hI hp hs=>?_
 obtain⟨e,he⟩:=sortedAll_at s.heap its out
 have rv':Vals (ms.map V.int) out.toList:=zb7 hI
 have hl':ms.length=ns.length:=hp.length_eq
 refine⟨.ref (s.heap.objs.size+1),_,I.laid (t':=s.toks) (a:=s.heap.objs.size+1) (o:=.lst (ms.map V.int)) (fun b o e=>sortedAll_old e) (Nat.le_succ _) ?_,rfl,q ms hp hs _ (I.hok.fresh (Nat.le_succ _))⟩
 refine⟨by rw[List.length_map,hl',hlen];have:=rv.length;omega,out.toList,e,rv',?_⟩
 rw[Array.toArray_toList]
 exact he
end
abbrev Rep(α:Type):=PySem.W.Frag->Hp->V->α->Prop
def zsC:Rep Int:=fun _ _ v i=>v=.int i
def zsD{α:Type}(R:Rep α):Rep (List α):=fun K H v l=>∃p vs,v=.ref p/\SqL K H p vs/\Paired (R K H) vs l
def rPr{α β:Type}(R:Rep α)(S:Rep β):Rep (α×β):=fun K H v l=>∃p x y,v=.ref p/\SqT K H p [x,y]/\R K H x l.1/\S K H y l.2
theorem Paired.at2{α β:Type}{F:α->β->Prop}:∀{l₁:List α} {l₂:List β},Paired F l₁ l₂->∀(i:Nat) (a:α),l₁[i]?=some a->∃b,l₂[i]?=some b/\F a b
 | _,_,.nil,_,_,h=>by simp at h
 | _,_,.cons r t,0,a,h=>by simp at h;subst h;exact⟨_,rfl,r⟩
 | _,_,.cons r t,i+1,a,h=>by
  obtain⟨b,h1,h2⟩:=Paired.at2 t i a (by simpa using h)
  exact⟨b,by simpa using h1,h2⟩
section
variable {α β:Type} [DecidableEq α] [DecidableEq β] {n:Nat} {R:Rep α} {S:Rep β} {X:Cx} {pins:List (Addr×Obj)} {σ:St} {H:Hp} {s:Shared} {A:Around}
end
section
variable {α β:Type} [DecidableEq α] [DecidableEq β] {n:Nat} {R:Rep α} {S:Rep β}
end
section
variable {α:Type} [DecidableEq α] {n:Nat} {R:Rep α} {X:Cx}
end
section
variable {α β:Type} [DecidableEq α] [DecidableEq β] {n:Nat} {R:Rep α} {S:Rep β}
end
end L2
namespace L2
open PySem PySem.Spec PyProof.Rows
section
variable {X:Cx} {st:Stmt} {zdv:List Stmt} {t u:TS} {e:Expr} {te:TE} {tt:TT}
end
def zov(N:List Str)(psc:Scope)(js:List Nat)(N':List Str)(scope:Scope):Bool :=
 scope.names.all (fun y=>decide (y.2≠.cell))&&decide (scope.kind=.function)&&scope.names.all (fun y=>decide (y.2=.local->scope.names.lookup y.1=some .local)) &&
 scope.names.all (fun y=>decide (y.2=.free->psc.names.lookup y.1=some .cell\/psc.names.lookup y.1=some .free))&&decide N'.Nodup&&decide (N'.length=js.length+1) &&
 (js.zip (N'.drop 1)).all (fun p=>decide (N[p.1]?=some p.2/\scope.names.lookup p.2=some .free))
theorem zcS{N:List Str}{psc:Scope}{js:List Nat}{N':List Str}{scope:Scope}(h:zov N psc js N' scope=true):BlkS N psc js N' scope:=by
 unfold zov at h
 simp only[Bool.and_eq_true,List.all_eq_true,decide_eq_true_eq] at h
 obtain⟨⟨⟨⟨⟨⟨h1,h2⟩,h3⟩,h4⟩,h5⟩,h6⟩,h7⟩:=h
 exact⟨h1,h2,h3,h4,h5,h6,h7⟩
theorem Room.cmp{k:Nat}{A:Around}(r:Room k A)(n:Nat)(h:n<=64:=by decide):A.units+n<cLine:=by have:=r.units;omega
theorem Paired.app{α β:Type}{F:α->β->Prop}:∀{l₁ m₁:List α} {l₂ m₂:List β},Paired F l₁ l₂->Paired F m₁ m₂->Paired F (l₁++m₁) (l₂++m₂)
 | _,_,_,_,.nil,s=>s
 | _,_,_,_,.cons r t,s=>.cons r (Paired.app t s)
def pr(H:Hp)(v:V)(l:Int×Int):Prop:=∃q,v=.ref q/\H q=some (.tup [.int l.1,.int l.2])
def Lns(H:Hp)(p:Addr)(L:List (Int×Int)):Prop:=∃vs,H p=some (.lst vs)/\Paired (pr H) vs L
def zqF(H:Hp)(v:V)(r:List Int):Prop:=∃q,v=.ref q/\H q=some (.tup (r.map V.int))
def zrp(H:Hp)(v:V)(rows:List (List Int)):Prop:=∃q vs,v=.ref q/\H q=some (.tup vs)/\Paired (zqF H) vs rows
end L2
namespace L2
open PySem PySem.Spec PyProof.Rows
section
variable {X:Cx} (K:PySem.W.Frag)
theorem ixL(hK:X.K=K:=by rfl):IxR X (zqy K):=hK▸zmx
theorem ixT(hK:X.K=K:=by rfl):IxR X (zqz K):=hK▸zoq
def zmz(K:PySem.W.Frag):List V->Hp->VK->Prop:=fun xs H Q=>∃(a:Addr) (ns:List Int),xs=[.ref a]/\SqL K H a (ns.map V.int)/\ns.length<64/\∀ms:List Int,ms.Perm ns->ms.Pairwise (·<=·)->∀l,H l=none->Q (.ref l) (upd H l (.lst (ms.map V.int)))
def zmA(K:PySem.W.Frag):List V->Hp->VK->Prop:=fun xs H Q=>∃p ys,xs=[.ref p]/\(SqL K H p ys\/SqT K H p ys)/\∀l,H l=none->Q (.ref l) (upd H l (.lst ys))
def zlv(K:PySem.W.Frag):List V->Hp->VK->Prop:=fun xs H Q=>∃p ys,xs=[.ref p]/\((SqL K H p ys/\∀l,H l=none->Q (.ref l) (upd H l (.tup ys)))\/(SqT K H p ys/\Q (.ref p) H))
theorem zfu(hK:X.K=K:=by rfl):CallR X (.type "tuple") (zlv K):=hK▸zeO
variable {tg l a:Expr} {tl ta:TE}
def zsl(K:PySem.W.Frag)(ta:TE):TT:=fun σ H Q=>ta σ H fun x H'=>∃k,zpU K x H' k/\Q k H'
theorem zqG(ha:PE X a ta)(he:∀whole,isTrue a X.env whole=(do let v <- whole;standAt a.pos;holding [v] (truthy v)))(hK:X.K=K:=by rfl):PT X a (zsl K ta):=hK▸zkt ha he
variable {α:Type} [DecidableEq α] {n:Nat} {R:Rep α}
end
end L2
namespace L2
open PySem PySem.Spec PyProof.Rows
section
variable {κ:Type} [DecidableEq κ]
def zhJ(kvs:List (κ×V))(k:κ):Option V:=(kvs.find? fun kv=>decide (kv.1=k)).map (·.2)
def zfj(kvs:List (κ×V))(k:κ)(v:V):List (κ×V) :=
 if (kvs.any fun kv=>decide (kv.1=k))=true then kvs.map (fun kv=>if kv.1=k then (kv.1,v) else kv) else kvs++[(k,v)]
def zsm(kvs:List (κ×V))(k:κ):List (κ×V):=kvs.filter fun kv=>decide (kv.1≠k)
theorem zdx{p:κ×V}{r:List (κ×V)}{k:κ}(e:p.1=k):zhJ (p::r) k=some p.2:=by simp[zhJ,List.find?_cons,e]
theorem zdy{p:κ×V}{r:List (κ×V)}{k:κ}(e:¬p.1=k):zhJ (p::r) k=zhJ r k:=by simp[zhJ,List.find?_cons,e]
theorem zgL(k:κ):∀kvs:List (κ×V),(kvs.any fun kv=>decide (kv.1=k))=(zhJ kvs k).isSome
 | []=>rfl
 | p::r=>by
  rw[List.any_cons]
  by_cases e:p.1=k
  ·simp only[zdx e,decide_eq_true e,Bool.true_or,Option.isSome_some]
  ·rw[zdy e,decide_eq_false e,Bool.false_or];exact zgL k r
theorem zcD(kvs:List (κ×V))(k:κ)(v:V):(zfj kvs k v).length<=kvs.length+1:=by
 unfold zfj
 split
 ·rw[List.length_map];omega
 ·rw[List.length_append,List.length_cons,List.length_nil];omega
theorem RelO.isSome_eq{o:Option V}{u:Option Value}(r:RelO o u):o.isSome=u.isSome:=by
 cases o with
 | none=>cases u with
  | none=>rfl
  | some _=>exact(show False from r).elim
 | some _=>cases u with
  | none=>exact(show False from r).elim
  | some _=>rfl
theorem KV.val{kvs:List (κ×V)}{vs:List (κ×Value)}(r:KV kvs vs)(k:κ):RelO (zhJ kvs k) (valueAt vs k):=by
 unfold KV at r
 induction r with
 | nil=>exact True.intro
 | @cons p q ps qs h t ih =>
  obtain⟨h1,h2⟩:=h
  by_cases e:p.1=k
  ·have e':q.1=k:=h1.symm.trans e
   have b:valueAt (q::qs) k=some q.2:=by simp[valueAt,List.find?_cons,e']
   rw[zdx e,b];exact h2
  ·have e':¬q.1=k:=fun z=>e (h1.trans z)
   have b:valueAt (q::qs) k=valueAt qs k:=by simp[valueAt,List.find?_cons,e']
   rw[zdy e,b];exact ih
theorem KV.any{kvs:List (κ×V)}{vs:List (κ×Value)}(r:KV kvs vs)(k:κ):(kvs.any fun kv=>decide (kv.1=k))=vs.any fun kv=>decide (kv.1=k):=by
 unfold KV at r
 induction r with
 | nil=>rfl
 | cons h t ih=>rw[List.any_cons,List.any_cons,ih,h.1]
theorem KV.repl{kvs:List (κ×V)}{vs:List (κ×Value)}(r:KV kvs vs)(k:κ){y:V}{u:Value}(ry:RelV y u) :
  KV (kvs.map fun kv=>if kv.1=k then (kv.1,y) else kv) (vs.map fun kv=>if kv.1=k then (kv.1,u) else kv):=by
 unfold KV at r ⊢
 induction r with
 | nil=>exact .nil
 | @cons p q ps qs h t ih =>
  rw[List.map_cons,List.map_cons]
  refine .cons ?_ ih
  obtain⟨h1,h2⟩:=h
  by_cases e:p.1=k
  ·rw[if_pos e,if_pos (h1.symm.trans e)];exact⟨h1,ry⟩
  ·rw[if_neg e,if_neg (fun z=>e (h1.trans z))];exact⟨h1,h2⟩
theorem KV.put{kvs:List (κ×V)}{vs:List (κ×Value)}(r:KV kvs vs)(k:κ){y:V}{u:Value}(ry:RelV y u):KV (zfj kvs k y) (stored vs k u):=by
 unfold zfj stored
 rw[r.any k]
 by_cases e:(vs.any fun kv=>decide (kv.1=k))=true
 ·rw[if_pos e,if_pos e];exact r.repl k ry
 ·rw[if_neg e,if_neg e];exact Paired.snoc r ⟨rfl,ry⟩
theorem KV.keys{kvs:List (κ×V)}{vs:List (κ×Value)}(r:KV kvs vs):kvs.map (·.1)=vs.map (·.1):=by
 unfold KV at r
 induction r with
 | nil=>rfl
 | cons h t ih=>rw[List.map_cons,List.map_cons,ih,h.1]
theorem KV.length{kvs:List (κ×V)}{vs:List (κ×Value)}(r:KV kvs vs):kvs.length=vs.length:=Paired.length r
end
theorem kV_is{P:Program}{w:World}{k:Key}{u:Value}(r:RelV (kV k) u):(zaV P w).is k u=true:=by
 cases k with
 | inl i=>obtain⟨t,e⟩:=(show ∃t,u=Value.int i t from r);subst e;exact zf3 P w i t
 | inr x=>obtain⟨t,e⟩:=(show ∃t,u=Value.str x t from r);subst e;exact zf4 P w x t
theorem zfv{P:Program}{w:World}:∀{ks:List Key} {us:List Value},Vals (ks.map kV) us->ItemsAre (zaV P w) ks us
 | [],_,r=>by rw[List.map_nil] at r;cases r;exact .nil
 | k::ks,_,r=>by
  rw[List.map_cons] at r
  cases r with
  | cons h t=>exact .cons (kV_is h) (zfv t)
abbrev KT(H:Hp):List (List Key×V)->List (List Key×Addr×Value)->Prop:=Paired fun p q=>p.1=q.1/\H q.2.1=some (.tup (p.1.map kV))/\RelV p.2 q.2.2
theorem KT.val{H:Hp}{kvs:List (List Key×V)}{xs:List (List Key×Addr×Value)}(r:KT H kvs xs)(k:List Key):RelO (zhJ kvs k) ((atKey xs k).map (·.2)):=by
 induction r with
 | nil=>exact True.intro
 | @cons p q ps qs h t ih =>
  obtain⟨h1,_,h2⟩:=h
  by_cases e:p.1=k
  ·have e':q.1=k:=h1.symm.trans e
   have b:atKey (q::qs) k=some q.2:=by simp[atKey,List.find?_cons,e']
   rw[zdx e,b];exact h2
  ·have e':¬q.1=k:=fun z=>e (h1.trans z)
   have b:atKey (q::qs) k=atKey qs k:=by simp[atKey,List.find?_cons,e']
   rw[zdy e,b];exact ih
theorem KT.repl{H:Hp}{kvs:List (List Key×V)}{xs:List (List Key×Addr×Value)}(r:KT H kvs xs)(k:List Key){y:V}{u:Value}(ry:RelV y u) :
  KT H (kvs.map fun kv=>if kv.1=k then (kv.1,y) else kv) (xs.map (putAt k u)):=by
 induction r with
 | nil=>exact .nil
 | @cons p q ps qs h t ih =>
  rw[List.map_cons,List.map_cons]
  refine .cons ?_ ih
  obtain⟨h1,h2,h3⟩:=h
  unfold putAt
  by_cases e:p.1=k
  ·rw[if_pos e,if_pos (h1.symm.trans e)];exact⟨h1,h2,ry⟩
  ·rw[if_neg e,if_neg (fun z=>e (h1.trans z))];exact⟨h1,h2,h3⟩
theorem KT.put{H:Hp}{kvs:List (List Key×V)}{xs:List (List Key×Addr×Value)}(r:KT H kvs xs)(k:List Key){b:Addr}{y:V}{u:Value}(hb:H b=some (.tup (k.map kV)))(ry:RelV y u) :
  KT H (zfj kvs k y) (storedH xs k b u):=by
 have e:(kvs.any fun kv=>decide (kv.1=k))=(atKey xs k).isSome:=by
  rw[zgL,(r.val k).isSome_eq,Option.isSome_map]
 unfold zfj storedH
 rw[e]
 by_cases q:(atKey xs k).isSome=true
 ·rw[if_pos q,if_pos q];exact r.repl k ry
 ·rw[if_neg q,if_neg q];exact Paired.snoc r ⟨rfl,hb,ry⟩
theorem KT.keeps{H H':Hp}{kvs:List (List Key×V)}{xs:List (List Key×Addr×Value)}(r:KT H kvs xs)(ht:∀b ys,H b=some (.tup ys)->H' b=some (.tup ys)):KT H' kvs xs :=
 Paired.mapP r fun _ _ z=>⟨z.1,ht _ _ z.2.1,z.2.2⟩
section
variable {P:Program} {w:World} {H:Hp} {h:Heap} {a:Addr}
theorem zow{u:HO}(ok:HOk P w H h)(e:Rd H a u):ObjOk P w H h a u:=e.ok ok
theorem ziN{kvs:List (Key×V)}(ok:HOk P w H h)(e:Rd H a (.dK kvs)):kvs.length<=sizeLine/\(a==sysModules)=false/\∃vs,KV kvs vs/\h.DictOf (zaV P w) a vs :=
 show ObjOk P w H h a (.dK kvs) from zow ok e
theorem zox{kvs:List (Key×V)}(ok:HOk P w H h)(e:H a=some (.dK kvs)):kvs.length<=sizeLine/\(a==sysModules)=false/\∃vs,KV kvs vs/\h.DictOf (zaV P w) a vs:=ziN ok (.inl e)
theorem ziO{ks:List Key}(ok:HOk P w H h)(e:H a=some (.tup (ks.map kV))):(tupleKind (zaV P w)).is h ks a:=by
 obtain⟨_,its,r,o,h1,h2,⟨n,h3⟩,_⟩:=(show ObjOk P w H h a (.tup (ks.map kV)) from ok a _ e)
 exact⟨o,its.toArray,n,h1,h2,h3,by simpa using zfv r⟩
theorem zoy{kvs:List (List Key×V)}(ok:HOk P w H h)(e:Rd H a (.dT kvs)):kvs.length<=sizeLine/\(a==sysModules)=false /\
  ∃xs,KT H kvs xs/\h.DictOfH (tupleKind (zaV P w)) a xs:=by
 obtain⟨z,y,xs,r,o,es,ep,h1,h2,h3,h4,h5⟩:=(show ObjOk P w H h a (.dT kvs) from zow ok e)
 refine⟨z,y,xs,r,o,es,ep,h1,h2,h3,h4,fun x hx=>?_,h5⟩
 have all:∀{l:List (List Key×V)} {m:List (List Key×Addr×Value)},KT H l m->∀x∈m,(tupleKind (zaV P w)).is h x.1 x.2.1:=by
  intro l m q
  induction q with
  | nil=>intro x hx;exact nomatch hx
  | @cons p q ps qs hq t ih =>
   intro x hx
   rcases List.mem_cons.mp hx with e|hx
   ·subst e
    exact ziO ok (by rw[<- hq.1];exact hq.2.1)
   ·exact ih x hx
 exact all r x hx
theorem zqH{kvs:List (List Key×V)}(ok:HOk P w H h)(e:H a=some (.dT kvs)):kvs.length<=sizeLine/\(a==sysModules)=false /\
  ∃xs,KT H kvs xs/\h.DictOfH (tupleKind (zaV P w)) a xs:=zoy ok (.inl e)
end
def DGet(H:Hp)(a:Addr)(y:V)(r:Option V):Prop :=
 (∃kvs k,Rd H a (.dK kvs)/\y=kV k/\r=zhJ kvs k)\/∃kvs k b,Rd H a (.dT kvs)/\y=.ref b/\H b=some (.tup (k.map kV))/\r=zhJ kvs k
def DPut(H:Hp)(a:Addr)(y v:V)(H':Hp):Prop :=
 (∃kvs k,H a=some (.dK kvs)/\y=kV k/\kvs.length<sizeLine/\H'=upd H a (.dK (zfj kvs k v))) \/
 ∃kvs k b,H a=some (.dT kvs)/\y=.ref b/\H b=some (.tup (k.map kV))/\kvs.length<sizeLine/\H'=upd H a (.dT (zfj kvs k v))
theorem DGet.k{H:Hp}{a:Addr}{kvs:List (Key×V)}{k:Key}(e:H a=some (.dK kvs)):DGet H a (kV k) (zhJ kvs k):=.inl ⟨kvs,k,.inl e,rfl,rfl⟩
theorem DPut.k{H:Hp}{a:Addr}{kvs:List (Key×V)}{k:Key}{v:V}(e:H a=some (.dK kvs))(hl:kvs.length<sizeLine):DPut H a (kV k) v (upd H a (.dK (zfj kvs k v))):=.inl ⟨kvs,k,e,rfl,hl,rfl⟩
section
variable {X:Cx} {pins:List (Addr×Obj)} {σ:St} {H:Hp} {s:Shared} {a:Addr} {y v:V} {u r:Value} {o:Option V} {A:Around} {E:Value->Shared->Prop}
theorem Inv.big(I:Inv X pins σ H s):sysModules<s.heap.objs.size:=by
 have h:mainGlobals<s.heap.objs.size:=(I.mod.glob.keeps I.bk).lt
 exact Nat.lt_trans (by decide) h
theorem zmB{Q:Value->Shared->Prop}(hu:A.units+1<cLine)(I:Inv X pins σ H s)(g:DGet H a y o)(ry:RelV y u)(h:∀s',Inv X pins σ H s'->Q (.bool (!o.isSome)) s') :
  wpAny (model X.prog X.w) A (compareOp .NotIn u (.ref a)) Q E s:=by
 rcases g with ⟨kvs,k,e,ey,l⟩|⟨kvs,k,b,e,ey,eb,l⟩
 ·subst ey
  obtain⟨z,hd,vs,rel,dd⟩:=ziN I.hok e
  refine wpAny_notIn_of (kV_is ry) hd dd.mapOf ?_
  rw[<- (rel.val k).isSome_eq,<- l]
  exact h _ (I.tok _)
 ·subst ey
  cases (show u=Value.ref b from ry)
  obtain⟨z,hd,xs,rel,dd⟩:=zoy I.hok e
  refine wpAny_notIn_heap (tupleKind_room_in1 hu) (ziO I.hok eb) hd dd ?_
  have q:=(rel.val k).isSome_eq
  rw[Option.isSome_map] at q
  rw[<- q,<- l]
  exact h _ (I.tok _)
theorem zga{h':Heap}{t':Nat}{ob:HO}(I:Inv X pins σ H s)(mu:Mut (H a))(hs:Heap.SameBut a s.heap h')(he:∃q,h'.get? a=some q)(new:ObjOk X.prog X.w (upd H a ob) h' a ob) :
  Inv X pins σ (upd H a ob) { s with heap:=h',toks:=t' } :=
 I.write (x:=a) (e:=a) mu (.inl rfl) (fun b q hb z=>(hs.2 b hb).trans z) he new
theorem zlw{P:Program}{w:World}{H':Hp}{h':Heap}{kvs:List (Key×V)}{vs:List (Key×Value)}(z:kvs.length<=sizeLine)(hd:(a==sysModules)=false)(rel:KV kvs vs)(dd:h'.DictOf (zaV P w) a vs) :
  ObjOk P w H' h' a (.dK kvs):=⟨z,hd,vs,rel,dd⟩
theorem ziP{H':Hp}{Q:Unit->Shared->Prop}(hu:A.units+1<cLine)(I:Inv X pins σ H s)(g:DPut H a y v H')(ry:RelV y u)(rv:RelV v r)(h:∀s',Inv X pins σ H' s'->Q () s') :
  wpAny (model X.prog X.w) A (setItem (.ref a) u r) Q E s:=by
 rcases g with ⟨kvs,k,e,ey,l,eH⟩|⟨kvs,k,b,e,ey,eb,l,eH⟩
 ·subst ey eH
  obtain⟨z,hd,vs,rel,dd⟩:=zox I.hok e
  have hz:vs.length<=sizeLine:=by rw[<- rel.length];exact z
  have hl:(zfj kvs k v).length<=sizeLine:=by have:=zcD kvs k v;omega
  refine wpAny_setItem_pairs (hsz:=hz) (kV_is ry) dd fun h' dd' hs=>h _ ?_
  have he:∃q,h'.get? a=some q:=let ⟨q,_,_,hq,_⟩:=dd';⟨q,hq⟩
  exact zga I (by rw[e];exact True.intro) hs he (zlw hl hd (rel.put k rv) dd')
 ·subst ey eH
  cases (show u=Value.ref b from ry)
  obtain⟨z,hd,xs,rel,dd⟩:=zqH I.hok e
  have hz:xs.length<=sizeLine:=by rw[<- Paired.length rel];exact z
  have hl:(zfj kvs k v).length<=sizeLine:=by have:=zcD kvs k v;omega
  refine wpAny_setItem_heap (hsz:=hz) (tupleKind_room_in1 hu) (ziO I.hok eb) dd fun h' dd' hs=>h _ ?_
  obtain⟨q,es,ep,hq,h2,h3,h4,_,h5⟩:=dd'
  refine zga I (by rw[e];exact True.intro) hs ⟨q,hq⟩ ⟨hl,hd,_,(rel.put k eb rv).keeps fun c ys ec=>?_,q,es,ep,hq,h2,h3,h4,h5⟩
  rw[zaz (zp4 ec e (fun z=>nomatch z))]
  exact ec
end
section
variable {X:Cx} {pins:List (Addr×Obj)} {σ:St} {H:Hp} {s:Shared} {a:Addr} {kvs:List (Key×V)} {k:Key} {u:Value} {A:Around} {E:Value->Shared->Prop}
theorem zqI{Q:Value->Shared->Prop}(I:Inv X pins σ H s)(e:Rd H a (.dK kvs))(h:∀t s',Inv X pins σ H s'->Q (.int kvs.length t) s'):wpAny (model X.prog X.w) A (call (.builtin "len") [.ref a]) Q E s:=by
 obtain⟨z,hd,vs,rel,dd⟩:=ziN I.hok e
 refine call_len_dict hd dd (by rw[<- rel.length];rw[sizeLine_eq] at z;omega) ?_
 rw[<- rel.length]
 exact h _ _ (I.tok _)
end
def zmC(ty td:TE):TE:=fun σ H Q=>ty σ H fun y H1=>td σ H1 fun x H2=>∃a o,x=.ref a/\DGet H2 a y o/\Q (.bl (!o.isSome)) H2
def zqJ(td ty tv:TE):TS:=fun D σ H=>tv σ H fun v H1=>td σ H1 fun x H2=>ty σ H2 fun y H3=>∃a H4,x=.ref a/\DPut H3 a y v H4/\D.nx σ H4
section
variable {X:Cx} {o i e value:Expr} {pos pos' tpos:Pos} {td ty tv:TE}
theorem ziQ(hu:X.A.units+1<cLine)(hi:PE X i ty)(ho:PE X o td):PC X .NotIn i o (zmC ty td):=by
 intro pins s σ H Q I h
 refine thn (hi pins s σ H _ I h) fun iv s1 ⟨y,H1,I1,ry,q1⟩=>thn (ho pins s1 σ H1 _ I1 q1) fun u s2 ⟨x,H2,I2,rx,a,ov,ex,g,q2⟩=>?_
 subst ex
 obtain rfl:u=Value.ref a:=rx
 exact zmB hu I2 g ry fun s3 I3=>⟨.bl (!ov.isSome),H2,I3,rfl,q2⟩
theorem zmD(hu:X.A.units+1<cLine)(ho:PE X o td)(hi:PE X i ty)(hv:PE X value tv)(hs:swapsWith value (some (.Subscript o i pos')) pos.line X.env=pure false) :
  PS X (.Assign [.Subscript o i pos'] value pos) (zqJ td ty tv):=by
 intro pins s σ H D I h
 refine wpAny_Assign_Subscript (thn (hv pins s σ H _ I h) fun r s1 ⟨v,H1,I1,rv,q1⟩=>thn (ho pins s1 σ H1 _ I1 q1) fun u s2 ⟨x,H2,I2,rx,q2⟩=>thn (hi pins s2 σ H2 _ I2 q2) fun iv s3 ⟨y,H3,I3,ry,a,H4,ex,g,q3⟩=>?_) hs
 subst ex
 obtain rfl:u=Value.ref a:=rx
 exact ziP hu I3 g ry rv fun s4 I4=>⟨σ,H4,I4,q3⟩
end
theorem zgM{P:Program}{w:World}{H:Hp}(h:Heap)(hb:sysModules<h.objs.size):ObjOk P w H (h.push { cls:=.type "dict",data:=.dict #[] }) h.objs.size (.dK []) :=
 ⟨Nat.zero_le _,beq_eq_false_iff_ne.mpr (Ne.symm (Nat.ne_of_lt hb)),[],.nil,Heap.DictOf.new h⟩
def zoz:TE:=fun _ H Q=>∀p,H p=none->Q (.ref p) (upd H p (.dK []))
section
variable {X:Cx} {pos:Pos}
theorem zkD:PE X (.Dict [] [] pos) zoz:=fun pins s σ H Q I h =>
 wpAny_Dict_empty ⟨.ref s.heap.objs.size,_,I.laid (a:=s.heap.objs.size) (o:=.dK []) (t':=s.toks) (fun _ _ q=>Heap.get?_push_of_some _ q) (Nat.le_refl _) (zgM s.heap I.big),rfl,h _ (I.hok.fresh (Nat.le_refl _))⟩
end
def ziR:List (TE×TE)->St->Hp->(List (V×V)->Hp->Prop)->Prop
 | [],_,H,Q=>Q [] H
 | (tk,tv)::r,σ,H,Q=>tk σ H fun x H1=>tv σ H1 fun y H2=>ziR r σ H2 fun ps H3=>Q ((x,y)::ps) H3
abbrev VV:List (V×V)->List (Value×Value)->Prop:=Paired fun p q=>RelV p.1 q.1/\RelV p.2 q.2
def PPs(X:Cx)(pos:Pos)(keys:List (Option Expr))(values:List Expr)(trs:List (TE×TE)):Prop :=
 ∀(pins:List (Addr×Obj)) (s:Shared) (σ:St) (H:Hp) (Q:List (V×V)->Hp->Prop),Inv X pins σ H s->ziR trs σ H Q ->
  wpAny (model X.prog X.w) X.A (evalPairs (pairTrees keys values X.env pos)) (fun vs s'=>∃ps H',Inv X pins σ H' s'/\VV ps vs/\Q ps H') X.xe s
theorem zmE{X:Cx}{pos:Pos}:PPs X pos [] [] []:=fun pins s σ H Q I h=>pairTrees_nil_walk ⟨[],H,I,.nil,h⟩
theorem zkE{X:Cx}{pos:Pos}{k v:Expr}{ks:List (Option Expr)}{vs:List Expr}{tk tv:TE}{trs:List (TE×TE)}(hk:PE X k tk)(hv:PE X v tv)(hr:PPs X pos ks vs trs) :
  PPs X pos (some k::ks) (v::vs) ((tk,tv)::trs):=fun pins s σ H Q I h =>
 pairTrees_cons_walk (thn (hk pins s σ H _ I h) fun u s1 ⟨x,H1,I1,rx,q1⟩=>thn (hv pins s1 σ H1 _ I1 q1) fun w2 s2 ⟨y,H2,I2,ry,q2⟩ =>
  thn (hr pins s2 σ H2 _ I2 q2) fun ws s3 ⟨ps,H3,I3,rel,q3⟩=>⟨(x,y)::ps,H3,I3,.cons ⟨rx,ry⟩ rel,q3⟩)
def zdV(kvs more:List (Key×V)):List (Key×V):=more.foldl (fun acc kv=>zfj acc kv.1 kv.2) kvs
theorem KV.merge:∀{more:List (Key×V)} {rs:List (Key×Value)} {kvs:List (Key×V)} {vs:List (Key×Value)},KV more rs->KV kvs vs->KV (zdV kvs more) (merged vs rs):=by
 intro more rs kvs vs r
 unfold KV at r
 induction r generalizing kvs vs with
 | nil=>intro q;exact q
 | @cons p q ps qs h t ih =>
  intro r0
  have e:KV (zfj kvs p.1 p.2) (stored vs q.1 q.2):=by
   have:=r0.put p.1 h.2
   rw[<- h.1];exact this
  exact ih e
theorem zcT:∀(more kvs:List (Key×V)),(zdV kvs more).length<=kvs.length+more.length
 | [],kvs=>by show kvs.length<=kvs.length+0;omega
 | p::r,kvs=>by
  have h1:=zcT r (zfj kvs p.1 p.2)
  have h2:=zcD kvs p.1 p.2
  show(zdV (zfj kvs p.1 p.2) r).length<=_
  rw[List.length_cons];omega
theorem zex{P:Program}{w:World}:∀{kvs:List (Key×V)} {ws:List (Value×Value)},VV (kvs.map fun kv=>(kV kv.1,kv.2)) ws->∃rs,Carries (zaV P w) ws rs/\KV kvs rs
 | [],_,r=>by rw[List.map_nil] at r;cases r;exact⟨[],True.intro,.nil⟩
 | p::kvs,_,r=>by
  rw[List.map_cons] at r
  cases r with
  | @cons a b as bs h t =>
   obtain⟨rs,c,q⟩:=zex (P:=P) (w:=w) t
   obtain⟨b1,b2⟩:=b
   exact⟨(p.1,b2)::rs,⟨kV_is h.1,rfl,c⟩,.cons ⟨rfl,h.2⟩ q⟩
def zqK(trs:List (TE×TE)):TE:=fun σ H Q=>∀p,H p=none->ziR trs σ (upd H p (.dK [])) fun ps H2=>H2 p=some (.dK [])/\∃kvs:List (Key×V),ps=kvs.map (fun kv=>(kV kv.1,kv.2))/\kvs.length<=15/\Q (.ref p) (upd H2 p (.dK (zdV [] kvs)))
theorem zmF{X:Cx}{pos:Pos}{keys:List (Option Expr)}{values:List Expr}{trs:List (TE×TE)}(h:PPs X pos keys values trs)(hall:keys.all (·.isSome)=true)(hl:keys.length=values.length)(h0:keys≠[])(h15:keys.length<=15):PE X (.Dict keys values pos) (zqK trs):=by
 intro pins s σ H Q I q
 have hn:=I.hok.fresh (Nat.le_refl s.heap.objs.size)
 have I1:=I.laid (a:=s.heap.objs.size) (o:=.dK []) (h':=s.heap.push { cls:=.type "dict",data:=.dict #[] }) (t':=s.toks) (fun _ _ q=>Heap.get?_push_of_some _ q) (Nat.le_refl _) (zgM s.heap I.big)
 refine wpAny_Dict_walk (knd:=zaV X.prog X.w) hall hl h0 h15 (thn (h pins _ σ _ _ I1 (q _ hn)) fun ws s2 ⟨ps,H2,I2,rel,e,kvs,ep,lk,q2⟩=>?_)
 subst ep
 obtain⟨rs,c,rk⟩:=zex (P:=X.prog) (w:=X.w) rel
 obtain⟨z,hd,vs0,r0,dd⟩:=zox I2.hok e
 cases r0
 refine⟨rs,c,dd,fun h' dd' hs=>⟨.ref s.heap.objs.size,_,?_,rfl,q2⟩⟩
 have hz:(zdV [] kvs).length<=sizeLine:=by
  have h1:=zcT kvs []
  rw[List.length_nil] at h1
  rw[sizeLine_eq];omega
 have he:∃q,h'.get? s.heap.objs.size=some q:=let ⟨q,_,_,hq,_⟩:=dd';⟨q,hq⟩
 exact zga I2 (by rw[e];exact True.intro) hs he (zlw hz hd (rk.merge .nil) dd')
section
variable {X:Cx} {pins:List (Addr×Obj)} {σ:St} {H:Hp} {s:Shared} {a:Addr} {y d:V} {u r:Value} {o:Option V} {A:Around} {E:Value->Shared->Prop}
end
section
variable {X:Cx} {o e f:Expr} {apos cpos:Pos} {td ty tx:TE}
end
section
variable {X:Cx} {pins:List (Addr×Obj)} {σ:St} {H:Hp} {s:Shared} {a:Addr} {kvs:List (Key×V)} {A:Around} {E:Value->Shared->Prop}
end
section
variable {X:Cx} {pins:List (Addr×Obj)} {σ:St} {H:Hp} {s:Shared} {a:Addr} {y:V} {u:Value} {A:Around} {E:Value->Shared->Prop}
end
end L2
namespace L2
open PySem PySem.Spec PyProof.Rows
section
variable {X:Cx}
theorem ziS:CallR X (.builtin "len") (fun xs H Q=>∃a kvs,xs=[V.ref a]/\H a=some (.dK kvs)/\Q (.int kvs.length) H):=by
 intro pins s σ H xs us Q I r h
 obtain⟨a,kvs,rfl,ha,q⟩:=h
 obtain⟨u,rfl,ru⟩:=zdN r
 cases ru
 exact zqI I (.inl ha) fun t s' I'=>⟨.int kvs.length,H,I',⟨t,rfl⟩,q⟩
section
variable {κ:Type} [DecidableEq κ]
end
end
end L2
namespace L2
open PySem PySem.Spec PyProof.Rows
section
variable {X:Cx}
theorem zey{P:Program}{w:World}{kvs:List (Key×V)}{vs:List (Key×Value)}{ns:List Int}(rel:KV kvs vs)(hk:kvs.map (·.1)=ns.map Sum.inl){acc:Array Value}(h:ItemsOf (fun i v=>∃k x,vs[i]?=some (k,x)/\(zaV P w).is k v=true) acc vs.length):IntsAre acc.toList ns:=by
 have hl:acc.toList.length=ns.length:=by
  rw[Array.length_toList,h.1,<- List.length_map (f:=fun x:Key×Value=>x.1),<- KV.keys rel,hk,List.length_map]
 have at':∀(i:Nat) (v:Value),acc.toList[i]?=some v->∃t,v=Value.int (ns.getD i 0) t:=by
  intro i v hv
  obtain⟨k,x,h1,h2⟩:=h.2 i v (by rw[<- Array.getElem?_toList];exact hv)
  have e:(ns.map Sum.inl:List Key)[i]?=some k:=by
   rw[<- hk,KV.keys rel,List.getElem?_map,h1];rfl
  rw[List.getElem?_map] at e
  cases q:ns[i]? with
  | none=>rw[q] at e;cases e
  | some n =>
   rw[q] at e
   simp only[Option.map_some,Option.some.injEq] at e
   subst e
   rcases zaR (k:=Sum.inl n) (v:=v) h2 with ⟨j,t,e1,e2⟩|⟨j,t,e1,e2⟩
   ·cases e1
    exact⟨t,by rw[e2,List.getD_eq_getElem?_getD,q];rfl⟩
   ·cases e1
 clear h
 revert hl at'
 generalize acc.toList=us
 clear hk
 induction ns generalizing us with
 | nil=>intro hl _;cases us with|nil=>exact .nil|cons a r=>simp at hl
 | cons n ns ih =>
  intro hl h
  cases us with
  | nil=>simp at hl
  | cons a r =>
   obtain⟨t,rfl⟩:=h 0 a rfl
   exact .cons n t (ih r (by simpa using hl) fun i v hv=>h (i+1) v hv)
theorem zfw(hc:X.calm=true):CallR X (.builtin "sorted") (fun xs H Q=>∃(a:Addr) (kvs:List (Key×V)) (ns:List Int),xs=[.ref a]/\Rd H a (.dK kvs)/\kvs.map (·.1)=ns.map Sum.inl/\ns.length<64 /\
  ∀ms:List Int,ms.Perm ns->ms.Pairwise (·<=·)->∀l,H l=none->Q (.ref l) (upd H l (.lst (ms.map V.int)))):=by
 intro pins s σ H xs us Q I r h
 obtain⟨a,kvs,ns,rfl,hd,hk,h64,q⟩:=h
 obtain⟨u,rfl,rx⟩:=zdN r
 cases rx
 obtain⟨hz,hS,vs,rel,dd⟩:=ziN I.hok hd
 obtain⟨ep,hat⟩:=dd.dictAt
 have hh:X.A.in1.handled=none:=I.ok.hd hc
 have hlen:vs.length=ns.length:=by rw[<- KV.length rel,<- List.length_map (f:=fun x:Key×V=>x.1),hk,List.length_map]
 refine Calls.call_function_entry kind_sorted plain_sorted entry_sorted (args_sorted1 _) ?_
 unfold Builtin.«sorted»
 refine wpAny_bind (m:=checkCount "sorted" 1 1 _) (wpAny_pure ?_)
 refine wpAny_bind (PySem.W.kdu_collect (A:=X.A.in1) (PySem.W.kdl_dict (knd:=zaV X.prog X.w) (kvs:=vs) (ep:=ep) hS) hh hat (by rw[<- KV.length rel];exact hz) fun h' tk acc hkp hacc=>?_)
 have hI:=zey rel hk hacc
 have hal:acc.toList.length=ns.length:=by rw[Array.length_toList,hacc.1,hlen]
 refine wpAny_bind (wpAny_newList ?_ (by rw[hal,<- hlen,<- KV.length rel];exact hz))
 have hoL:(h'.push (seqObj "list" acc.toList.toArray 0)).get? h'.objs.size=some (seqObj "list" acc.toList.toArray 0):=Heap.get?_push_size _ rfl
 refine wpAny_bind (wpAny_holding (wpAny_call_entry slot_list_sort ⟨_,hoL,rfl⟩ entry_list_sort (list_sort_tree hoL hI (by omega) fun out ns' a1 a2 a3=>⟨_,rfl,?_⟩) (args_list_sort _)))
 refine wpAny_pure ⟨_,rfl,?_⟩
 obtain⟨e,he⟩:=sortedHeap_at (out:=out) hoL
 have I1:Inv X pins σ H { s with heap:=h',toks:=tk }:=I.kept hkp
 have rv':Vals (ns'.map V.int) out.toList:=zb7 a1
 refine⟨.ref h'.objs.size,_,I1.laid (t':=tk) (a:=h'.objs.size) (o:=.lst (ns'.map V.int)) (fun b o hb=>?_) (Nat.le_refl _) ?_,rfl,q ns' a2 a3 _ I1.fresh⟩
 ·have hb:h'.get? b=some o:=hb
  have hlt:=Heap.lt_size hb
  show(sortedHeap (h'.push (seqObj "list" acc.toList.toArray 0)) h'.objs.size acc.toList out).get? b=some o
  rw[sortedHeap_old (Nat.ne_of_lt hlt) (by rw[size_push'];exact Nat.lt_succ_of_lt hlt)]
  exact Heap.get?_push_of_some _ hb
 ·refine⟨by rw[List.length_map,a2.length_eq,<- hlen,<- KV.length rel];exact hz,out.toList,e,rv',?_⟩
  rw[Array.toArray_toList]
  exact he
theorem zhK(hc:X.calm=true):CallR X (.type "list") (fun xs H Q=>∃(a:Addr) (kvs:List (Key×V)) (ns:List Int),xs=[.ref a]/\Rd H a (.dK kvs)/\kvs.map (·.1)=ns.map Sum.inl/\∀l,H l=none->Q (.ref l) (upd H l (.lst (ns.map V.int)))):=by
 intro pins s σ H xs us Q I r h
 obtain⟨a,kvs,ns,rfl,hd,hk,q⟩:=h
 obtain⟨u,rfl,rx⟩:=zdN r
 cases rx
 obtain⟨hz,hS,vs,rel,dd⟩:=ziN I.hok hd
 obtain⟨ep,hat⟩:=dd.dictAt
 have hlen:vs.length=ns.length:=by rw[<- KV.length rel,<- List.length_map (f:=fun x:Key×V=>x.1),hk,List.length_map]
 refine PySem.W.kdl_call (PySem.W.kdl_dict (knd:=zaV X.prog X.w) (kvs:=vs) (ep:=ep) hS) (I.ok.hd hc) hat (by rw[<- KV.length rel];exact hz) fun h' tk acc c hkp hD hacc=>?_
 have hI:=zey rel hk hacc
 refine⟨.ref s.heap.objs.size,_,I.laid (t':=tk) (a:=s.heap.objs.size) (o:=.lst (ns.map V.int)) hkp (Nat.le_refl _) ?_,rfl,q _ I.fresh⟩
 refine⟨by rw[List.length_map,<- hlen,<- KV.length rel];exact hz,acc.toList,c,zb7 hI,?_⟩
 rw[Array.toArray_toList]
 exact hD
theorem ziT{a:Expr}{ta:TA}{p pos:Pos}(hg:Gl X "range")(hm:X.mg "range" = none)(ha:PA X [a] ta)(hs:starEach [a] X.env=[(false,eval a X.env)]:=by rfl) :
  PE X (.Call (.Name "range" p) [a] [] pos) (fun σ H Q=>ta σ H fun vs H1=>∃j:Int,vs=[.int j]/\∀p,H1 p=none->Q (.ref p) (upd H1 p (.rng 0 j))):=by
 intro pins s σ H Q I h
 refine Call_ (zer I hg hm boot_range (PyProof.Rows.callWith_type1 (thn (ha pos pins s σ H _ I h) fun us s1 ⟨vs,H1,I1,r1,q1⟩=>?_) hs rfl))
 obtain⟨j,e,q⟩:=q1
 subst e
 cases r1 with
 | cons r rr =>
  cases rr
  obtain⟨t,rfl⟩:=r
  refine call_range_1 ⟨.ref s1.heap.objs.size,_,I1.laid (t':=s1.toks+1+1) (a:=s1.heap.objs.size) (o:=.rng 0 j) (fun b o e=>Heap.get?_push_of_some _ e) (Nat.le_refl _) ?_,rfl,q _ I1.fresh⟩
  exact⟨_,_,_,Heap.get?_push_size _ rfl⟩
theorem zfx(hc:X.calm=true):CallR X (.type "list") (fun xs H Q=>∃(p:Addr) (lo hi:Int),xs=[.ref p]/\H p=some (.rng lo hi)/\-(2 ^ 62)<=lo/\lo<2 ^ 62/\-(2 ^ 62)<=hi/\hi<2 ^ 62/\(hi-lo).toNat<=sizeLine /\
  ∀l,H l=none->Q (.ref l) (upd H l (.lst ((List.range (hi-lo).toNat).map fun(i:Nat)=>V.int (lo+(i:Int)))))):=by
 intro pins s σ H xs us Q I r h
 obtain⟨p,lo,hi,rfl,hp,h1,h2,h3,h4,hz,q⟩:=h
 obtain⟨u,rfl,rx⟩:=zdN r
 cases rx
 obtain⟨t,u,v,hr⟩:=I.hok p _ hp
 have hn:Builtin.Range.rangeSize lo hi 1=(((hi-lo).toNat:Nat):Int):=by rw[rangeSize_one];split<;>omega
 refine PySem.call_list_range (I.ok.hd hc) hr (small_one h1 h2 h3 h4) hn (by rw[sizeLine_eq] at hz;exact hz) fun h' tk acc c hkp hD hacc=>?_
 refine⟨.ref s.heap.objs.size,_,I.laid (t':=tk) (a:=s.heap.objs.size) (o:=.lst ((List.range (hi-lo).toNat).map fun(i:Nat)=>V.int (lo+(i:Int)))) hkp (Nat.le_refl _) ?_,rfl,q _ I.fresh⟩
 refine⟨by rw[List.length_map,List.length_range];exact hz,acc.toList,c,?_,by rw[Array.toArray_toList];exact hD⟩
 have hl:acc.toList.length=(hi-lo).toNat:=by rw[Array.length_toList];exact hacc.1
 have hv:∀(i:Nat) (v:Value),acc.toList[i]?=some v->∃t,v=Value.int (lo+(i:Int)) t:=fun i v e=>by
  obtain⟨t,e'⟩:=hacc.2 i v (by rw[<- Array.getElem?_toList];exact e)
  exact⟨t,by rw[e',Int.mul_one]⟩
 clear hn hz hacc hD
 revert hl hv
 generalize acc.toList=us
 generalize (hi-lo).toNat=n
 intro hl hv
 have:∀(us:List Value) (k:Nat),(∀(i:Nat) (v:Value),us[i]?=some v->∃t,v=Value.int (lo+((k+i:Nat):Int)) t)->Vals ((List.range' k us.length).map fun(i:Nat)=>V.int (lo+(i:Int))) us:=by
  intro us
  induction us with
  | nil=>intro k _;exact .nil
  | cons a r ih =>
   intro k h
   obtain⟨t,rfl⟩:=h 0 a rfl
   rw[List.length_cons,List.range'_succ,List.map_cons]
   refine .cons ⟨t,by simp⟩ (ih (k+1) fun i v e=>?_)
   obtain⟨t',e'⟩:=h (i+1) v e
   exact⟨t',by rw[e'];congr 2;omega⟩
 have q':=this us 0 fun i v e=>by simpa using hv i v e
 rw[<- List.range_eq_range',hl] at q'
 exact q'
end
end L2
namespace L2
open PySem PySem.Spec PyProof.Rows
section
variable {X:Cx} {tg:Expr}
def Itd(a:Addr)(o:Obj)(ps:List (Key×V)):It where
 go:=fun i H=>H a=some (.frz o (.dK ps))/\i<ps.length
 yld:=fun i H x H'=>H'=H/\∃p,ps[i]?=some p/\x=kV p.1
 stop:=fun i H=>H a=some (.frz o (.dK ps))/\ps.length=i
end
end L2
namespace L2
open PySem PySem.Spec PyProof.Rows
section
variable {prog:Program} {w:World} {A:Around} {E:Value->Shared->Prop} {s:Shared}
end
end L2
namespace VS
open PySem PySem.Spec PyProof.Rows L2
abbrev St:=L2.St
theorem zat{α:Type}{l:List α}{k:Nat}{a:α}(h:l[k]?=some a):k<l.length:=(List.getElem?_eq_some_iff.mp h).1
theorem zgN{α:Type}{l:List α}(h:l.Nodup){i j:Nat}(hi:i<l.length)(hj:j<l.length)(e:l[i]=l[j]):i=j:=by
 have p:=List.pairwise_iff_getElem.mp h
 rcases Nat.lt_trichotomy i j with q|q|q
 ·exact absurd e (p i j hi hj q)
 ·exact q
 ·exact absurd e.symm (p j i hj hi q)
inductive W where
 | non|bl (b:Bool)|int (i:Int)|str (x:Str)|ty (n:String)|lst (xs:List W)|tup (xs:List W)|cel (k:Nat)
inductive C where
 | lst (xs:List W)|dct (kvs:List (Key×W))|ins (c:Str) (fs:List (Str×W))|exn (c:Str)|dead|fzd (kvs:List (Key×W))|dtp (kvs:List (List Key×W))
def C.nf:C->Bool
 | .fzd _=>false
 | _=>true
def nfz:HO->Bool
 | .frz _ _=>false
 | _=>true
abbrev Ce:=List C
abbrev Sl:=List (Option W)
structure Exn where
 nm:Str
 fld:Option (Str×W)
inductive R (α:Type) where
 | ok (a:α) (ce:Ce)|ex (x:Exn) (ce:Ce)
abbrev M(α:Type):=Ce->Option (R α)
structure Ga where
 K:PySem.W.Frag
 cl:Str->Addr
 xr:Exn->Value->Option Addr->Hp->Prop
mutual
def Rep(F:Hp)(as:List Addr):W->V->Prop
 | .non,v=>v=.non
 | .bl b,v=>v=.bl b
 | .int i,v=>v=.int i
 | .str x,v=>v=.str x
 | .ty n,v=>v=.ty n
 | .lst xs,v=>∃a vs,v=.ref a/\Rd F a (.lst vs)/\Reps F as xs vs
 | .tup xs,v=>∃a vs,v=.ref a/\F a=some (.tup vs)/\Reps F as xs vs
 | .cel k,v=>∃a,v=.ref a/\as[k]?=some a
def Reps(F:Hp)(as:List Addr):List W->List V->Prop
 | [],vs=>vs=[]
 | x::xs,vs=>∃v r,vs=v::r/\Rep F as x v/\Reps F as xs r
end
structure Le (F:Hp) (as:List Addr) (F':Hp) (as':List Addr):Prop where
 f:∀a o,F a=some o->F' a=some o
 c:∀(k:Nat) (a:Addr),as[k]?=some a->as'[k]?=some a
theorem Le.refl{F:Hp}{as:List Addr}:Le F as F as:=⟨fun _ _ h=>h,fun _ _ h=>h⟩
theorem Le.trans{F F1 F2:Hp}{as as1 as2:List Addr}(h:Le F as F1 as1)(h':Le F1 as1 F2 as2):Le F as F2 as2:=⟨fun a o e=>h'.f a o (h.f a o e),fun k a e=>h'.c k a (h.c k a e)⟩
theorem Le.rd{F F':Hp}{as as':List Addr}(h:Le F as F' as'){a:Addr}{o:HO}(r:Rd F a o):Rd F' a o:=by
 rcases r with r|⟨u,r⟩
 ·exact .inl (h.f _ _ r)
 ·exact .inr ⟨u,h.f _ _ r⟩
mutual
theorem Rep.le{F F':Hp}{as as':List Addr}(h:Le F as F' as'):∀{w:W} {v:V},Rep F as w v->Rep F' as' w v
 | .non,_,r=>by simpa only[Rep] using r
 | .bl _,_,r=>by simpa only[Rep] using r
 | .int _,_,r=>by simpa only[Rep] using r
 | .str _,_,r=>by simpa only[Rep] using r
 | .ty _,_,r=>by simpa only[Rep] using r
 | .lst xs,_,r=>by
  simp only[Rep] at r ⊢
  obtain⟨a,vs,e,q,s⟩:=r
  exact⟨a,vs,e,h.rd q,Reps.le h s⟩
 | .tup xs,_,r=>by
  simp only[Rep] at r ⊢
  obtain⟨a,vs,e,q,s⟩:=r
  exact⟨a,vs,e,h.f _ _ q,Reps.le h s⟩
 | .cel k,_,r=>by
  simp only[Rep] at r ⊢
  obtain⟨a,e,q⟩:=r
  exact⟨a,e,h.c _ _ q⟩
theorem Reps.le{F F':Hp}{as as':List Addr}(h:Le F as F' as'):∀{ws:List W} {vs:List V},Reps F as ws vs->Reps F' as' ws vs
 | [],_,r=>by simpa only[Reps] using r
 | _::_,_,r=>by
  simp only[Reps] at r ⊢
  obtain⟨v,r',e,q,s⟩:=r
  exact⟨v,r',e,Rep.le h q,Reps.le h s⟩
end
section
variable {F:Hp} {as:List Addr}
theorem Reps.nil:Reps F as [] []:=by simp only[Reps]
theorem Reps.cons{w:W}{v:V}{ws:List W}{vs:List V}(h:Rep F as w v)(t:Reps F as ws vs):Reps F as (w::ws) (v::vs):=by simp only[Reps];exact⟨v,vs,rfl,h,t⟩
theorem Reps.length:∀{ws:List W} {vs:List V},Reps F as ws vs->vs.length=ws.length
 | [],_,r=>by simp only[Reps] at r;subst r;rfl
 | _::_,_,r=>by
  simp only[Reps] at r
  obtain⟨v,r',rfl,_,s⟩:=r
  simp only[List.length_cons,Reps.length s]
theorem Reps.get:∀{ws:List W} {vs:List V} {i:Nat} {w:W},Reps F as ws vs->ws[i]?=some w->∃v,vs[i]?=some v/\Rep F as w v
 | [],_,_,_,_,e=>by simp at e
 | _::_,_,0,_,r,e=>by
  simp only[Reps] at r
  obtain⟨v,r',rfl,q,s⟩:=r
  simp at e;subst e
  exact⟨v,rfl,q⟩
 | _::_,_,i+1,w,r,e=>by
  simp only[Reps] at r
  obtain⟨v,r',rfl,q,s⟩:=r
  obtain⟨u,h1,h2⟩:=Reps.get (i:=i) (w:=w) s (by simpa using e)
  exact⟨u,by simpa using h1,h2⟩
theorem Reps.get'{ws:List W}{vs:List V}{i:Nat}{v:V}(r:Reps F as ws vs)(e:vs[i]?=some v):∃w,ws[i]?=some w/\Rep F as w v:=by
 have hl:=r.length
 have hi:i<vs.length:=zat e
 have e1:ws[i]?=some ws[i]:=List.getElem?_eq_getElem (by omega)
 obtain⟨u,h1,h2⟩:=r.get e1
 rw[e] at h1;cases h1
 exact⟨_,e1,h2⟩
theorem Reps.append:∀{ws zs:List W} {vs us:List V},Reps F as ws vs->Reps F as zs us->Reps F as (ws++zs) (vs++us)
 | [],_,_,_,r,s=>by simp only[Reps] at r;subst r;exact s
 | _::_,_,_,_,r,s=>by
  simp only[Reps] at r
  obtain⟨v,r',rfl,q,t⟩:=r
  exact .cons q (Reps.append t s)
theorem Reps.set:∀{ws:List W} {vs:List V} {w:W} {v:V} (i:Nat),Reps F as ws vs->Rep F as w v->Reps F as (ws.set i w) (vs.set i v)
 | [],_,_,_,_,r,_=>by simp only[Reps] at r;subst r;exact .nil
 | _::_,_,_,_,0,r,h=>by
  simp only[Reps] at r
  obtain⟨v,r',rfl,q,t⟩:=r
  exact .cons h t
 | _::_,_,_,_,i+1,r,h=>by
  simp only[Reps] at r
  obtain⟨v,r',rfl,q,t⟩:=r
  exact .cons q (Reps.set i t h)
theorem Reps.take:∀{ws:List W} {vs:List V} (n:Nat),Reps F as ws vs->Reps F as (ws.take n) (vs.take n)
 | _,_,0,_=>by rw[List.take_zero,List.take_zero];exact .nil
 | [],_,_+1,r=>by simp only[Reps] at r;subst r;exact .nil
 | _::_,_,n+1,r=>by
  simp only[Reps] at r
  obtain⟨v,r',rfl,q,t⟩:=r
  exact .cons q (Reps.take n t)
theorem Reps.dropLast{ws:List W}{vs:List V}(r:Reps F as ws vs):Reps F as ws.dropLast vs.dropLast:=by
 rw[List.dropLast_eq_take,List.dropLast_eq_take,r.length];exact r.take _
theorem Reps.rep{ws:List W}{vs:List V}(r:Reps F as ws vs):∀n,Reps F as (List.replicate n ws).flatten (List.replicate n vs).flatten
 | 0=>.nil
 | n+1=>by rw[List.replicate_succ,List.replicate_succ,List.flatten_cons,List.flatten_cons];exact r.append (r.rep n)
theorem Reps.ints:∀(ns:List Int),Reps F as (ns.map W.int) (ns.map V.int)
 | []=>.nil
 | n::r=>.cons (by simp only[Rep]) (Reps.ints r)
theorem Reps.of_ints:∀{ns:List Int} {vs:List V},Reps F as (ns.map W.int) vs->vs=ns.map V.int
 | [],_,r=>by simpa only[List.map_nil,Reps] using r
 | n::ns,_,r=>by
  simp only[List.map_cons,Reps,Rep] at r
  obtain⟨v,r',rfl,rfl,t⟩:=r
  rw[Reps.of_ints t,List.map_cons]
end
theorem el6{α β γ δ:Type}{p q:α->β->γ->δ->Prop}{g:Prop}(h:∃a b c d,p a b c d/\q a b c d)(k:∀a b c d,p a b c d->q a b c d->g):g:=by
 obtain⟨a,b,c,d,h1,h2⟩:=h
 exact k a b c d h1 h2
theorem el8{α β γ δ:Type}{p q r s:α->β->γ->δ->Prop}{g:Prop}(h:∃a b c d,p a b c d/\q a b c d/\r a b c d/\s a b c d)(k:∀a b c d,p a b c d->q a b c d->r a b c d->s a b c d->g):g:=by
 obtain⟨a,b,c,d,h1,h2,h3,h4⟩:=h
 exact k a b c d h1 h2 h3 h4
def RepKV{κ:Type}(F:Hp)(as:List Addr)(kvs:List (κ×W))(ps:List (κ×V)):Prop:=Paired (fun(p:κ×W) (q:κ×V)=>p.1=q.1/\Rep F as p.2 q.2) kvs ps
theorem RepKV.le{κ:Type}{F F':Hp}{as as':List Addr}(h:Le F as F' as'){kvs:List (κ×W)}{ps:List (κ×V)}(r:RepKV F as kvs ps):RepKV F' as' kvs ps:=Paired.mapP r fun _ _ z=>⟨z.1,z.2.le h⟩
def XPhi(a:Addr)(cls:Value)(h:Heap):Prop:=∃o vs,h.get? a=some o/\o.cls=cls/\o.data=.fields vs
def CRep(G:Ga)(F:Hp)(as:List Addr)(H:Hp)(a:Addr):C->Prop
 | .lst xs=>∃vs,H a=some (.lst vs)/\Reps F as xs vs
 | .dct kvs=>∃ps,H a=some (.dK ps)/\RepKV F as kvs ps
 | .ins c fs=>∃dx ps,H a=some (.ins (G.cl c) dx ps)/\RepKV F as fs ps
 | .exn c=>H a=some (.ext (XPhi a (.ref (G.cl c))))
 | .dead=>∃o,H a=some o
 | .fzd kvs=>∃o ps,F a=some (.frz o (.dK ps))/\H a=some (.frz o (.dK ps))/\RepKV F as kvs ps
 | .dtp kvs=>∃ps,H a=some (.dT ps)/\RepKV F as kvs ps
structure Store (G:Ga) (F:Hp) (as:List Addr) (H:Hp) (ce:Ce):Prop where
 sub:∀a o,F a=some o->H a=some o
 nd:as.Nodup
 len:as.length=ce.length
 cell:∀(k:Nat) (a:Addr) (c:C),as[k]?=some a->ce[k]?=some c->(c.nf=true->F a=none)/\CRep G F as H a c
structure SR (G:Ga) (F:Hp) (as:List Addr) (H:Hp) (σ:VS.St) (sl:Sl) (ce:Ce):Prop where
 st:Store G F as H ce
 len:σ.length=sl.length
 slot:∀(i:Nat) (w:W),sl[i]?=some (some w)->∃v,σ[i]?=some (some v)/\Rep F as w v
section
variable {G:Ga} {F F':Hp} {as as':List Addr} {H H':Hp} {σ:VS.St} {sl:Sl} {ce ce':Ce} {a p:Addr} {k:Nat} {o:HO}
theorem CRep.tracked{c:C}(h:CRep G F as H a c):∃o,H a=some o:=by
 cases c with
 | lst xs=>obtain⟨vs,e,_⟩:=h;exact⟨_,e⟩
 | dct xs=>obtain⟨vs,e,_⟩:=h;exact⟨_,e⟩
 | ins c xs=>obtain⟨dx,vs,e,_⟩:=h;exact⟨_,e⟩
 | exn c=>exact⟨_,h⟩
 | dead=>exact h
 | fzd xs=>obtain⟨o,ps,_,e,_⟩:=h;exact⟨_,e⟩
 | dtp xs=>obtain⟨vs,e,_⟩:=h;exact⟨_,e⟩
theorem CRep.le{c:C}(l:Le F as F' as')(hH:H' a=H a)(h:CRep G F as H a c):CRep G F' as' H' a c:=by
 cases c with
 | lst xs=>obtain⟨vs,e,r⟩:=h;exact⟨vs,hH.trans e,r.le l⟩
 | dct xs=>obtain⟨vs,e,r⟩:=h;exact⟨vs,hH.trans e,r.le l⟩
 | ins c xs=>obtain⟨dx,vs,e,r⟩:=h;exact⟨dx,vs,hH.trans e,r.le l⟩
 | exn c=>exact hH.trans h
 | dead=>obtain⟨o,e⟩:=h;exact⟨o,hH.trans e⟩
 | fzd xs=>obtain⟨o,ps,e1,e2,r⟩:=h;exact⟨o,ps,l.f _ _ e1,hH.trans e2,r.le l⟩
 | dtp xs=>obtain⟨vs,e,r⟩:=h;exact⟨vs,hH.trans e,r.le l⟩
theorem Store.at(S:Store G F as H ce){c:C}(h:ce[k]?=some c):∃a,as[k]?=some a/\(c.nf=true->F a=none)/\CRep G F as H a c:=by
 have hk:k<ce.length:=zat h
 have e:as[k]?=some (as[k]'(by rw[S.len];exact hk)):=List.getElem?_eq_getElem _
 exact⟨_,e,S.cell _ _ _ e h⟩
theorem Store.tracked(S:Store G F as H ce)(h:as[k]?=some a):∃o,H a=some o:=by
 have hk:k<as.length:=zat h
 have e:ce[k]?=some (ce[k]'(by rw[<- S.len];exact hk)):=List.getElem?_eq_getElem _
 exact(S.cell _ _ _ h e).2.tracked
theorem SR.slots(S:SR G F as H σ sl ce)(S':Store G F' as' H' ce')(l:Le F as F' as'):SR G F' as' H' σ sl ce' :=
 ⟨S',S.len,fun i w e=>let ⟨v,h1,h2⟩:=S.slot i w e;⟨v,h1,h2.le l⟩⟩
theorem SR.var(S:SR G F as H σ sl ce){i:Nat}{w:W}(h:sl[i]?=some (some w)):∃v,σ[i]?=some (some v)/\Rep F as w v:=S.slot i w h
theorem SR.put(S:SR G F as H σ sl ce){w:W}{v:V}(r:Rep F as w v)(i:Nat):SR G F as H (σ.set i (some v)) (sl.set i (some w)) ce:=by
 refine⟨S.st,by rw[List.length_set,List.length_set];exact S.len,fun j u e=>?_⟩
 by_cases hj:i=j
 ·subst hj
  have hi:i<sl.length:=by have:=zat e;rwa [List.length_set] at this
  rw[List.getElem?_set_self hi] at e
  cases e
  exact⟨v,by rw[List.getElem?_set_self (by rw[S.len];exact hi)],r⟩
 ·rw[List.getElem?_set_ne hj] at e
  obtain⟨v',h1,h2⟩:=S.slot j u e
  exact⟨v',by rw[List.getElem?_set_ne hj];exact h1,h2⟩
theorem upd_sub(hF:F p=none):∀a u,F a=some u->upd F p o a=some u:=fun a u e=>by
 rw[zaz (zaq e hF)];exact e
theorem Store.freeze(S:Store G F as H ce)(hp:H p=none):Store G (upd F p o) as (upd H p o) ce/\Le F as (upd F p o) as:=by
 have hF:F p=none:=by
  cases e:F p with
  | none=>rfl
  | some u=>rw[S.sub _ _ e] at hp;cases hp
 have l:Le F as (upd F p o) as:=⟨upd_sub hF,fun _ _ h=>h⟩
 refine⟨⟨fun a u e=>?_,S.nd,S.len,fun k a c h1 h2=>?_⟩,l⟩
 ·by_cases ha:a=p
  ·subst ha;rw[zaB] at e ⊢;exact e
  ·rw[zaz ha] at e ⊢;exact S.sub _ _ e
 ·obtain⟨q1,q2⟩:=S.cell k a c h1 h2
  obtain⟨u,hu⟩:=q2.tracked
  have ha:a≠p:=zaq hu hp
  exact⟨fun hn=>by rw[zaz ha];exact q1 hn,q2.le l (zaz ha)⟩
theorem Store.alloc(S:Store G F as H ce)(hp:H p=none){c:C}(hc:∀as',Le F as F as'->CRep G F as' (upd H p o) p c):Store G F (as++[p]) (upd H p o) (ce++[c])/\Le F as F (as++[p]):=by
 have hF:F p=none:=by
  cases e:F p with
  | none=>rfl
  | some u=>rw[S.sub _ _ e] at hp;cases hp
 have l:Le F as F (as++[p]):=⟨fun _ _ h=>h,fun k a h=>by
  have hk:k<as.length:=zat h
  rw[List.getElem?_append_left hk];exact h⟩
 refine⟨⟨fun a u e=>?_,?_,by rw[List.length_append,List.length_append,S.len];rfl,fun k a c' h1 h2=>?_⟩,l⟩
 ·rw[zaz (zaq (S.sub _ _ e) hp)];exact S.sub _ _ e
 ·rw[List.nodup_append]
  refine⟨S.nd,by simp,fun a ha b hb=>?_⟩
  obtain⟨k,hk⟩:=List.getElem?_of_mem ha
  obtain⟨u,hu⟩:=S.tracked hk
  rw[List.mem_singleton] at hb
  subst hb
  exact zaq hu hp
 ·by_cases hk:k<ce.length
  ·rw[List.getElem?_append_left (by rw[S.len];exact hk)] at h1
   rw[List.getElem?_append_left hk] at h2
   obtain⟨q1,q2⟩:=S.cell k a c' h1 h2
   obtain⟨u,hu⟩:=q2.tracked
   exact⟨q1,q2.le l (zaz (zaq hu hp))⟩
  ·rw[List.getElem?_append_right (by rw[S.len];omega)] at h1
   rw[List.getElem?_append_right (by omega)] at h2
   have e:k-as.length=0:=by
    cases q:k-as.length with
    | zero=>rfl
    | succ n=>rw[q] at h1;simp at h1
   rw[e] at h1
   rw[<- S.len,e] at h2
   simp at h1 h2
   subst h1;subst h2
   exact⟨fun _=>hF,hc _ l⟩
theorem Store.write(S:Store G F as H ce)(h1:as[k]?=some a){c:C}(hc:CRep G F as (upd H a o) a c)(hm:∃o',H a=some o'/\nfz o'=true:=by exact⟨_,by assumption,rfl⟩):Store G F as (upd H a o) (ce.set k c):=by
 have hk:k<ce.length:=by rw[<- S.len];exact zat h1
 have e:ce[k]?=some ce[k]:=List.getElem?_eq_getElem hk
 obtain⟨q1,q2⟩:=S.cell k a _ h1 e
 have q1:F a=none:=by
  cases ek:ce[k] with
  | fzd xs =>
   rw[ek] at q2
   obtain⟨o1,ps,_,e2,_⟩:=q2
   obtain⟨o',e3,hn⟩:=hm
   rw[e2] at e3
   cases e3
   cases hn
  | _=>exact q1 (by rw[ek];rfl)
 refine⟨fun b u e'=>?_,S.nd,by rw[List.length_set];exact S.len,fun j b c' h1' h2'=>?_⟩
 ·rw[zaz (fun z=>by subst z;rw[q1] at e';cases e')];exact S.sub _ _ e'
 ·by_cases hj:k=j
  ·subst hj
   rw[List.getElem?_set_self hk] at h2'
   rw[h1] at h1'
   cases h1';cases h2'
   exact⟨fun _=>q1,hc⟩
  ·rw[List.getElem?_set_ne hj] at h2'
   obtain⟨p1,p2⟩:=S.cell j b c' h1' h2'
   have hb:b≠a:=fun z=>by
    subst z
    have hj':j<as.length:=zat h1'
    have hk':k<as.length:=by rw[S.len];exact hk
    have e1:as[k]=as[j]:=by
     rw[List.getElem?_eq_getElem hk'] at h1
     rw[List.getElem?_eq_getElem hj'] at h1'
     exact(Option.some.inj h1).trans (Option.some.inj h1').symm
    exact hj (zgN S.nd hk' hj' e1)
   exact⟨p1,p2.le .refl (zaz hb)⟩
end
end VS
namespace VS
open PySem PySem.Spec PyProof.Rows L2
def bnd{α β:Type}(m:M α)(f:α->M β):M β:=fun ce=>match m ce with
 | some (.ok a ce')=>f a ce'
 | some (.ex x ce')=>some (.ex x ce')
 | none=>none
def ret{α:Type}(a:α):M α:=fun ce=>some (.ok a ce)
def look{α:Type}(f:Ce->Option α):M α:=fun ce=>(f ce).map fun a=>R.ok a ce
def ziU{α:Type}:M α:=fun _=>none
def Post{α β:Type}(G:Ga)(E:XK)(RP:Hp->List Addr->α->β->Prop)(F:Hp)(as:List Addr)(σ:VS.St)(sl:Sl)(Q:β->Hp->Prop):Option (R α)->Prop
 | some (.ok a ce')=>∀b H' F' as',Le F as F' as'->SR G F' as' H' σ sl ce'->RP F' as' a b->Q b H'
 | some (.ex x ce')=>∀H' F' as' cv od,Le F as F' as'->Store G F' as' H' ce'->G.xr x cv od H'->E cv od H'
 | none=>False
def toT{α β:Type}(G:Ga)(E:XK)(RP:Hp->List Addr->α->β->Prop)(d:Sl->M α):VS.St->Hp->(β->Hp->Prop)->Prop :=
 fun σ H Q=>∃F as sl ce,SR G F as H σ sl ce/\Post G E RP F as σ sl Q (d sl ce)
def rB:Hp->List Addr->Bool->Bool->Prop:=fun _ _ a b=>a=b
abbrev zau(G:Ga)(E:XK)(d:Sl->M W):TE:=toT G E Rep d
abbrev zb8(G:Ga)(E:XK)(d:Sl->M Bool):TT:=toT G E rB d
abbrev zez(G:Ga)(E:XK)(d:Sl->M (List W)):TA:=toT G E Reps d
section
variable {α β γ δ:Type} {G:Ga} {E:XK} {RP:Hp->List Addr->α->β->Prop} {RQ:Hp->List Addr->γ->δ->Prop} {F F':Hp} {as as':List Addr} {H:Hp} {σ:VS.St} {sl:Sl} {ce:Ce}
theorem Post.le{Q:β->Hp->Prop}{r:Option (R α)}(l:Le F as F' as')(P:Post G E RP F as σ sl Q r):Post G E RP F' as' σ sl Q r:=by
 cases r with
 | none=>exact P
 | some r=>cases r with
  | ok a ce'=>exact fun b H' F2 as2 l2=>P b H' F2 as2 (l.trans l2)
  | ex x ce'=>exact fun H' F2 as2 cv od l2=>P H' F2 as2 cv od (l.trans l2)
theorem toT.mono{d:Sl->M α}{Q Q':β->Hp->Prop}(h:toT G E RP d σ H Q)(q:∀b H1,Q b H1->Q' b H1):toT G E RP d σ H Q':=by
 obtain⟨F,as,sl,ce,S,P⟩:=h
 refine⟨F,as,sl,ce,S,?_⟩
 revert P
 cases d sl ce with
 | none=>exact fun P=>P
 | some r=>cases r with
  | ok a ce'=>exact fun P b H' F' as' l S' r=>q _ _ (P b H' F' as' l S' r)
  | ex x ce'=>exact fun P=>P
theorem step{d:Sl->M α}{f:α->M γ}{Q:δ->Hp->Prop}(S:SR G F as H σ sl ce)(P:Post G E RQ F as σ sl Q (bnd (d sl) f ce)) :
  toT G E RP d σ H fun b H2=>∃a F' as' ce',Le F as F' as'/\SR G F' as' H2 σ sl ce'/\RP F' as' a b/\Post G E RQ F' as' σ sl Q (f a ce'):=by
 refine⟨F,as,sl,ce,S,?_⟩
 revert P
 unfold bnd
 cases d sl ce with
 | none=>exact fun P=>P
 | some r=>cases r with
  | ok a ce'=>exact fun P b H' F' as' l S' r=>⟨a,F',as',ce',l,S',r,P.le l⟩
  | ex x ce'=>exact fun P=>P
theorem zbn{f:Ce->Option α}{Q:β->Hp->Prop}(P:Post G E RP F as σ sl Q (look f ce)):∃a,f ce=some a/\Post G E RP F as σ sl Q (some (.ok a ce)):=by
 revert P
 unfold look
 cases f ce with
 | none=>exact fun P=>P.elim
 | some a=>exact fun P=>⟨a,rfl,P⟩
theorem Post.done{a:α}{b:β}{Q:β->Hp->Prop}(S:SR G F as H σ sl ce)(P:Post G E RP F as σ sl Q (some (.ok a ce)))(r:RP F as a b):Q b H:=P b H F as .refl S r
end
theorem PE.imp{X:Cx}{e:Expr}{t t':TE}(h:PE X e t)(q:∀σ H Q,t' σ H Q->t σ H Q):PE X e t':=fun pins s σ H Q I z=>h pins s σ H Q I (q _ _ _ z)
theorem PT.imp{X:Cx}{e:Expr}{t t':TT}(h:PT X e t)(q:∀σ H Q,t' σ H Q->t σ H Q):PT X e t':=fun pins s σ H Q I z=>h pins s σ H Q I (q _ _ _ z)
theorem PW.imp{X:Cx}{e:Expr}{t t':TT}(h:PW X e t)(q:∀σ H Q,t' σ H Q->t σ H Q):PW X e t':=fun wh pins s σ H Q I z=>h wh pins s σ H Q I (q _ _ _ z)
theorem PA.imp{X:Cx}{e:List Expr}{t t':TA}(h:PA X e t)(q:∀σ H Q,t' σ H Q->t σ H Q):PA X e t':=fun pos pins s σ H Q I z=>h pos pins s σ H Q I (q _ _ _ z)
theorem PS.imp{X:Cx}{e:Stmt}{t t':TS}(h:PS X e t)(q:∀D σ H,t' D σ H->t D σ H):PS X e t':=fun pins s σ H Q I z=>h pins s σ H Q I (q _ _ _ z)
theorem PSs.imp{X:Cx}{e:List Stmt}{t t':TS}(h:PSs X e t)(q:∀D σ H,t' D σ H->t D σ H):PSs X e t':=fun pins s σ H Q I z=>h pins s σ H Q I (q _ _ _ z)
def zah(i:Nat):Sl->M W:=fun sl ce=>match sl[i]? with
 | some (some w)=>some (.ok w ce)
 | _=>none
def dC(w:W):Sl->M W:=fun _=>ret w
def dOp(f:W->W->Option W)(a b:Sl->M W):Sl->M W:=fun sl=>bnd (a sl) fun x=>bnd (b sl) fun y=>look fun _=>f x y
def dUn(f:W->Option W)(a:Sl->M W):Sl->M W:=fun sl=>bnd (a sl) fun x=>look fun _=>f x
def scV:W->Option V
 | .non=>some .non
 | .bl b=>some (.bl b)
 | .int i=>some (.int i)
 | .str x=>some (.str x)
 | .ty n=>some (.ty n)
 | _=>none
theorem Rep.sc{F:Hp}{as:List Addr}{w:W}{v u:V}(r:Rep F as w v)(e:scV w=some u):v=u:=by
 cases w<;>simp only[scV,Option.some.injEq,reduceCtorEq] at e<;>simp only[Rep] at r<;>(subst e;exact r)
theorem Rep.of_sc{F:Hp}{as:List Addr}{w:W}{u:V}(e:scV w=some u):Rep F as w u:=by
 cases w<;>simp only[scV,Option.some.injEq,reduceCtorEq] at e<;>simp only[Rep]<;>exact e.symm
def Sc2(r:R2)(f:W->W->Option W):Prop:=∀x y w,f x y=some w->∃vx vy vw,scV x=some vx/\scV y=some vy/\scV w=some vw/\∀H Q,Q vw H->r vx vy H Q
def i2(g:Int->Int->W):W->W->Option W
 | .int i,.int j=>some (g i j)
 | _,_=>none
open Classical in
def i2c(c:Int->Int->Prop)(g:Int->Int->W):W->W->Option W
 | .int i,.int j=>if c i j then some (g i j) else none
 | _,_=>none
section
variable {X:Cx} {G:Ga} {E:XK} {a b c:Expr} {da db dc:Sl->M W} {pos:Pos}
theorem zab(i:Nat){x:Str}{pos:Pos}(hN:X.N[i]?=some x:=by rfl)(hv:Vis X.env.scope x:=by first|exact Or.inl rfl|exact Or.inr (Or.inl rfl)|exact Or.inr (Or.inr rfl))(hd:(x==("__debug__" : Str))=false:=by decide)(hcd:(x==("__classdict__" : Str))=false:=by decide):PE X (.Name x pos) (zau G E (zah i)):=by
 refine PE.imp (zls hN hv hd hcd) fun σ H Q h=>?_
 obtain⟨F,as,sl,ce,S,P⟩:=h
 revert P
 unfold zah
 split
 ·rename_i w e
  intro P
  obtain⟨v,h1,h2⟩:=S.var e
  exact⟨v,h1,P.done S h2⟩
 ·exact fun P=>P.elim
theorem zoA{e:Expr}{w:W}{v:V}(h:PE X e (tC v))(hs:scV w=some v):PE X e (zau G E (dC w)):=by
 refine PE.imp h fun σ H Q h=>?_
 obtain⟨F,as,sl,ce,S,P⟩:=h
 exact P.done S (Rep.of_sc hs)
theorem zak{i j pos}:PE X (.Constant (.int i) j pos) (zau G E (dC (.int i))):=zoA znW rfl
theorem zdW{i j pos}:PE X (.Constant (.bool i) j pos) (zau G E (dC (.bl i))):=zoA zp5 rfl
theorem zlx{j pos}:PE X (.Constant .none j pos) (zau G E (dC .non)):=zoA znX rfl
theorem zb2{x j pos}:PE X (.Constant (.str x) j pos) (zau G E (dC (.str x))):=zoA znY rfl
theorem zfy{r:R2}{f:W->W->M W}{σ:VS.St}{H:Hp}{Q:VK}(h:zau G E (fun sl=>bnd (da sl) fun x=>bnd (db sl) fun y=>f x y) σ H Q)(k:∀F as sl ce H2 x y wx wy,SR G F as H2 σ sl ce->Rep F as wx x->Rep F as wy y->Post G E Rep F as σ sl Q (f wx wy ce)->r x y H2 Q):tOp r (zau G E da) (zau G E db) σ H Q:=by
 obtain⟨F,as,sl,ce,S,P⟩:=h
 refine(step S P).mono fun x H1 zz_=>el8 zz_ fun wx F1 as1 ce1 l1 S1 rx P1=>(step S1 P1).mono fun y H2 zz_=>el8 zz_ fun wy F2 as2 ce2 l2 S2 ry P2=>?_
 exact k F2 as2 sl ce2 H2 x y wx wy S2 (rx.le l2) ry P2
theorem ziV{op:Operator}{r:R2}{f:W->W->Option W}(ho:OpR X (binaryOp op) r)(hf:Sc2 r f)(ha:PE X a (zau G E da))(hb:PE X b (zau G E db)):PE X (.BinOp a op b pos) (zau G E (dOp f da db)):=by
 refine PE.imp (zks ho ha hb) fun σ H Q h=>zfy h fun F as sl ce H2 x y wx wy S rx ry P=>?_
 revert P
 unfold look
 cases e:f wx wy with
 | none=>exact fun P=>P.elim
 | some w =>
  intro P
  obtain⟨vx,vy,vw,e1,e2,e3,k⟩:=hf _ _ _ e
  rw[rx.sc e1,ry.sc e2]
  exact k _ _ (P.done S (Rep.of_sc e3))
theorem zly{op:CmpOp}{r:R2}{f:W->W->Option W}(ho:OpR X (compareOp op) r)(hf:Sc2 r f)(ha:PE X a (zau G E da))(hb:PE X b (zau G E db))(hm:behindInMarks op b=false):PE X (.Compare a [op] [b] pos) (zau G E (dOp f da db)):=by
 refine PE.imp (zf7 ho ha hb hm) fun σ H Q h=>zfy h fun F as sl ce H2 x y wx wy S rx ry P=>?_
 revert P
 unfold look
 cases e:f wx wy with
 | none=>exact fun P=>P.elim
 | some w =>
  intro P
  obtain⟨vx,vy,vw,e1,e2,e3,k⟩:=hf _ _ _ e
  rw[rx.sc e1,ry.sc e2]
  exact k _ _ (P.done S (Rep.of_sc e3))
theorem zhL{g:Int->Int->W}{h:Int->Int->V}(q:∀i j,scV (g i j)=some (h i j)):Sc2 (rI0 h) (i2 g):=by
 intro x y w e
 cases x<;>cases y<;>simp only[i2,Option.some.injEq,reduceCtorEq] at e
 subst e
 exact⟨_,_,_,rfl,rfl,q _ _,fun H Q hq=>⟨_,_,rfl,rfl,hq⟩⟩
theorem ziW{c:Int->Int->Prop}{g:Int->Int->W}{h:Int->Int->V}(q:∀i j,scV (g i j)=some (h i j)):Sc2 (rI c h) (i2c c g):=by
 intro x y w e
 cases x<;>cases y<;>simp only[i2c,reduceCtorEq] at e
 split at e
 ·rename_i hc
  cases e
  exact⟨_,_,_,rfl,rfl,q _ _,fun H Q hq=>⟨_,_,rfl,rfl,hc,hq⟩⟩
 ·cases e
def zcE:W->W->Option W:=i2 fun i j=>.int (i+j)
def zeA:W->W->Option W:=i2 fun i j=>.int (i-j)
def zin:W->W->Option W:=i2c CMul fun i j=>.int (i*j)
def zcN:W->W->Option W:=i2c (fun _ j=>0<j) fun i j=>.int (i % j)
def znL:W->W->Option W:=i2c zqk fun i j=>.int (i / j)
def fLt:W->W->Option W:=i2 fun i j=>.bl (decide (i<j))
def fLe:W->W->Option W:=i2 fun i j=>.bl (decide (i<=j))
def fGt:W->W->Option W:=i2 fun i j=>.bl (decide (j<i))
def fGe:W->W->Option W:=i2 fun i j=>.bl (decide (j<=i))
theorem za9(ha:PE X a (zau G E da))(hb:PE X b (zau G E db)):PE X (.BinOp a .Add b pos) (zau G E (dOp zcE da db)):=ziV zog (zhL fun _ _=>rfl) ha hb
theorem zb9(ha:PE X a (zau G E da))(hb:PE X b (zau G E db)):PE X (.BinOp a .Sub b pos) (zau G E (dOp zeA da db)):=ziV zoh (zhL fun _ _=>rfl) ha hb
theorem zdj(ha:PE X a (zau G E da))(hb:PE X b (zau G E db)):PE X (.BinOp a .Mult b pos) (zau G E (dOp zin da db)):=ziV zoi (ziW fun _ _=>rfl) ha hb
theorem zba(ha:PE X a (zau G E da))(hb:PE X b (zau G E db)):PE X (.BinOp a .Mod b pos) (zau G E (dOp zcN da db)):=ziV zoj (ziW fun _ _=>rfl) ha hb
theorem zoB(ha:PE X a (zau G E da))(hb:PE X b (zau G E db)):PE X (.BinOp a .FloorDiv b pos) (zau G E (dOp znL da db)):=ziV zmk (ziW fun _ _=>rfl) ha hb
theorem zqL(ha:PE X a (zau G E da))(hb:PE X b (zau G E db)):PE X (.Compare a [.GtE] [b] pos) (zau G E (dOp fGe da db)):=zly zqp (zhL fun _ _=>rfl) ha hb (zcQ _)
def zmG:W->Option W
 | .int i=>some (.int (-i))
 | _=>none
theorem ziX(ha:PE X a (zau G E da)):PE X (.UnaryOp .USub a pos) (zau G E (dUn zmG da)):=by
 refine PE.imp (zqj zok ha) fun σ H Q zz_=>el6 zz_ fun F as sl ce S P=>(step S P).mono fun x H1 zz_=>el8 zz_ fun wx F1 as1 ce1 l1 S1 rx P1=>?_
 revert P1
 unfold look zmG
 cases wx<;>first|exact fun P=>P.elim|skip
 simp only[Rep] at rx
 subst rx
 exact fun P=>⟨_,rfl,P.done S1 (by simp only[Rep])⟩
def zoC:W->Bool
 | .non=>true
 | _=>false
def zrq:W->Option W:=fun w=>some (.bl (zoC w))
theorem Rep.isN{F:Hp}{as:List Addr}{w:W}{v:V}(r:Rep F as w v):decide (v=.non)=zoC w:=by
 cases w<;>simp only[Rep] at r<;>first|(subst r;rfl)|(obtain⟨_,_,rfl,_⟩:=r;rfl)|(obtain⟨_,rfl,_⟩:=r;rfl)
def zgb(ce:Ce):W->Option Bool
 | .non=>some false
 | .bl b=>some b
 | .int i=>some (i != 0)
 | .str x=>if x.length<=sizeLine then some ((x.length:Int) != 0) else none
 | .lst xs=>some (!xs.isEmpty)
 | .tup xs=>some (!xs.isEmpty)
 | .cel k=>match ce[k]? with
  | some (.lst xs)=>some (!xs.isEmpty)
  | some (.dct xs)=>some (!xs.isEmpty)
  | _=>none
 | _=>none
theorem Reps.empty{F:Hp}{as:List Addr}{ws:List W}{vs:List V}(r:Reps F as ws vs):vs.isEmpty=ws.isEmpty:=by
 have:=r.length
 cases ws<;>cases vs<;>simp_all
theorem Rd.sub{G:Ga}{F:Hp}{as:List Addr}{H:Hp}{ce:Ce}(S:Store G F as H ce){a:Addr}{o:HO}(r:Rd F a o):Rd H a o:=by
 rcases r with r|⟨u,r⟩
 ·exact .inl (S.sub _ _ r)
 ·exact .inr ⟨u,S.sub _ _ r⟩
theorem zmH{F:Hp}{as:List Addr}{H:Hp}{ce:Ce}{w:W}{v:V}{k:Bool}(S:Store G F as H ce)(r:Rep F as w v)(e:zgb ce w=some k)(K:PySem.W.Frag):zpU K v H k:=by
 cases w with
 | non=>simp only[Rep] at r;simp only[zgb,Option.some.injEq] at e;subst r;exact e.symm
 | bl b=>simp only[Rep] at r;simp only[zgb,Option.some.injEq] at e;subst r;exact e.symm
 | int i=>simp only[Rep] at r;simp only[zgb,Option.some.injEq] at e;subst r;exact e.symm
 | str x =>
  simp only[Rep] at r
  subst r
  simp only[zgb] at e
  split at e
  ·rename_i h
   exact⟨h,(Option.some.inj e).symm⟩
  ·cases e
 | ty n=>simp only[zgb,reduceCtorEq] at e
 | lst xs =>
  simp only[Rep] at r
  obtain⟨a,vs,rfl,h,rs⟩:=r
  simp only[zgb,Option.some.injEq] at e
  exact .inl ⟨vs,.inl (Rd.sub S h),by rw[<- e,rs.empty]⟩
 | tup xs =>
  simp only[Rep] at r
  obtain⟨a,vs,rfl,h,rs⟩:=r
  simp only[zgb,Option.some.injEq] at e
  exact .inr (.inl ⟨vs,.inl (.inl (S.sub _ _ h)),by rw[<- e,rs.empty]⟩)
 | cel n =>
  simp only[Rep] at r
  obtain⟨a,rfl,h⟩:=r
  simp only[zgb] at e
  split at e
  ·rename_i xs hc
   obtain⟨_,vs,h2,rs⟩:=S.cell _ _ _ h hc
   exact .inl ⟨vs,.inl (.inl h2),by rw[<- Option.some.inj e,rs.empty]⟩
  ·rename_i xs hc
   obtain⟨_,vs,h2,rs⟩:=S.cell _ _ _ h hc
   refine .inr (.inr ⟨vs,h2,?_⟩)
   rw[<- Option.some.inj e]
   cases rs<;>rfl
  ·cases e
def zki(d:Sl->M W):Sl->M Bool:=fun sl=>bnd (d sl) fun w=>look fun ce=>zgb ce w
theorem ziY{da:Sl->M W}(ha:PE X a (zau G E da))(he:∀whole,isTrue a X.env whole=(do let v <- whole;standAt a.pos;holding [v] (truthy v)):=by intro _;rfl):PT X a (zb8 G E (zki da)):=by
 refine PT.imp (zqG (K:=X.K) ha he) fun σ H Q zz_=>el6 zz_ fun F as sl ce S P=>(step S P).mono fun x H1 zz_=>el8 zz_ fun wx F1 as1 ce1 l1 S1 rx P1=>?_
 obtain⟨k,e,P⟩:=zbn P1
 exact⟨k,zmH S1.st rx e _,Post.done (RP:=rB) S1 P rfl⟩
def dB(d:Sl->M W):Sl->M Bool:=fun sl=>bnd (d sl) fun w=>look fun _=>match w with|.bl b=>some b|_=>none
theorem zmI{t:TE}{σ:VS.St}{H:Hp}{Q:Bool->Hp->Prop}{d:Sl->M W}(h:zb8 G E (dB d) σ H Q):tB (zau G E d) σ H Q:=by
 obtain⟨F,as,sl,ce,S,P⟩:=h
 refine(step S P).mono fun x H1 zz_=>el8 zz_ fun wx F1 as1 ce1 l1 S1 rx P1=>?_
 revert P1
 unfold look
 cases wx<;>first|exact fun P=>P.elim|skip
 simp only[Rep] at rx
 subst rx
 exact fun P=>⟨_,rfl,P.done S1 rfl⟩
theorem zdk{e:Expr}{d:Sl->M W}(h:PE X e (zau G E d))(he:∀whole,isTrue e X.env whole=(do let v <- whole;standAt e.pos;holding [v] (truthy v)):=by intro _;rfl):PT X e (zb8 G E (dB d)) :=
 PT.imp (zn1 h he) fun σ H Q q=>zmI (t:=zau G E d) q
theorem zhM{op:CmpOp}{d:Sl->M W}{r:R2}(ho:OpR X (compareOp op) r)(ha:PE X a (zau G E da))(hb:PE X b (zau G E db))(hm:behindInMarks op b=false)(q:∀σ H Q,zau G E d σ H Q->tOp r (zau G E da) (zau G E db) σ H Q):PT X (.Compare a [op] [b] pos) (zb8 G E (dB d)):=by
 refine PT.imp (zmo ho ha hb hm) fun σ H Q h=>?_
 exact q σ H _ (zmI (t:=zau G E d) h)
theorem zoD{op:CmpOp}{d:Sl->M W}(h:∃t,PC X op a b t/\∀σ H Q,zau G E d σ H Q->t σ H Q)(h1:behindInMarks op b=false):PT X (.Compare a [op] [b] pos) (zb8 G E (dB d)):=by
 obtain⟨t,h,q⟩:=h
 exact PT.imp (zn0 h h1) fun σ H Q z=>q _ _ _ (zmI (t:=zau G E d) z)
end
end VS
namespace VS
open PySem PySem.Spec PyProof.Rows L2
mutual
def peq:W->W->Bool
 | .non,y=>match y with|.non=>true|_=>false
 | .bl a,y=>match y with|.bl b=>a==b|.int b=>(if a then 1 else 0)==b|_=>false
 | .int a,y=>match y with|.int b=>a==b|.bl b=>a==(if b then 1 else 0)|_=>false
 | .str a,y=>match y with|.str b=>a==b|_=>false
 | .lst xs,y=>match y with|.lst ys=>peqs xs ys|_=>false
 | .tup xs,y=>match y with|.tup ys=>peqs xs ys|_=>false
 | .ty _,_=>false
 | .cel _,_=>false
def peqs:List W->List W->Bool
 | [],ys=>match ys with|[]=>true|_=>false
 | x::xs,ys=>match ys with|y::ys=>peq x y&&peqs xs ys|[]=>false
end
def cln:Nat->W->Bool
 | _,.non=>true
 | _,.bl _=>true
 | _,.int _=>true
 | _,.str _=>true
 | _,.ty _=>false
 | _,.cel _=>false
 | 0,.lst _=>false
 | 0,.tup _=>false
 | n+1,.lst xs=>xs.all (cln n)
 | n+1,.tup xs=>xs.all (cln n)
theorem zhN{F:Hp}{a:Addr}{vs us:List V}(h:Rd F a (.lst vs))(h':Rd F a (.lst us)):vs=us:=by
 rcases h with h|⟨o,h⟩<;>rcases h' with h'|⟨o',h'⟩<;>(first|(rw[h] at h';cases h';rfl)|(rw[h] at h';cases h'))
theorem zhO{F:Hp}{a:Addr}{vs us:List V}(h:Rd F a (.tup vs))(h':Rd F a (.tup us)):vs=us:=by
 rcases h with h|⟨o,h⟩<;>rcases h' with h'|⟨o',h'⟩<;>(first|(rw[h] at h';cases h';rfl)|(rw[h] at h';cases h'))
theorem zgO{F:Hp}{a:Addr}{vs us:List V}(h:Rd F a (.lst vs))(h':Rd F a (.tup us)):False:=by
 rcases h with h|⟨o,h⟩<;>rcases h' with h'|⟨o',h'⟩<;>(rw[h] at h';cases h')
theorem ziZ{F:Hp}{as:List Addr}:∀(n:Nat) {w w':W} {v:V},cln n w=true->cln n w'=true->Rep F as w v->Rep F as w' v->w=w':=by
 intro n
 induction n with
 | zero =>
  intro w w' v c c' r r'
  cases w<;>cases w'<;>simp only[cln,reduceCtorEq] at c c'<;>simp only[Rep] at r r'<;>(subst r;cases r')<;>rfl
 | succ n ih =>
  have its:∀{ws ws':List W} {vs:List V},ws.all (cln n)=true->ws'.all (cln n)=true->Reps F as ws vs->Reps F as ws' vs->ws=ws':=by
   intro ws
   induction ws with
   | nil =>
    intro ws' vs _ _ r r'
    simp only[Reps] at r
    subst r
    cases ws' with
    | nil=>rfl
    | cons y ys=>simp only[Reps] at r';obtain⟨v,r,e,_⟩:=r';cases e
   | cons x xs ihx =>
    intro ws' vs c c' r r'
    simp only[Reps] at r
    obtain⟨v,vs',rfl,h1,h2⟩:=r
    cases ws' with
    | nil=>simp only[Reps] at r';cases r'
    | cons y ys =>
     simp only[Reps] at r'
     obtain⟨v',r',e,h3,h4⟩:=r'
     cases e
     simp only[List.all_cons,Bool.and_eq_true] at c c'
     rw[ih c.1 c'.1 h1 h3,ihx c.2 c'.2 h2 h4]
  intro w w' v c c' r r'
  cases w<;>cases w'<;>simp only[cln,reduceCtorEq] at c c'<;>simp only[Rep] at r r'<;>first
   | (subst r;cases r';rfl)
   | (subst r;cases r';done)
   | (subst r;obtain⟨_,_,e,_⟩:=r';cases e)
   | (subst r';obtain⟨_,_,e,_⟩:=r;cases e)
   | (obtain⟨a,vs,rfl,q,s⟩:=r
      obtain⟨b,us,e,q',s'⟩:=r'
      cases e
      first
       | exact(zgO q (.inl q')).elim
       | exact(zgO q' (.inl q)).elim
       | (cases zhN q q';rw[its c c' s s'])
       | (cases zhO (.inl q) (.inl q');rw[its c c' s s']))
theorem zgP:∀(n:Nat) {w:W},cln n w=true->peq w w=true:=by
 intro n
 induction n with
 | zero=>intro w c;cases w<;>simp_all[cln,peq]
 | succ n ih =>
  have its:∀{ws:List W},ws.all (cln n)=true->peqs ws ws=true:=by
   intro ws
   induction ws with
   | nil=>intro _;simp[peqs]
   | cons x xs ihx =>
    intro c
    simp only[List.all_cons,Bool.and_eq_true] at c
    simp only[peqs,ih c.1,ihx c.2,Bool.and_self]
  intro w c
  cases w<;>simp only[cln,reduceCtorEq] at c<;>first|(simp only[peq];exact its c)|simp[peq]
theorem zeP:∀(xs ys:List W),xs.length=ys.length->peqs xs ys=(List.range xs.length).all fun j=>match xs[j]?,ys[j]? with|some a,some b=>peq a b|_,_=>false
 | [],[],_=>by simp[peqs]
 | x::xs,y::ys,h=>by
  have e:xs.length=ys.length:=by simpa using h
  simp only[peqs]
  rw[zeP xs ys e,List.length_cons,List.range_succ_eq_map,List.all_cons,List.all_map]
  rfl
 | [],_::_,h=>by simp at h
 | _::_,[],h=>by simp at h
theorem zgQ:∀{xs ys:List W},peqs xs ys=true->xs.length=ys.length
 | [],[],_=>rfl
 | x::xs,y::ys,h=>by
  simp only[peqs,Bool.and_eq_true] at h
  simp only[List.length_cons,zgQ h.2]
 | [],_::_,h=>by simp[peqs] at h
 | _::_,[],h=>by simp[peqs] at h
theorem zi0{xs ys:List W}(h:xs.length≠ys.length):peqs xs ys=false:=by
 cases e:peqs xs ys with
 | false=>rfl
 | true=>exact absurd (zgQ e) h
section
variable {X:Cx} {pins:List (Addr×Obj)} {σ:VS.St} {H F:Hp} {as:List Addr} {s:Shared}
theorem zi1{A:Around}{ws zs:List W}{vs us:List V}{ps qs:List Value}(it:∀{w z:W} {v u:V} {p q:Value},w∈ws->z∈zs->Rep F as w v->Rep F as z u->L2.RelV v p->L2.RelV u q->SeqAt.EqAt A s p q (peq w z))(h1:Reps F as ws vs)(h2:Reps F as zs us)(r1:Vals vs ps)(r2:Vals us qs) :
  ∀j (k1:j<ps.toArray.size) (k2:j<qs.toArray.size),SeqAt.EqAt A s ps.toArray[j] qs.toArray[j] (match ws[j]?,zs[j]? with|some a,some b=>peq a b|_,_=>false):=by
 intro j k1 k2
 have k1':j<ps.length:=by simpa using k1
 have k2':j<qs.length:=by simpa using k2
 have l1:=r1.length
 have l2:=r2.length
 have e1:vs[j]?=some (vs[j]'(by omega)):=by simp
 have e2:us[j]?=some (us[j]'(by omega)):=by simp
 obtain⟨u,hu1,ru⟩:=r1.get e1
 obtain⟨z,hz1,rz⟩:=r2.get e2
 obtain⟨a,ha,ra⟩:=h1.get' e1
 obtain⟨b,hb,rb⟩:=h2.get' e2
 have eu:ps.toArray[j]=u:=by
  have:ps[j]?=some ps[j]:=by simp
  rw[hu1] at this
  simpa using (Option.some.inj this).symm
 have ez:qs.toArray[j]=z:=by
  have:qs[j]?=some qs[j]:=by simp
  rw[hz1] at this
  simpa using (Option.some.inj this).symm
 rw[eu,ez,ha,hb]
 exact it (List.mem_of_getElem? ha) (List.mem_of_getElem? hb) ra rb ru rz
theorem zkF{A:Around}{ws zs:List W}{vs us:List V}{a b:Addr}(I:Inv X pins σ H s)(hu:A.units<cLine)(ha:SqL X.K H a vs)(hb:SqL X.K H b us)(h1:Reps F as ws vs)(h2:Reps F as zs us)(it:∀{w z:W} {v u:V} {p q:Value},w∈ws->z∈zs->Rep F as w v->Rep F as z u->L2.RelV v p->L2.RelV u q->SeqAt.EqAt A.in1 s p q (peq w z)) :
  SeqAt.RcAt A s (.ref a) (.ref b) (peqs ws zs)/\SeqAt.RcNeAt A s (.ref a) (.ref b) (!peqs ws zs):=by
 obtain⟨ps,r1,p1,z1⟩:=I.list ha
 obtain⟨qs,r2,p2,z2⟩:=I.list hb
 have l1:=r1.length
 have l2:=r2.length
 have l3:=h1.length
 have l4:=h2.length
 by_cases hl:ws.length=zs.length
 ·have hsz:ps.toArray.size=qs.toArray.size:=by rw[List.size_toArray,List.size_toArray];omega
  have ia:=zi1 (A:=A.in1) it h1 h2 r1 r2
  have a1:=SeqAt.RcAt.lists p1.isList p2.isList hsz hu ia
  have a2:=SeqAt.RcNeAt.lists p1.isList p2.isList hsz hu ia
  rw[List.size_toArray,show ps.length=ws.length by omega,<- zeP ws zs hl] at a1 a2
  exact⟨a1,a2⟩
 ·have hne:(ps.toArray.size != qs.toArray.size)=true:=by
   rw[List.size_toArray,List.size_toArray]
   simp
   omega
  rw[zi0 hl]
  exact⟨SeqAt.RcAt.lists_lengths p1.isList p2.isList hne hu,SeqAt.RcNeAt.lists_lengths p1.isList p2.isList hne hu⟩
theorem zmJ{A:Around}{ws zs:List W}{vs us:List V}{a b:Addr}(I:Inv X pins σ H s)(hu:A.units<cLine)(ha:SqT X.K H a vs)(hb:SqT X.K H b us)(h1:Reps F as ws vs)(h2:Reps F as zs us)(it:∀{w z:W} {v u:V} {p q:Value},w∈ws->z∈zs->Rep F as w v->Rep F as z u->L2.RelV v p->L2.RelV u q->SeqAt.EqAt A.in1 s p q (peq w z)) :
  SeqAt.RcAt A s (.ref a) (.ref b) (peqs ws zs)/\SeqAt.RcNeAt A s (.ref a) (.ref b) (!peqs ws zs):=by
 obtain⟨ps,r1,p1,z1⟩:=I.tuple ha
 obtain⟨qs,r2,p2,z2⟩:=I.tuple hb
 have l1:=r1.length
 have l2:=r2.length
 have l3:=h1.length
 have l4:=h2.length
 have ia:=zi1 (A:=A.in1) it h1 h2 r1 r2
 have e:((List.range (min ps.toArray.size qs.toArray.size)).all (fun j=>match ws[j]?,zs[j]? with|some a,some b=>peq a b|_,_=>false)&&ps.toArray.size==qs.toArray.size)=peqs ws zs:=by
  rw[List.size_toArray,List.size_toArray]
  by_cases hl:ws.length=zs.length
  ·have h1:ps.length=ws.length:=by omega
   have h2:qs.length=ws.length:=by omega
   rw[h1,h2,Nat.min_self,zeP ws zs hl]
   simp
  ·have e1:(ps.length==qs.length)=false:=by simp;omega
   rw[e1,Bool.and_false,zi0 hl]
 have a1:=SeqAt.RcAt.tuples p1 p2 hu ia
 have a2:=SeqAt.RcNeAt.tuples p1 p2 hu ia
 rw[e] at a1 a2
 exact⟨a1,a2⟩
inductive Sh (F:Hp) (as:List Addr):W->V->Value->Prop where
 | non:Sh F as .non .non .none
 | bl (b:Bool):Sh F as (.bl b) (.bl b) (.bool b)
 | int (i:Int) (t:Tok):Sh F as (.int i) (.int i) (.int i t)
 | str (x:Str) (t:Tok):Sh F as (.str x) (.str x) (.str x t)
 | lst {xs:List W} {a:Addr} {vs:List V} (h:Rd F a (.lst vs)) (r:Reps F as xs vs):Sh F as (.lst xs) (.ref a) (.ref a)
 | tup {xs:List W} {a:Addr} {vs:List V} (h:Rd F a (.tup vs)) (r:Reps F as xs vs):Sh F as (.tup xs) (.ref a) (.ref a)
theorem zkG{n:Nat}{w:W}{v:V}{p:Value}(c:cln n w=true)(r:Rep F as w v)(rv:L2.RelV v p):Sh F as w v p:=by
 cases w with
 | non=>simp only[Rep] at r;subst r;cases rv;exact .non
 | bl b=>simp only[Rep] at r;subst r;cases rv;exact .bl b
 | int i=>simp only[Rep] at r;subst r;obtain⟨t,rfl⟩:=rv;exact .int i t
 | str i=>simp only[Rep] at r;subst r;obtain⟨t,rfl⟩:=rv;exact .str i t
 | ty i=>cases n<;>simp only[cln,reduceCtorEq] at c
 | cel i=>cases n<;>simp only[cln,reduceCtorEq] at c
 | lst xs=>simp only[Rep] at r;obtain⟨a,vs,rfl,h,q⟩:=r;cases rv;exact .lst h q
 | tup xs=>simp only[Rep] at r;obtain⟨a,vs,rfl,h,q⟩:=r;cases rv;exact .tup (.inl h) q
set_option maxHeartbeats 0 in
theorem zqM(hs:∀a o,F a=some o->H a=some o)(I:Inv X pins σ H s):∀(n:Nat) {A:Around} {w z:W} {v u:V} {p q:Value},A.units+n<cLine->cln n w=true->cln n z=true->Rep F as w v->Rep F as z u->L2.RelV v p->L2.RelV u q ->
  SeqAt.RcAt A s p q (peq w z)/\SeqAt.RcNeAt A s p q (!peq w z)/\SeqAt.EqAt A s p q (peq w z):=by
 have sub:∀{a:Addr} {o:HO},Rd F a o->Rd H a o:=fun {a o} r=>by
  rcases r with r|⟨u,r⟩
  ·exact .inl (hs _ _ r)
  ·exact .inr ⟨u,hs _ _ r⟩
 have isL:∀{a:Addr} {vs:List V},Rd F a (.lst vs)->∃its,s.heap.IsList a its:=fun {a vs} h=>by
  obtain⟨its,_,p,_⟩:=I.list (.inl (sub h))
  exact⟨_,p.isList⟩
 have isT:∀{a:Addr} {vs:List V},Rd F a (.tup vs)->∃its,s.heap.IsTuple a its:=fun {a vs} h=>by
  obtain⟨its,_,p,_⟩:=I.tuple (.inl (sub h))
  exact⟨_,p⟩
 intro n
 induction n with
 | zero =>
  intro A w z v u p q hu c c' r r' rv ru
  have sh:=zkG c r rv
  have sh':=zkG c' r' ru
  cases sh with
  | non =>
   cases sh' with
   | non =>
    simp only[peq]
    exact⟨SeqAt.RcAt.none_none ,SeqAt.RcNeAt.none_none ,SeqAt.EqAt.same _⟩
   | bl b2 =>
    simp only[peq]
    exact⟨SeqAt.RcAt.none_bool _,SeqAt.RcNeAt.none_bool _,SeqAt.EqAt.none_bool _⟩
   | int i2 t2 =>
    simp only[peq]
    exact⟨SeqAt.RcAt.none_int _ _,SeqAt.RcNeAt.none_int _ _,SeqAt.EqAt.none_int _ _⟩
   | str x2 t2 =>
    simp only[peq]
    exact⟨SeqAt.RcAt.none_str _ _,SeqAt.RcNeAt.none_str _ _,SeqAt.EqAt.none_str _ _⟩
   | lst q2 s2 =>
    simp only[cln,reduceCtorEq] at c'
   | tup q2 s2 =>
    simp only[cln,reduceCtorEq] at c'
  | bl b =>
   cases sh' with
   | non =>
    simp only[peq]
    exact⟨SeqAt.RcAt.bool_none _,SeqAt.RcNeAt.bool_none _,SeqAt.EqAt.bool_none _⟩
   | bl b2 =>
    simp only[peq]
    exact⟨SeqAt.RcAt.bool_bool _ _,SeqAt.RcNeAt.bool_bool _ _,SeqAt.EqAt.bool_bool _ _⟩
   | int i2 t2 =>
    simp only[peq]
    exact⟨SeqAt.RcAt.bool_int _ _ _,SeqAt.RcNeAt.bool_int _ _ _,SeqAt.EqAt.bool_int _ _ _⟩
   | str x2 t2 =>
    simp only[peq]
    exact⟨SeqAt.RcAt.bool_str _ _ _,SeqAt.RcNeAt.bool_str _ _ _,SeqAt.EqAt.bool_str _ _ _⟩
   | lst q2 s2 =>
    simp only[cln,reduceCtorEq] at c'
   | tup q2 s2 =>
    simp only[cln,reduceCtorEq] at c'
  | int i t =>
   cases sh' with
   | non =>
    simp only[peq]
    exact⟨SeqAt.RcAt.int_none _ _,SeqAt.RcNeAt.int_none _ _,SeqAt.EqAt.int_none _ _⟩
   | bl b2 =>
    simp only[peq]
    exact⟨SeqAt.RcAt.int_bool _ _ _,SeqAt.RcNeAt.int_bool _ _ _,SeqAt.EqAt.int_bool _ _ _⟩
   | int i2 t2 =>
    simp only[peq]
    exact⟨SeqAt.RcAt.int_int _ _ _ _,SeqAt.RcNeAt.int_int _ _ _ _,SeqAt.EqAt.int_int _ _ _ _⟩
   | str x2 t2 =>
    simp only[peq]
    exact⟨SeqAt.RcAt.int_str _ _ _ _,SeqAt.RcNeAt.int_str _ _ _ _,SeqAt.EqAt.int_str _ _ _ _⟩
   | lst q2 s2 =>
    simp only[cln,reduceCtorEq] at c'
   | tup q2 s2 =>
    simp only[cln,reduceCtorEq] at c'
  | str x t =>
   cases sh' with
   | non =>
    simp only[peq]
    exact⟨SeqAt.RcAt.str_none _ _,SeqAt.RcNeAt.str_none _ _,SeqAt.EqAt.str_none _ _⟩
   | bl b2 =>
    simp only[peq]
    exact⟨SeqAt.RcAt.str_bool _ _ _,SeqAt.RcNeAt.str_bool _ _ _,SeqAt.EqAt.str_bool _ _ _⟩
   | int i2 t2 =>
    simp only[peq]
    exact⟨SeqAt.RcAt.str_int _ _ _ _,SeqAt.RcNeAt.str_int _ _ _ _,SeqAt.EqAt.str_int _ _ _ _⟩
   | str x2 t2 =>
    simp only[peq]
    exact⟨SeqAt.RcAt.str_str _ _ _ _,SeqAt.RcNeAt.str_str _ _ _ _,SeqAt.EqAt.str_str _ _ _ _⟩
   | lst q2 s2 =>
    simp only[cln,reduceCtorEq] at c'
   | tup q2 s2 =>
    simp only[cln,reduceCtorEq] at c'
  | lst q1 s1 =>
   simp only[cln,reduceCtorEq] at c
  | tup q1 s1 =>
   simp only[cln,reduceCtorEq] at c
 | succ n ih =>
  intro A w z v u p q hu c c' r r' rv ru
  have hu0:A.units<cLine:=by omega
  have hu1:A.in1.units+n<cLine:=by show A.units+1+n<cLine;omega
  have ref:∀{a b:Addr},v=.ref a->u=.ref b->(SeqAt.RcAt A s (.ref a) (.ref b) (peq w z)/\SeqAt.RcNeAt A s (.ref a) (.ref b) (!peq w z))->SeqAt.RcAt A s (.ref a) (.ref b) (peq w z)/\SeqAt.RcNeAt A s (.ref a) (.ref b) (!peq w z)/\SeqAt.EqAt A s (.ref a) (.ref b) (peq w z):=by
   intro a b e1 e2 ⟨h1,h2⟩
   subst e1 e2
   refine⟨h1,h2,?_⟩
   by_cases e:a=b
   ·subst e
    rw[ziZ (n+1) c c' r r',zgP (n+1) c']
    exact SeqAt.EqAt.same _
   ·exact SeqAt.EqAt.of_refs e h1
  have sh:=zkG c r rv
  have sh':=zkG c' r' ru
  cases sh with
  | non =>
   cases sh' with
   | non =>
    simp only[peq]
    exact⟨SeqAt.RcAt.none_none ,SeqAt.RcNeAt.none_none ,SeqAt.EqAt.same _⟩
   | bl b2 =>
    simp only[peq]
    exact⟨SeqAt.RcAt.none_bool _,SeqAt.RcNeAt.none_bool _,SeqAt.EqAt.none_bool _⟩
   | int i2 t2 =>
    simp only[peq]
    exact⟨SeqAt.RcAt.none_int _ _,SeqAt.RcNeAt.none_int _ _,SeqAt.EqAt.none_int _ _⟩
   | str x2 t2 =>
    simp only[peq]
    exact⟨SeqAt.RcAt.none_str _ _,SeqAt.RcNeAt.none_str _ _,SeqAt.EqAt.none_str _ _⟩
   | lst q2 s2 =>
    obtain⟨_,p1⟩:=isL q2
    simp only[peq]
    exact⟨SeqAt.RcAt.none_list p1 hu0,SeqAt.RcNeAt.none_list p1 hu0,SeqAt.EqAt.none_list p1 hu0⟩
   | tup q2 s2 =>
    obtain⟨_,p1⟩:=isT q2
    simp only[peq]
    exact⟨SeqAt.RcAt.none_tuple p1 hu0,SeqAt.RcNeAt.none_tuple p1 hu0,SeqAt.EqAt.none_tuple p1 hu0⟩
  | bl b =>
   cases sh' with
   | non =>
    simp only[peq]
    exact⟨SeqAt.RcAt.bool_none _,SeqAt.RcNeAt.bool_none _,SeqAt.EqAt.bool_none _⟩
   | bl b2 =>
    simp only[peq]
    exact⟨SeqAt.RcAt.bool_bool _ _,SeqAt.RcNeAt.bool_bool _ _,SeqAt.EqAt.bool_bool _ _⟩
   | int i2 t2 =>
    simp only[peq]
    exact⟨SeqAt.RcAt.bool_int _ _ _,SeqAt.RcNeAt.bool_int _ _ _,SeqAt.EqAt.bool_int _ _ _⟩
   | str x2 t2 =>
    simp only[peq]
    exact⟨SeqAt.RcAt.bool_str _ _ _,SeqAt.RcNeAt.bool_str _ _ _,SeqAt.EqAt.bool_str _ _ _⟩
   | lst q2 s2 =>
    obtain⟨_,p1⟩:=isL q2
    simp only[peq]
    exact⟨SeqAt.RcAt.bool_list _ p1 hu0,SeqAt.RcNeAt.bool_list _ p1 hu0,SeqAt.EqAt.bool_list _ p1 hu0⟩
   | tup q2 s2 =>
    obtain⟨_,p1⟩:=isT q2
    simp only[peq]
    exact⟨SeqAt.RcAt.bool_tuple _ p1 hu0,SeqAt.RcNeAt.bool_tuple _ p1 hu0,SeqAt.EqAt.bool_tuple _ p1 hu0⟩
  | int i t =>
   cases sh' with
   | non =>
    simp only[peq]
    exact⟨SeqAt.RcAt.int_none _ _,SeqAt.RcNeAt.int_none _ _,SeqAt.EqAt.int_none _ _⟩
   | bl b2 =>
    simp only[peq]
    exact⟨SeqAt.RcAt.int_bool _ _ _,SeqAt.RcNeAt.int_bool _ _ _,SeqAt.EqAt.int_bool _ _ _⟩
   | int i2 t2 =>
    simp only[peq]
    exact⟨SeqAt.RcAt.int_int _ _ _ _,SeqAt.RcNeAt.int_int _ _ _ _,SeqAt.EqAt.int_int _ _ _ _⟩
   | str x2 t2 =>
    simp only[peq]
    exact⟨SeqAt.RcAt.int_str _ _ _ _,SeqAt.RcNeAt.int_str _ _ _ _,SeqAt.EqAt.int_str _ _ _ _⟩
   | lst q2 s2 =>
    obtain⟨_,p1⟩:=isL q2
    simp only[peq]
    exact⟨SeqAt.RcAt.int_list _ _ p1 hu0,SeqAt.RcNeAt.int_list _ _ p1 hu0,SeqAt.EqAt.int_list _ _ p1 hu0⟩
   | tup q2 s2 =>
    obtain⟨_,p1⟩:=isT q2
    simp only[peq]
    exact⟨SeqAt.RcAt.int_tuple _ _ p1 hu0,SeqAt.RcNeAt.int_tuple _ _ p1 hu0,SeqAt.EqAt.int_tuple _ _ p1 hu0⟩
  | str x t =>
   cases sh' with
   | non =>
    simp only[peq]
    exact⟨SeqAt.RcAt.str_none _ _,SeqAt.RcNeAt.str_none _ _,SeqAt.EqAt.str_none _ _⟩
   | bl b2 =>
    simp only[peq]
    exact⟨SeqAt.RcAt.str_bool _ _ _,SeqAt.RcNeAt.str_bool _ _ _,SeqAt.EqAt.str_bool _ _ _⟩
   | int i2 t2 =>
    simp only[peq]
    exact⟨SeqAt.RcAt.str_int _ _ _ _,SeqAt.RcNeAt.str_int _ _ _ _,SeqAt.EqAt.str_int _ _ _ _⟩
   | str x2 t2 =>
    simp only[peq]
    exact⟨SeqAt.RcAt.str_str _ _ _ _,SeqAt.RcNeAt.str_str _ _ _ _,SeqAt.EqAt.str_str _ _ _ _⟩
   | lst q2 s2 =>
    obtain⟨_,p1⟩:=isL q2
    simp only[peq]
    exact⟨SeqAt.RcAt.str_list _ _ p1 hu0,SeqAt.RcNeAt.str_list _ _ p1 hu0,SeqAt.EqAt.str_list _ _ p1 hu0⟩
   | tup q2 s2 =>
    obtain⟨_,p1⟩:=isT q2
    simp only[peq]
    exact⟨SeqAt.RcAt.str_tuple _ _ p1 hu0,SeqAt.RcNeAt.str_tuple _ _ p1 hu0,SeqAt.EqAt.str_tuple _ _ p1 hu0⟩
  | lst q1 s1 =>
   cases sh' with
   | non =>
    obtain⟨_,p1⟩:=isL q1
    simp only[peq]
    exact⟨SeqAt.RcAt.list_none p1 hu0,SeqAt.RcNeAt.list_none p1 hu0,SeqAt.EqAt.list_none p1 hu0⟩
   | bl b2 =>
    obtain⟨_,p1⟩:=isL q1
    simp only[peq]
    exact⟨SeqAt.RcAt.list_bool _ p1 hu0,SeqAt.RcNeAt.list_bool _ p1 hu0,SeqAt.EqAt.list_bool _ p1 hu0⟩
   | int i2 t2 =>
    obtain⟨_,p1⟩:=isL q1
    simp only[peq]
    exact⟨SeqAt.RcAt.list_int _ _ p1 hu0,SeqAt.RcNeAt.list_int _ _ p1 hu0,SeqAt.EqAt.list_int _ _ p1 hu0⟩
   | str x2 t2 =>
    obtain⟨_,p1⟩:=isL q1
    simp only[peq]
    exact⟨SeqAt.RcAt.list_str _ _ p1 hu0,SeqAt.RcNeAt.list_str _ _ p1 hu0,SeqAt.EqAt.list_str _ _ p1 hu0⟩
   | lst q2 s2 =>
    refine ref rfl rfl ?_
    simp only[peq]
    simp only[cln] at c c'
    exact zkF I hu0 (.inl (sub q1)) (.inl (sub q2)) s1 s2 fun {w z v u p q} m m' r r' rv ru=>(ih hu1 (List.all_eq_true.mp c _ m) (List.all_eq_true.mp c' _ m') r r' rv ru).2.2
   | tup q2 s2 =>
    refine ref rfl rfl ?_
    simp only[peq]
    obtain⟨_,p1⟩:=isL q1
    obtain⟨_,p2⟩:=isT q2
    exact⟨SeqAt.RcAt.list_tuple p1 p2 hu0,SeqAt.RcNeAt.list_tuple p1 p2 hu0⟩
  | tup q1 s1 =>
   cases sh' with
   | non =>
    obtain⟨_,p1⟩:=isT q1
    simp only[peq]
    exact⟨SeqAt.RcAt.tuple_none p1 hu0,SeqAt.RcNeAt.tuple_none p1 hu0,SeqAt.EqAt.tuple_none p1 hu0⟩
   | bl b2 =>
    obtain⟨_,p1⟩:=isT q1
    simp only[peq]
    exact⟨SeqAt.RcAt.tuple_bool _ p1 hu0,SeqAt.RcNeAt.tuple_bool _ p1 hu0,SeqAt.EqAt.tuple_bool _ p1 hu0⟩
   | int i2 t2 =>
    obtain⟨_,p1⟩:=isT q1
    simp only[peq]
    exact⟨SeqAt.RcAt.tuple_int _ _ p1 hu0,SeqAt.RcNeAt.tuple_int _ _ p1 hu0,SeqAt.EqAt.tuple_int _ _ p1 hu0⟩
   | str x2 t2 =>
    obtain⟨_,p1⟩:=isT q1
    simp only[peq]
    exact⟨SeqAt.RcAt.tuple_str _ _ p1 hu0,SeqAt.RcNeAt.tuple_str _ _ p1 hu0,SeqAt.EqAt.tuple_str _ _ p1 hu0⟩
   | lst q2 s2 =>
    refine ref rfl rfl ?_
    simp only[peq]
    obtain⟨_,p1⟩:=isT q1
    obtain⟨_,p2⟩:=isL q2
    exact⟨SeqAt.RcAt.tuple_list p1 p2 hu0,SeqAt.RcNeAt.tuple_list p1 p2 hu0⟩
   | tup q2 s2 =>
    refine ref rfl rfl ?_
    simp only[peq]
    simp only[cln] at c c'
    exact zmJ I hu0 (.inl (sub q1)) (.inl (sub q2)) s1 s2 fun {w z v u p q} m m' r r' rv ru=>(ih hu1 (List.all_eq_true.mp c _ m) (List.all_eq_true.mp c' _ m') r r' rv ru).2.2
end
end VS
namespace VS
open PySem PySem.Spec PyProof.Rows L2
def drf(ce:Ce):W->W
 | .cel k=>match ce[k]? with
  | some (.lst xs)=>.lst xs
  | _=>.cel k
 | w=>w
def zdX(ce:Ce):W->Option (List W)
 | .lst xs=>some xs
 | .cel k=>match ce[k]? with
  | some (.lst xs)=>some xs
  | _=>none
 | _=>none
def zhP(ce:Ce):W->Option (List W)
 | .tup xs=>some xs
 | w=>zdX ce w
def znM(ce:Ce):W->Option (List (Key×W))
 | .cel k=>match ce[k]? with
  | some (.dct xs)=>some xs
  | _=>none
 | _=>none
def znN(ce:Ce):W->Option (List (Key×W))
 | .cel k=>match ce[k]? with
  | some (.dct xs)=>some xs
  | some (.fzd xs)=>some xs
  | _=>none
 | _=>none
def zio:W->Option Key
 | .int i=>some (.inl i)
 | .str x=>some (.inr x)
 | _=>none
section
variable {G:Ga} {F:Hp} {as:List Addr} {H:Hp} {ce:Ce} {w:W} {v:V}
theorem Store.toH(S:Store G F as H ce):Le F as H as:=⟨S.sub,fun _ _ h=>h⟩
theorem zgc(S:Store G F as H ce)(r:Rep F as w v):Rep H as (drf ce w) v:=by
 cases w with
 | cel k =>
  simp only[drf]
  split
  ·rename_i xs hc
   simp only[Rep] at r ⊢
   obtain⟨a,rfl,h⟩:=r
   obtain⟨_,vs,h2,rs⟩:=S.cell _ _ _ h hc
   exact⟨a,vs,rfl,.inl h2,rs.le S.toH⟩
  ·exact r.le S.toH
 | _=>exact r.le S.toH
theorem zca{xs:List W}(S:Store G F as H ce)(r:Rep F as w v)(e:zdX ce w=some xs):∃a vs,v=.ref a/\Rd H a (.lst vs)/\Reps F as xs vs:=by
 cases w<;>simp only[zdX,reduceCtorEq,Option.some.injEq] at e
 ·subst e
  simp only[Rep] at r
  obtain⟨a,vs,rfl,h,q⟩:=r
  exact⟨a,vs,rfl,Rd.sub S h,q⟩
 ·split at e
  ·rename_i xs' hc
   cases e
   simp only[Rep] at r
   obtain⟨a,rfl,h⟩:=r
   obtain⟨_,vs,h2,rs⟩:=S.cell _ _ _ h hc
   exact⟨a,vs,rfl,.inl h2,rs⟩
  ·cases e
theorem zeQ{xs:List W}(S:Store G F as H ce)(r:Rep F as w v)(e:zhP ce w=some xs):∃a vs,v=.ref a/\(Rd H a (.lst vs)\/Rd H a (.tup vs))/\Reps F as xs vs:=by
 cases w with
 | tup ys =>
  simp only[zhP,Option.some.injEq] at e
  subst e
  simp only[Rep] at r
  obtain⟨a,vs,rfl,h,q⟩:=r
  exact⟨a,vs,rfl,.inr (.inl (S.sub _ _ h)),q⟩
 | _ =>
  obtain⟨a,vs,h1,h2,h3⟩:=zca S r e
  exact⟨a,vs,h1,.inl h2,h3⟩
theorem zi2{xs:List (Key×W)}(S:Store G F as H ce)(r:Rep F as w v)(e:znM ce w=some xs):∃k a ps,w=.cel k/\v=.ref a/\as[k]?=some a/\H a=some (.dK ps)/\RepKV F as xs ps:=by
 cases w<;>simp only[znM,reduceCtorEq] at e
 split at e
 ·rename_i k xs' hc
  cases e
  simp only[Rep] at r
  obtain⟨a,rfl,h⟩:=r
  obtain⟨_,ps,h2,rs⟩:=S.cell _ _ _ h hc
  exact⟨_,a,ps,rfl,rfl,h,h2,rs⟩
 ·cases e
theorem zgR{xs:List (Key×W)}(S:Store G F as H ce)(r:Rep F as w v)(e:znN ce w=some xs):∃k a ps,w=.cel k/\v=.ref a/\as[k]?=some a/\Rd H a (.dK ps)/\RepKV F as xs ps:=by
 cases w<;>simp only[znN,reduceCtorEq] at e
 split at e
 ·rename_i k xs' hc
  cases e
  simp only[Rep] at r
  obtain⟨a,rfl,h⟩:=r
  obtain⟨_,ps,h2,rs⟩:=S.cell _ _ _ h hc
  exact⟨_,a,ps,rfl,rfl,h,.inl h2,rs⟩
 ·rename_i k xs' hc
  cases e
  simp only[Rep] at r
  obtain⟨a,rfl,h⟩:=r
  obtain⟨_,o,ps,_,h2,rs⟩:=S.cell _ _ _ h hc
  exact⟨_,a,ps,rfl,rfl,h,.inr ⟨o,h2⟩,rs⟩
 ·cases e
theorem zgd{k:Key}(r:Rep F as w v)(e:zio w=some k):v=kV k:=by
 cases w<;>simp only[zio,reduceCtorEq,Option.some.injEq] at e<;>subst e<;>simp only[Rep] at r<;>exact r
end
def zpV(ng:Bool):R2:=fun x y H Q=>∃as w z,Rep H as w x/\Rep H as z y/\cln 8 w=true/\cln 8 z=true/\Q (.bl (if ng then !peq w z else peq w z)) H
def zrr(K:PySem.W.Frag)(ng:Bool):R2:=fun x y H Q=>∃as w ys a vs,Rep H as w x/\y=.ref a/\(SqL K H a vs\/SqT K H a vs)/\Reps H as ys vs/\cln 8 w=true/\ys.all (cln 8)=true/\Q (.bl (if ng then !ys.any (peq · w) else ys.any (peq · w))) H
section
variable {X:Cx}
theorem zlz(hu:X.A.units+8<cLine):OpR X (compareOp .Eq) (zpV false):=by
 intro pins s σ H x y v u Q I rx ry ⟨as,w,z,r1,r2,c1,c2,q⟩
 exact(zqM (fun _ _ h=>h) I 8 hu c1 c2 r1 r2 rx ry).1 X.prog X.w X.xe _ ⟨.bl _,H,I,rfl,q⟩
theorem zoE(hu:X.A.units+8<cLine):OpR X (compareOp .NotEq) (zpV true):=by
 intro pins s σ H x y v u Q I rx ry ⟨as,w,z,r1,r2,c1,c2,q⟩
 exact(zqM (fun _ _ h=>h) I 8 hu c1 c2 r1 r2 rx ry).2.1 X.prog X.w X.xe _ ⟨.bl _,H,I,rfl,q⟩
open Classical in
theorem zdY{pins:List (Addr×Obj)}{σ:VS.St}{H:Hp}{s:Shared}{as:List Addr}{A:Around}{w:W}{x:V}{u:Value}{ys:List W}{vs:List V}{ps:List Value}(I:Inv X pins σ H s)(hu:A.units+8<cLine)(rw':Rep H as w x)(c:cln 8 w=true)(cs:ys.all (cln 8)=true)(ru:L2.RelV x u)(rs:Reps H as ys vs)(rp:Vals vs ps):∃e:Value->Bool,(∀y,y∈ps.toArray->SeqAt.EqAt A s y u (e y))/\ps.toArray.any e=ys.any (peq · w):=by
 have hl:=rs.length
 have hl2:=rp.length
 have key:∀{j:Nat} {p:Value},ps[j]?=some p->∃y v,ys[j]?=some y/\Rep H as y v/\L2.RelV v p/\cln 8 y=true:=fun {j p} hp=>by
  have hj:=zat hp
  have e1:vs[j]?=some (vs[j]'(by omega)):=by simp
  obtain⟨q,hq,rq⟩:=rp.get e1
  rw[hp] at hq
  cases hq
  obtain⟨y,hy,ry⟩:=rs.get' e1
  exact⟨y,_,hy,ry,rq,List.all_eq_true.mp cs _ (List.mem_of_getElem? hy)⟩
 have uniq:∀{j j':Nat} {p:Value} {y y':W},ps[j]?=some p->ps[j']?=some p->ys[j]?=some y->ys[j']?=some y'->y=y':=fun {j j' p y y'} h1 h2 h3 h4=>by
  obtain⟨z,v,hz,rz,rv,cz⟩:=key h1
  obtain⟨z',v',hz',rz',rv',cz'⟩:=key h2
  rw[h3] at hz;cases hz
  rw[h4] at hz';cases hz'
  cases rv.inj rv'
  exact ziZ 8 cz cz' rz rz'
 refine⟨fun p=>decide (∃(j:Nat) (y:W),ps[j]?=some p/\ys[j]?=some y/\peq y w=true),fun p hp=>?_,?_⟩
 ·have hp':p∈ps:=by simpa using hp
  obtain⟨j,hj⟩:=List.getElem?_of_mem hp'
  obtain⟨y,v,hy,ry,rv,cy⟩:=key hj
  have q:=(zqM (fun _ _ h=>h) I 8 hu cy c ry rw' rv ru).2.2
  have e:decide (∃(j:Nat) (y:W),ps[j]?=some p/\ys[j]?=some y/\peq y w=true)=peq y w:=by
   rw[Bool.eq_iff_iff,decide_eq_true_iff]
   constructor
   ·rintro⟨j',y',h1,h2,h3⟩
    rw[uniq hj h1 hy h2];exact h3
   ·intro h
    exact⟨j,y,hj,hy,h⟩
  show SeqAt.EqAt A s p u (decide (∃(j:Nat) (y:W),ps[j]?=some p/\ys[j]?=some y/\peq y w=true))
  rw[e];exact q
 ·rw[Bool.eq_iff_iff,Array.any_eq_true',List.any_eq_true]
  constructor
  ·rintro⟨p,_,hp⟩
   obtain⟨j,y,h1,h2,h3⟩:=of_decide_eq_true hp
   exact⟨y,List.mem_of_getElem? h2,h3⟩
  ·rintro⟨y,hy,h⟩
   obtain⟨j,hj⟩:=List.getElem?_of_mem hy
   have hlt:=zat hj
   have e1:ps[j]?=some (ps[j]'(by omega)):=by simp
   refine⟨ps[j]'(by omega),by simp,decide_eq_true ⟨j,y,e1,hj,h⟩⟩
theorem zfz{K:PySem.W.Frag}(hu:X.A.units+9<cLine)(hK:X.K=K:=by rfl):OpR X (compareOp .NotIn) (zrr K true):=by
 subst hK
 intro pins s σ H x y v u Q I rx ry ⟨as,w,ys,a,vs,r1,ey,sq,rs,c1,c2,q⟩
 subst ey
 cases ry
 rcases sq with sq|sq
 ·obtain⟨ps,rp,pl,_⟩:=I.list sq
  obtain⟨e,he,ea⟩:=zdY (A:=X.A.in1) I (by show X.A.units+1+8<cLine;omega) r1 c1 c2 rx rs rp
  exact SeqAt.notIn_listAt e pl.isList he ⟨.bl _,H,I,rfl,by rw[ea];exact q⟩
 ·obtain⟨ps,rp,pl,_⟩:=I.tuple sq
  obtain⟨e,he,ea⟩:=zdY (A:=X.A.in1) I (by show X.A.units+1+8<cLine;omega) r1 c1 c2 rx rs rp
  exact SeqAt.notIn_tupleAt e pl he ⟨.bl _,H,I,rfl,by rw[ea];exact q⟩
end
def eqW(ng:Bool)(ce:Ce)(x y:W):Option W:=if (cln 8 (drf ce x)&&cln 8 (drf ce y))=true then some (.bl (if ng then !peq (drf ce x) (drf ce y) else peq (drf ce x) (drf ce y))) else none
def inW(ng:Bool)(ce:Ce)(x y:W):Option W:=match zhP ce y with
 | some ys=>if (cln 8 (drf ce x)&&ys.all (cln 8))=true then some (.bl (if ng then !ys.any (peq · (drf ce x)) else ys.any (peq · (drf ce x)))) else none
 | none=>none
def zaY(f:Ce->W->W->Option W)(a b:Sl->M W):Sl->M W:=fun sl=>bnd (a sl) fun x=>bnd (b sl) fun y=>look fun ce=>f ce x y
section
variable {X:Cx} {G:Ga} {E:XK} {a b c:Expr} {da db dc:Sl->M W} {pos:Pos}
def OpC(r:R2)(f:Ce->W->W->Option W):Prop:=∀(G:Ga) F as H ce x y wx wy w,Store G F as H ce->Rep F as wx x->Rep F as wy y->f ce wx wy=some w->∀Q:VK,(∀v,Rep F as w v->Q v H)->r x y H Q
theorem zbS{r:R2}{f:Ce->W->W->Option W}(hf:OpC r f)(σ:L2.St)(H:Hp)(Q:VK)(h:zau G E (zaY f da db) σ H Q):tOp r (zau G E da) (zau G E db) σ H Q:=by
 refine zfy h fun F as sl ce H2 x y wx wy S rx ry P=>?_
 obtain⟨w,e,P⟩:=zbn P
 exact hf G F as H2 ce x y wx wy w S.st rx ry e Q fun v r=>P.done S r
theorem zlA(ng:Bool):OpC (zpV ng) (eqW ng):=by
 intro G F as H ce x y wx wy w S rx ry e Q q
 unfold eqW at e
 split at e
 ·rename_i hc
  rw[Bool.and_eq_true] at hc
  cases e
  exact⟨as,_,_,zgc S rx,zgc S ry,hc.1,hc.2,q _ (by simp only[Rep])⟩
 ·cases e
theorem zlB(K:PySem.W.Frag)(ng:Bool):OpC (zrr K ng) (inW ng):=by
 intro G F as H ce x y wx wy w S rx ry e Q q
 unfold inW at e
 split at e
 ·rename_i ys hy
  split at e
  ·rename_i hc
   rw[Bool.and_eq_true] at hc
   cases e
   obtain⟨a,vs,rfl,h,rs⟩:=zeQ S ry hy
   exact⟨as,_,ys,a,vs,zgc S rx,rfl,h.imp .inl .inl,rs.le S.toH,hc.1,hc.2,q _ (by simp only[Rep])⟩
  ·cases e
 ·cases e
theorem zkH(hu:X.A.units+9<cLine)(ha:PE X a (zau G E da))(hb:PE X b (zau G E db))(hm:behindInMarks .NotIn b=false):PE X (.Compare a [.NotIn] [b] pos) (zau G E (zaY (inW true) da db)):=PE.imp (zf7 (zfz hu rfl) ha hb hm) (zbS (zlB _ true))
theorem zge(hu:X.A.units+8<cLine)(ha:PE X a (zau G E da))(hb:PE X b (zau G E db)):PT X (.Compare a [.Eq] [b] pos) (zb8 G E (dB (zaY (eqW false) da db))):=zhM (zlz hu) ha hb (zcQ _) (zbS (zlA false))
theorem zoF(hu:X.A.units+8<cLine)(ha:PE X a (zau G E da))(hb:PE X b (zau G E db)):PT X (.Compare a [.NotEq] [b] pos) (zb8 G E (dB (zaY (eqW true) da db))):=zhM (zoE hu) ha hb (zcQ _) (zbS (zlA true))
theorem zkI(hu:X.A.units+9<cLine)(ha:PE X a (zau G E da))(hb:PE X b (zau G E db))(hm:behindInMarks .NotIn b=false):PT X (.Compare a [.NotIn] [b] pos) (zb8 G E (dB (zaY (inW true) da db))):=zhM (zfz hu rfl) ha hb hm (zbS (zlB _ true))
theorem zi3{r:R2}{f:W->W->Option W}(hf:Sc2 r f):OpC r (fun _=>f):=by
 intro G F as H ce x y wx wy w S rx ry e Q q
 obtain⟨vx,vy,vw,e1,e2,e3,k⟩:=hf _ _ _ e
 rw[rx.sc e1,ry.sc e2]
 exact k _ _ (q _ (Rep.of_sc e3))
theorem zqN(ha:PE X a (zau G E da))(hb:PE X b (zau G E db)):PT X (.Compare a [.Lt] [b] pos) (zb8 G E (dB (dOp fLt da db))):=zhM zqm ha hb (zcQ _) (zbS (zi3 (zhL fun _ _=>rfl)))
theorem zqO(ha:PE X a (zau G E da))(hb:PE X b (zau G E db)):PT X (.Compare a [.LtE] [b] pos) (zb8 G E (dB (dOp fLe da db))):=zhM zqn ha hb (zcQ _) (zbS (zi3 (zhL fun _ _=>rfl)))
theorem zqP(ha:PE X a (zau G E da))(hb:PE X b (zau G E db)):PT X (.Compare a [.Gt] [b] pos) (zb8 G E (dB (dOp fGt da db))):=zhM zqo ha hb (zcQ _) (zbS (zi3 (zhL fun _ _=>rfl)))
theorem zoG{j pos'}(ha:PE X a (zau G E da)):PT X (.Compare a [.Is] [.Constant .none j pos'] pos) (zb8 G E (dB (dUn zrq da))) :=
 zoD ⟨_,znZ ha,fun σ H Q zz_=>el6 zz_ fun F as sl ce S P=>(step S P).mono fun x H1 zz_=>el8 zz_ fun wx F1 as1 ce1 l1 S1 rx P1=>Post.done S1 (a:=W.bl _) P1 (by simp only[Rep];rw[rx.isN])⟩ (zcQ _)
def zoH(a b:Sl->M W):Sl->M W:=fun sl=>bnd (a sl) fun x=>match x with
 | .bl true=>b sl
 | .bl false=>ret (.bl false)
 | _=>ziU
def zpW(a:Sl->M W):Sl->M W:=fun sl=>bnd (a sl) fun x=>match x with
 | .bl b=>ret (.bl (!b))
 | _=>ziU
def zgf(a b:Sl->M Bool):Sl->M Bool:=fun sl=>bnd (a sl) fun x=>match x with
 | true=>b sl
 | false=>ret false
def zkJ(a b:Sl->M Bool):Sl->M Bool:=fun sl=>bnd (a sl) fun x=>match x with
 | true=>ret true
 | false=>b sl
def zcF(a:Sl->M Bool):Sl->M Bool:=fun sl=>bnd (a sl) fun x=>ret (!x)
def zsE(c:Sl->M Bool)(a b:Sl->M W):Sl->M W:=fun sl=>bnd (c sl) fun x=>match x with
 | true=>a sl
 | false=>b sl
variable {zdv:List Expr} {ta tb:Sl->M Bool}
theorem zoI{op}(h:PE X a (zau G E da)):PE X (.BoolOp op [a] pos) (zau G E da):=zn5 h
theorem zoJ(ha:PE X a (zau G E da))(hb:PE X (.BoolOp .And (b::zdv) pos) (zau G E db)):PE X (.BoolOp .And (a::b::zdv) pos) (zau G E (zoH da db)):=by
 refine PE.imp (zn6 ha hb) fun σ H Q zz_=>el6 zz_ fun F as sl ce S P=>(step S P).mono fun x H1 zz_=>el8 zz_ fun wx F1 as1 ce1 l1 S1 rx P1=>?_
 cases wx<;>first|exact(show False from P1).elim|skip
 rename_i k
 simp only[Rep] at rx
 subst rx
 cases k
 ·exact⟨false,rfl,by rw[if_neg Bool.false_ne_true];exact Post.done S1 (a:=W.bl false) P1 (by simp only[Rep])⟩
 ·exact⟨true,rfl,by rw[if_pos rfl];exact⟨F1,as1,sl,ce1,S1,P1⟩⟩
theorem zoK(ha:PE X a (zau G E da)):PE X (.UnaryOp .Not a pos) (zau G E (zpW da)):=by
 refine PE.imp (zn7 ha) fun σ H Q zz_=>el6 zz_ fun F as sl ce S P=>(step S P).mono fun x H1 zz_=>el8 zz_ fun wx F1 as1 ce1 l1 S1 rx P1=>?_
 cases wx<;>first|exact(show False from P1).elim|skip
 rename_i k
 simp only[Rep] at rx
 subst rx
 exact⟨k,rfl,Post.done S1 (a:=W.bl (!k)) P1 (by simp only[Rep])⟩
theorem zi4(ha:PT X a (zb8 G E ta)):PW X (.BoolOp .And [a] pos) (zb8 G E ta):=zmd ha
theorem zi5(ha:PT X a (zb8 G E ta)):PW X (.BoolOp .Or [a] pos) (zb8 G E ta):=zn2 ha
theorem zlC(ha:PT X a (zb8 G E ta))(hb:PW X (.BoolOp .And (b::zdv) pos) (zb8 G E tb)):PW X (.BoolOp .And (a::b::zdv) pos) (zb8 G E (zgf ta tb)):=by
 refine PW.imp (zn3 ha hb) fun σ H Q zz_=>el6 zz_ fun F as sl ce S P=>(step (RP:=rB) S P).mono fun x H1 zz_=>el8 zz_ fun wx F1 as1 ce1 l1 S1 rx P1=>?_
 have rx:wx=x:=rx
 subst rx
 cases wx
 ·rw[if_neg Bool.false_ne_true];exact Post.done (RP:=rB) S1 (a:=false) P1 rfl
 ·rw[if_pos rfl];exact⟨F1,as1,sl,ce1,S1,P1⟩
theorem zkK(ha:PT X a (zb8 G E ta))(hb:PW X (.BoolOp .Or (b::zdv) pos) (zb8 G E tb)):PW X (.BoolOp .Or (a::b::zdv) pos) (zb8 G E (zkJ ta tb)):=by
 refine PW.imp (zp6 ha hb) fun σ H Q zz_=>el6 zz_ fun F as sl ce S P=>(step (RP:=rB) S P).mono fun x H1 zz_=>el8 zz_ fun wx F1 as1 ce1 l1 S1 rx P1=>?_
 have rx:wx=x:=rx
 subst rx
 cases wx
 ·rw[if_neg Bool.false_ne_true];exact⟨F1,as1,sl,ce1,S1,P1⟩
 ·rw[if_pos rfl];exact Post.done (RP:=rB) S1 (a:=true) P1 rfl
theorem zdl(ha:PT X a (zb8 G E ta)):PT X (.UnaryOp .Not a pos) (zb8 G E (zcF ta)):=by
 refine PT.imp (zn4 ha) fun σ H Q zz_=>el6 zz_ fun F as sl ce S P=>(step (RP:=rB) S P).mono fun x H1 zz_=>el8 zz_ fun wx F1 as1 ce1 l1 S1 rx P1=>?_
 have rx:wx=x:=rx
 subst rx
 exact Post.done (RP:=rB) S1 (a:=!wx) P1 rfl
end
end VS
namespace VS
open PySem PySem.Spec PyProof.Rows L2
section
def zao:Sl->M (List W):=fun _=>ret []
def zad(a:Sl->M W)(r:Sl->M (List W)):Sl->M (List W):=fun sl=>bnd (a sl) fun x=>bnd (r sl) fun xs=>ret (x::xs)
open Classical in
def mkF(w:W)(n:Nat):M W:=fun ce=>if n<=sizeLine then some (.ok w ce) else none
open Classical in
def mkC(c:C)(n:Nat):M W:=fun ce=>if n<=sizeLine then some (.ok (.cel ce.length) (ce++[c])) else none
def zbQ(r:Sl->M (List W)):Sl->M W:=fun sl=>bnd (r sl) fun xs=>mkF (.tup xs) xs.length
def zdm(r:Sl->M (List W)):Sl->M W:=fun sl=>bnd (r sl) fun xs=>mkF (.lst xs) xs.length
def zcb(r:Sl->M (List W)):Sl->M W:=fun sl=>bnd (r sl) fun xs=>mkC (.lst xs) xs.length
section
variable {X:Cx} {G:Ga} {E:XK} {e:Expr} {es:List Expr} {da:Sl->M W} {dr:Sl->M (List W)} {pos:Pos} {F:Hp} {as:List Addr} {H:Hp} {σ:VS.St} {sl:Sl} {ce:Ce} {Q:VK}
theorem zaf:PA X [] (zez G E zao):=PA.imp zgG fun σ H Q zz_=>el6 zz_ fun F as sl ce S P=>Post.done (RP:=Reps) S (a:=[]) P Reps.nil
theorem zaa(ha:PE X e (zau G E da))(hr:PA X es (zez G E dr))(hs:starEach (e::es) X.env=(false,eval e X.env)::starEach es X.env:=by rfl):PA X (e::es) (zez G E (zad da dr)):=by
 refine PA.imp (zdR ha hr hs) fun σ H Q zz_=>el6 zz_ fun F as sl ce S P=>(step S P).mono fun x H1 zz_=>el8 zz_ fun wx F1 as1 ce1 l1 S1 rx P1=>(step (RP:=Reps) S1 P1).mono fun y H2 zz_=>el8 zz_ fun wy F2 as2 ce2 l2 S2 ry P2=>?_
 exact Post.done (RP:=Reps) S2 (a:=wx::wy) P2 (.cons (rx.le l2) ry)
theorem zi6{xs:List W}{vs:List V}{n:Nat}(S:SR G F as H σ sl ce)(rs:Reps F as xs vs)(P:Post G E Rep F as σ sl Q (mkF (.lst xs) n ce)):n<=sizeLine/\∀p,H p=none->Q (.ref p) (upd H p (.lst vs)):=by
 revert P
 unfold mkF
 split
 ·rename_i h
  intro P
  refine⟨h,fun p hp=>?_⟩
  obtain⟨S',l⟩:=S.st.freeze (o:=.lst vs) hp
  exact P _ _ _ _ l (S.slots S' l) (by simp only[Rep];exact⟨p,vs,rfl,.inl zaB,rs.le l⟩)
 ·exact fun P=>P.elim
theorem zeR{xs:List W}{vs:List V}{n:Nat}(S:SR G F as H σ sl ce)(rs:Reps F as xs vs)(P:Post G E Rep F as σ sl Q (mkF (.tup xs) n ce)):n<=sizeLine/\∀p,H p=none->Q (.ref p) (upd H p (.tup vs)):=by
 revert P
 unfold mkF
 split
 ·rename_i h
  intro P
  refine⟨h,fun p hp=>?_⟩
  obtain⟨S',l⟩:=S.st.freeze (o:=.tup vs) hp
  exact P _ _ _ _ l (S.slots S' l) (by simp only[Rep];exact⟨p,vs,rfl,zaB,rs.le l⟩)
 ·exact fun P=>P.elim
theorem zi7{c:C}{o:HO}{n:Nat}(S:SR G F as H σ sl ce)(hc:∀p as',Le F as F as'->CRep G F as' (upd H p o) p c)(P:Post G E Rep F as σ sl Q (mkC c n ce)):n<=sizeLine/\∀p,H p=none->Q (.ref p) (upd H p o):=by
 revert P
 unfold mkC
 split
 ·rename_i h
  intro P
  refine⟨h,fun p hp=>?_⟩
  obtain⟨S',l⟩:=S.st.alloc (c:=c) hp (hc p)
  exact P _ _ _ _ l (S.slots S' l) (by simp only[Rep];exact⟨p,rfl,by rw[<- S.st.len];simp⟩)
 ·exact fun P=>P.elim
theorem zi8{xs:List W}{vs:List V}{n:Nat}(S:SR G F as H σ sl ce)(rs:Reps F as xs vs)(P:Post G E Rep F as σ sl Q (mkC (.lst xs) n ce)):n<=sizeLine/\∀p,H p=none->Q (.ref p) (upd H p (.lst vs)) :=
 zi7 (c:=.lst xs) S (fun p as' l=>⟨vs,zaB,rs.le l⟩) P
theorem zaS{x1}(h:PA X es (zez G E dr)):PE X (.Tuple es x1 pos) (zau G E (zbQ dr)):=by
 refine PE.imp (zop h) fun σ H Q zz_=>el6 zz_ fun F as sl ce S P=>(step (RP:=Reps) S P).mono fun x H1 zz_=>el8 zz_ fun wx F1 as1 ce1 l1 S1 rx P1=>?_
 have:=zeR S1 rx P1
 rwa [<- Reps.length rx] at this
theorem zbe(h:PA X es (zez G E dr)):PE X (.List es pos) (zau G E (zdm dr)):=by
 refine PE.imp (ziD h) fun σ H Q zz_=>el6 zz_ fun F as sl ce S P=>(step (RP:=Reps) S P).mono fun x H1 zz_=>el8 zz_ fun wx F1 as1 ce1 l1 S1 rx P1=>?_
 have:=zi6 S1 rx P1
 rwa [<- Reps.length rx] at this
theorem zcG(h:PA X es (zez G E dr)):PE X (.List es pos) (zau G E (zcb dr)):=by
 refine PE.imp (ziD h) fun σ H Q zz_=>el6 zz_ fun F as sl ce S P=>(step (RP:=Reps) S P).mono fun x H1 zz_=>el8 zz_ fun wx F1 as1 ce1 l1 S1 rx P1=>?_
 have:=zi8 S1 rx P1
 rwa [<- Reps.length rx] at this
def zhQ:Sl->M W:=fun _=>mkC (.dct []) 0
theorem zi9:PE X (.Dict [] [] pos) (zau G E zhQ):=by
 refine PE.imp zkD fun σ H Q zz_=>el6 zz_ fun F as sl ce S P=>?_
 exact(zi7 (c:=.dct []) (o:=.dK []) S (fun p as' l=>⟨[],zaB,.nil⟩) P).2
end
def zhR(kvs:List (Key×W))(k:Key):Option W:=(kvs.find? fun kv=>decide (kv.1=k)).map (·.2)
def zhS(kvs:List (Key×W))(k:Key)(v:W):List (Key×W) :=
 if (kvs.any fun kv=>decide (kv.1=k))=true then kvs.map (fun kv=>if kv.1=k then (kv.1,v) else kv) else kvs++[(k,v)]
section
variable {F:Hp} {as:List Addr} {kvs:List (Key×W)} {ps:List (Key×V)}
theorem RepKV.val(r:RepKV F as kvs ps)(k:Key):(zhR kvs k=none/\zhJ ps k=none)\/∃w v,zhR kvs k=some w/\zhJ ps k=some v/\Rep F as w v:=by
 induction r with
 | nil=>exact .inl ⟨rfl,rfl⟩
 | @cons p q l1 l2 h t ih =>
  obtain⟨e,rv⟩:=h
  by_cases hk:p.1=k
  ·refine .inr ⟨p.2,q.2,?_,zdx (by rw[<- e];exact hk),rv⟩
   simp[zhR,List.find?_cons,hk]
  ·have e1:zhR (p::l1) k=zhR l1 k:=by simp only[zhR,List.find?_cons,hk,decide_false]
   rw[e1,zdy (by rw[<- e];exact hk)]
   exact ih
theorem RepKV.any(r:RepKV F as kvs ps)(k:Key):(kvs.any fun kv=>decide (kv.1=k))=(ps.any fun kv=>decide (kv.1=k)):=by
 induction r with
 | nil=>rfl
 | cons h t ih=>rw[List.any_cons,List.any_cons,ih,h.1]
theorem RepKV.mapPut{w:W}{v:V}(k:Key)(rv:Rep F as w v)(r:RepKV F as kvs ps):RepKV F as (kvs.map fun kv=>if kv.1=k then (kv.1,w) else kv) (ps.map fun kv=>if kv.1=k then (kv.1,v) else kv):=by
 induction r with
 | nil=>exact .nil
 | @cons p q l1 l2 h t ih =>
  rw[List.map_cons,List.map_cons]
  refine .cons ?_ ih
  by_cases hk:p.1=k
  ·rw[if_pos hk,if_pos (by rw[<- h.1];exact hk)]
   exact⟨h.1,rv⟩
  ·rw[if_neg hk,if_neg (by rw[<- h.1];exact hk)]
   exact h
theorem RepKV.put{w:W}{v:V}(r:RepKV F as kvs ps)(k:Key)(rv:Rep F as w v):RepKV F as (zhS kvs k w) (zfj ps k v):=by
 unfold zhS zfj
 rw[r.any k]
 split
 ·exact r.mapPut k rv
 ·exact Paired.app r (.cons ⟨rfl,rv⟩ .nil)
theorem RepKV.length(r:RepKV F as kvs ps):kvs.length=ps.length:=Paired.length r
end
def zlD(ng:Bool)(ce:Ce)(x y:W):Option W:=match zio x,znM ce y with
 | some k,some kvs=>some (.bl (if ng then !(zhR kvs k).isSome else (zhR kvs k).isSome))
 | _,_=>none
section
variable {X:Cx} {G:Ga} {E:XK} {a b c:Expr} {da db dc:Sl->M W} {pos:Pos}
theorem zmK(ng:Bool)(σ:L2.St)(H:Hp)(Q:VK)(h:zau G E (zaY (zlD ng) da db) σ H Q) :
  zau G E da σ H fun y H1=>zau G E db σ H1 fun x H2=>∃a o,x=.ref a/\DGet H2 a y o/\Q (.bl (if ng then !o.isSome else o.isSome)) H2:=by
 obtain⟨F,as,sl,ce,S,P⟩:=h
 refine(step S P).mono fun x H1 zz_=>el8 zz_ fun wx F1 as1 ce1 l1 S1 rx P1=>(step S1 P1).mono fun y H2 zz_=>el8 zz_ fun wy F2 as2 ce2 l2 S2 ry P2=>?_
 obtain⟨w,e,P3⟩:=zbn P2
 unfold zlD at e
 split at e
 ·rename_i k kvs hk hd
  cases e
  obtain⟨n,a,ps,rfl,rfl,ha,hH,rk⟩:=zi2 S2.st ry hd
  rw[zgd rx hk]
  refine⟨a,_,rfl,DGet.k hH,?_⟩
  rcases rk.val k with ⟨e1,e2⟩|⟨w,v,e1,e2,_⟩
  ·rw[e1] at P3;rw[e2];exact P3.done S2 (by simp only[Rep];cases ng<;>rfl)
  ·rw[e1] at P3;rw[e2];exact P3.done S2 (by simp only[Rep];cases ng<;>rfl)
 ·cases e
theorem zfA(hu:X.A.units+1<cLine)(ha:PE X a (zau G E da))(hb:PE X b (zau G E db))(h1:behindInMarks .NotIn b=false):PT X (.Compare a [.NotIn] [b] pos) (zb8 G E (dB (zaY (zlD true) da db))):=zoD ⟨_,ziQ hu ha hb,zmK true⟩ h1
def ixW(ce:Ce)(x y:W):Option W:=match zhP ce x,y with
 | some xs,.int i=>atI xs i
 | _,_=>none
theorem Reps.atI{F:Hp}{as:List Addr}{ws:List W}{vs:List V}{i:Int}{w:W}(r:Reps F as ws vs)(h:L2.atI ws i=some w):∃v,L2.atI vs i=some v/\Rep F as w v:=by
 unfold L2.atI at h ⊢
 rw[r.length]
 cases e:ixN ws.length i with
 | none=>rw[e] at h;cases h
 | some j=>rw[e] at h;exact r.get h
theorem zoL(K:PySem.W.Frag):OpC (fun x y H Q=>zqy K x y H Q\/zqz K x y H Q) ixW:=by
 intro G F as H ce x y wx wy w S rx ry e Q q
 unfold ixW at e
 split at e
 ·rename_i xs i hs
  obtain⟨a,vs,rfl,h,rs⟩:=zeQ S rx hs
  obtain⟨v,hv,rv⟩:=rs.atI e
  simp only[Rep] at ry
  subst ry
  rcases h with h|h
  ·exact .inl ⟨a,vs,i,v,rfl,rfl,.inl h,hv,q _ rv⟩
  ·exact .inr ⟨a,vs,i,v,rfl,rfl,.inl h,hv,q _ rv⟩
 ·cases e
theorem zaW(ha:PE X a (zau G E da))(hb:PE X b (zau G E db))(hs:ziH b):PE X (.Subscript a b pos) (zau G E (zaY ixW da db)):=PE.imp (zqx (IxR.or (ixL X.K rfl) (ixT X.K rfl)) ha hb hs) (zbS (zoL _))
def zsF(xs:List W)(lo hi:Option Int):List W:=(xs.drop (HT.sIx xs.length 0 lo)).take (HT.sIx xs.length xs.length hi-HT.sIx xs.length 0 lo)
def zb6(xs:List W):M W:=mkF (.lst xs) xs.length
def zgg(xs:List W):M W:=mkC (.lst xs) xs.length
def zoM(xs:List W):M W:=mkF (.tup xs) xs.length
def MkL(G:Ga)(E:XK)(mk:List W->M W):Prop:=∀{F:Hp} {as:List Addr} {H:Hp} {σ:VS.St} {sl:Sl} {ce:Ce} {Q:VK} {xs:List W} {vs:List V},SR G F as H σ sl ce->Reps F as xs vs->Post G E Rep F as σ sl Q (mk xs ce)->xs.length<=sizeLine/\∀p,H p=none->Q (.ref p) (upd H p (.lst vs))
theorem zfB:MkL G E zb6:=fun S rs P=>zi6 S rs P
theorem zmL:MkL G E zgg:=fun S rs P=>zi8 S rs P
open Classical in
def zqQ(mk:List W->M W)(x y:W):M W:=fun ce=>match zdX ce x,zdX ce y with
 | some xs,some ys=>if xs.length+ys.length<=sizeLine then mk (xs++ys) ce else none
 | _,_=>none
def zja(mk:List W->M W)(a b:Sl->M W):Sl->M W:=fun sl=>bnd (a sl) fun x=>bnd (b sl) fun y=>zqQ mk x y
def zqR:R2:=fun x y H Q=>∃l b xs zs,x=.ref l/\y=.ref b/\Rd H l (.lst xs)/\Rd H b (.lst zs)/\xs.length+zs.length<=sizeLine/\∀p,H p=none->Q (.ref p) (upd H p (.lst (xs++zs)))
theorem Inv.lstR{pins:List (Addr×Obj)}{σ:VS.St}{H:Hp}{s:Shared}{l:Addr}{xs:List V}(I:Inv X pins σ H s)(hH:Rd H l (.lst xs)):xs.length<=sizeLine/\∃(its:List Value) (n:Nat),Vals xs its/\xs.length=its.length/\s.heap.get? l=some { cls:=.type "list",data:=.seq its.toArray n }:=by
 obtain⟨z,its,n,r,e⟩:=hH.ok I.hok
 exact⟨z,its,n,r,r.length,e⟩
theorem zmM:OpR X (binaryOp .Add) zqR:=by
 intro pins s σ H x y v u Q I rx ry h
 obtain⟨l,b,xs,zs,rfl,rfl,hH,hB,hz,q⟩:=h
 cases rx
 cases ry
 obtain⟨z,its,n,r,hl,e⟩:=Inv.lstR I hH
 obtain⟨z2,its2,n2,r2,hl2,e2⟩:=Inv.lstR I hB
 refine PySem.P.add_list e e2 ?_ (by rw[List.size_toArray,List.size_toArray];omega)
 have ea:its.toArray++its2.toArray=(its++its2).toArray:=by simp
 rw[ea]
 exact⟨.ref _,_,I.lnew (t':=s.toks) (r.append r2) (by rw[List.length_append];omega),rfl,q _ I.fresh⟩
theorem zdZ{mk:List W->M W}(hm:MkL G E mk)(ha:PE X a (zau G E da))(hb:PE X b (zau G E db)):PE X (.BinOp a .Add b pos) (zau G E (zja mk da db)):=by
 refine PE.imp (zks zmM ha hb) fun σ H Q h=>zfy h fun F as sl ce H2 x y wx wy S rx ry P=>?_
 unfold zqQ at P
 split at P
 ·rename_i xs ys h1 h2
  split at P
  ·rename_i hl
   obtain⟨p,vs,rfl,q1,r1⟩:=zca S.st rx h1
   obtain⟨p',us,rfl,q2,r2⟩:=zca S.st ry h2
   exact⟨p,p',vs,us,rfl,rfl,q1,q2,by rw[r1.length,r2.length];exact hl,(hm S (r1.append r2) P).2⟩
  ·exact(show False from P).elim
 ·exact(show False from P).elim
end
end
end VS
namespace VS
open PySem PySem.Spec PyProof.Rows L2
section
inductive Fl where
 | nx|bk|ct|rt (w:W)
inductive O where
 | go (f:Fl) (sl:Sl) (ce:Ce)|ex (x:Exn) (ce:Ce)
abbrev DS:=Sl->Ce->Option O
def zqS(D:Ends)(F:Hp)(as:List Addr)(σ:VS.St)(H:Hp):Fl->Prop
 | .nx=>D.nx σ H
 | .bk=>D.bk σ H
 | .ct=>D.ct σ H
 | .rt w=>∀v,Rep F as w v->D.rt v H
def PostS(G:Ga)(E:XK)(D:Ends)(F:Hp)(as:List Addr):Option O->Prop
 | some (.go f sl' ce')=>∀σ' H' F' as',Le F as F' as'->SR G F' as' H' σ' sl' ce'->zqS D F' as' σ' H' f
 | some (.ex x ce')=>∀H' F' as' cv od,Le F as F' as'->Store G F' as' H' ce'->G.xr x cv od H'->E cv od H'
 | none=>False
def toTS(G:Ga)(E:XK)(d:DS):TS:=fun D σ H=>∃F as sl ce,SR G F as H σ sl ce/\PostS G E D F as (d sl ce)
def lft{α:Type}(m:Option (R α))(k:α->Ce->Option O):Option O:=match m with
 | some (.ok a ce')=>k a ce'
 | some (.ex x ce')=>some (.ex x ce')
 | none=>none
section
variable {α β:Type} {G:Ga} {E:XK} {RP:Hp->List Addr->α->β->Prop} {F F':Hp} {as as':List Addr} {H:Hp} {σ:VS.St} {sl:Sl} {ce:Ce} {D D':Ends}
theorem PostS.le{r:Option O}(l:Le F as F' as')(P:PostS G E D F as r):PostS G E D F' as' r:=by
 cases r with
 | none=>exact P
 | some r=>cases r with
  | go f sl' ce'=>exact fun σ' H' F2 as2 l2=>P σ' H' F2 as2 (l.trans l2)
  | ex x ce'=>exact fun H' F2 as2 cv od l2=>P H' F2 as2 cv od (l.trans l2)
theorem zc5{d:Sl->M α}{k:α->Ce->Option O}(S:SR G F as H σ sl ce)(P:PostS G E D F as (lft (d sl ce) k)) :
  toT G E RP d σ H fun b H2=>∃a F' as' ce',Le F as F' as'/\SR G F' as' H2 σ sl ce'/\RP F' as' a b/\PostS G E D F' as' (k a ce'):=by
 refine⟨F,as,sl,ce,S,?_⟩
 revert P
 unfold lft
 cases d sl ce with
 | none=>exact fun P=>P
 | some r=>cases r with
  | ok a ce'=>exact fun P b H' F' as' l S' r=>⟨a,F',as',ce',l,S',r,P.le l⟩
  | ex x ce'=>exact fun P=>P
theorem PostS.nxt(S:SR G F as H σ sl ce)(P:PostS G E D F as (some (.go .nx sl ce))):D.nx σ H:=P σ H F as .refl S
end
def zby:DS:=fun sl ce=>some (.go .nx sl ce)
def zrs:DS:=fun sl ce=>some (.go .ct sl ce)
def zaG(a b:DS):DS:=fun sl ce=>match a sl ce with
 | some (.go .nx sl' ce')=>b sl' ce'
 | r=>r
def dEx(d:Sl->M W):DS:=fun sl ce=>lft (d sl ce) fun _ ce'=>some (.go .nx sl ce')
def zbt(d:Sl->M W):DS:=fun sl ce=>lft (d sl ce) fun w ce'=>some (.go (.rt w) sl ce')
def dIf(c:Sl->M Bool)(a b:DS):DS:=fun sl ce=>lft (c sl ce) fun t ce'=>match t with
 | true=>a sl ce'
 | false=>b sl ce'
abbrev DG:=W->Sl->Ce->Option (Sl×Ce)
def gN(i:Nat):DG:=fun w sl ce=>some (sl.set i (some w),ce)
def znO(d:Sl->M W)(g:DG):DS:=fun sl ce=>lft (d sl ce) fun w ce'=>match g w sl ce' with
 | some (sl',ce'')=>some (.go .nx sl' ce'')
 | none=>none
def zbp(i:Nat)(d:Sl->M W):DS:=fun sl ce=>lft (d sl ce) fun w ce'=>some (.go .nx (sl.set i (some w)) ce')
def PGv(G:Ga)(X:Cx)(tg:Expr)(g:DG):Prop:=∃t:TG,PG X tg t/\∀F as H σ sl ce w v sl' ce' (Q:VS.St->Hp->Prop),SR G F as H σ sl ce->Rep F as w v->g w sl ce=some (sl',ce') ->
 (∀σ' H' F' as',Le F as F' as'->SR G F' as' H' σ' sl' ce'->Q σ' H')->t v σ H Q
def zpX(G:Ga)(X:Cx)(tgs:List Expr)(g:List W->Sl->Ce->Option (Sl×Ce)):Prop:=∃t:TGs,PGs X tgs t/\∀F as H σ sl ce ws vs sl' ce' (Q:VS.St->Hp->Prop),SR G F as H σ sl ce->Reps F as ws vs->g ws sl ce=some (sl',ce') ->
 (∀σ' H' F' as',Le F as F' as'->SR G F' as' H' σ' sl' ce'->Q σ' H')->t vs σ H Q
def zmN:List W->Sl->Ce->Option (Sl×Ce):=fun ws sl ce=>match ws with
 | []=>some (sl,ce)
 | _=>none
def zeB(g:DG)(r:List W->Sl->Ce->Option (Sl×Ce)):List W->Sl->Ce->Option (Sl×Ce):=fun ws sl ce=>match ws with
 | w::ws=>match g w sl ce with
  | some (sl',ce')=>r ws sl' ce'
  | none=>none
 | []=>none
def gT(n:Nat)(r:List W->Sl->Ce->Option (Sl×Ce)):DG:=fun w sl ce=>match w with
 | .tup ws=>if ws.length=n then r ws sl ce else none
 | _=>none
section
variable {X:Cx} {G:Ga} {E:XK} {st:Stmt} {zdv:List Stmt} {a b:DS} {e tg:Expr} {d da db dc:Sl->M W} {c:Sl->M Bool} {g:DG} {pos:Pos}
theorem za3:PSs X [] (toTS G E zby):=PSs.imp zme fun D σ H zz_=>el6 zz_ fun F as sl ce S P=>P.nxt S
theorem zgh:PS X (.Continue pos) (toTS G E zrs):=PS.imp zf5 fun D σ H zz_=>el6 zz_ fun F as sl ce S P=>P σ H F as .refl S
theorem zal(h:PS X st (toTS G E a)):PSs X [st] (toTS G E a):=zmf h
theorem zai(h1:PS X st (toTS G E a))(h2:PSs X zdv (toTS G E b)):PSs X (st::zdv) (toTS G E (zaG a b)):=by
 refine PSs.imp (zko h1 h2) fun D σ H zz_=>el6 zz_ fun F as sl ce S P=>⟨F,as,sl,ce,S,?_⟩
 revert P
 unfold zaG
 cases a sl ce with
 | none=>exact fun P=>P.elim
 | some r=>cases r with
  | ex x ce'=>exact fun P=>P
  | go f sl' ce'=>cases f with
   | nx=>exact fun P σ' H' F' as' l S'=>⟨F',as',sl',ce',S',P.le l⟩
   | bk=>exact fun P=>P
   | ct=>exact fun P=>P
   | rt w=>exact fun P=>P
theorem zbT(he:PE X e (zau G E d))(hs:swapsWith e none pos.line X.env=pure false:=by rfl):PS X (.Expr e pos) (toTS G E (dEx d)) :=
 PS.imp (zmg he hs) fun D σ H zz_=>el6 zz_ fun F as sl ce S P=>(zc5 S P).mono fun x H1 zz_=>el8 zz_ fun wx F1 as1 ce1 l1 S1 rx P1=>P1.nxt S1
theorem zaE(he:PE X e (zau G E d)):PS X (.Return (some e) pos) (toTS G E (zbt d)) :=
 PS.imp (zn8 he) fun D σ H zz_=>el6 zz_ fun F as sl ce S P=>(zc5 S P).mono fun x H1 zz_=>el8 zz_ fun wx F1 as1 ce1 l1 S1 rx P1=>P1 σ H1 F1 as1 .refl S1 x rx
theorem zcr{t:Expr}{sa sb:List Stmt}(hc:PT X t (zb8 G E c))(ha:PSs X sa (toTS G E a))(hb:PSs X sb (toTS G E b)):PS X (.If t sa sb pos) (toTS G E (dIf c a b)):=by
 refine PS.imp (zqc hc ha hb) fun D σ H zz_=>el6 zz_ fun F as sl ce S P=>(zc5 (RP:=rB) S P).mono fun x H1 zz_=>el8 zz_ fun wx F1 as1 ce1 l1 S1 rx P1=>?_
 have rx:wx=x:=rx
 subst rx
 cases wx
 ·rw[if_neg Bool.false_ne_true];exact⟨F1,as1,sl,ce1,S1,P1⟩
 ·rw[if_pos rfl];exact⟨F1,as1,sl,ce1,S1,P1⟩
theorem zaD{i:Nat}{x:Str}{pos':Pos}(hN:X.N.Nodup)(hi:X.N[i]?=some x)(hx:Loc X.env.scope x)(he:PE X e (zau G E d))(hs:swapsWith e (some (.Name x pos')) pos.line X.env=pure false:=by rfl)(hf:X.fn x=true\/X.env.scope.names.lookup x=some .local:=by first|exact .inl rfl|exact .inr rfl|assumption):PS X (.Assign [.Name x pos'] e pos) (toTS G E (zbp i d)) :=
 PS.imp (zoc hN hi hx he hs hf) fun D σ H zz_=>el6 zz_ fun F as sl ce S P=>(zc5 S P).mono fun x H1 zz_=>el8 zz_ fun wx F1 as1 ce1 l1 S1 rx P1=>P1 _ H1 F1 as1 .refl (S1.put rx i)
theorem zbb{i:Nat}{x:Str}(hN:X.N.Nodup)(hi:X.N[i]?=some x)(hx:Loc X.env.scope x)(hf:X.fn x=true\/X.env.scope.names.lookup x=some .local:=by first|exact .inl rfl|exact .inr rfl|assumption):PGv G X (.Name x pos) (gN i) :=
 ⟨gName i,zf6 hN hi hx hf,fun F as H σ sl ce w v sl' ce' Q S r e k=>by
  cases e
  exact k _ _ _ _ .refl (S.put r i)⟩
theorem zmO:zpX G X [] zmN:=⟨_,zmh,fun F as H σ sl ce ws vs sl' ce' Q S r e k=>by
 cases ws with
 | nil=>cases e;simp only[Reps] at r;exact⟨r,k _ _ _ _ .refl S⟩
 | cons w ws=>cases e⟩
theorem zgS{es:List Expr}{r:List W->Sl->Ce->Option (Sl×Ce)}(h1:PGv G X e g)(h2:zpX G X es r)(hs:(assignEach (e::es) X.env).map (·.2)=assign e X.env::(assignEach es X.env).map (·.2):=by rfl):zpX G X (e::es) (zeB g r):=by
 obtain⟨t,h1,q1⟩:=h1
 obtain⟨u,h2,q2⟩:=h2
 refine⟨_,zkp h1 h2 hs,fun F as H σ sl ce ws vs sl' ce' Q S rs e k=>?_⟩
 cases ws with
 | nil=>cases e
 | cons w ws =>
  simp only[Reps] at rs
  obtain⟨v,vs',rfl,rv,rs⟩:=rs
  simp only[zeB] at e
  split at e
  ·rename_i sl1 ce1 eg
   refine⟨v,vs',rfl,q1 F as H σ sl ce w v sl1 ce1 _ S rv eg fun σ' H' F' as' l S'=>?_⟩
   exact q2 F' as' H' σ' sl1 ce1 ws vs' sl' ce' Q S' (rs.le l) e fun σ2 H2 F2 as2 l2 S2=>k _ _ _ _ (l.trans l2) S2
  ·cases e
theorem zoN{es:List Expr}{k n:Nat}{r:List W->Sl->Ce->Option (Sl×Ce)}(hc:X.calm=true)(h:zpX G X es r)(hn:(assignEach es X.env).length=n:=by rfl)(hst:(assignEach es X.env).findIdx? (·.1)=none:=by rfl):PGv G X (.Tuple es k pos) (gT n r):=by
 obtain⟨t,h,q⟩:=h
 refine⟨_,zn9 hc h hn hst,fun F as H σ sl ce w v sl' ce' Q S rw' e k=>?_⟩
 cases w<;>simp only[gT,reduceCtorEq] at e
 split at e
 ·rename_i ws hl
  simp only[Rep] at rw'
  obtain⟨a,vs,rfl,ha,rs⟩:=rw'
  exact⟨a,vs,rfl,.inl (.inl (S.st.sub _ _ ha)),by rw[rs.length];exact hl,q F as H σ sl ce _ vs sl' ce' Q S rs e k⟩
 ·cases e
theorem zlE(he:PE X e (zau G E d))(hg:PGv G X tg g)(hs:swapsWithSole [tg] e pos.line X.env=pure false:=by rfl)(hw:swappedStores [tg] e X.env=pure none:=by rfl)(h1:(assignEach [tg] X.env).map (·.2)=[assign tg X.env]:=by rfl):PS X (.Assign [tg] e pos) (toTS G E (znO d g)):=by
 obtain⟨t,hg,q⟩:=hg
 refine PS.imp (zob he hg hs hw h1) fun D σ H zz_=>el6 zz_ fun F as sl ce S P=>(zc5 S P).mono fun x H1 zz_=>el8 zz_ fun wx F1 as1 ce1 l1 S1 rx P1=>?_
 split at P1
 ·rename_i sl' ce'' eg
  exact q F1 as1 H1 σ sl ce1 wx x sl' ce'' _ S1 rx eg fun σ' H' F' as' l S'=>P1 σ' H' F' as' l S'
 ·exact(show False from P1).elim
def zkL(ce:Ce):W->Option (Nat×List W)
 | .cel k=>match ce[k]? with
  | some (.lst xs)=>some (k,xs)
  | _=>none
 | _=>none
def zlF(ce:Ce):W->Option (Nat×List (Key×W))
 | .cel k=>match ce[k]? with
  | some (.dct xs)=>some (k,xs)
  | _=>none
 | _=>none
theorem zdz{F:Hp}{as:List Addr}{H:Hp}{ce:Ce}{w:W}{v:V}{k:Nat}{xs:List W}(S:Store G F as H ce)(r:Rep F as w v)(e:zkL ce w=some (k,xs)):∃a vs,v=.ref a/\as[k]?=some a/\H a=some (.lst vs)/\Reps F as xs vs:=by
 cases w<;>simp only[zkL,reduceCtorEq] at e
 split at e
 ·rename_i hc
  cases e
  simp only[Rep] at r
  obtain⟨a,rfl,h⟩:=r
  obtain⟨_,vs,h2,rs⟩:=S.cell _ _ _ h hc
  exact⟨a,vs,rfl,h,h2,rs⟩
 ·cases e
theorem zkM{F:Hp}{as:List Addr}{H:Hp}{ce:Ce}{w:W}{v:V}{k:Nat}{xs:List (Key×W)}(S:Store G F as H ce)(r:Rep F as w v)(e:zlF ce w=some (k,xs)):∃a ps,v=.ref a/\as[k]?=some a/\H a=some (.dK ps)/\RepKV F as xs ps:=by
 cases w<;>simp only[zlF,reduceCtorEq] at e
 split at e
 ·rename_i hc
  cases e
  simp only[Rep] at r
  obtain⟨a,rfl,h⟩:=r
  obtain⟨_,ps,h2,rs⟩:=S.cell _ _ _ h hc
  exact⟨a,ps,rfl,h,h2,rs⟩
 ·cases e
def zgi(o i:Sl->M W):DG:=fun w sl ce=>match o sl ce with
 | some (.ok ow ce1)=>match i sl ce1 with
  | some (.ok (.int j) ce2)=>match zkL ce2 ow with
   | some (k,xs)=>match ixN xs.length j with
    | some n=>some (sl,ce2.set k (.lst (xs.set n w)))
    | none=>none
   | none=>none
  | _=>none
 | _=>none
theorem zjb{o i:Expr}(ho:PE X o (zau G E da))(hi:PE X i (zau G E db))(hA:∀v,assign (.Subscript o i pos) X.env v=(do
   let ov <- holding [v] (eval o X.env)
   let iv <- holding [v,ov] (eval i X.env)
   standAt pos
   holding [v,ov,iv] (setItem ov iv v)
   release [v,ov,iv] []):=by intro _;rfl):PGv G X (.Subscript o i pos) (zgi da db):=by
 refine⟨_,zoa ho hi zky hA,fun F as H σ sl ce w v sl' ce' Q S rw' e k=>?_⟩
 unfold zgi at e
 refine⟨F,as,sl,ce,S,?_⟩
 cases e1:da sl ce with
 | none=>rw[e1] at e;cases e
 | some r1=>cases r1 with
  | ex x c=>rw[e1] at e;cases e
  | ok ow ce1 =>
   rw[e1] at e
   intro ov H1 F1 as1 l1 S1 ro
   refine⟨F1,as1,sl,ce1,S1,?_⟩
   dsimp only at e
   cases e2:db sl ce1 with
   | none=>rw[e2] at e;cases e
   | some r2=>cases r2 with
    | ex x c=>rw[e2] at e;cases e
    | ok iw ce2 =>
     rw[e2] at e
     intro iv H2 F2 as2 l2 S2 ri
     cases iw<;>simp only[reduceCtorEq] at e
     rename_i j
     split at e
     ·rename_i kk xs hk
      split at e
      ·rename_i n hn
       cases e
       simp only[Rep] at ri
       subst ri
       obtain⟨a,vs,rfl,ha,hH,rs⟩:=zdz S2.st (ro.le l2) hk
       have rset:=rs.set n ((rw'.le l1).le l2)
       refine⟨a,vs,j,n,rfl,rfl,hH,by rw[rs.length];exact hn,?_⟩
       exact k _ _ _ _ (l1.trans l2) (S2.slots (S2.st.write (o:=.lst (vs.set n v)) (c:=.lst (xs.set n w)) ha ⟨_,zaB,rset⟩) .refl)
      ·cases e
     ·cases e
open Classical in
def zlG(o i v:Sl->M W):DS:=fun sl ce=>lft (v sl ce) fun w ce1=>lft (o sl ce1) fun ow ce2=>lft (i sl ce2) fun iw ce3=>match zio iw,zlF ce3 ow with
 | some key,some (k,kvs)=>if kvs.length<sizeLine then some (.go .nx sl (ce3.set k (.dct (zhS kvs key w)))) else none
 | _,_=>none
theorem zjc{o i value:Expr}{pos':Pos}(hu:X.A.units+1<cLine)(ho:PE X o (zau G E da))(hi:PE X i (zau G E db))(hv:PE X value (zau G E dc))(hs:swapsWith value (some (.Subscript o i pos')) pos.line X.env=pure false:=by rfl) :
  PS X (.Assign [.Subscript o i pos'] value pos) (toTS G E (zlG da db dc)):=by
 refine PS.imp (zmD hu ho hi hv hs) fun D σ H zz_=>el6 zz_ fun F as sl ce S P=>(zc5 S P).mono fun x H1 zz_=>el8 zz_ fun wx F1 as1 ce1 l1 S1 rx P1=>(zc5 S1 P1).mono fun y H2 zz_=>el8 zz_ fun wy F2 as2 ce2 l2 S2 ry P2=>(zc5 S2 P2).mono fun z H3 zz_=>el8 zz_ fun wz F3 as3 ce3 l3 S3 rz P3=>?_
 split at P3
 ·rename_i key kk kvs hk hc
  split at P3
  ·rename_i hl
   obtain⟨a,ps,rfl,ha,hH,rk⟩:=zkM S3.st (ry.le l3) hc
   rw[zgd rz hk]
   have rput:=rk.put key ((rx.le l2).le l3)
   refine⟨a,_,rfl,DPut.k hH (by rw[<- rk.length];exact hl),?_⟩
   exact P3 _ _ _ _ .refl (S3.slots (S3.st.write (o:=.dK (zfj ps key x)) (c:=.dct (zhS kvs key wx)) ha ⟨_,zaB,rput⟩) .refl)
  ·exact(show False from P3).elim
 ·exact(show False from P3).elim
end
end
end VS
namespace VS
open PySem PySem.Spec PyProof.Rows L2
section
inductive Src where
 | lst (xs:List W)|tup (xs:List W)|cell (k:Nat) (xs:List W)|rng (lo:Int) (n:Nat)|dky (xs:List W)
def kW:Key->W
 | .inl i=>.int i
 | .inr x=>.str x
def Src.items:Src->List W
 | .lst xs=>xs
 | .tup xs=>xs
 | .cell _ xs=>xs
 | .rng lo n=>(List.range n).map fun(i:Nat)=>W.int (lo+(i:Int))
 | .dky xs=>xs
def Src.Stays(ce:Ce):Src->Prop
 | .cell k xs=>ce[k]?=some (.lst xs)
 | _=>True
def IRep(K:PySem.W.Frag)(F:Hp)(as:List Addr):Src->It->Prop
 | .lst xs,J=>∃a vs,J=Itl K a/\Rd F a (.lst vs)/\Reps F as xs vs
 | .tup xs,J=>∃a vs,J=Itt K a/\Rd F a (.tup vs)/\Reps F as xs vs
 | .cell k _,J=>∃a,J=Itl K a/\as[k]?=some a
 | .rng lo n,J=>J=Itr lo n
 | .dky xs,J=>∃a o ps,J=Itd a o ps/\F a=some (.frz o (.dK ps))/\xs=ps.map fun p=>kW p.1
theorem IRep.le{K:PySem.W.Frag}{F F':Hp}{as as':List Addr}{s:Src}{J:It}(l:Le F as F' as')(h:IRep K F as s J):IRep K F' as' s J:=by
 cases s with
 | lst xs=>obtain⟨a,vs,e,h,r⟩:=h;exact⟨a,vs,e,l.rd h,r.le l⟩
 | tup xs=>obtain⟨a,vs,e,h,r⟩:=h;exact⟨a,vs,e,l.rd h,r.le l⟩
 | cell k xs=>obtain⟨a,e,h⟩:=h;exact⟨a,e,l.c _ _ h⟩
 | rng lo n=>exact h
 | dky xs=>obtain⟨a,o,ps,e,h,q⟩:=h;exact⟨a,o,ps,e,l.f _ _ h,q⟩
theorem IRep.turn{G:Ga}{K:PySem.W.Frag}{F:Hp}{as:List Addr}{H:Hp}{ce:Ce}{s:Src}{J:It}(S:Store G F as H ce)(h:IRep K F as s J)(hs:s.Stays ce)(i:Nat) :
  (i<s.items.length->J.go i H/\∀x H',J.yld i H x H'->H'=H/\∃w,s.items[i]?=some w/\Rep F as w x)/\(i=s.items.length->J.stop i H):=by
 have lst:∀{a:Addr} {vs:List V} {xs:List W},SqL K H a vs->Reps F as xs vs->(i<xs.length->(Itl K a).go i H/\∀x H',(Itl K a).yld i H x H'->H'=H/\∃w,xs[i]?=some w/\Rep F as w x)/\(i=xs.length->(Itl K a).stop i H):=by
  intro a vs xs hq rs
  have hl:=rs.length
  refine⟨fun hi=>⟨⟨vs,vs[i]'(by omega),hq,by simp⟩,fun x H' y=>?_⟩,fun hi=>⟨vs,hq,by omega⟩⟩
  obtain⟨e,y⟩:=y
  exact⟨e,rs.get' (y vs hq)⟩
 cases s with
 | lst xs=>obtain⟨a,vs,rfl,h,r⟩:=h;exact lst (.inl (Rd.sub S h)) r
 | cell k xs =>
  obtain⟨a,rfl,h⟩:=h
  obtain⟨_,vs,h2,rs⟩:=S.cell _ _ _ h hs
  exact lst (.inl (.inl h2)) rs
 | tup xs =>
  obtain⟨a,vs,rfl,h,rs⟩:=h
  have hq:SqT K H a vs:=.inl (Rd.sub S h)
  have hl:=rs.length
  refine⟨fun hi=>⟨⟨vs,vs[i]'(by show i<_;simp only[Src.items] at hi;omega),hq,by simp⟩,fun x H' y=>?_⟩,fun hi=>⟨vs,hq,by simp only[Src.items] at hi;omega⟩⟩
  obtain⟨e,y⟩:=y
  exact⟨e,rs.get' (y vs hq)⟩
 | rng lo n =>
  cases h
  have hl:(Src.rng lo n).items.length=n:=by simp[Src.items]
  rw[hl]
  refine⟨fun hi=>⟨hi,fun x H' y=>?_⟩,fun hi=>by rw[hi];exact Nat.le_refl _⟩
  obtain⟨e,rfl⟩:=y
  refine⟨e,.int (lo+i),?_,by simp only[Rep]⟩
  simp[Src.items,hi]
 | dky xs =>
  obtain⟨a,o,ps,rfl,h,rfl⟩:=h
  have hH:=S.sub _ _ h
  have hl:(Src.dky (ps.map fun p=>kW p.1)).items.length=ps.length:=by simp[Src.items]
  rw[hl]
  refine⟨fun hi=>⟨⟨hH,hi⟩,fun x H' y=>?_⟩,fun hi=>⟨hH,hi.symm⟩⟩
  obtain⟨e,p,hp,rfl⟩:=y
  refine⟨e,kW p.1,by simp only[Src.items,List.getElem?_map,hp,Option.map_some],?_⟩
  cases p.1<;>simp only[kW,kV,Rep]
abbrev zmP(G:Ga)(E:XK)(K:PySem.W.Frag)(d:Sl->M Src):TI:=toT G E (IRep K) d
theorem PI.imp{X:Cx}{tg e:Expr}{t t':TI}(h:PI X tg e t)(q:∀σ H R,t' σ H R->t σ H R):PI X tg e t':=fun pins s σ H Q I z=>h pins s σ H Q I (q _ _ _ z)
def zgT(ce:Ce):W->Option Src
 | .lst xs=>some (.lst xs)
 | .cel k=>match ce[k]? with
  | some (.lst xs)=>some (.cell k xs)
  | _=>none
 | _=>none
def zqT:W->Option Src
 | .tup xs=>some (.tup xs)
 | _=>none
def dIL(d:Sl->M W):Sl->M Src:=fun sl=>bnd (d sl) fun w=>look fun ce=>zgT ce w
def dIT(d:Sl->M W):Sl->M Src:=fun sl=>bnd (d sl) fun w=>look fun _=>zqT w
open Classical in
def zkj:List W->Option Src
 | [.int j]=>@ite _ (-4611686018427387904<=j/\j<4611686018427387904) (Classical.propDecidable _) (some (.rng 0 j.toNat)) none
 | _=>none
open Classical in
def zpY:List W->Option Src
 | [.int i,.int j]=>@ite _ (-4611686018427387904<=i/\i<4611686018427387904/\-4611686018427387904<=j/\j<4611686018427387904) (Classical.propDecidable _) (some (.rng i (j-i).toNat)) none
 | _=>none
def ziq(d:Sl->M (List W)):Sl->M Src:=fun sl=>bnd (d sl) fun ws=>look fun _=>zkj ws
section
variable {X:Cx} {G:Ga} {E:XK} {tg a b:Expr} {da:Sl->M W} {dr:Sl->M (List W)} {p pos:Pos}
theorem zgU(hl:PE X a (zau G E da)):PI X tg a (zmP G E X.K (dIL da)):=by
 refine PI.imp (zmj hl) fun σ H R zz_=>el6 zz_ fun F as sl ce S P=>(step S P).mono fun x H1 zz_=>el8 zz_ fun wx F1 as1 ce1 l1 S1 rx P1=>?_
 obtain⟨src,e,P2⟩:=zbn P1
 cases wx<;>simp only[zgT,reduceCtorEq,Option.some.injEq] at e
 ·subst e
  simp only[Rep] at rx
  obtain⟨a,vs,rfl,h,rs⟩:=rx
  exact⟨a,rfl,⟨vs,.inl (Rd.sub S1.st h)⟩,Post.done (RP:=IRep X.K) S1 P2 ⟨a,vs,rfl,h,rs⟩⟩
 ·split at e
  ·rename_i hc
   cases e
   simp only[Rep] at rx
   obtain⟨a,rfl,h⟩:=rx
   obtain⟨_,vs,h2,rs⟩:=S1.st.cell _ _ _ h hc
   exact⟨a,rfl,⟨vs,.inl (.inl h2)⟩,Post.done (RP:=IRep X.K) S1 P2 ⟨a,rfl,h⟩⟩
  ·cases e
theorem zrt(hl:PE X a (zau G E da)):PI X tg a (zmP G E X.K (dIT da)):=by
 refine PI.imp (zoe hl) fun σ H R zz_=>el6 zz_ fun F as sl ce S P=>(step S P).mono fun x H1 zz_=>el8 zz_ fun wx F1 as1 ce1 l1 S1 rx P1=>?_
 obtain⟨src,e,P2⟩:=zbn P1
 cases wx<;>simp only[zqT,reduceCtorEq,Option.some.injEq] at e
 subst e
 simp only[Rep] at rx
 obtain⟨a,vs,rfl,h,rs⟩:=rx
 exact⟨a,rfl,⟨vs,.inl (.inl (S1.st.sub _ _ h))⟩,Post.done (RP:=IRep X.K) S1 P2 ⟨a,vs,rfl,.inl h,rs⟩⟩
theorem zhT(hg:Gl X "range")(hm:X.mg "range" = none)(ha:PA X [a] (zez G E dr))(hs:starEach [a] X.env=[(false,eval a X.env)]:=by rfl):PI X tg (.Call (.Name "range" p) [a] [] pos) (zmP G E X.K (ziq dr)):=by
 refine PI.imp (ziy hg hm ha hs) fun σ H R zz_=>el6 zz_ fun F as sl ce S P=>(step (RP:=Reps) S P).mono fun x H1 zz_=>el8 zz_ fun wx F1 as1 ce1 l1 S1 rx P1=>?_
 obtain⟨src,e,P2⟩:=zbn P1
 unfold zkj at e
 split at e
 ·rename_i j
  split at e
  ·rename_i hj
   cases e
   simp only[Reps,Rep] at rx
   obtain⟨v,r,rfl,rfl,rfl⟩:=rx
   exact⟨j,rfl,by omega,by omega,Post.done (RP:=IRep X.K) S1 P2 rfl⟩
  ·cases e
 ·cases e
end
open Classical in
def zgV(s:Src)(g:DG)(body:DS):List W->DS
 | []=>fun sl ce=>if s.Stays ce then some (.go .nx sl ce) else none
 | x::r=>fun sl ce=>if s.Stays ce then (match g x sl ce with
  | some (sl1,ce1)=>match body sl1 ce1 with
   | some (.go .nx sl2 ce2)=>zgV s g body r sl2 ce2
   | some (.go .ct sl2 ce2)=>zgV s g body r sl2 ce2
   | some (.go .bk sl2 ce2)=>some (.go .nx sl2 ce2)
   | o=>o
  | none=>none) else none
def zd0(i:Sl->M Src)(g:DG)(body:DS):DS:=fun sl ce=>lft (i sl ce) fun s ce'=>zgV s g body s.items sl ce'
def zcc(c:Sl->M Bool)(body:DS):Nat->DS
 | 0=>fun _ _=>none
 | n+1=>fun sl ce=>lft (c sl ce) fun t ce1=>match t with
  | false=>some (.go .nx sl ce1)
  | true=>match body sl ce1 with
   | some (.go .nx sl2 ce2)=>zcc c body n sl2 ce2
   | some (.go .ct sl2 ce2)=>zcc c body n sl2 ce2
   | some (.go .bk sl2 ce2)=>some (.go .nx sl2 ce2)
   | o=>o
section
variable {X:Cx} {G:Ga} {E:XK} {tg iter t:Expr} {body:List Stmt} {di:Sl->M Src} {g:DG} {b:DS} {c:Sl->M Bool} {pos:Pos}
theorem zfC{D:Ends}{F:Hp}{as:List Addr}{N:VS.St->Hp->Prop}{k:DS}{r:Option O}(P:PostS G E D F as (match r with
   | some (.go .nx sl2 ce2)=>k sl2 ce2
   | some (.go .ct sl2 ce2)=>k sl2 ce2
   | some (.go .bk sl2 ce2)=>some (.go .nx sl2 ce2)
   | o=>o))(hN:∀σ H F' as' sl ce,Le F as F' as'->SR G F' as' H σ sl ce->PostS G E D F' as' (k sl ce)->N σ H):PostS G E { D with nx:=N,ct:=N,bk:=D.nx } F as r:=by
 cases r with
 | none=>exact P
 | some r=>cases r with
  | ex x ce'=>exact P
  | go f sl' ce'=>cases f with
   | nx=>exact fun σ' H' F' as' l S'=>hN σ' H' F' as' sl' ce' l S' (P.le l)
   | ct=>exact fun σ' H' F' as' l S'=>hN σ' H' F' as' sl' ce' l S' (P.le l)
   | bk=>exact fun σ' H' F' as' l S'=>P σ' H' F' as' l S'
   | rt w=>exact fun σ' H' F' as' l S'=>P σ' H' F' as' l S'
theorem zbJ(hp:PassesOwn (model X.prog X.w) X.A X.env X.xe)(hc:X.calm=true)(hi:PI X tg iter (zmP G E X.K di))(hg:PGv G X tg g)(hb:PSs X body (toTS G E b))(hs:∀x,foldedSetIterable iter X.env x=pure x:=by intro _;rfl):PS X (.For tg iter body [] pos) (toTS G E (zd0 di g b)):=by
 obtain⟨tgt,hg,qg⟩:=hg
 refine PS.imp (zof hp hc hi hg hb hs) fun D σ H zz_=>el6 zz_ fun F as sl ce S P=>(zc5 (RP:=IRep X.K) S P).mono fun J H1 zz_=>el8 zz_ fun s F1 as1 ce1 l1 S1 rJ P1=>?_
 refine⟨fun i m σ H=>∃F as sl ce,SR G F as H σ sl ce/\IRep X.K F as s J/\m=s.items.length-i/\i<=s.items.length/\PostS G E D F as (zgV s g b (s.items.drop i) sl ce),⟨s.items.length,F1,as1,sl,ce1,S1,rJ,rfl,Nat.zero_le _,P1⟩,?_⟩
 rintro i m σ H ⟨F,as,sl,ce,S,rJ,rfl,hi,P⟩
 by_cases hlt:i<s.items.length
 ·rw[List.drop_eq_getElem_cons hlt] at P
  simp only[zgV] at P
  split at P
  ·rename_i hst
   obtain⟨t1,t2⟩:=rJ.turn S.st hst i
   obtain⟨go,yl⟩:=t1 hlt
   refine .inr ⟨go,_,fun σ' H' h=>h,fun x H' y=>?_⟩
   obtain⟨rfl,w,hw,rw'⟩:=yl x H' y
   rw[List.getElem?_eq_getElem hlt] at hw
   cases hw
   split at P
   ·rename_i sl1 ce1 eg
    refine qg F as H' σ sl ce _ x sl1 ce1 _ S rw' eg fun σ' H2 F' as' l S'=>⟨F',as',sl1,ce1,S',?_⟩
    refine zfC (P.le l) fun σ3 H3 F3 as3 sl3 ce3 l3 S3 P3=>?_
    exact⟨s.items.length-(i+1),by omega,F3,as3,sl3,ce3,S3,rJ.le (l.trans l3),rfl,hlt,P3⟩
   ·exact(show False from P).elim
  ·exact(show False from P).elim
 ·have e:i=s.items.length:=by omega
  subst e
  rw[List.drop_length] at P
  simp only[zgV] at P
  split at P
  ·rename_i hst
   exact .inl ⟨(rJ.turn S.st hst _).2 rfl,P.nxt S⟩
  ·exact(show False from P).elim
theorem zkN(n:Nat)(hp:PassesOwn (model X.prog X.w) X.A X.env X.xe)(hc:PT X t (zb8 G E c))(hb:PSs X body (toTS G E b)):PS X (.While t body [] pos) (toTS G E (zcc c b n)):=by
 refine PS.imp (zkq hp hc hb) fun D σ H zz_=>el6 zz_ fun F as sl ce S P=>?_
 refine⟨fun m σ H=>∃F as sl ce,SR G F as H σ sl ce/\PostS G E D F as (zcc c b m sl ce),⟨n,F,as,sl,ce,S,P⟩,?_⟩
 rintro m σ H ⟨F,as,sl,ce,S,P⟩
 cases m with
 | zero=>exact(show False from P).elim
 | succ m =>
  refine(zc5 (RP:=rB) S P).mono fun x H1 zz_=>el8 zz_ fun wx F1 as1 ce1 l1 S1 rx P1=>?_
  have rx:wx=x:=rx
  subst rx
  cases wx
  ·rw[if_neg Bool.false_ne_true];exact P1.nxt S1
  ·rw[if_pos rfl]
   refine⟨fun σ' H'=>∃F as sl ce,SR G F as H' σ' sl ce/\PostS G E D F as (zcc c b m sl ce),fun σ' H' h=>⟨m,Nat.lt_succ_self _,h⟩,F1,as1,sl,ce1,S1,?_⟩
   exact zfC P1 fun σ3 H3 F3 as3 sl3 ce3 l3 S3 P3=>⟨F3,as3,sl3,ce3,S3,P3⟩
end
def zdn(js:List Nat)(sl:Sl):Sl:=js.map fun j=>sl.getD j none
open Classical in
def lcL(s:Src)(cs:Sl)(c:Sl->M Bool)(e:Sl->M W):List W->List W->M (List W)
 | [],ys=>fun ce=>if s.Stays ce then some (.ok ys ce) else none
 | x::r,ys=>fun ce=>if s.Stays ce/\ys.length<sizeLine then bnd (c (some x::cs)) (fun t=>match t with
   | true=>bnd (e (some x::cs)) fun y=>lcL s cs c e r (ys++[y])
   | false=>lcL s cs c e r ys) ce else none
def dLC(mk:List W->M W)(js:List Nat)(i:Sl->M Src)(c:Sl->M Bool)(e:Sl->M W):Sl->M W:=fun sl=>bnd (i sl) fun s=>bnd (lcL s (zdn js sl) c e s.items []) mk
def zeS:Sl->M Bool:=fun _=>ret true
section
variable {X:Cx} {G:Ga} {E:XK} {elt iter:Expr} {x:Str} {px pos:Pos} {ifs:List Expr} {scope:Scope} {js:List Nat} {caps:List Str} {di:Sl->M Src} {c:Sl->M Bool} {e:Sl->M W} {mk:List W->M W}
theorem PIfs.imp{Y:Cx}{ifs:List Expr}{t t':TT}(h:PIfs Y ifs t)(q:∀σ H Q,t' σ H Q->t σ H Q):PIfs Y ifs t':=fun pins s σ H Q I z=>h pins s σ H Q I (q _ _ _ z)
theorem zcU{Y:Cx}:PIfs Y [] (zb8 G E zeS):=PIfs.imp zkA fun σ H Q zz_=>el6 zz_ fun F as sl ce S P=>Post.done (RP:=rB) S (a:=true) P rfl
theorem zdA{Y:Cx}{t:Expr}(h:PT Y t (zb8 G E c)):PIfs Y [t] (zb8 G E c):=zkB h
theorem SR.cap{F:Hp}{as:List Addr}{H:Hp}{σ:VS.St}{sl:Sl}{ce:Ce}(S:SR G F as H σ sl ce)(js:List Nat){w:W}{v:V}(r:Rep F as w v):SR G F as H (some v::zhH js σ) (some w::zdn js sl) ce:=by
 refine⟨S.st,by simp[zhH,zdn],fun i u h=>?_⟩
 cases i with
 | zero=>simp at h;subst h;exact⟨v,rfl,r⟩
 | succ i =>
  simp only[zdn,List.getElem?_cons_succ,List.getElem?_map] at h
  cases e:js[i]? with
  | none=>rw[e] at h;cases h
  | some j =>
   rw[e] at h
   have hj:sl[j]?=some (some u):=by
    have h':sl.getD j none=some u:=by simpa using h
    rw[List.getD_eq_getElem?_getD] at h'
    cases q:sl[j]? with
    | none=>rw[q] at h';cases h'
    | some z=>rw[q] at h';simp at h';rw[h']
   obtain⟨v',h1,h2⟩:=S.slot j u hj
   refine⟨v',?_,h2⟩
   simp only[zhH,List.getElem?_cons_succ,List.getElem?_map,e,Option.map_some,List.getD_eq_getElem?_getD,h1,Option.getD_some]
theorem zoO{α β γ δ:Type}{RP:Hp->List Addr->α->β->Prop}{RQ:Hp->List Addr->γ->δ->Prop}{F:Hp}{as:List Addr}{H:Hp}{σ σ':VS.St}{sl sl':Sl}{ce:Ce}{d:Sl->M α}{f:α->M γ}{Q:δ->Hp->Prop}(S:SR G F as H σ sl ce)(S':SR G F as H σ' sl' ce)(P:Post G E RQ F as σ sl Q (bnd (d sl') f ce)) :
  toT G E RP d σ' H fun b H2=>∃a F' as' ce',Le F as F' as'/\SR G F' as' H2 σ sl ce'/\SR G F' as' H2 σ' sl' ce'/\RP F' as' a b/\Post G E RQ F' as' σ sl Q (f a ce'):=by
 refine⟨F,as,sl',ce,S',?_⟩
 revert P
 unfold bnd
 cases d sl' ce with
 | none=>exact fun P=>P
 | some r=>cases r with
  | ok a ce'=>exact fun P b H' F' as' l S2 r=>⟨a,F',as',ce',l,S.slots S2.st l,S2,r,P.le l⟩
  | ex x ce'=>exact fun P=>P
theorem zfD{α β γ:Type}(m:M α)(f:α->M β)(g:β->M γ):bnd (bnd m f) g=bnd m fun a=>bnd (f a) g:=by
 funext ce
 unfold bnd
 cases m ce with
 | none=>rfl
 | some r=>cases r<;>rfl
theorem zjd{α β:Type}{m m':M α}{g:α->M β}{ce:Ce}(h:m ce=m' ce):bnd m g ce=bnd m' g ce:=by simp only[bnd,h]
theorem zeT{s:Src}{cs:Sl}{c:Sl->M Bool}{e:Sl->M W}{x:W}{r ys:List W}{ce:Ce}(h:s.Stays ce/\ys.length<sizeLine):lcL s cs c e (x::r) ys ce=bnd (c (some x::cs)) (fun t=>match t with
   | true=>bnd (e (some x::cs)) fun y=>lcL s cs c e r (ys++[y])
   | false=>lcL s cs c e r ys) ce:=by simp only[lcL,if_pos h]
theorem zoP{s:Src}{cs:Sl}{c:Sl->M Bool}{e:Sl->M W}{x:W}{r ys:List W}{ce:Ce}(h:¬(s.Stays ce/\ys.length<sizeLine)):lcL s cs c e (x::r) ys ce=none:=by simp only[lcL,if_neg h]
theorem zlH(hm:MkL G E mk)(σ:L2.St)(H:Hp)(Q:VK)(h:zau G E (dLC mk js di c e) σ H Q):tLC js (zmP G E X.K di) (zb8 G E c) (zau G E e) σ H Q:=by
 obtain⟨F,as,sl,ce,S,P⟩:=h
 refine(step (RP:=IRep X.K) S P).mono fun J H1 zz_=>el8 zz_ fun s F1 as1 ce1 l1 S1 rJ P1=>?_
 refine⟨fun i m ys H=>∃F as ce ws,SR G F as H σ sl ce/\IRep X.K F as s J/\m=s.items.length-i/\i<=s.items.length/\Reps F as ws ys/\Post G E Rep F as σ sl Q (bnd (lcL s (zdn js sl) c e (s.items.drop i) ws) mk ce),⟨s.items.length,F1,as1,ce1,[],S1,rJ,rfl,Nat.zero_le _,.nil,P1⟩,?_⟩
 rintro i m ys H ⟨F,as,ce,ws,S,rJ,rfl,hi,rs,P⟩
 by_cases hlt:i<s.items.length
 ·rw[List.drop_eq_getElem_cons hlt] at P
  by_cases hst:s.Stays ce/\ws.length<sizeLine
  ·obtain⟨go,yl⟩:=(rJ.turn S.st hst.1 i).1 hlt
   refine .inr ⟨go,by rw[rs.length];exact hst.2,_,fun ys' H' h=>h,fun x H' y=>?_⟩
   obtain⟨rfl,w,hw,rw'⟩:=yl x H' y
   rw[List.getElem?_eq_getElem hlt] at hw
   cases hw
   have P':=P
   rw[zjd (zeT hst)] at P'
   rw[zfD] at P'
   refine(zoO (RP:=rB) S (S.cap js rw') P').mono fun b H2 ⟨t,F2,as2,ce2,l2,S2,S2',rt,P2⟩=>?_
   have rt:t=b:=rt
   subst rt
   cases t
   ·rw[if_neg Bool.false_ne_true]
    exact⟨s.items.length-(i+1),by omega,F2,as2,ce2,ws,S2,rJ.le l2,rfl,hlt,rs.le l2,P2⟩
   ·rw[if_pos rfl]
    dsimp only at P2
    rw[zfD] at P2
    refine(zoO (RP:=Rep) S2 S2' P2).mono fun y H3 ⟨wy,F3,as3,ce3,l3,S3,S3',ry,P3⟩=>?_
    exact⟨s.items.length-(i+1),by omega,F3,as3,ce3,ws++[wy],S3,rJ.le (l2.trans l3),rfl,hlt,(rs.le (l2.trans l3)).append (.cons ry .nil),P3⟩
  ·have P':=P
   simp only[bnd,zoP hst] at P'
   exact(show False from P').elim
 ·have e':i=s.items.length:=by omega
  subst e'
  rw[List.drop_length] at P
  by_cases hst:s.Stays ce
  ·have eq:bnd (lcL s (zdn js sl) c e [] ws) mk ce=mk ws ce:=by simp only[bnd,lcL,if_pos hst]
   rw[eq] at P
   exact .inl ⟨(rJ.turn S.st hst _).2 rfl,(hm S rs P).2⟩
  ·have eq:bnd (lcL s (zdn js sl) c e [] ws) mk ce=none:=by simp only[bnd,lcL,if_neg hst]
   rw[eq] at P
   exact(show False from P).elim
theorem zgj(hm:MkL G E mk)(B:BlkS X.N X.env.scope js (x::caps) scope)(hc:X.calm=true)(hx:scope.names.lookup x=some .local)(hi:PI X (.Name x px) iter (zmP G E X.K di))(ht:∀C fp s₀ H₀,PIfs (blk X (x::caps) scope C fp s₀ H₀) ifs (zb8 G E c))(he:∀C fp s₀ H₀,PE (blk X (x::caps) scope C fp s₀ H₀) elt (zau G E e))(hs:∀v,foldedSetIterable iter X.env v=pure v:=by intro _;rfl):PE X (.ListComp elt [⟨.Name x px,iter,ifs,0⟩] scope pos) (zau G E (dLC mk js di c e)):=PE.imp (zqD B hc hx hi ht he hs) (zlH hm)
theorem zoQ{y:Str}{py spos:Pos}{k:Nat}(hm:MkL G E mk)(B:BlkS X.N X.env.scope js (x::caps) scope)(hc:X.calm=true)(hx:scope.names.lookup x=some .local)(hi:PI X (.Name x px) iter (zmP G E X.K di))(ht:∀C fp s₀ H₀,PIfs (blk X (x::caps) scope C fp s₀ H₀) ifs (zb8 G E c))(he:∀C fp s₀ H₀,PE (blk X (x::caps) scope C fp s₀ H₀) elt (zau G E e))(hN:X.N.Nodup)(hk:X.N[k]?=some y)(hy:X.env.scope.names.lookup y=some .local)(hsw:swapsWith (.ListComp elt [⟨.Name x px,iter,ifs,0⟩] scope pos) (some (.Name y py)) spos.line X.env=pure true)(hs:∀v,foldedSetIterable iter X.env v=pure v:=by intro _;rfl):PS X (.Assign [.Name y py] (.ListComp elt [⟨.Name x px,iter,ifs,0⟩] scope pos) spos) (toTS G E (zbp k (dLC mk js di c e))):=by
 refine PS.imp (zqE B hc hx hi ht he hN hk hy hsw hs) fun D σ H zz_=>el6 zz_ fun F as sl ce S P=>?_
 refine zlH (X:=X) hm σ H _ ((zc5 S P).mono fun x H1 zz_=>el8 zz_ fun wx F1 as1 ce1 l1 S1 rx P1=>?_)
 exact P1 _ H1 F1 as1 .refl (S1.put rx k)
end
end
end VS
namespace VS
open PySem PySem.Spec PyProof.Rows L2
section
mutual
def Bel(n:Nat):W->Prop
 | .cel k=>k<n
 | .lst xs=>zcO n xs
 | .tup xs=>zcO n xs
 | .non=>True
 | .bl _=>True
 | .int _=>True
 | .str _=>True
 | .ty _=>True
def zcO(n:Nat):List W->Prop
 | []=>True
 | x::xs=>Bel n x/\zcO n xs
end
mutual
theorem Rep.bel{F:Hp}{as:List Addr}:∀{w:W} {v:V},Rep F as w v->Bel as.length w
 | .non,_,_=>by simp only[Bel]
 | .bl _,_,_=>by simp only[Bel]
 | .int _,_,_=>by simp only[Bel]
 | .str _,_,_=>by simp only[Bel]
 | .ty _,_,_=>by simp only[Bel]
 | .lst xs,_,r=>by
  simp only[Rep] at r
  obtain⟨a,vs,_,_,s⟩:=r
  simp only[Bel]
  exact Reps.bel s
 | .tup xs,_,r=>by
  simp only[Rep] at r
  obtain⟨a,vs,_,_,s⟩:=r
  simp only[Bel]
  exact Reps.bel s
 | .cel k,_,r=>by
  simp only[Rep] at r
  obtain⟨a,_,h⟩:=r
  simp only[Bel]
  exact zat h
theorem Reps.bel{F:Hp}{as:List Addr}:∀{ws:List W} {vs:List V},Reps F as ws vs->zcO as.length ws
 | [],_,_=>by simp only[zcO]
 | _::_,_,r=>by
  simp only[Reps] at r
  obtain⟨v,vs',_,h,t⟩:=r
  simp only[zcO]
  exact⟨Rep.bel h,Reps.bel t⟩
end
mutual
theorem Rep.cut{F:Hp}{as as':List Addr}{n:Nat}(hl:∀k,k<n->as'[k]?=as[k]?):∀{w:W} {v:V},Bel n w->Rep F as w v->Rep F as' w v
 | .non,_,_,r=>by simpa only[Rep] using r
 | .bl _,_,_,r=>by simpa only[Rep] using r
 | .int _,_,_,r=>by simpa only[Rep] using r
 | .str _,_,_,r=>by simpa only[Rep] using r
 | .ty _,_,_,r=>by simpa only[Rep] using r
 | .lst xs,_,b,r=>by
  simp only[Rep] at r ⊢
  simp only[Bel] at b
  obtain⟨a,vs,h1,h2,s⟩:=r
  exact⟨a,vs,h1,h2,Reps.cutS hl b s⟩
 | .tup xs,_,b,r=>by
  simp only[Rep] at r ⊢
  simp only[Bel] at b
  obtain⟨a,vs,h1,h2,s⟩:=r
  exact⟨a,vs,h1,h2,Reps.cutS hl b s⟩
 | .cel k,_,b,r=>by
  simp only[Rep] at r ⊢
  simp only[Bel] at b
  obtain⟨a,h1,h⟩:=r
  exact⟨a,h1,by rw[hl k b];exact h⟩
theorem Reps.cutS{F:Hp}{as as':List Addr}{n:Nat}(hl:∀k,k<n->as'[k]?=as[k]?):∀{ws:List W} {vs:List V},zcO n ws->Reps F as ws vs->Reps F as' ws vs
 | [],_,_,r=>by simpa only[Reps] using r
 | _::_,_,b,r=>by
  simp only[Reps] at r ⊢
  simp only[zcO] at b
  obtain⟨v,vs',h1,h,t⟩:=r
  exact⟨v,vs',h1,Rep.cut hl b.1 h,Reps.cutS hl b.2 t⟩
end
def zgk(n:Nat):C->Prop
 | .lst xs=>zcO n xs
 | .dct kvs=>∀p∈kvs,Bel n p.2
 | .ins _ fs=>∀p∈fs,Bel n p.2
 | .exn _=>True
 | .dead=>True
 | .fzd kvs=>∀p∈kvs,Bel n p.2
 | .dtp kvs=>∀p∈kvs,Bel n p.2
theorem RepKV.bel{κ:Type}{F:Hp}{as:List Addr}{kvs:List (κ×W)}{ps:List (κ×V)}(r:RepKV F as kvs ps):∀p∈kvs,Bel as.length p.2:=by
 induction r with
 | nil=>simp
 | cons h t ih =>
  intro p hp
  rcases List.mem_cons.mp hp with rfl|hp
  ·exact h.2.bel
  ·exact ih p hp
theorem RepKV.cut{κ:Type}{F:Hp}{as as':List Addr}{n:Nat}(hl:∀k,k<n->as'[k]?=as[k]?){kvs:List (κ×W)}{ps:List (κ×V)}(b:∀p∈kvs,Bel n p.2)(r:RepKV F as kvs ps):RepKV F as' kvs ps:=by
 induction r with
 | nil=>exact .nil
 | cons h t ih=>exact .cons ⟨h.1,h.2.cut hl (b _ List.mem_cons_self)⟩ (ih fun p hp=>b p (List.mem_cons_of_mem _ hp))
section
variable {G:Ga} {F:Hp} {as as':List Addr} {H:Hp} {a:Addr} {c:C} {n:Nat}
theorem CRep.bel(h:CRep G F as H a c):zgk as.length c:=by
 cases c with
 | lst xs=>obtain⟨vs,_,r⟩:=h;exact r.bel
 | dct xs=>obtain⟨vs,_,r⟩:=h;exact r.bel
 | ins c xs=>obtain⟨dx,vs,_,r⟩:=h;exact r.bel
 | exn c=>trivial
 | dead=>trivial
 | fzd xs=>obtain⟨o,ps,_,_,r⟩:=h;exact r.bel
 | dtp xs=>obtain⟨vs,_,r⟩:=h;exact r.bel
theorem CRep.cut(hl:∀k,k<n->as'[k]?=as[k]?)(b:zgk n c)(h:CRep G F as H a c):CRep G F as' H a c:=by
 cases c with
 | lst xs=>obtain⟨vs,e,r⟩:=h;exact⟨vs,e,r.cutS hl b⟩
 | dct xs=>obtain⟨vs,e,r⟩:=h;exact⟨vs,e,RepKV.cut hl b r⟩
 | ins c xs=>obtain⟨dx,vs,e,r⟩:=h;exact⟨dx,vs,e,RepKV.cut hl b r⟩
 | exn c=>exact h
 | dead=>exact h
 | fzd xs=>obtain⟨o,ps,e1,e2,r⟩:=h;exact⟨o,ps,e1,e2,RepKV.cut hl b r⟩
 | dtp xs=>obtain⟨vs,e,r⟩:=h;exact⟨vs,e,RepKV.cut hl b r⟩
end
def zeU(ce ce':Ce):Prop:=ce.length<=ce'.length/\∀(k:Nat) (c:C),k<ce.length->ce'[k]?=some c->ce[k]?=some c\/zgk ce.length c
section
variable {G:Ga} {F F':Hp} {as as':List Addr} {H H':Hp} {ce ce':Ce}
theorem zbj{α:Type}{l:List α}{n k:Nat}(h:k<n):(l.take n)[k]?=l[k]?:=List.getElem?_take_of_lt h
theorem Store.cut(S:Store G F as H ce)(S':Store G F' as' H' ce')(l:Le F as F' as')(h:zeU ce ce'):Store G F' (as'.take ce.length) H' (ce'.take ce.length)/\Le F as F' (as'.take ce.length):=by
 have hl:∀k,k<ce.length->(as'.take ce.length)[k]?=as'[k]?:=fun k hk=>zbj hk
 refine⟨⟨S'.sub,S'.nd.sublist (List.take_sublist _ _),by rw[List.length_take,List.length_take,S'.len],fun k a c h1 h2=>?_⟩,l.f,fun k a e=>?_⟩
 ·have hk:k<ce.length:=by have:=zat h2;rw[List.length_take] at this;omega
  rw[zbj hk] at h1 h2
  obtain⟨q1,q2⟩:=S'.cell k a c h1 h2
  refine⟨q1,q2.cut hl ?_⟩
  rcases h.2 k c hk h2 with h3|h3
  ·obtain⟨a0,e0,_,q0⟩:=S.at h3
   rw[<- S.len];exact q0.bel
  ·exact h3
 ·have hk:k<ce.length:=by rw[<- S.len];exact zat e
  rw[zbj hk];exact l.c k a e
end
open Classical in
def finC(ce ce':Ce)(w:W):Option (R W):=if zeU ce ce'/\Bel ce.length w then some (.ok w (ce'.take ce.length)) else none
open Classical in
def finO(ce ce':Ce)(w:W):Option (R W):=match w with
 | .cel k=>match ce'[k]? with
  | some c=>if zeU ce ce'/\ce.length<=k/\zgk ce.length c then some (.ok (.cel ce.length) (ce'.take ce.length++[c])) else none
  | none=>none
 | _=>none
def znP(_ce ce':Ce)(w:W):Option (R W):=some (.ok w ce')
def zkO(G:Ga)(fin:Ce->Ce->W->Option (R W)):Prop:=∀(F F':Hp) (as as':List Addr) (H H':Hp) (ce ce':Ce) (w:W) (v:V) (r:R W),Store G F as H ce->Store G F' as' H' ce'->Le F as F' as'->Rep F' as' w v->fin ce ce' w=some r ->
 ∃w2 ce2 as2,r=.ok w2 ce2/\Le F as F' as2/\Store G F' as2 H' ce2/\Rep F' as2 w2 v
theorem zmQ{G:Ga}:zkO G znP:=fun F F' as as' H H' ce ce' w v r S S' l rw' e=>by
 cases e
 exact⟨w,ce',as',rfl,l,S',rw'⟩
theorem zbU{G:Ga}:zkO G finC:=fun F F' as as' H H' ce ce' w v r S S' l rw' e=>by
 unfold finC at e
 split at e
 ·rename_i h
  cases e
  obtain⟨S2,l2⟩:=S.cut S' l h.1
  exact⟨w,_,_,rfl,l2,S2,rw'.cut (fun k hk=>zbj hk) h.2⟩
 ·cases e
theorem zfE{G:Ga}:zkO G finO:=fun F F' as as' H H' ce ce' w v r S S' l rw' e=>by
 cases w<;>simp only[finO,reduceCtorEq] at e
 rename_i k
 split at e
 ·rename_i c hc
  split at e
  ·rename_i h
   obtain⟨h1,h2,h3⟩:=h
   cases e
   obtain⟨S2,l2⟩:=S.cut S' l h1
   simp only[Rep] at rw'
   obtain⟨a,rfl,ha⟩:=rw'
   obtain⟨q1,q2⟩:=S'.cell k a c ha hc
   have hlen:(as'.take ce.length).length=ce.length:=by rw[List.length_take,S'.len];exact Nat.min_eq_left h1.1
   have hlen2:(ce'.take ce.length).length=ce.length:=by rw[List.length_take];exact Nat.min_eq_left h1.1
   have l3:Le F' (as'.take ce.length) F' (as'.take ce.length++[a]):=⟨fun _ _ h=>h,fun j b hb=>by rw[List.getElem?_append_left (zat hb)];exact hb⟩
   refine⟨_,_,as'.take ce.length++[a],rfl,l2.trans l3,⟨S'.sub,?_,by rw[List.length_append,List.length_append,hlen,hlen2];rfl,fun j b c' e1 e2=>?_⟩,?_⟩
   ·rw[List.nodup_append]
    refine⟨S2.nd,by simp,fun b hb d hd=>?_⟩
    rw[List.mem_singleton] at hd
    subst hd
    rintro rfl
    obtain⟨j,hj⟩:=List.getElem?_of_mem hb
    have hj1:j<ce.length:=by have:=zat hj;omega
    rw[zbj hj1] at hj
    have ha':=zat ha
    have hj':=zat hj
    rw[List.getElem?_eq_getElem ha'] at ha
    rw[List.getElem?_eq_getElem hj'] at hj
    have:=zgN S'.nd ha' hj' ((Option.some.inj ha).trans (Option.some.inj hj).symm)
    omega
   ·by_cases hj:j<ce.length
    ·rw[List.getElem?_append_left (by omega)] at e1 e2
     obtain⟨p1,p2⟩:=S2.cell j b c' e1 e2
     exact⟨p1,p2.le l3 rfl⟩
    ·rw[List.getElem?_append_right (by omega),hlen] at e1
     rw[List.getElem?_append_right (by omega),hlen2] at e2
     have hz:j-ce.length=0:=by
      cases q:j-ce.length with
      | zero=>rfl
      | succ m=>rw[q] at e1;simp at e1
     rw[hz] at e1 e2
     simp at e1 e2
     subst e1;subst e2
     exact⟨q1,(q2.cut (n:=ce.length) (fun i hi=>zbj hi) h3).le l3 rfl⟩
   ·simp only[Rep]
    exact⟨a,rfl,by rw[List.getElem?_append_right (by omega),hlen];simp⟩
  ·cases e
 ·cases e
open Classical in
def dFn(fin:Ce->Ce->W->Option (R W))(n:Nat)(body:DS):List W->M W:=fun ws ce=>match body (ws.map some++List.replicate (n-ws.length) none) ce with
 | some (.go (.rt w) _ ce')=>fin ce ce' w
 | some (.go .nx _ ce')=>fin ce ce' .non
 | some (.ex x ce')=>if zeU ce ce' then some (.ex x (ce'.take ce.length)) else none
 | _=>none
def PostF(G:Ga)(E:XK)(F:Hp)(as:List Addr)(Q:VK):Option (R W)->Prop
 | some (.ok w ce')=>∀v H' F' as',Le F as F' as'->Store G F' as' H' ce'->Rep F' as' w v->Q v H'
 | some (.ex x ce')=>∀H' F' as' cv od,Le F as F' as'->Store G F' as' H' ce'->G.xr x cv od H'->E cv od H'
 | none=>False
def spV(G:Ga)(fe:XK->XK)(n:Nat)(d:List W->M W):Sp:=fun vs H Q E=>vs.length=n/\∃F as ws ce,Store G F as H ce/\Reps F as ws vs/\PostF G (fe E) F as Q (d ws ce)
theorem zkP{G:Ga}{F:Hp}{as:List Addr}{H:Hp}{ce:Ce}{ws:List W}{vs:List V}(S:Store G F as H ce)(rs:Reps F as ws vs)(N:List Str):SR G F as H (L2.start N vs) (ws.map some++List.replicate (N.length-ws.length) none) ce:=by
 have hl:=rs.length
 refine⟨S,by unfold L2.start;simp[hl],fun i w h=>?_⟩
 have hi:i<ws.length:=by
  by_cases hi:i<ws.length
  ·exact hi
  ·rw[List.getElem?_append_right (by simpa using hi),List.getElem?_replicate] at h
   split at h<;>cases h
 rw[List.getElem?_append_left (by simpa using hi),List.getElem?_map] at h
 cases e:ws[i]? with
 | none=>rw[e] at h;cases h
 | some w' =>
  rw[e] at h
  simp only[Option.map_some,Option.some.injEq] at h
  subst h
  obtain⟨v,h1,h2⟩:=rs.get e
  refine⟨v,?_,h2⟩
  unfold L2.start
  rw[List.getElem?_append_left (by simp;omega),List.getElem?_map,h1]
  rfl
theorem zaC{G:Ga}{E:XK}{F:Hp}{as:List Addr}{H:Hp}{ce:Ce}{ws:List W}{vs:List V}{Q:VK}{fin:Ce->Ce->W->Option (R W)}{body:DS}(hf:zkO G fin)(N:List Str)(S:Store G F as H ce)(rs:Reps F as ws vs)(P:PostF G E F as Q (dFn fin N.length body ws ce)) :
  toTS G E body { nx:=fun _ H'=>Q .non H',rt:=Q } (L2.start N vs) H:=by
 refine⟨F,as,_,ce,zkP S rs N,?_⟩
 revert P
 unfold dFn
 have key:∀{w:W} {ce':Ce},PostF G E F as Q (fin ce ce' w)->∀v H' F' as',Le F as F' as'->Store G F' as' H' ce'->Rep F' as' w v->Q v H':=by
  intro w ce' P v H' F' as' l S' rw'
  cases e:fin ce ce' w with
  | none=>rw[e] at P;exact P.elim
  | some r =>
   obtain⟨w2,ce2,as2,rfl,l2,S2,r2⟩:=hf F F' as as' H H' ce ce' w v r S S' l rw' e
   rw[e] at P
   exact P v H' F' as2 l2 S2 r2
 cases body (ws.map some++List.replicate (N.length-ws.length) none) ce with
 | none=>exact fun P=>P
 | some o=>cases o with
  | ex x ce' =>
   intro P H' F' as' cv od l S' hx
   dsimp only at P
   split at P
   ·rename_i h
    obtain⟨S2,l2⟩:=S.cut S' l h
    exact P H' F' _ cv od l2 S2 hx
   ·exact P.elim
  | go f sl' ce'=>cases f with
   | nx=>exact fun P σ' H' F' as' l S'=>key P .non H' F' as' l S'.st (by simp only[Rep])
   | bk=>exact fun P=>P.elim
   | ct=>exact fun P=>P.elim
   | rt w=>exact fun P σ' H' F' as' l S' v r=>key P v H' F' as' l S'.st r
def zar(n:Nat)(f:List W->M W)(args:Sl->M (List W)):Sl->M W:=fun sl=>bnd (args sl) fun ws=>if ws.length=n then f ws else ziU
section
variable {X:Cx} {G:Ga} {E E1:XK} {CX:CXT} {k n:Nat} {f:Addr} {fd:FuncData} {ps:List Str} {df:List W->M W} {x:Str} {p pos:Pos} {e:Expr} {es:List Expr} {dr:Sl->M (List W)} {fe:XK->XK}
theorem PostF.of{F:Hp}{as:List Addr}{H:Hp}{σ:VS.St}{sl:Sl}{ce:Ce}{Q:VK}{r:Option (R W)}(S:SR G F as H σ sl ce)(P:Post G E Rep F as σ sl Q r):PostF G E F as Q r:=by
 cases r with
 | none=>exact P
 | some r=>cases r with
  | ok w ce'=>exact fun v H' F' as' l S' rv=>P v H' F' as' l (S.slots S' l) rv
  | ex y ce'=>exact P
theorem zap(Fk:FnOk X.prog X.w X.K X.mg X.base CX k f fd ps (spV G fe n df))(hr:Room k X.A)(hg:Gl X x)(hm:X.mg x=some (.ref f))(hk:PySem.W.keepIn X.K (.ref f)=true)(hb:Binds X.K fd ps [])(hx:zcv CX X E1)(ha:PA X (e::es) (zez G E dr))(hfe:fe E1=E:=by rfl)(hdb:(x==("__debug__" : Str))=false:=by decide)(he:starEach (e::es) X.env=(false,eval e X.env)::starEach es X.env:=by rfl)(hpl:(backTo pos (starEach es X.env)).any (·.1)=false:=by rfl) :
  PE X (.Call (.Name x p) (e::es) [] pos) (zau G E (zar n df dr)):=by
 refine PE.imp (zmt Fk hr hg hm hk hb .nil hx ha hdb he hpl) fun σ H Q zz_=>el6 zz_ fun F as sl ce S P=>(step (RP:=Reps) S P).mono fun vs H1 zz_=>el8 zz_ fun ws F1 as1 ce1 l1 S1 rs P1=>?_
 split at P1
 ·rename_i hn
  rw[List.append_nil]
  exact⟨by rw[rs.length];exact hn,F1,as1,ws,ce1,S1.st,rs,by rw[hfe];exact PostF.of S1 P1⟩
 ·exact(show False from P1).elim
end
open Classical in
def zcP(d:List W->M W):List W->M W:=fun ws ce=>match d ws ce with
 | some (.ok (.cel k) ce')=>match ce'[k]? with
  | some (.lst xs)=>if zeU ce ce'/\k=ce.length/\zcO ce.length xs then some (.ok (.lst xs) (ce'.take ce.length)) else none
  | _=>none
 | some (.ok w ce')=>some (.ok w ce')
 | r=>r
theorem zcd{P:Program}{w:World}{K:PySem.W.Frag}{mg:Str->Option Value}{base:Heap}{CX:CXT}{k n:Nat}{f:Addr}{fd:FuncData}{ps:List Str}{G:Ga}{fe:XK->XK}{d:List W->M W}(h:FnOk P w K mg base CX k f fd ps (spV G fe n d)):FnOk P w K mg base CX k f fd ps (spV G fe n (zcP d)):=by
 refine h.imp fun vs H Q E ⟨hl,F,as,ws,ce,S,rs,Pf⟩=>⟨hl,F,as,ws,ce,S,rs,?_⟩
 revert Pf
 unfold zcP
 cases d ws ce with
 | none=>exact fun P=>P
 | some r=>cases r with
  | ex x ce'=>exact fun P=>P
  | ok w ce' =>
   cases w<;>first|exact fun P=>P|skip
   rename_i j
   dsimp only
   intro Pf v H' F' as' l S' rv
   simp only[Rep] at rv
   obtain⟨a,rfl,ha⟩:=rv
   split at Pf
   ·rename_i xs hc
    split at Pf
    ·rename_i h
     obtain⟨h1,h2,h3⟩:=h
     obtain⟨q1,vs',hH,rs'⟩:=S'.cell j a _ ha hc
     have q1:=q1 rfl
     obtain⟨S2,l2⟩:=S.cut S' l h1
     have rs2:Reps F' (as'.take ce.length) xs vs':=rs'.cutS (fun i hi=>zbj hi) h3
     have l3:Le F' (as'.take ce.length) (upd F' a (.lst vs')) (as'.take ce.length):=⟨upd_sub q1,fun _ _ h=>h⟩
     refine Pf (.ref a) H' (upd F' a (.lst vs')) (as'.take ce.length) (l2.trans l3) ⟨fun b o e=>?_,S2.nd,S2.len,fun i b c e1 e2=>?_⟩ (by simp only[Rep];exact⟨a,vs',rfl,.inl zaB,rs2.le l3⟩)
     ·by_cases hb:b=a
      ·subst hb;rw[zaB] at e;cases e;exact hH
      ·rw[zaz hb] at e;exact S2.sub _ _ e
     ·obtain⟨p1,p2⟩:=S2.cell i b c e1 e2
      have hb:b≠a:=by
       rintro rfl
       have hi:i<ce.length:=by have:=zat e2;rw[List.length_take] at this;omega
       rw[zbj hi] at e1
       have a1:=zat ha
       have a2:=zat e1
       rw[List.getElem?_eq_getElem a1] at ha
       rw[List.getElem?_eq_getElem a2] at e1
       have:=zgN S'.nd a1 a2 ((Option.some.inj ha).trans (Option.some.inj e1).symm)
       omega
      exact⟨fun hn=>by rw[zaz hb];exact p1 hn,p2.le l3 rfl⟩
    ·exact Pf.elim
   ·exact Pf.elim
end
end VS
namespace VS
open PySem PySem.Spec PyProof.Rows L2
section
def zfF:List W->Option (List Int)
 | []=>some []
 | .int i::r=>(zfF r).map (i::·)
 | _=>none
def zlI:List W->Option (List Bool)
 | []=>some []
 | .bl i::r=>(zlI r).map (i::·)
 | _=>none
def zfG:List (Key×W)->Option (List Int)
 | []=>some []
 | (.inl i,_)::r=>(zfG r).map (i::·)
 | _=>none
theorem zfH:∀ns:List Int,zfF (ns.map W.int)=some ns
 | []=>rfl
 | n::r=>by simp only[List.map_cons,zfF,zfH r,Option.map_some]
theorem zgW:∀{ws:List W} {ns:List Int},zfF ws=some ns->ws=ns.map W.int
 | [],ns,h=>by simp only[zfF,Option.some.injEq] at h;subst h;rfl
 | w::r,ns,h=>by
  cases w<;>simp only[zfF,reduceCtorEq,Option.map_eq_some_iff] at h
  obtain⟨ms,h1,rfl⟩:=h
  rw[zgW h1,List.map_cons]
theorem zeV:∀{kvs:List (Key×W)} {ns:List Int},zfG kvs=some ns->kvs.map (·.1)=ns.map Sum.inl
 | [],ns,h=>by simp only[zfG,Option.some.injEq] at h;subst h;rfl
 | (k,w)::r,ns,h=>by
  cases k<;>simp only[zfG,reduceCtorEq,Option.map_eq_some_iff] at h
  obtain⟨ms,h1,rfl⟩:=h
  rw[List.map_cons,zeV h1,List.map_cons]
def srt(ns:List Int):List Int:=ns.mergeSort fun a b=>decide (a<=b)
theorem zbk(ns:List Int):(srt ns).Perm ns:=List.mergeSort_perm ns _
theorem zcp(ns:List Int):(srt ns).Pairwise (·<=·):=by
 have:=List.pairwise_mergeSort (le:=fun a b:Int=>decide (a<=b)) (fun a b c=>by simp;omega) (fun a b=>by simp;omega) ns
 exact this.imp fun h=>by simpa using h
theorem zbV:∀{a b:List Int},a.Perm b->a.Pairwise (·<=·)->b.Pairwise (·<=·)->a=b
 | [],b,p,_,_=>by rw[List.nil_perm] at p;exact p.symm
 | x::a,[],p,_,_=>by have:=p.length_eq;simp at this
 | x::a,y::b,p,sa,sb=>by
  rw[List.pairwise_cons] at sa sb
  have h1:x=y:=by
   have hx:x∈y::b:=p.subset List.mem_cons_self
   have hy:y∈x::a:=p.symm.subset List.mem_cons_self
   rcases List.mem_cons.mp hx with e|hx
   ·exact e
   ·rcases List.mem_cons.mp hy with e|hy
    ·exact e.symm
    ·have:=sb.1 x hx
     have:=sa.1 y hy
     omega
  subst h1
  rw[zbV (List.Perm.cons_inv p) sa.2 sb.2]
theorem zje{ms ns:List Int}(p:ms.Perm ns)(s:ms.Pairwise (·<=·)):ms=srt ns:=zbV (p.trans (zbk ns).symm) s (zcp ns)
def dBi(f:List W->M W)(args:Sl->M (List W)):Sl->M W:=fun sl=>bnd (args sl) f
def Bi(G:Ga)(E:XK)(r:List V->Hp->VK->Prop)(f:List W->M W):Prop:=∀F as H σ sl ce ws vs Q,SR G F as H σ sl ce->Reps F as ws vs->Post G E Rep F as σ sl Q (f ws ce)->r vs H Q
open Classical in
def zf2:List W->M W:=fun ws ce=>match ws with
 | [.str x]=>if x.length<=sizeLine then some (.ok (.int x.length) ce) else none
 | [w]=>match zhP ce w with
  | some xs=>some (.ok (.int xs.length) ce)
  | none=>match znM ce w with
   | some kvs=>some (.ok (.int kvs.length) ce)
   | none=>none
 | _=>none
open Classical in
def za5(mk:List W->M W):List W->M W:=fun ws ce=>match ws with
 | [w]=>match zdX ce w with
  | some xs=>match zfF xs with
   | some ns=>if ns.length<64 then mk ((srt ns).map W.int) ce else none
   | none=>none
  | none=>match znN ce w with
   | some kvs=>match zfG kvs with
    | some ns=>if ns.length<64 then mk ((srt ns).map W.int) ce else none
    | none=>none
   | none=>none
 | _=>none
def zjf(mk:List W->M W):List W->M W:=fun ws ce=>match ws with
 | [w]=>match zhP ce w with
  | some xs=>mk xs ce
  | none=>match znN ce w with
   | some kvs=>match zfG kvs with
    | some ns=>mk (ns.map W.int) ce
    | none=>none
   | none=>none
 | _=>none
def zbz:List W->M W:=fun ws ce=>match ws with
 | [.tup xs]=>some (.ok (.tup xs) ce)
 | [w]=>match zdX ce w with
  | some xs=>zoM xs ce
  | none=>none
 | _=>none
def zsG:List W->M W:=fun ws ce=>match ws with
 | [w]=>match zdX ce w with
  | some xs=>match zlI xs with
   | some bs=>some (.ok (.bl (bs.all id)) ce)
   | none=>none
  | none=>none
 | _=>none
def zsH:List W->M W:=fun ws ce=>match ws with
 | [.int i,.int j]=>some (.ok (.int (if j<i then j else i)) ce)
 | _=>none
def zsI:List W->M W:=fun ws ce=>match ws with
 | [.int i,.int j]=>some (.ok (.int (if j>i then j else i)) ce)
 | _=>none
def tyW(ce:Ce):W->Option String
 | .non=>some "NoneType"
 | .bl _=>some "bool"
 | .int _=>some "int"
 | .str _=>some "str"
 | .lst _=>some "list"
 | .tup _=>some "tuple"
 | .cel k=>match ce[k]? with
  | some (.lst _)=>some "list"
  | some (.dct _)=>some "dict"
  | _=>none
 | .ty _=>none
def zqU(a b:String):Bool:=a==b||(a == "bool" && b == "int")
def kinds:List String:=["NoneType", "bool", "int", "str", "list", "tuple", "dict"]
def zsJ:List W->M W:=fun ws ce=>match ws with
 | [w,.ty T]=>match tyW ce w with
  | some t=>if (kinds.contains t&&["int", "bool", "list", "tuple", "str", "dict"].contains T)=true then some (.ok (.bl (zqU t T)) ce) else none
  | none=>none
 | _=>none
section
variable {X:Cx} {G:Ga} {E:XK} {F:Hp} {as:List Addr} {H:Hp} {ce:Ce} {w:W} {v:V}
theorem CallR.or{f:Value}{r r':List V->Hp->VK->Prop}(h:CallR X f r)(h':CallR X f r'):CallR X f (fun xs H Q=>r xs H Q\/r' xs H Q):=by
 intro pins s σ H xs us Q I rx q
 rcases q with q|q
 ·exact h pins s σ H xs us Q I rx q
 ·exact h' pins s σ H xs us Q I rx q
theorem zbA{vs:List V}(h:Reps F as [w] vs):∃v,vs=[v]/\Rep F as w v:=by
 simp only[Reps] at h
 obtain⟨v,r,rfl,h1,rfl⟩:=h
 exact⟨v,rfl,h1⟩
theorem zmR{w':W}{vs:List V}(h:Reps F as [w,w'] vs):∃v v',vs=[v,v']/\Rep F as w v/\Rep F as w' v':=by
 simp only[Reps] at h
 obtain⟨v,r,rfl,h1,v',r',rfl,h2,rfl⟩:=h
 exact⟨v,v',rfl,h1,h2⟩
def zoR(K:PySem.W.Frag):List V->Hp->VK->Prop:=fun xs H Q=>(∃x n,xs=[x]/\zrm K x H n/\Q (.int n) H)\/∃a kvs,xs=[V.ref a]/\H a=some (.dK kvs)/\Q (.int kvs.length) H
theorem zhU{K:PySem.W.Frag}(hK:X.K=K:=by rfl):CallR X (.builtin "len") (zoR K):=by subst hK;exact CallR.or zku ziS
theorem zhV(K:PySem.W.Frag):Bi G E (zoR K) zf2:=by
 intro F as H σ sl ce ws vs Q S rs P
 unfold zf2 at P
 split at P
 ·rename_i x
  split at P
  ·rename_i hl
   obtain⟨v,rfl,r⟩:=zbA rs
   simp only[Rep] at r
   subst r
   exact .inl ⟨_,_,rfl,⟨hl,rfl⟩,P.done S (by simp only[Rep])⟩
  ·exact P.elim
 ·rename_i w _
  obtain⟨v,rfl,r⟩:=zbA rs
  split at P
  ·rename_i xs hx
   obtain⟨a,us,rfl,h,rs'⟩:=zeQ S.st r hx
   refine .inl ⟨_,us.length,rfl,?_,P.done S (by simp only[Rep];rw[rs'.length])⟩
   rcases h with h|h
   ·exact .inl ⟨us,.inl h,rfl⟩
   ·exact .inr ⟨us,.inl h,rfl⟩
  ·split at P
   ·rename_i kvs hd
    obtain⟨n,a,ps,rfl,rfl,ha,hH,rk⟩:=zi2 S.st r hd
    exact .inr ⟨a,ps,rfl,hH,P.done S (by simp only[Rep];rw[rk.length])⟩
   ·exact P.elim
 ·exact P.elim
def zru(K:PySem.W.Frag):List V->Hp->VK->Prop:=fun xs H Q=>zmz K xs H Q\/∃(a:Addr) (kvs:List (Key×V)) (ns:List Int),xs=[.ref a]/\Rd H a (.dK kvs)/\kvs.map (·.1)=ns.map Sum.inl/\ns.length<64 /\
  ∀ms:List Int,ms.Perm ns->ms.Pairwise (·<=·)->∀l,H l=none->Q (.ref l) (upd H l (.lst (ms.map V.int)))
theorem zkQ{K:PySem.W.Frag}(hc:X.calm=true:=by rfl)(hK:X.K=K:=by rfl):CallR X (.builtin "sorted") (zru K):=by subst hK;exact CallR.or zf9 (zfw hc)
theorem RepKV.keys{kvs:List (Key×W)}{ps:List (Key×V)}(r:RepKV F as kvs ps):ps.map (·.1)=kvs.map (·.1):=by
 induction r with
 | nil=>rfl
 | cons h t ih=>rw[List.map_cons,List.map_cons,ih,h.1]
theorem zkR{mk:List W->M W}(K:PySem.W.Frag)(hm:MkL G E mk):Bi G E (zru K) (za5 mk):=by
 intro F as H σ sl ce ws vs Q S rs P
 unfold za5 at P
 split at P
 ·rename_i w
  obtain⟨v,rfl,r⟩:=zbA rs
  split at P
  ·rename_i xs hx
   split at P
   ·rename_i ns hi
    split at P
    ·rename_i h64
     obtain⟨a,us,rfl,h,rs'⟩:=zca S.st r hx
     cases zgW hi
     cases rs'.of_ints
     refine .inl ⟨a,ns,rfl,.inl h,h64,fun ms p s l hl=>?_⟩
     rw[zje p s]
     exact(hm S (Reps.ints (srt ns)) P).2 l hl
    ·exact P.elim
   ·exact P.elim
  ·split at P
   ·rename_i kvs hd
    split at P
    ·rename_i ns hk
     split at P
     ·rename_i h64
      obtain⟨n,a,ps,rfl,rfl,ha,hH,rk⟩:=zgR S.st r hd
      refine .inr ⟨a,ps,ns,rfl,hH,by rw[rk.keys];exact zeV hk,h64,fun ms p s l hl=>?_⟩
      rw[zje p s]
      exact(hm S (Reps.ints (srt ns)) P).2 l hl
     ·exact P.elim
    ·exact P.elim
   ·exact P.elim
 ·exact P.elim
def zoS(K:PySem.W.Frag):List V->Hp->VK->Prop:=fun xs H Q=>zmA K xs H Q\/∃(a:Addr) (kvs:List (Key×V)) (ns:List Int),xs=[.ref a]/\Rd H a (.dK kvs)/\kvs.map (·.1)=ns.map Sum.inl/\∀l,H l=none->Q (.ref l) (upd H l (.lst (ns.map V.int)))
theorem zoT{K:PySem.W.Frag}(hc:X.calm=true:=by rfl)(hK:X.K=K:=by rfl):CallR X (.type "list") (zoS K):=by subst hK;exact CallR.or zfr (zhK hc)
theorem zoU{mk:List W->M W}(K:PySem.W.Frag)(hm:MkL G E mk):Bi G E (zoS K) (zjf mk):=by
 intro F as H σ sl ce ws vs Q S rs P
 unfold zjf at P
 split at P
 ·rename_i w
  obtain⟨v,rfl,r⟩:=zbA rs
  split at P
  ·rename_i xs hx
   obtain⟨a,us,rfl,h,rs'⟩:=zeQ S.st r hx
   exact .inl ⟨a,us,rfl,h.imp .inl .inl,(hm S rs' P).2⟩
  ·split at P
   ·rename_i kvs hd
    split at P
    ·rename_i ns hk
     obtain⟨n,a,ps,rfl,rfl,ha,hH,rk⟩:=zgR S.st r hd
     exact .inr ⟨a,ps,ns,rfl,hH,by rw[rk.keys];exact zeV hk,(hm S (Reps.ints ns) P).2⟩
    ·exact P.elim
   ·exact P.elim
 ·exact P.elim
theorem zd1(K:PySem.W.Frag):Bi G E (zlv K) zbz:=by
 intro F as H σ sl ce ws vs Q S rs P
 unfold zbz at P
 split at P
 ·rename_i xs
  obtain⟨v,rfl,r⟩:=zbA rs
  have r':=r
  simp only[Rep] at r
  obtain⟨a,us,rfl,h,rs'⟩:=r
  exact⟨a,us,rfl,.inr ⟨.inl (.inl (S.st.sub _ _ h)),P.done S r'⟩⟩
 ·rename_i w _
  obtain⟨v,rfl,r⟩:=zbA rs
  split at P
  ·rename_i xs hx
   obtain⟨a,us,rfl,h,rs'⟩:=zca S.st r hx
   exact⟨a,us,rfl,.inl ⟨.inl h,(zeR S rs' P).2⟩⟩
  ·exact P.elim
 ·exact P.elim
end
end
end VS
namespace VS
open PySem PySem.Spec PyProof.Rows L2
section
section
variable {X:Cx} {G:Ga} {E:XK} {x:Str} {p pos:Pos} {e:Expr} {es:List Expr} {dr:Sl->M (List W)} {id T:String} {r:List V->Hp->VK->Prop} {f:List W->M W}
theorem zbl(hc:CallR X (.builtin id) r)(hf:Bi G E r f)(hg:Gl X x)(hm:X.mg x=none)(hv:bootBuiltins x=some (.builtin id))(ha:PA X (e::es) (zez G E dr))(hn:x ≠ "__name__" := by decide)(hdb:(x==("__debug__" : Str))=false:=by decide)(he:starEach (e::es) X.env=(false,eval e X.env)::starEach es X.env:=by rfl)(hpl:(backTo pos (starEach es X.env)).any (·.1)=false:=by rfl):PE X (.Call (.Name x p) (e::es) [] pos) (zau G E (dBi f dr)) :=
 PE.imp (zgI hc hg hm hv ha hn hdb he hpl) fun σ H Q zz_=>el6 zz_ fun F as sl ce S P=>(step (RP:=Reps) S P).mono fun vs H1 zz_=>el8 zz_ fun ws F1 as1 ce1 l1 S1 rs P1=>hf F1 as1 H1 σ sl ce1 ws vs Q S1 rs P1
theorem zbB(hc:CallR X (.type T) r)(hf:Bi G E r f)(hg:Gl X x)(hm:X.mg x=none)(hv:bootBuiltins x=some (.type T))(ha:PA X (e::es) (zez G E dr))(hn:x ≠ "__name__" := by decide)(hdb:(x==("__debug__" : Str))=false:=by decide)(he:starEach (e::es) X.env=(false,eval e X.env)::starEach es X.env:=by rfl)(hpl:(backTo pos (starEach es X.env)).any (·.1)=false:=by rfl):PE X (.Call (.Name x p) (e::es) [] pos) (zau G E (dBi f dr)) :=
 PE.imp (zdS hc hg hm hv ha hn hdb he hpl) fun σ H Q zz_=>el6 zz_ fun F as sl ce S P=>(step (RP:=Reps) S P).mono fun vs H1 zz_=>el8 zz_ fun ws F1 as1 ce1 l1 S1 rs P1=>hf F1 as1 H1 σ sl ce1 ws vs Q S1 rs P1
open Classical in
def zhW(mk:List W->M W):List W->M W:=fun ws ce=>match zkj ws with
 | some (.rng lo n)=>if n<=sizeLine then mk ((List.range n).map fun(i:Nat)=>W.int (lo+(i:Int))) ce else none
 | _=>none
theorem Reps.rng{F:Hp}{as:List Addr}(lo:Int):∀(l:List Nat),Reps F as (l.map fun(i:Nat)=>W.int (lo+(i:Int))) (l.map fun(i:Nat)=>V.int (lo+(i:Int)))
 | []=>.nil
 | a::r=>.cons (by simp only[Rep]) (Reps.rng lo r)
theorem zmS{a:Expr}{p2 pos2:Pos}{mk:List W->M W}(hmk:MkL G E mk)(hc:X.calm=true)(hgl:Gl X "list")(hml:X.mg "list" = none)(hg:Gl X "range")(hm:X.mg "range" = none)(ha:PA X [a] (zez G E dr))(hs:starEach [a] X.env=[(false,eval a X.env)]:=by rfl)(he:starEach [.Call (.Name "range" p2) [a] [] pos2] X.env=[(false,eval (.Call (.Name "range" p2) [a] [] pos2) X.env)]:=by rfl) :
  PE X (.Call (.Name "list" p) [.Call (.Name "range" p2) [a] [] pos2] [] pos) (zau G E (dBi (zhW mk) dr)):=by
 refine PE.imp (zdS (zfx hc) hgl hml boot_list (zdR (ziT hg hm ha hs) zgG (by rw[he];rfl)) (by decide) (by decide) (by rw[he];rfl) rfl) fun σ H Q zz_=>el6 zz_ fun F as sl ce S P=>(step (RP:=Reps) S P).mono fun vs H1 zz_=>el8 zz_ fun ws F1 as1 ce1 l1 S1 rs P1=>?_
 unfold zhW at P1
 split at P1
 ·rename_i lo n hr
  unfold zkj at hr
  split at hr
  ·rename_i j
   split at hr
   ·rename_i hj
    cases hr
    split at P1
    ·rename_i hz
     obtain⟨v,rfl,r1⟩:=zbA rs
     simp only[Rep] at r1
     subst r1
     refine⟨j,rfl,fun q hq=>?_⟩
     refine⟨q,0,j,rfl,zaB,by omega,by omega,by omega,by omega,by rw[Int.sub_zero];exact hz,fun l hl=>?_⟩
     rw[Int.sub_zero]
     obtain⟨S2,l2⟩:=S1.st.freeze (o:=.rng 0 j) hq
     exact(hmk (S1.slots S2 l2) (Reps.rng 0 _) (P1.le l2)).2 l hl
    ·exact(show False from P1).elim
   ·cases hr
  ·cases hr
 ·exact(show False from P1).elim
def zkk(ce:Ce)(w:W):Option Unit:=(zdX ce w).map fun _=>()
def dMt(f:W->List W->M W)(o:Sl->M W)(args:Sl->M (List W)):Sl->M W:=fun sl=>bnd (o sl) fun x=>bnd (look fun ce=>zkk ce x) fun _=>bnd (args sl) fun ws=>f x ws
def Mt(G:Ga)(E:XK)(r:V->List V->Hp->VK->Prop)(f:W->List W->M W):Prop:=∀F as H σ sl ce w v ws vs Q,SR G F as H σ sl ce->Rep F as w v->Reps F as ws vs->Post G E Rep F as σ sl Q (f w ws ce)->r v vs H Q
variable {o:Expr} {name:Str} {apos cpos:Pos} {do':Sl->M W} {rm:V->List V->Hp->VK->Prop} {fm:W->List W->M W}
theorem zfI{F:Hp}{as:List Addr}{σ:VS.St}{sl:Sl}{ce:Ce}{Q:VK}{w:W}{k:Unit->M W}(P:Post G E Rep F as σ sl Q (bnd (look fun ce=>zkk ce w) k ce)):∃xs,zdX ce w=some xs/\Post G E Rep F as σ sl Q (k () ce):=by
 revert P
 simp only[bnd,look,zkk]
 cases zdX ce w with
 | none=>exact fun P=>P.elim
 | some xs=>exact fun P=>⟨xs,rfl,P⟩
theorem zeW(slot:Slot "list" name id)(hty:typeOf (.builtin id)=pure (.type "method_descriptor"))(hm:MtR X id rm)(hf:Mt G E rm fm)(ho:PE X o (zau G E do'))(ha:PA X (e::es) (zez G E dr))(hbase:attributeBase o name X.env (eval o X.env)=eval o X.env:=by rfl)(hfew:((backTo cpos (starEach (e::es) X.env)).all (fun x=>!x.1)&&(backToKw cpos (keywordEach [] X.env)).all (fun x=>x.1.isSome)
   && decide ((e::es).length+([]:List Keyword).length+(if ([]:List Keyword).isEmpty then 0 else 1)<30))=true:=by rfl)(hline:(apos.endLine==cpos.line)=true:=by rfl)(hs:starEach (e::es) X.env=(false,eval e X.env)::starEach es X.env:=by rfl)(hplain:(backTo cpos (starEach es X.env)).any (·.1)=false:=by rfl) :
  PE X (.Call (.Attribute o name apos) (e::es) [] cpos) (zau G E (dMt fm do' dr)):=by
 refine PE.imp (zqB PySem.F.plainAttrs_list slot hty hm ho ha hbase hfew hline hs hplain) fun σ H Q zz_=>el6 zz_ fun F as sl ce S P=>(step S P).mono fun x H1 zz_=>el8 zz_ fun wx F1 as1 ce1 l1 S1 rx P1=>?_
 obtain⟨xs,hx,P2⟩:=zfI P1
 obtain⟨a,us,rfl,h,_⟩:=zca S1.st rx hx
 refine⟨.inl ⟨rfl,us,.inl h⟩,(step (RP:=Reps) S1 P2).mono fun vs H2 zz_=>el8 zz_ fun ws F2 as2 ce2 l2 S2 rs P3=>?_⟩
 exact hf F2 as2 H2 σ sl ce2 wx _ ws vs Q S2 (rx.le l2) rs P3
def zoV(f:W->List W->M W)(o:Sl->M W):Sl->M W:=fun sl=>bnd (o sl) fun x=>bnd (look fun ce=>zkk ce x) fun _=>f x []
theorem zoW(slot:Slot "list" name id)(hty:typeOf (.builtin id)=pure (.type "method_descriptor"))(hm:MtR X id rm)(hf:Mt G E rm fm)(ho:PE X o (zau G E do'))(hbase:attributeBase o name X.env (eval o X.env)=eval o X.env:=by rfl)(hline:(apos.endLine==cpos.line)=true:=by rfl):PE X (.Call (.Attribute o name apos) [] [] cpos) (zau G E (zoV fm do')):=by
 refine PE.imp (zor PySem.F.plainAttrs_list slot hty hm ho hbase hline) fun σ H Q zz_=>el6 zz_ fun F as sl ce S P=>(step S P).mono fun x H1 zz_=>el8 zz_ fun wx F1 as1 ce1 l1 S1 rx P1=>?_
 obtain⟨xs,hx,P2⟩:=zfI P1
 obtain⟨a,us,rfl,h,_⟩:=zca S1.st rx hx
 exact⟨.inl ⟨rfl,us,.inl h⟩,hf F1 as1 H1 σ sl ce1 wx _ [] [] Q S1 rx Reps.nil P2⟩
open Classical in
def zhX:W->List W->M W:=fun w ws ce=>match zkL ce w,ws with
 | some (k,xs),[y]=>if xs.length<sizeLine then some (.ok .non (ce.set k (.lst (xs++[y])))) else none
 | _,_=>none
def zoX:W->List W->M W:=fun w ws ce=>match zkL ce w,ws with
 | some (k,xs),[]=>match xs[xs.length-1]? with
  | some y=>some (.ok y (ce.set k (.lst xs.dropLast)))
  | none=>none
 | _,_=>none
open Classical in
def zmT:W->List W->M W:=fun w ws ce=>match zkL ce w,ws with
 | some (k,xs),[y]=>match zdX ce y with
  | some ys=>if xs.length+ys.length<=sizeLine then some (.ok .non (ce.set k (.lst (xs++ys)))) else none
  | none=>none
 | _,_=>none
theorem zhY:Mt G E ziI zhX:=by
 intro F as H σ sl ce w v ws vs Q S rw' rs P
 unfold zhX at P
 split at P
 ·rename_i k xs y hk
  split at P
  ·rename_i hl
   obtain⟨a,us,rfl,ha,hH,r⟩:=zdz S.st rw' hk
   obtain⟨u,rfl,ry⟩:=zbA rs
   refine⟨a,us,u,rfl,rfl,hH,by rw[r.length];exact hl,?_⟩
   exact P .non _ F as .refl (S.slots (S.st.write (o:=.lst (us++[u])) (c:=.lst (xs++[y])) ha ⟨_,zaB,r.append (.cons ry .nil)⟩) .refl) (by simp only[Rep])
  ·exact(show False from P).elim
 ·exact(show False from P).elim
theorem zqV:Mt G E zrn zoX:=by
 intro F as H σ sl ce w v ws vs Q S rw' rs P
 unfold zoX at P
 split at P
 ·rename_i k xs hk
  split at P
  ·rename_i y hy
   obtain⟨a,us,rfl,ha,hH,r⟩:=zdz S.st rw' hk
   simp only[Reps] at rs
   obtain⟨u,hu,ru⟩:=r.get hy
   refine⟨a,us,u,rfl,rs,hH,by rw[r.length];exact hu,?_⟩
   exact P u _ F as .refl (S.slots (S.st.write (o:=.lst us.dropLast) (c:=.lst xs.dropLast) ha ⟨_,zaB,r.dropLast⟩) .refl) ru
  ·exact(show False from P).elim
 ·exact(show False from P).elim
def zoY:V->List V->Hp->VK->Prop:=fun x vs H Q=>∃l b xs zs,x=.ref l/\vs=[.ref b]/\H l=some (.lst xs)/\Rd H b (.lst zs)/\xs.length+zs.length<=sizeLine/\Q .non (upd H l (.lst (xs++zs)))
theorem zgl:MtR X "list.extend" zoY:=by
 intro pins s σ H x vs v us Q I rx rv h
 obtain⟨l,b,xs,zs,rfl,rfl,hH,hB,hz,q⟩:=h
 cases rx
 obtain⟨u,rfl,ru⟩:=rv.one
 cases ru
 obtain⟨z,its,n,r,hl,e⟩:=I.lstM hH
 obtain⟨z2,its2,n2,r2,hl2,e2⟩:=Inv.lstR I hB
 have hsz:its.toArray.size+its2.toArray.size<=sizeLine:=by rw[List.size_toArray,List.size_toArray];omega
 have hlong:¬(!its.toArray.isEmpty&&Builtin.List.listTooLong (its.toArray.size+its2.toArray.size))=true:=by
  rw[zgJ hsz,Bool.and_false]
  exact Bool.false_ne_true
 refine call_meets F.slot_list_extend ⟨_,e,rfl⟩ F.entry_list_extend (F.args_list_extend_2 _ _)
  (AutoSeq1.list_extend_list_list_0 l its.toArray n b its2.toArray n2 hlong (by rw[List.size_toArray];omega) (by omega)) ⟨e,e2,?_⟩
 refine⟨.non,_,I.lset (its':=its++its2) hH e (by simp) (r.append r2) ?_,rfl,q⟩
 rw[List.length_append]
 omega
theorem zmU:Mt G E zoY zmT:=by
 intro F as H σ sl ce w v ws vs Q S rw' rs P
 unfold zmT at P
 split at P
 ·rename_i k xs y hk
  split at P
  ·rename_i ys hy
   split at P
   ·rename_i hl
    obtain⟨a,us,rfl,ha,hH,r⟩:=zdz S.st rw' hk
    obtain⟨u,rfl,ry⟩:=zbA rs
    obtain⟨b,zs,rfl,hb,r2⟩:=zca S.st ry hy
    refine⟨a,b,us,zs,rfl,rfl,hH,hb,by rw[r.length,r2.length];exact hl,?_⟩
    exact P .non _ F as .refl (S.slots (S.st.write (o:=.lst (us++zs)) (c:=.lst (xs++ys)) ha ⟨_,zaB,r.append r2⟩) .refl) (by simp only[Rep])
   ·exact(show False from P).elim
  ·exact(show False from P).elim
 ·exact(show False from P).elim
variable {a b:Expr} {da db:Sl->M W}
open Classical in
def zoZ(mk:List W->M W)(xs:List W)(y:W):M W:=fun ce=>match y with
 | .int k=>@ite _ (-9223372036854775808<=k/\k<9223372036854775808/\xs.length*k.toNat<=sizeLine) (Classical.propDecidable _) (mk (List.replicate k.toNat xs).flatten ce) none
 | _=>none
open Classical in
def zpZ(n:Nat):M Unit:=fun ce=>if n<=sizeLine then some (.ok () ce) else none
def zfJ(mk:List W->M W)(a:Sl->M (List W))(b:Sl->M W):Sl->M W:=fun sl=>bnd (a sl) fun xs=>bnd (zpZ xs.length) fun _=>bnd (b sl) fun y=>zoZ mk xs y
theorem zjg{mk:List W->M W}{es:List Expr}{ds:Sl->M (List W)}{lpos:Pos}(hm:MkL G E mk)(ha:PA X es (zez G E ds))(hb:PE X b (zau G E db)):PE X (.BinOp (.List es lpos) .Mult b pos) (zau G E (zfJ mk ds db)):=by
 refine PE.imp (zks zot (ziD ha) hb) fun σ H Q zz_=>el6 zz_ fun F as sl ce S P=>(step (RP:=Reps) S P).mono fun vs H1 zz_=>el8 zz_ fun ws F1 as1 ce1 l1 S1 rs P1=>?_
 have q:ws.length<=sizeLine/\Post G E Rep F1 as1 σ sl Q (bnd (db sl) (fun y=>zoZ mk ws y) ce1):=by
  revert P1
  unfold zpZ
  by_cases hl:ws.length<=sizeLine
  ·simp only[bnd,if_pos hl];exact fun P=>⟨hl,P⟩
  ·simp only[bnd,if_neg hl];exact fun P=>P.elim
 obtain⟨hlen,P1⟩:=q
 rw[<- rs.length] at hlen
 refine⟨hlen,fun p hp=>?_⟩
 obtain⟨S2,l2⟩:=S1.st.freeze (o:=.lst vs) hp
 refine(step (S1.slots S2 l2) (P1.le l2)).mono fun y H2 zz_=>el8 zz_ fun wy F2 as2 ce2 l3 S3 ry P2=>?_
 unfold zoZ at P2
 cases wy<;>first|exact(show False from P2).elim|skip
 rename_i k
 dsimp only at P2
 split at P2
 ·rename_i hk
  simp only[Rep] at ry
  refine⟨p,k,vs,rfl,ry,S3.st.sub _ _ (l3.f _ _ zaB),by omega,by omega,by rw[rs.length];exact hk.2.2,?_⟩
  exact(hm S3 (((rs.le l2).le l3).rep k.toNat) P2).2
 ·exact(show False from P2).elim
theorem zkS{i:Int}(hg:Gl X x)(hm:∃t,X.mg x=some (.int i t))(hd:(x==("__debug__" : Str))=false:=by decide):PE X (.Name x pos) (zau G E (dC (.int i))):=by
 obtain⟨t,hm⟩:=hm
 exact zoA (ziw (v:=.int i) hg hm ⟨t,rfl⟩ hd) rfl
end
end
end VS
namespace VS
open PySem PySem.Spec PyProof.Rows L2
section
section
variable {X:Cx} {G:Ga} {E:XK} {a b:Expr} {da db:Sl->M W} {pos:Pos}
def zmV:W->W->Option W:=i2 fun i j=>.bl (decide (i=j))
def zsn:W->W->Option W:=i2 fun i j=>.bl (!decide (i=j))
theorem zo0:Sc2 rEq zmV:=by
 intro x y w e
 cases x<;>cases y<;>simp only[zmV,i2,Option.some.injEq,reduceCtorEq] at e
 subst e
 exact⟨_,_,_,rfl,rfl,rfl,fun H Q hq=>⟨rfl,by simpa using hq⟩⟩
theorem zlJ(ha:PE X a (zau G E da))(hb:PE X b (zau G E db)):PE X (.Compare a [.Eq] [b] pos) (zau G E (dOp zmV da db)):=zly zql zo0 ha hb (zcQ _)
def zfK(k v:Sl->M W):Sl->M W:=fun sl ce=>match bnd (k sl) (fun kw=>bnd (v sl) fun vw=>ret (kw,vw)) (ce++[.dct []]) with
 | some (.ok (kw,vw) ce2)=>match zio kw,ce2[ce.length]? with
  | some key,some (.dct [])=>some (.ok (.cel ce.length) (ce2.set ce.length (.dct [(key,vw)])))
  | _,_=>none
 | some (.ex x ce2)=>some (.ex x ce2)
 | none=>none
theorem zkT{k v:Expr}{dk dv:Sl->M W}(hk:PE X k (zau G E dk))(hv:PE X v (zau G E dv)):PE X (.Dict [some k] [v] pos) (zau G E (zfK dk dv)):=by
 refine PE.imp (zmF (zkE hk hv zmE) rfl rfl (by intro h;cases h) (by simp)) fun σ H Q zz_=>el6 zz_ fun F as sl ce S P=>?_
 intro p hp
 obtain⟨S1,l1⟩:=S.st.alloc (o:=.dK []) (c:=.dct []) hp (fun as' l=>⟨[],zaB,.nil⟩)
 have hlen:as.length=ce.length:=S.st.len
 have P':Post G E (fun F as (a:W×W) (b:V×V)=>Rep F as a.1 b.1/\Rep F as a.2 b.2) F (as++[p]) σ sl (fun b H2=>H2 p=some (.dK [])/\∃kvs:List (Key×V),[b]=kvs.map (fun kv=>(kV kv.1,kv.2))/\kvs.length<=15/\Q (.ref p) (upd H2 p (.dK (zdV [] kvs))))
   (bnd (dk sl) (fun kw=>bnd (dv sl) fun vw=>ret (kw,vw)) (ce++[.dct []])):=by
  unfold zfK at P
  cases e:bnd (dk sl) (fun kw=>bnd (dv sl) fun vw=>ret (kw,vw)) (ce++[.dct []]) with
  | none=>rw[e] at P;exact P.elim
  | some r=>cases r with
   | ex x ce2=>rw[e] at P;exact fun H' F' as' cv od l=>P H' F' as' cv od (l1.trans l)
   | ok a ce2 =>
    obtain⟨kw,vw⟩:=a
    rw[e] at P
    dsimp only at P
    split at P
    ·rename_i key hkey hcell
     intro b H' F' as' l S' r
     obtain⟨kv,vv⟩:=b
     have hp':as'[ce.length]?=some p:=l.c _ _ (by rw[<- hlen];simp)
     obtain⟨_,ps,h2,rk⟩:=S'.st.cell _ _ _ hp' hcell
     cases rk
     have rput:RepKV F' as' [(key,vw)] [(key,vv)]:=.cons ⟨rfl,r.2⟩ .nil
     refine⟨h2,[(key,vv)],?_,by simp,?_⟩
     ·simp only[List.map_cons,List.map_nil];rw[show kv=kV key from zgd r.1 hkey]
     ·exact P (.ref p) _ F' as' (l1.trans l) (S'.slots (S'.st.write (o:=.dK (zdV [] [(key,vv)])) (c:=.dct [(key,vw)]) hp' ⟨_,zaB,rput⟩) .refl) (by simp only[Rep];exact⟨p,rfl,hp'⟩)
    ·exact P.elim
 refine(step (S.slots S1 l1) P').mono fun x H1 zz_=>el8 zz_ fun wx F1 as1 ce1 l2 S2 rx P1=>(step S2 P1).mono fun y H2 zz_=>el8 zz_ fun wy F2 as2 ce2 l3 S3 ry P2=>?_
 exact Post.done (RP:=fun F as (a:W×W) (b:V×V)=>Rep F as a.1 b.1/\Rep F as a.2 b.2) (a:=(wx,wy)) (b:=(x,y)) S3 P2 ⟨rx.le l3,ry⟩
end
end
end VS
namespace VS
open PySem PySem.Spec PyProof.Rows L2
section
def noL(K:PySem.W.Frag):Bool:=K.all fun p=>match p.2.cls with
 | .type "list" => false
 | _=>true
theorem zo1{K:PySem.W.Frag}(h:noL K=true){a:Addr}{o:Obj}(e:K.lookup a=some o):o.cls≠.type "list" := by
 intro hc
 have hm:∀{l:PySem.W.Frag},l.lookup a=some o->(a,o)∈l:=by
  intro l
  induction l with
  | nil=>intro e;cases e
  | cons p r ih =>
   intro e
   obtain⟨b,q⟩:=p
   by_cases hb:a=b
   ·subst hb
    have:List.lookup a ((a,q)::r)=some q:=by simp[List.lookup]
    rw[this] at e;cases e;exact List.mem_cons_self
   ·have:List.lookup a ((b,q)::r)=List.lookup a r:=by
     have hb':(a==b)=false:=by simpa using hb
     simp[List.lookup,hb']
    rw[this] at e
    exact List.mem_cons_of_mem _ (ih e)
 have:=List.all_eq_true.mp h _ (hm e)
 simp only[hc] at this
 cases this
def spLaw(G:PySem.W.Frag->Ga)(d:List W->M W)(K:PySem.W.Frag):Sp:=fun vs H Q E=>noL K=true->spV (G K) (fun _=>E0) 1 d vs H Q E
theorem law_sp{G:PySem.W.Frag->Ga}{d:List W->M W}{n:Nat}(main:∀ns:List Int,ns.length<=n->∃ce',d [.lst (ns.map W.int)] []=some (.ok (.bl true) ce'))(K:PySem.W.Frag)(H:Hp)(a:Addr)(ns:List Int)(hl:ns.length<=n)(_hO:zou H)(hS:SqL K H a (ns.map V.int)):spLaw G d K [.ref a] H (fun v _=>v=.bl true) fun _ _ _=>False:=by
 intro nl
 rcases hS with hS|⟨o,its,m,hk,hc,_⟩
 ·obtain⟨ce',e⟩:=main ns hl
  refine⟨rfl,H,[],[.lst (ns.map W.int)],[],⟨fun _ _ h=>h,by simp,rfl,fun k a c h _=>by simp at h⟩,.cons (by simp only[Rep];exact⟨a,_,rfl,hS,Reps.ints ns⟩) .nil,?_⟩
  rw[e]
  intro v H' F' as' _ _ r
  simpa only[Rep] using r
 ·exact absurd hc (zo1 nl hk)
section
variable {α β:Type}
theorem zbF{m:M α}{f:α->M β}{ce ce':Ce}{a:α}(h:m ce=some (.ok a ce')):bnd m f ce=f a ce':=by simp only[bnd,h]
theorem zjh{a b:DS}{sl sl':Sl}{ce ce':Ce}(h:a sl ce=some (.go .nx sl' ce')):zaG a b sl ce=b sl' ce':=by simp only[zaG,h]
theorem zmW{a b:DS}{sl sl':Sl}{ce ce':Ce}{w:W}(h:a sl ce=some (.go (.rt w) sl' ce')):zaG a b sl ce=some (.go (.rt w) sl' ce'):=by simp only[zaG,h]
end
section
variable {ce l:Ce} {c:C} {n:Nat}
theorem zp0(ce l:Ce)(j:Nat):(ce++l)[ce.length+j]?=l[j]?:=by rw[List.getElem?_append_right (Nat.le_add_right _ _),Nat.add_sub_cancel_left]
theorem zo2(ce l:Ce):(ce++l)[ce.length]?=l[0]?:=zp0 ce l 0
theorem zrv(ce l:Ce)(j:Nat)(c:C):(ce++l).set (ce.length+j) c=ce++l.set j c:=by rw[List.set_append_right _ _ (Nat.le_add_right _ _),Nat.add_sub_cancel_left]
theorem zqW(ce l:Ce)(c:C):(ce++l).set ce.length c=ce++l.set 0 c:=zrv ce l 0 c
theorem cutOk_app(ce l:Ce):zeU ce (ce++l):=⟨by rw[List.length_append];omega,fun k c hk h=>.inl (by rwa [List.getElem?_append_left hk] at h)⟩
theorem zeX(ce l:Ce):(ce++l).take ce.length=ce:=List.take_left
theorem belInts(n:Nat):∀ns:List Int,zcO n (ns.map W.int)
 | []=>by simp only[List.map_nil,zcO]
 | a::r=>by simp only[List.map_cons,zcO,Bel];exact⟨trivial,belInts n r⟩
end
theorem zkU{ce l:Ce}{j:Nat}{c:C}(h:l[j]?=some c)(hb:zgk ce.length c):finO ce (ce++l) (.cel (ce.length+j))=some (.ok (.cel ce.length) (ce++[c])):=by
 have e:(ce++l)[ce.length+j]?=some c:=by rw[zp0];exact h
 simp only[finO,e]
 rw[if_pos ⟨cutOk_app ce l,Nat.le_add_right _ _,hb⟩,zeX]
theorem zdB{ce l:Ce}{w:W}(hb:Bel ce.length w):finC ce (ce++l) w=some (.ok w ce):=by
 unfold finC
 rw[if_pos ⟨cutOk_app ce l,hb⟩,zeX]
theorem zaN{ce:Ce}{w:W}(hb:Bel ce.length w):finC ce ce w=some (.ok w ce):=by
 have:=zdB (l:=[]) hb
 rwa [List.append_nil] at this
theorem zbW{d:List W->M W}{ws:List W}{ce:Ce}{xs:List W}(h:d ws ce=some (.ok (.cel ce.length) (ce++[.lst xs])))(hb:zcO ce.length xs):zcP d ws ce=some (.ok (.lst xs) ce):=by
 have e:(ce++[C.lst xs])[ce.length]?=some (.lst xs):=by rw[zo2];rfl
 simp only[zcP,h,e]
 rw[if_pos ⟨cutOk_app ce _,rfl,hb⟩,zeX]
end
end VS
namespace VS
open PySem PySem.Spec PyProof.Rows L2
end VS
namespace VS
open L2
section
variable {α β:Type}
@[simp] theorem zo3(m:M α)(f:α->M β)(ce:Ce):bnd m f ce=match m ce with|some (.ok a ce')=>f a ce'|some (.ex x ce')=>some (.ex x ce')|none=>none:=rfl
@[simp] theorem zqX(m:Option (R α))(k:α->Ce->Option O):lft m k=match m with|some (.ok a ce')=>k a ce'|some (.ex x ce')=>some (.ex x ce')|none=>none:=rfl
@[simp] theorem zqY(a:α)(ce:Ce):ret a ce=some (.ok a ce):=rfl
@[simp] theorem zo4(f:Ce->Option α)(ce:Ce):look f ce=(f ce).map fun a=>R.ok a ce:=rfl
end
variable (a b c:Sl->M W) (ta tb:Sl->M Bool) (s t:DS) (sl:Sl) (ce:Ce) (i:Nat) (w:W)
@[simp] theorem zlK:zah i sl ce=match sl[i]? with|some (some w)=>some (.ok w ce)|_=>none:=rfl
@[simp] theorem zsK:dC w sl ce=some (.ok w ce):=rfl
@[simp] theorem zso(f:W->W->Option W):dOp f a b sl ce=bnd (a sl) (fun x=>bnd (b sl) fun y=>look fun _=>f x y) ce:=rfl
@[simp] theorem zrw(f:Ce->W->W->Option W):zaY f a b sl ce=bnd (a sl) (fun x=>bnd (b sl) fun y=>look fun ce=>f ce x y) ce:=rfl
@[simp] theorem zsp(f:W->Option W):dUn f a sl ce=bnd (a sl) (fun x=>look fun _=>f x) ce:=rfl
@[simp] theorem zsL:dB a sl ce=bnd (a sl) (fun w=>look fun _=>match w with|.bl b=>some b|_=>none) ce:=rfl
@[simp] theorem zrx:zki a sl ce=bnd (a sl) (fun w=>look fun ce=>zgb ce w) ce:=rfl
@[simp] theorem zqZ:zgf ta tb sl ce=bnd (ta sl) (fun x=>match x with|true=>tb sl|false=>ret false) ce:=rfl
@[simp] theorem zry:zkJ ta tb sl ce=bnd (ta sl) (fun x=>match x with|true=>ret true|false=>tb sl) ce:=rfl
@[simp] theorem zq0:zcF ta sl ce=bnd (ta sl) (fun x=>ret (!x)) ce:=rfl
@[simp] theorem zrz:zaG s t sl ce=match s sl ce with|some (.go .nx sl' ce')=>t sl' ce'|r=>r:=rfl
@[simp] theorem zq1:zby sl ce=some (.go .nx sl ce):=rfl
@[simp] theorem zrA:zbp i a sl ce=lft (a sl ce) fun w ce'=>some (.go .nx (sl.set i (some w)) ce'):=rfl
@[simp] theorem zrB:zbt a sl ce=lft (a sl ce) fun w ce'=>some (.go (.rt w) sl ce'):=rfl
@[simp] theorem zq2:dEx a sl ce=lft (a sl ce) fun _ ce'=>some (.go .nx sl ce'):=rfl
@[simp] theorem zsq:dIf ta s t sl ce=lft (ta sl ce) fun x ce'=>match x with|true=>s sl ce'|false=>t sl ce':=rfl
@[simp] theorem zo5:zao sl ce=some (.ok [] ce):=rfl
@[simp] theorem zmX(r:Sl->M (List W)):zad a r sl ce=bnd (a sl) (fun x=>bnd (r sl) fun xs=>ret (x::xs)) ce:=rfl
@[simp] theorem zq3(f:List W->M W)(r:Sl->M (List W)):dBi f r sl ce=bnd (r sl) f ce:=rfl
@[simp] theorem zq4(n:Nat)(f:List W->M W)(r:Sl->M (List W)):zar n f r sl ce=bnd (r sl) (fun ws=>if ws.length=n then f ws else ziU) ce:=rfl
@[simp] theorem zrC(r:Sl->M (List W)):zbQ r sl ce=bnd (r sl) (fun xs=>mkF (.tup xs) xs.length) ce:=rfl
@[simp] theorem zrD(r:Sl->M (List W)):zdm r sl ce=bnd (r sl) (fun xs=>mkF (.lst xs) xs.length) ce:=rfl
@[simp] theorem zq5(r:Sl->M (List W)):zcb r sl ce=bnd (r sl) (fun xs=>mkC (.lst xs) xs.length) ce:=rfl
@[simp] theorem zq6:zhQ sl ce=mkC (.dct []) 0 ce:=rfl
@[simp] theorem zsr{n:Nat}(h:n<=PySem.sizeLine):mkF w n ce=some (.ok w ce):=if_pos h
@[simp] theorem zss(c:C){n:Nat}(h:n<=PySem.sizeLine):mkC c n ce=some (.ok (.cel ce.length) (ce++[c])):=if_pos h
@[simp] theorem zji{xs:List W}(h:xs.length<=PySem.sizeLine):zb6 xs ce=some (.ok (.lst xs) ce):=if_pos h
@[simp] theorem zrE{xs:List W}(h:xs.length<=PySem.sizeLine):zgg xs ce=some (.ok (.cel ce.length) (ce++[.lst xs])):=if_pos h
@[simp] theorem zo6{xs:List W}(h:xs.length<=PySem.sizeLine):zoM xs ce=some (.ok (.tup xs) ce):=if_pos h
@[simp] theorem zq7(f:W->List W->M W)(r:Sl->M (List W)):dMt f a r sl ce=bnd (a sl) (fun x=>bnd (look fun ce=>zkk ce x) fun _=>bnd (r sl) fun ws=>f x ws) ce:=rfl
@[simp] theorem zrF(f:W->List W->M W):zoV f a sl ce=bnd (a sl) (fun x=>bnd (look fun ce=>zkk ce x) fun _=>f x []) ce:=rfl
@[simp] theorem zsM:gN i w sl ce=some (sl.set i (some w),ce):=rfl
theorem zlL{o i v:Sl->M W}{sl:Sl}{ce ce1 ce2 ce3:Ce}{w ow iw:W}{key:Key}{k:Nat}{kvs:List (Key×W)}(h1:v sl ce=some (.ok w ce1))(h2:o sl ce1=some (.ok ow ce2))(h3:i sl ce2=some (.ok iw ce3))(h4:zio iw=some key)(h5:zlF ce3 ow=some (k,kvs))(h6:kvs.length<PySem.sizeLine) :
  zlG o i v sl ce=some (.go .nx sl (ce3.set k (.dct (zhS kvs key w)))):=by
 simp only[zlG,lft,h1,h2,h3,h4,h5,if_pos h6]
theorem zo7{w y:W}{ce:Ce}{k:Nat}{xs:List W}(h:zkL ce w=some (k,xs))(hl:xs.length<PySem.sizeLine):zhX w [y] ce=some (.ok .non (ce.set k (.lst (xs++[y])))):=by simp only[zhX,h,if_pos hl]
@[simp] theorem zrG(x y:Int):zcE (.int x) (.int y)=some (.int (x+y)):=rfl
@[simp] theorem zrH(x y:Int):zeA (.int x) (.int y)=some (.int (x-y)):=rfl
@[simp] theorem zst(x y:Int):fLt (.int x) (.int y)=some (.bl (decide (x<y))):=rfl
@[simp] theorem zsu(x y:Int):fLe (.int x) (.int y)=some (.bl (decide (x<=y))):=rfl
@[simp] theorem zsv(x y:Int):fGt (.int x) (.int y)=some (.bl (decide (y<x))):=rfl
@[simp] theorem zsw(x y:Int):fGe (.int x) (.int y)=some (.bl (decide (y<=x))):=rfl
@[simp] theorem zrI(x y:Int):zmV (.int x) (.int y)=some (.bl (decide (x=y))):=rfl
@[simp] theorem zrJ(x y:Int):zsn (.int x) (.int y)=some (.bl (!decide (x=y))):=rfl
@[simp] theorem zrK(x:Int):zmG (.int x)=some (.int (-x)):=rfl
theorem zo8{x y:Int}(h:CMul x y):zin (.int x) (.int y)=some (.int (x*y)):=by simp only[zin,i2c,if_pos h]
theorem zlM{x y:Int}(h:0<y):zcN (.int x) (.int y)=some (.int (x % y)):=by simp only[zcN,i2c,if_pos h]
theorem zo9{x y:Int}(h:0<y/\y<1073741824):znL (.int x) (.int y)=some (.int (x / y)):=by
 have h':zqk x y:=h
 simp only[znL,i2c,if_pos h']
@[simp] theorem zrL(xs:List W):zhP ce (.tup xs)=some xs:=rfl
@[simp] theorem zrM(xs:List W):zhP ce (.lst xs)=some xs:=rfl
@[simp] theorem zrN(xs:List W):zdX ce (.lst xs)=some xs:=rfl
theorem zcx{ce:Ce}{k:Nat}{xs:List W}(h:ce[k]?=some (.lst xs)):zdX ce (.cel k)=some xs:=by simp only[zdX,h]
theorem zpa{ce:Ce}{k:Nat}{xs:List (Key×W)}(h:ce[k]?=some (.dct xs)):znM ce (.cel k)=some xs:=by simp only[znM,h]
theorem zfL{ce:Ce}{k:Nat}{xs:List W}(h:ce[k]?=some (.lst xs)):zkL ce (.cel k)=some (k,xs):=by simp only[zkL,h]
theorem zjj{ce:Ce}{k:Nat}{xs:List (Key×W)}(h:ce[k]?=some (.dct xs)):zlF ce (.cel k)=some (k,xs):=by simp only[zlF,h]
@[simp] theorem zrO(j:Int):zio (.int j)=some (.inl j):=rfl
theorem zkV{α:Type}{xs:List α}{j:Nat}:atI xs (j:Int)=xs[j]?:=by
 unfold atI ixN
 by_cases h:j<xs.length
 ·rw[if_pos (by omega),if_pos (by omega)];simp
 ·rw[if_pos (by omega),if_neg (by omega),List.getElem?_eq_none (by omega)];rfl
theorem zhZ{xs:List W}{x y:W}{ce:Ce}{j:Nat}(h:zhP ce x=some xs)(hy:y=.int j):ixW ce x y=xs[j]?:=by
 subst hy
 simp only[ixW,h]
 exact zkV
theorem zcy(c0:C):(ce++[c0])[ce.length]?=some c0:=by rw[zo2];rfl
end VS
namespace VS
open L2
def nW(n:Nat):W:=.int (n:Int)
def wT(l:List Nat):W:=.tup (l.map nW)
def wB(b:List (List Nat)):W:=.tup (b.map wT)
def kvs(F:List Nat):List (Key×W):=F.map fun(x:Nat)=>((Sum.inl (x:Int):Key),W.bl true)
def toI(F:List Nat):List Int:=F.map fun(x:Nat)=>(x:Int)
theorem zmY(F:List Nat)(y:Nat):(zhR (kvs F) (.inl (y:Int))).isSome=decide (y∈F):=by
 induction F with
 | nil=>rfl
 | cons x F ih =>
  by_cases h:x=y
  ·subst h;simp[kvs,zhR]
  ·have h':¬((x:Int)=(y:Int)):=by omega
   have e:zhR (kvs (x::F)) (.inl (y:Int))=zhR (kvs F) (.inl (y:Int)):=by simp[kvs,zhR,List.find?_cons,h']
   have hm:(y∈x::F)↔y∈F:=by simp[Ne.symm h]
   rw[e,ih]
   simp[hm]
theorem zgm(F:List Nat)(y:Nat)(h:y∉F):zhS (kvs F) (.inl (y:Int)) (.bl true)=kvs (F++[y]):=by
 have e:((kvs F).any fun kv=>decide (kv.1=(.inl (y:Int):Key)))=false:=by
  rw[Bool.eq_false_iff]
  intro q
  obtain⟨p,hp,e⟩:=List.any_eq_true.mp q
  obtain⟨x,hx,rfl⟩:=List.mem_map.mp hp
  have e:=of_decide_eq_true e
  have:(x:Int)=y:=Sum.inl.inj e
  exact h (by rw[<- Int.ofNat_inj.mp this];exact hx)
 unfold zhS
 rw[e]
 simp[kvs]
theorem zc6(F:List Nat):(kvs F).length=F.length:=by simp[kvs]
theorem zkW(F:List Nat):zfG (kvs F)=some (toI F):=by
 induction F with
 | nil=>rfl
 | cons x F ih=>simp only[kvs,toI,List.map_cons,zfG] at ih ⊢;rw[ih];rfl
theorem zbK(F:List Nat):(toI F).length=F.length:=by simp[toI]
theorem zpb(F:List Nat):F.map nW=(toI F).map W.int:=by simp[toI,nW]
theorem zgX(F:List Nat):zfF (F.map nW)=some (toI F):=by rw[zpb,zfH]
theorem zjk{F F':List Nat}(h:F.Perm F'):srt (toI F)=srt (toI F') :=
 zbV ((zbk _).trans ((show(toI F).Perm (toI F') from h.map _).trans (zbk _).symm)) (zcp _) (zcp _)
theorem zeY{F F':List Nat}(h:F.Nodup)(h':F'.Nodup)(e:∀x,x∈F↔x∈F'):F.Perm F':=by
 rw[List.perm_iff_count]
 intro x
 rw[h.count,h'.count]
 simp[e x]
theorem zaX:∀{n:Nat} {F:List Nat},F.Nodup->(∀x∈F,x<n)->F.length<=n
 | 0,F,_,hl=>by
  cases F with
  | nil=>simp
  | cons a r=>exact absurd (hl a List.mem_cons_self) (Nat.not_lt_zero _)
 | n+1,F,h,hl=>by
  by_cases hn:n∈F
  ·have h1:=zaX (n:=n) (h.erase n) fun x hx=>by
    have hx':=(List.Nodup.mem_erase_iff h).mp hx
    have:=hl x hx'.2
    have:=hx'.1
    omega
   rw[List.length_erase_of_mem hn] at h1
   have:=List.length_pos_of_mem hn
   omega
  ·have h1:=zaX (n:=n) h fun x hx=>by
    have:=hl x hx
    have:x≠n:=fun e=>hn (e▸hx)
    omega
   omega
inductive Reach (b:List (List Nat)) (ok:Nat->Prop) (s:Nat):Nat->Prop where
 | refl:Reach b ok s s
 | step {x y:Nat} (h:Reach b ok s x) (hy:y∈b.getD x []) (o:ok y):Reach b ok s y
structure Comp (b:List (List Nat)) (ok:Nat->Prop) (s:Nat) (F:List Nat):Prop where
 nd:F.Nodup
 st:s∈F
 lt:∀x∈F,x<b.length
 cl:∀x∈F,∀y∈b.getD x [],ok y->y∈F
 re:∀x∈F,Reach b ok s x
theorem Comp.mem{b:List (List Nat)}{ok:Nat->Prop}{s:Nat}{F:List Nat}(h:Comp b ok s F)(x:Nat):x∈F↔Reach b ok s x:=by
 refine⟨h.re x,fun r=>?_⟩
 induction r with
 | refl=>exact h.st
 | step _ hy o ih=>exact h.cl _ ih _ hy o
def Bd(b:List (List Nat)):Prop:=∀r∈b,∀x∈r,x<b.length
theorem Bd.get{b:List (List Nat)}(h:Bd b){x y:Nat}(hy:y∈b.getD x []):y<b.length:=by
 rw[List.getD_eq_getElem?_getD] at hy
 cases e:b[x]? with
 | none=>rw[e] at hy;simp at hy
 | some r=>rw[e] at hy;exact h r (List.mem_of_getElem? e) y (by simpa using hy)
structure Row (row:List Nat) (ok:Nat->Prop) (F F':List Nat) (r new:List Nat):Prop where
 app:F'=F++new
 nd:F'.Nodup
 mem:∀y∈new,y∈row/\ok y
 done:∃d,row=d++r/\∀y∈d,ok y->y∈F'
theorem zjl{ce:Ce}{x:W}{xs:List W}{j:Nat}(h:zhP ce x=some xs):ixW ce x (nW j)=xs[j]?:=zhZ h rfl
theorem zgY(T:List Int)(n:Nat):(T.map W.int).all (cln n)=true:=by
 rw[List.all_eq_true]
 intro w hw
 obtain⟨x,_,rfl⟩:=List.mem_map.mp hw
 cases n<;>rfl
theorem zjm(a b:Int):peq (.int a) (.int b)=decide (a=b):=by simp[peq];rfl
theorem zfM:∀(l m:List Int),peqs (l.map W.int) (m.map W.int)=decide (l=m)
 | [],[]=>by simp[peqs]
 | [],_::_=>by simp[peqs]
 | _::_,[]=>by simp[peqs]
 | a::l,b::m=>by
  simp only[List.map_cons,peqs,zjm,zfM l m]
  by_cases h1:a=b<;>by_cases h2:l=m<;>simp[h1,h2]
theorem zfk:(36:Nat)<PySem.sizeLine:=by decide
end VS
namespace VS
open L2
theorem zlN{s:Src}{cs:Sl}{e:Sl->M W}{ce:Ce}(hst:s.Stays ce)(P:W->W->Prop):∀(l ys:List W),(∀x∈l,∃y,P x y/\e (some x::cs) ce=some (.ok y ce))->ys.length+l.length<=PySem.sizeLine ->
  ∃zs,lcL s cs zeS e l ys ce=some (.ok (ys++zs) ce)/\PySem.Paired P l zs
 | [],ys,_,_=>⟨[],by simp only[lcL,if_pos hst,List.append_nil],.nil⟩
 | x::r,ys,h,hz=>by
  have hl:ys.length<PySem.sizeLine:=by simp only[List.length_cons] at hz;omega
  obtain⟨y,py,ey⟩:=h x List.mem_cons_self
  obtain⟨zs,ez,pz⟩:=zlN hst P r (ys++[y]) (fun z hz=>h z (List.mem_cons_of_mem _ hz)) (by simp only[List.length_append,List.length_cons,List.length_nil] at hz ⊢;omega)
  refine⟨y::zs,?_,.cons py pz⟩
  rw[zeT ⟨hst,hl⟩]
  show bnd (ret true) _ ce=_
  rw[zbF (m:=ret true) rfl]
  show bnd (e (some x::cs)) (fun y=>lcL s cs zeS e r (ys++[y])) ce=_
  rw[zbF ey,ez,List.append_assoc]
  rfl
theorem zpc{mk:List W->M W}{js:List Nat}{di:Sl->M Src}{e:Sl->M W}{sl:Sl}{ce ce0:Ce}{s:Src}(hi:di sl ce0=some (.ok s ce))(hst:s.Stays ce)(P:W->W->Prop)(h:∀x∈s.items,∃y,P x y/\e (some x::zdn js sl) ce=some (.ok y ce))(hz:s.items.length<=PySem.sizeLine) :
  ∃zs,dLC mk js di zeS e sl ce0=mk zs ce/\PySem.Paired P s.items zs:=by
 obtain⟨zs,e1,p⟩:=zlN hst P s.items [] h (by simpa using hz)
 refine⟨zs,?_,p⟩
 show bnd (di sl) (fun s=>bnd (lcL s (zdn js sl) zeS e s.items []) mk) ce0=_
 rw[zbF hi,zbF e1,List.nil_append]
theorem zfN{s:Src}{cs:Sl}(hst:∀ce,s.Stays ce):∀(l ys:List W) (ce:Ce),ys.length+l.length<=PySem.sizeLine ->
  lcL s cs zeS (zcb zao) l ys ce=some (.ok (ys++(List.range l.length).map fun i=>W.cel (ce.length+i)) (ce++List.replicate l.length (C.lst [])))
 | [],ys,ce,_=>by simp[lcL,if_pos (hst ce)]
 | x::r,ys,ce,hz=>by
  have hl:ys.length<PySem.sizeLine:=by simp only[List.length_cons] at hz;omega
  have ih:=zfN (s:=s) (cs:=cs) hst r (ys++[W.cel ce.length]) (ce++[C.lst []]) (by simp only[List.length_append,List.length_cons,List.length_nil] at hz ⊢;omega)
  rw[zeT ⟨hst ce,hl⟩]
  show bnd (ret true) _ ce=_
  rw[zbF (m:=ret true) rfl]
  have ex:zcb zao (some x::cs) ce=some (.ok (W.cel ce.length) (ce++[C.lst []])):=by simp
  show bnd (zcb zao (some x::cs)) (fun y=>lcL s cs zeS (zcb zao) r (ys++[y])) ce=_
  rw[zbF ex,ih]
  have e1:(List.range (r.length+1)).map (fun i=>W.cel (ce.length+i))=W.cel ce.length::(List.range r.length).map fun i=>W.cel ((ce++[C.lst []]).length+i):=by
   rw[List.range_succ_eq_map,List.map_cons,List.map_map]
   congr 1
   apply List.map_congr_left
   intro i _
   simp only[Function.comp,List.length_append,List.length_cons,List.length_nil]
   congr 1
   omega
  have e2:ce++List.replicate (r.length+1) (C.lst [])=ce++[C.lst []]++List.replicate r.length (C.lst []):=by
   rw[List.replicate_succ,List.append_assoc];rfl
  rw[List.length_cons,e1,e2,List.append_assoc]
  rfl
theorem zpd{n:Nat}(h:n<=1000):zkj [nW n]=some (.rng 0 n):=by
 have h1:(-4611686018427387904:Int)<=(n:Int)/\(n:Int)<4611686018427387904:=by omega
 simp only[zkj,nW,if_pos h1,Int.toNat_natCast]
theorem zpe{d:Sl->M (List W)}{sl:Sl}{ce ce':Ce}{n:Nat}(hd:d sl ce=some (.ok [nW n] ce'))(h:n<=1000):ziq d sl ce=some (.ok (.rng 0 n) ce'):=by
 show bnd (d sl) (fun ws=>look (fun _=>zkj ws)) ce=_
 rw[zbF hd]
 show(zkj [nW n]).map _=_
 rw[zpd h]
 rfl
theorem zjn(k:Int){n:Nat}(h:0<n):∃j:Nat,j<n/\k % (n:Int)=j:=by
 have h1:=Int.emod_nonneg k (b:=(n:Int)) (by omega)
 have h2:=Int.emod_lt_of_pos k (b:=(n:Int)) (by omega)
 exact⟨(k % (n:Int)).toNat,by omega,by omega⟩
theorem zgZ{k:Int}{n j:Nat}(h:0<n)(e:k % (n:Int)=j):zcN (.int k) (.int (n:Int))=some (nW j):=by rw[zlM (by omega),e];rfl
theorem zlO{fin:Ce->Ce->W->Option (R W)}{n:Nat}{body:DS}{ws:List W}{ce ce':Ce}{sl:Sl}{w:W}{r:Option (R W)}(h:body (ws.map some++List.replicate (n-ws.length) none) ce=some (.go (.rt w) sl ce'))(hf:fin ce ce' w=r):dFn fin n body ws ce=r:=by
 unfold dFn
 rw[h]
 exact hf
theorem zkX{s:Src}{g:DG}{body:DS}{sl:Sl}{ce:Ce}(hst:s.Stays ce):zgV s g body [] sl ce=some (.go .nx sl ce):=by
 simp only[zgV,if_pos hst]
theorem zeZ{di:Sl->M Src}{g:DG}{body:DS}{sl:Sl}{ce ce0:Ce}{src:Src}(hi:di sl ce=some (.ok src ce0)):zd0 di g body sl ce=zgV src g body src.items sl ce0:=by simp only[zd0,lft,hi]
theorem zmZ{i:Nat}{d:Sl->M W}{sl:Sl}{ce ce':Ce}{w:W}(h:d sl ce=some (.ok w ce')):zbp i d sl ce=some (.go .nx (sl.set i (some w)) ce'):=by simp only[zbp,lft,h]
theorem zpf{c:Sl->M Bool}{a b:DS}{sl:Sl}{ce ce':Ce}(h:c sl ce=some (.ok true ce')):dIf c a b sl ce=a sl ce':=by simp only[dIf,lft,h]
theorem zpg{c:Sl->M Bool}{a b:DS}{sl:Sl}{ce ce':Ce}(h:c sl ce=some (.ok false ce')):dIf c a b sl ce=b sl ce':=by simp only[dIf,lft,h]
theorem zd2(n:Nat):(Src.rng 0 n).items=(List.range n).map nW:=by
 simp only[Src.items,Int.zero_add]
 rfl
theorem bels_nW(n:Nat):∀l:List Nat,zcO n (l.map nW)
 | []=>by simp only[List.map_nil,zcO]
 | a::r=>by simp only[List.map_cons,zcO,nW,Bel];exact⟨trivial,bels_nW n r⟩
theorem zlP(n:Nat)(b:List (List Nat)):Bel n (wB b):=by
 simp only[wB,Bel]
 induction b with
 | nil=>simp only[List.map_nil,zcO]
 | cons r b ih=>simp only[List.map_cons,zcO,wT,Bel];exact⟨bels_nW n r,ih⟩
def zce(r:List Nat):List Nat:=(srt (toI r)).map Int.toNat
theorem zdC(r:List Nat):(srt (toI r)).map W.int=(zce r).map nW:=by
 unfold zce
 rw[List.map_map]
 apply List.map_congr_left
 intro x hx
 have hx':=(zbk (toI r)).subset hx
 obtain⟨y,_,rfl⟩:=List.mem_map.mp hx'
 show W.int (y:Int)=W.int (((y:Int).toNat:Nat):Int)
 simp
theorem zdD(r:List Nat)(x:Nat):x∈zce r↔x∈r:=by
 unfold zce
 constructor
 ·intro h
  obtain⟨z,hz,rfl⟩:=List.mem_map.mp h
  obtain⟨y,hy,rfl⟩:=List.mem_map.mp ((zbk (toI r)).subset hz)
  simpa using hy
 ·intro h
  refine List.mem_map.mpr ⟨(x:Int),(zbk (toI r)).symm.subset (List.mem_map.mpr ⟨x,h,rfl⟩),by simp⟩
theorem Reach.trans{b:List (List Nat)}{ok:Nat->Prop}{s x y:Nat}(h:Reach b ok s x)(h':Reach b ok x y):Reach b ok s y:=by
 induction h' with
 | refl=>exact h
 | step _ hy o ih=>exact .step ih hy o
theorem Reach.okOf{b:List (List Nat)}{ok:Nat->Prop}{s x:Nat}(hs:ok s)(h:Reach b ok s x):ok x:=by
 cases h with
 | refl=>exact hs
 | step _ _ o=>exact o
theorem Reach.symm{b:List (List Nat)}{ok:Nat->Prop}{s x:Nat}(sym:∀i j,j∈b.getD i []->i∈b.getD j [])(hs:ok s)(h:Reach b ok s x):Reach b ok x s:=by
 induction h with
 | refl=>exact .refl
 | step h hy o ih=>exact Reach.trans (.step .refl (sym _ _ hy) (h.okOf hs)) ih
theorem Paired.nth{α β:Type}{P:α->β->Prop}{l:List α}{m:List β}(h:PySem.Paired P l m):l.length=m.length/\∀(i:Nat) (a:α) (b:β),l[i]?=some a->m[i]?=some b->P a b:=by
 refine⟨PySem.Paired.length h,fun i a b h1 h2=>?_⟩
 obtain⟨b',e,p⟩:=L2.Paired.at2 h i a h1
 rw[h2] at e;cases e;exact p
end VS
namespace VS
open L2
def Run(s:DS)(sl:Sl)(ce:Ce)(Q:O->Prop):Prop:=∃o,s sl ce=some o/\Q o
def Nx(P:Sl->Ce->Prop):O->Prop
 | .go .nx sl ce=>P sl ce
 | .go .ct sl ce=>P sl ce
 | _=>False
def Rt(P:W->Ce->Prop):O->Prop
 | .go (.rt w) _ ce=>P w ce
 | _=>False
def NR(P:Sl->Ce->Prop)(T:W->Ce->Prop):O->Prop
 | .go .nx sl ce=>P sl ce
 | .go .ct sl ce=>P sl ce
 | .go (.rt w) _ ce=>T w ce
 | _=>False
section
variable {s a b:DS} {sl sl':Sl} {ce ce' c1 c2 c3:Ce} {Q Q':O->Prop} {d e:Sl->M W} {w x y:W} {i:Nat} {p q:Bool} {ta tb:Sl->M Bool}
theorem Run.mono(h:Run s sl ce Q)(m:∀o,Q o->Q' o):Run s sl ce Q':=by
 obtain⟨o,e,q⟩:=h;exact⟨o,e,m o q⟩
theorem ze0(q:Q (.go .nx sl ce)):Run zby sl ce Q:=⟨_,rfl,q⟩
theorem zax(h:e sl ce=some (.ok w ce'))(q:Q (.go (.rt w) sl ce')):Run (zbt e) sl ce Q:=⟨_,by simp only[zbt,lft,h],q⟩
theorem zfO(h:e sl ce=some (.ok w ce'))(q:Q (.go .nx sl ce')):Run (dEx e) sl ce Q:=⟨_,by simp only[dEx,lft,h],q⟩
theorem zg0(h:ta sl ce=some (.ok p ce'))(ht:p=true->Run a sl ce' Q)(hf:p=false->Run b sl ce' Q):Run (dIf ta a b) sl ce Q:=by
 cases p with
 | true=>obtain⟨o,e,q⟩:=ht rfl;exact⟨o,by rw[zpf h];exact e,q⟩
 | false=>obtain⟨o,e,q⟩:=hf rfl;exact⟨o,by rw[zpg h];exact e,q⟩
theorem zcz(h:a sl ce=some (.go .nx sl' ce'))(q:Run b sl' ce' Q):Run (zaG a b) sl ce Q:=by
 obtain⟨o,e,q⟩:=q;exact⟨o,by rw[zjh h];exact e,q⟩
theorem zav(h:e sl ce=some (.ok w ce'))(q:Run b (sl.set i (some w)) ce' Q):Run (zaG (zbp i e) b) sl ce Q:=zcz (zmZ h) q
theorem zlQ(h:e sl ce=some (.ok w ce'))(q:Run b sl ce' Q):Run (zaG (dEx e) b) sl ce Q:=zcz (by simp only[dEx,lft,h]) q
theorem za2{c:DS}(h:Run c sl ce Q):Run (zaG zby c) sl ce Q:=h
theorem zcH{c:DS}(h:Run (zbt e) sl ce Q):Run (zaG (zbt e) c) sl ce Q:=by
 obtain⟨o,e',q⟩:=h
 refine⟨o,?_,q⟩
 simp only[zaG]
 simp only[zbt,lft] at e' ⊢
 cases h:e sl ce with
 | none=>rw[h] at e';cases e'
 | some r=>rw[h] at e';cases r<;>exact e'
theorem zbo{c:DS}(h:ta sl ce=some (.ok p ce'))(ht:p=true->Run (zaG a c) sl ce' Q)(hf:p=false->Run (zaG b c) sl ce' Q):Run (zaG (dIf ta a b) c) sl ce Q:=by
 cases p with
 | true=>obtain⟨o,e,q⟩:=ht rfl;exact⟨o,by rw[<- e];simp only[zaG,zpf h],q⟩
 | false=>obtain⟨o,e,q⟩:=hf rfl;exact⟨o,by rw[<- e];simp only[zaG,zpg h],q⟩
end
section
variable {α:Type} {en:α->W} {src:Src} {g:DG} {body b:DS} {Q:O->Prop}
theorem zdE(xs:List α)(R:List α->Sl->Ce->Prop)(T:W->Ce->Prop)(step:∀d x r sl ce,d++x::r=xs->R d sl ce->src.Stays ce/\∃sl1,g (en x) sl ce=some (sl1,ce)/\Run body sl1 ce (NR (R (d++[x])) T))(hst:∀sl ce,R xs sl ce->src.Stays ce) :
  ∀(r d:List α) (sl:Sl) (ce:Ce),d++r=xs->R d sl ce->Run (zgV src g body (r.map en)) sl ce fun o=>(∃sl' ce',o=.go .nx sl' ce'/\R xs sl' ce')\/∃w sl' ce',o=.go (.rt w) sl' ce'/\T w ce'
 | [],d,sl,ce,e,h=>by
  rw[List.append_nil] at e
  subst e
  exact⟨_,zkX (hst _ _ h),.inl ⟨_,_,rfl,h⟩⟩
 | x::r,d,sl,ce,e,h=>by
  obtain⟨hs,sl1,e1,o,e2,q⟩:=step d x r sl ce e h
  have go:∀sl2 ce2,R (d++[x]) sl2 ce2->Run (zgV src g body (r.map en)) sl2 ce2 fun o=>(∃sl' ce',o=.go .nx sl' ce'/\R xs sl' ce')\/∃w sl' ce',o=.go (.rt w) sl' ce'/\T w ce':=fun sl2 ce2 h2=>zdE xs R T step hst r (d++[x]) sl2 ce2 (by rw[List.append_assoc];exact e) h2
  cases o with
  | ex x c=>exact q.elim
  | go f sl2 ce2 =>
   cases f with
   | nx =>
    obtain⟨o,e3,q3⟩:=go sl2 ce2 q
    exact⟨o,by simp only[List.map_cons,zgV,if_pos hs,e1,e2];exact e3,q3⟩
   | ct =>
    obtain⟨o,e3,q3⟩:=go sl2 ce2 q
    exact⟨o,by simp only[List.map_cons,zgV,if_pos hs,e1,e2];exact e3,q3⟩
   | bk=>exact q.elim
   | rt w=>exact⟨.go (.rt w) sl2 ce2,by simp only[List.map_cons,zgV,if_pos hs,e1,e2],.inr ⟨w,sl2,ce2,rfl,q⟩⟩
theorem zjo{di:Sl->M Src}{sl:Sl}{ce ce0:Ce}{i:Nat}{xs:List α}(hi:di sl ce=some (.ok src ce0))(hx:src.items=xs.map en)(R:List α->Sl->Ce->Prop)(h0:R [] sl ce0)(step:∀d x r sl ce,d++x::r=xs->x∈xs->R d sl ce->src.Stays ce/\Run body (sl.set i (some (en x))) ce (Nx (R (d++[x]))))(hst:∀sl ce,R xs sl ce->src.Stays ce)(fin:∀sl ce,R xs sl ce->Q (.go .nx sl ce)):Run (zd0 di (gN i) body) sl ce Q:=by
 obtain⟨o,e,q⟩:=zdE (g:=gN i) (body:=body) (en:=en) (src:=src) xs R (fun _ _=>False) (fun d x r sl ce e h=>by
  obtain⟨h1,h2⟩:=step d x r sl ce e (by rw[<- e];simp) h
  exact⟨h1,_,rfl,h2.mono fun o q=>by
   cases o with
   | ex x c=>exact q.elim
   | go f sl2 ce2=>cases f<;>first|exact q|exact q.elim⟩) hst xs [] sl ce0 rfl h0
 rcases q with ⟨sl',ce',rfl,h⟩|⟨w,sl',ce',rfl,h⟩
 ·exact⟨_,by rw[zeZ hi,hx];exact e,fin _ _ h⟩
 ·exact h.elim
theorem zgn{di:Sl->M Src}{sl:Sl}{ce ce0:Ce}{i:Nat}{xs:List α}(hi:di sl ce=some (.ok src ce0))(hx:src.items=xs.map en)(R:List α->Sl->Ce->Prop)(h0:R [] sl ce0)(step:∀d x r sl ce,d++x::r=xs->x∈xs->R d sl ce->src.Stays ce/\Run body (sl.set i (some (en x))) ce (Nx (R (d++[x]))))(hst:∀sl ce,R xs sl ce->src.Stays ce)(fin:∀sl ce,R xs sl ce->Run b sl ce Q):Run (zaG (zd0 di (gN i) body) b) sl ce Q:=by
 obtain⟨o,e,q⟩:=zjo (Q:=fun o=>∃sl' ce',o=.go .nx sl' ce'/\Run b sl' ce' Q) (body:=body) (i:=i) hi hx R h0 step hst fun sl ce h=>⟨sl,ce,rfl,fin sl ce h⟩
 obtain⟨sl',ce',rfl,h⟩:=q
 exact zcz e h
theorem zjp{σ:Type}{c:Sl->M Bool}{sl:Sl}{ce:Ce}{fu:Nat}(R:σ->Sl->Ce->Prop)(m:σ->Nat)(s0:σ)(h0:R s0 sl ce)(hm:m s0<fu)(step:∀s sl ce,R s sl ce->∃p,c sl ce=some (.ok p ce)/\(p=true->Run body sl ce (Nx fun sl2 ce2=>∃s2,m s2<m s/\R s2 sl2 ce2))/\(p=false->Q (.go .nx sl ce))):Run (zcc c body fu) sl ce Q:=by
 induction fu generalizing s0 sl ce with
 | zero=>exact absurd hm (Nat.not_lt_zero _)
 | succ fu ih =>
  obtain⟨p,e,ht,hf⟩:=step s0 sl ce h0
  cases p with
  | false=>exact⟨_,by simp only[zcc,lft,e],hf rfl⟩
  | true =>
   obtain⟨o,e2,q⟩:=ht rfl
   cases o with
   | ex x c=>exact q.elim
   | go f sl2 ce2 =>
    cases f with
    | nx =>
     obtain⟨s2,hs,r⟩:=q
     obtain⟨o,e3,q3⟩:=ih s2 r (by omega)
     exact⟨o,by simp only[zcc,lft,e,e2];exact e3,q3⟩
    | ct =>
     obtain⟨s2,hs,r⟩:=q
     obtain⟨o,e3,q3⟩:=ih s2 r (by omega)
     exact⟨o,by simp only[zcc,lft,e,e2];exact e3,q3⟩
    | bk=>exact q.elim
    | rt w=>exact q.elim
theorem zm0{a b:DS}{sl:Sl}{ce:Ce}(h:Run a sl ce fun o=>∃sl' ce',o=.go .nx sl' ce'/\Run b sl' ce' Q):Run (zaG a b) sl ce Q:=by
 obtain⟨o,e,sl',ce',rfl,q⟩:=h
 exact zcz e q
end
section
variable {sl:Sl} {ce c1 c2 c3:Ce} {a b:Sl->M W} {w x y:W} {i:Nat} {p q:Bool} {ta tb:Sl->M Bool} {ra:Sl->M (List W)} {xs ws:List W} {src:Src}
theorem zae(h:sl[i]?=some (some w)):zah i sl ce=some (.ok w ce):=by simp only[zah,h]
theorem zaK:dC w sl ce=some (.ok w ce):=rfl
theorem zaL{f:W->W->Option W}(ha:a sl ce=some (.ok x c1))(hb:b sl c1=some (.ok y c2))(h:f x y=some w):dOp f a b sl ce=some (.ok w c2):=by simp only[dOp,bnd,look,ha,hb,h,Option.map_some]
theorem zaH{f:Ce->W->W->Option W}(ha:a sl ce=some (.ok x c1))(hb:b sl c1=some (.ok y c2))(h:f c2 x y=some w):zaY f a b sl ce=some (.ok w c2):=by simp only[zaY,bnd,look,ha,hb,h,Option.map_some]
theorem zjq{f:W->Option W}(ha:a sl ce=some (.ok x c1))(h:f x=some w):dUn f a sl ce=some (.ok w c1):=by simp only[dUn,bnd,look,ha,h,Option.map_some]
theorem zeC(ha:a sl ce=some (.ok (.bl p) c1)):dB a sl ce=some (.ok p c1):=by simp only[dB,bnd,look,ha,Option.map_some]
theorem zjr(ha:a sl ce=some (.ok x c1))(h:zgb c1 x=some p):zki a sl ce=some (.ok p c1):=by simp only[zki,bnd,look,ha,h,Option.map_some]
theorem zjs(ha:ta sl ce=some (.ok p c1))(hb:p=true->tb sl c1=some (.ok q c1)):zgf ta tb sl ce=some (.ok (p&&q) c1):=by
 cases p with
 | true=>simp only[zgf,bnd,ha,hb rfl,Bool.true_and]
 | false=>simp only[zgf,bnd,ha,Bool.false_and];rfl
theorem zfP(ha:ta sl ce=some (.ok p c1))(hb:p=false->tb sl c1=some (.ok q c1)):zkJ ta tb sl ce=some (.ok (p||q) c1):=by
 cases p with
 | true=>simp only[zkJ,bnd,ha,Bool.true_or];rfl
 | false=>simp only[zkJ,bnd,ha,hb rfl,Bool.false_or]
theorem zbX(ha:ta sl ce=some (.ok p c1)):zcF ta sl ce=some (.ok (!p) c1):=by simp only[zcF,bnd,ha];rfl
theorem zaj:zao sl ce=some (.ok [] ce):=rfl
theorem zac(ha:a sl ce=some (.ok x c1))(hr:ra sl c1=some (.ok xs c2)):zad a ra sl ce=some (.ok (x::xs) c2):=by simp only[zad,bnd,ha,hr];rfl
theorem zcf{f:List W->M W}(hr:ra sl ce=some (.ok ws c1))(h:f ws c1=some (.ok w c2)):dBi f ra sl ce=some (.ok w c2):=by simp only[dBi,bnd,hr,h]
theorem zay{f:List W->M W}{n:Nat}(hr:ra sl ce=some (.ok ws c1))(hl:ws.length=n)(h:f ws c1=some (.ok w c2)):zar n f ra sl ce=some (.ok w c2):=by simp only[zar,bnd,hr,if_pos hl,h]
theorem zaU(hr:ra sl ce=some (.ok ws c1))(hl:ws.length<=PySem.sizeLine):zbQ ra sl ce=some (.ok (.tup ws) c1):=by simp only[zbQ,bnd,hr,mkF,if_pos hl]
theorem zbf(hr:ra sl ce=some (.ok ws c1))(hl:ws.length<=PySem.sizeLine):zdm ra sl ce=some (.ok (.lst ws) c1):=by simp only[zdm,bnd,hr,mkF,if_pos hl]
theorem zd3(hr:ra sl ce=some (.ok ws c1))(hl:ws.length<=PySem.sizeLine):zcb ra sl ce=some (.ok (.cel c1.length) (c1++[.lst ws])):=by simp only[zcb,bnd,hr,mkC,if_pos hl]
theorem zm1:zhQ sl ce=some (.ok (.cel ce.length) (ce++[.dct []])):=by simp[zhQ,mkC]
theorem zh0{f:W->List W->M W}{ys:List W}(ha:a sl ce=some (.ok x c1))(hl:zdX c1 x=some ys)(hr:ra sl c1=some (.ok ws c2))(h:f x ws c2=some (.ok w c3)):dMt f a ra sl ce=some (.ok w c3):=by simp only[dMt,bnd,ha,look,zkk,hl,hr,h,Option.map_some]
theorem zph{f:W->List W->M W}{ys:List W}(ha:a sl ce=some (.ok x c1))(hl:zdX c1 x=some ys)(h:f x [] c1=some (.ok w c3)):zoV f a sl ce=some (.ok w c3):=by simp only[zoV,bnd,ha,look,zkk,hl,h,Option.map_some]
theorem zkY(ha:a sl ce=some (.ok x c1))(h:zgT c1 x=some src):dIL a sl ce=some (.ok src c1):=by simp only[dIL,bnd,ha,look,h,Option.map_some]
theorem zpi(ha:a sl ce=some (.ok x c1))(h:zqT x=some src):dIT a sl ce=some (.ok src c1):=by simp only[dIT,bnd,ha,look,h,Option.map_some]
theorem zjt{n:Nat}(ha:ra sl ce=some (.ok [nW n] c1))(h:n<=1000):ziq ra sl ce=some (.ok (.rng 0 n) c1):=zpe ha h
theorem zpj{α:Type}{mk:List W->M W}{js:List Nat}{di:Sl->M Src}{c:Sl->M Bool}{e:Sl->M W}{en:α->W}{zs:List α}{t:α->Bool}{g:α->W}(hi:di sl ce=some (.ok src c1))(hx:src.items=zs.map en)(hst:src.Stays c1)(hc:∀x∈zs,c (some (en x)::zdn js sl) c1=some (.ok (t x) c1))(he:∀x∈zs,t x=true->e (some (en x)::zdn js sl) c1=some (.ok (g x) c1))(hz:zs.length<=PySem.sizeLine)(hm:mk ((zs.filter t).map g) c1=some (.ok w c2)):dLC mk js di c e sl ce=some (.ok w c2):=by
 have key:∀(l:List α) (ys:List W),(∀x∈l,x∈zs)->ys.length+l.length<=PySem.sizeLine->lcL src (zdn js sl) c e (l.map en) ys c1=some (.ok (ys++(l.filter t).map g) c1):=by
  intro l
  induction l with
  | nil=>intro ys _ _;simp only[List.map_nil,lcL,if_pos hst,List.filter_nil,List.append_nil]
  | cons x r ih =>
   intro ys hl hz
   simp only[List.length_cons] at hz
   rw[List.map_cons,zeT ⟨hst,by omega⟩,zbF (hc x (hl x List.mem_cons_self))]
   cases ht:t x with
   | true =>
    show bnd (e (some (en x)::zdn js sl)) (fun y=>lcL src (zdn js sl) c e (r.map en) (ys++[y])) c1=_
    rw[zbF (he x (hl x List.mem_cons_self) ht),ih _ (fun y hy=>hl y (List.mem_cons_of_mem _ hy)) (by simp only[List.length_append,List.length_cons,List.length_nil];omega),List.filter_cons_of_pos ht,List.map_cons,List.append_assoc]
    rfl
   | false =>
    show lcL src (zdn js sl) c e (r.map en) ys c1=_
    rw[ih _ (fun y hy=>hl y (List.mem_cons_of_mem _ hy)) (by omega),List.filter_cons_of_neg (by simp[ht])]
 show bnd (di sl) (fun s=>bnd (lcL s (zdn js sl) c e s.items []) mk) ce=_
 rw[zbF hi,hx,zbF (key zs [] (fun _ h=>h) (by simpa using hz)),List.nil_append]
 exact hm
theorem ze1(h:xs.length<=PySem.sizeLine):zb6 xs ce=some (.ok (.lst xs) ce):=if_pos h
theorem zc7(h:xs.length<=PySem.sizeLine):zgg xs ce=some (.ok (.cel ce.length) (ce++[.lst xs])):=if_pos h
theorem zpk{o i v:Sl->M W}{ow iw:W}{key:Key}{k:Nat}{kvs:List (Key×W)}{Q:O->Prop}(h1:v sl ce=some (.ok w c1))(h2:o sl c1=some (.ok ow c2))(h3:i sl c2=some (.ok iw c3))(h4:zio iw=some key)(h5:zlF c3 ow=some (k,kvs))(h6:kvs.length<PySem.sizeLine)(q:Q (.go .nx sl (c3.set k (.dct (zhS kvs key w))))):Run (zlG o i v) sl ce Q:=⟨_,zlL h1 h2 h3 h4 h5 h6,q⟩
theorem zm2{o i v:Sl->M W}{s:DS}{ow iw:W}{key:Key}{k:Nat}{kvs:List (Key×W)}{Q:O->Prop}(h1:v sl ce=some (.ok w c1))(h2:o sl c1=some (.ok ow c2))(h3:i sl c2=some (.ok iw c3))(h4:zio iw=some key)(h5:zlF c3 ow=some (k,kvs))(h6:kvs.length<PySem.sizeLine)(q:Run s sl (c3.set k (.dct (zhS kvs key w))) Q):Run (zaG (zlG o i v) s) sl ce Q:=zcz (zlL h1 h2 h3 h4 h5 h6) q
end
structure Own (b ce:Ce) (l:List (Nat×C)):Prop where
 cut:∃t,ce=b++t
 get:∀p∈l,ce[p.1]?=some p.2
 ge:∀p∈l,b.length<=p.1
 nd:(l.map Prod.fst).Nodup
namespace Own
variable {b ce:Ce} {l:List (Nat×C)} {k k1 k2 k3:Nat} {c c' q1 q2 q3:C}
theorem start(b:Ce):Own b b []:=⟨⟨[],by simp⟩,by simp,by simp,by simp⟩
theorem alloc(h:Own b ce l)(c:C):Own b (ce++[c]) ((ce.length,c)::l):=by
 obtain⟨⟨t,e⟩,h2,h3,h4⟩:=h
 have lt:∀p∈l,p.1<ce.length:=fun p hp=>by
  have:=h2 p hp
  exact(List.getElem?_eq_some_iff.mp this).1
 refine⟨⟨t++[c],by rw[e,List.append_assoc]⟩,fun p hp=>?_,fun p hp=>?_,?_⟩
 ·rcases List.mem_cons.mp hp with rfl|hp
  ·exact zcy _ _
  ·rw[List.getElem?_append_left (lt p hp)];exact h2 p hp
 ·rcases List.mem_cons.mp hp with rfl|hp
  ·simp[e]
  ·exact h3 p hp
 ·simp only[List.map_cons,List.nodup_cons]
  exact⟨fun q=>by obtain⟨p,hp,e⟩:=List.mem_map.mp q;have:=lt p hp;omega,h4⟩
theorem perm{l':List (Nat×C)}(h:Own b ce l)(p:l.Perm l'):Own b ce l' :=
 ⟨h.cut,fun q hq=>h.get q (p.symm.subset hq),fun q hq=>h.ge q (p.symm.subset hq),(p.map _).nodup h.nd⟩
theorem g0(h:Own b ce ((k,c)::l)):ce[k]?=some c:=h.get _ List.mem_cons_self
theorem g1(h:Own b ce ((k1,q1)::(k,c)::l)):ce[k]?=some c:=h.get (k,c) (by simp)
theorem set0(h:Own b ce ((k,c)::l))(c':C):Own b (ce.set k c') ((k,c')::l):=by
 have hk:k<ce.length:=(List.getElem?_eq_some_iff.mp h.g0).1
 obtain⟨⟨t,e⟩,h2,h3,h4⟩:=h
 have hb:=h3 (k,c) List.mem_cons_self
 have hn:∀p∈l,p.1≠k:=fun p hp q=>(List.nodup_cons.mp h4).1 (List.mem_map.mpr ⟨p,hp,q⟩)
 refine⟨⟨t.set (k-b.length) c',?_⟩,fun p hp=>?_,fun p hp=>?_,h4⟩
 ·rw[e,List.set_append_right _ _ hb]
 ·rcases List.mem_cons.mp hp with rfl|hp
  ·simp[hk]
  ·rw[List.getElem?_set_ne (Ne.symm (hn p hp))];exact h2 p (List.mem_cons_of_mem _ hp)
 ·rcases List.mem_cons.mp hp with rfl|hp
  ·exact hb
  ·exact h3 p (List.mem_cons_of_mem _ hp)
theorem set1(h:Own b ce ((k1,q1)::(k,c)::l))(c':C):Own b (ce.set k c') ((k1,q1)::(k,c')::l):=((h.perm (.swap _ _ _)).set0 c').perm (.swap _ _ _)
theorem finC(h:Own b ce l){w:W}(hb:Bel b.length w):finC b ce w=some (.ok w b):=by
 obtain⟨t,rfl⟩:=h.cut
 exact zdB hb
theorem finO(h:Own b ce ((k,c)::l))(hb:zgk b.length c):finO b ce (.cel k)=some (.ok (.cel b.length) (b++[c])):=by
 have g:=h.g0
 have ge:=h.ge _ List.mem_cons_self
 obtain⟨t,rfl⟩:=h.cut
 obtain⟨j,hj⟩:=Nat.exists_eq_add_of_le ge
 have hj':k=b.length+j:=hj
 subst hj'
 exact zkU (by rw[<- zp0 b t j];exact g) hb
end Own
theorem zfm{fin:Ce->Ce->W->Option (R W)}{n:Nat}{body:DS}{ws:List W}{ce:Ce}{r:Option (R W)}(h:Run body (ws.map some++List.replicate (n-ws.length) none) ce (Rt fun w ce'=>fin ce ce' w=r)):dFn fin n body ws ce=r:=by
 obtain⟨o,e,q⟩:=h
 cases o with
 | ex x c=>exact q.elim
 | go f sl c=>cases f with
  | rt w=>exact zlO e q
  | nx=>exact q.elim
  | bk=>exact q.elim
  | ct=>exact q.elim
section
variable {ce:Ce} {k n p j:Nat} {b:List (List Nat)} {is:List Int} {l:List Nat} {xs:List W}
abbrev wS(is:List Int):W:=.tup (is.map W.int)
abbrev wL(l:List Nat):W:=.lst (l.map nW)
abbrev sW(ns:List Int):W:=.lst (ns.map W.int)
theorem zpl(h:p<b.length):ixW ce (wB b) (nW p)=some (wT (b.getD p [])):=by
 rw[zjl (xs:=b.map wT) rfl,List.getElem?_map,List.getD_eq_getElem?_getD,List.getElem?_eq_getElem h];rfl
theorem zlR(h:p<l.length):ixW ce (wL l) (nW p)=some (nW (l.getD p 0)):=by
 rw[zjl (xs:=l.map nW) rfl,List.getElem?_map,List.getD_eq_getElem?_getD,List.getElem?_eq_getElem h];rfl
theorem zcV(h:p<is.length):ixW ce (wS is) (nW p)=some (.int (is.getD p 0)):=by
 rw[zjl (xs:=is.map W.int) rfl,List.getElem?_map,List.getD_eq_getElem?_getD,List.getElem?_eq_getElem h];rfl
theorem zju:zf2 [wL l] ce=some (.ok (nW l.length) ce):=by simp[zf2];rfl
theorem ze2:zf2 [wB b] ce=some (.ok (nW b.length) ce):=by simp[zf2,wB];rfl
theorem zm3{F:List Nat}(g:ce[k]?=some (.dct (kvs F))){ng:Bool}:zlD ng ce (nW p) (.cel k)=some (.bl (if ng then !decide (p∈F) else decide (p∈F))):=by
 have ky:zio (nW p)=some (.inl (p:Int)):=rfl
 simp only[zlD,ky,zpa g,zmY]
theorem zjv{y:W}(g:ce[k]?=some (.lst xs))(h:xs.length<PySem.sizeLine):zhX (.cel k) [y] ce=some (.ok .non (ce.set k (.lst (xs++[y])))):=zo7 (zfL g) h
end
end VS
namespace VS
open L2
def ins(F:List Nat)(y:Nat):List Nat:=if y∈F then F else F++[y]
theorem ins_mem{F:List Nat}{y x:Nat}:x∈ins F y↔x∈F\/x=y:=by
 unfold ins
 split
 ·rename_i h
  exact⟨.inl,fun q=>q.elim id fun e=>e▸h⟩
 ·simp
theorem zlS{F:List Nat}{y:Nat}(h:F.Nodup):(ins F y).Nodup:=by
 unfold ins
 split
 ·exact h
 ·rename_i hn
  rw[List.nodup_append]
  exact⟨h,by simp,fun a ha b hb=>by rw[List.mem_singleton] at hb;subst hb;intro q;subst q;exact hn ha⟩
theorem zjw(F:List Nat)(y:Nat):zhS (kvs F) (.inl (y:Int)) (.bl true)=kvs (ins F y):=by
 unfold ins
 split
 ·rename_i h
  have e:((kvs F).any fun kv=>decide (kv.1=(.inl (y:Int):Key)))=true:=List.any_eq_true.mpr ⟨(.inl (y:Int),.bl true),List.mem_map.mpr ⟨y,h,rfl⟩,by simp⟩
  unfold zhS
  rw[e]
  simp only[if_true]
  conv=>rhs;rw[<- List.map_id (kvs F)]
  apply List.map_congr_left
  intro p hp
  obtain⟨x,hx,rfl⟩:=List.mem_map.mp hp
  simp only[id]
  split
  ·rename_i q;simp at q;rw[q]
  ·rfl
 ·rename_i h;exact zgm F y h
theorem ze3{F:List Nat}{n:Nat}(nd:F.Nodup)(lt:∀x∈F,x<n):zce F=(List.range n).filter fun x=>decide (x∈F):=by
 have h:srt (toI F)=toI ((List.range n).filter fun x=>decide (x∈F)):=by
  refine zbV ((zbk _).trans ?_) (zcp _) ?_
  ·refine List.Perm.map _ (zeY nd (List.Pairwise.filter _ List.nodup_range) fun x=>?_)
   simp only[List.mem_filter,List.mem_range,decide_eq_true_eq]
   exact⟨fun h=>⟨lt x h,h⟩,fun h=>h.2⟩
  ·unfold toI
   rw[List.pairwise_map]
   exact(List.Pairwise.filter _ List.pairwise_lt_range).imp fun h=>by omega
 unfold zce
 rw[h]
 unfold toI
 rw[List.map_map]
 conv=>rhs;rw[<- List.map_id (List.filter _ _)]
 apply List.map_congr_left
 intro x _
 simp
theorem zg1{ce:Ce}{k:Nat}{F:List Nat}{mk:List W->M W}(g:ce[k]?=some (.dct (kvs F)))(h:F.length<64):za5 mk [.cel k] ce=mk ((zce F).map nW) ce:=by
 have l:zdX ce (.cel k)=none:=by simp only[zdX,g]
 have g':znN ce (.cel k)=some (kvs F):=by simp only[znN,g]
 simp only[za5,l,g',zkW,zbK,if_pos h,zdC]
theorem zkZ{ce:Ce}{k:Nat}{l:List Nat}{mk:List W->M W}(g:ce[k]?=some (.lst (l.map nW)))(h:l.length<64):za5 mk [.cel k] ce=mk ((zce l).map nW) ce:=by
 simp only[za5,zcx g,zgX,zbK,if_pos h,zdC]
inductive LstOf (ce:Ce):W->List W->Prop where
 | fr (xs:List W):LstOf ce (.lst xs) xs
 | cl {k:Nat} {xs:List W} (h:ce[k]?=some (.lst xs)):LstOf ce (.cel k) xs
namespace LstOf
variable {ce:Ce} {w:W} {xs:List W}
theorem src(h:LstOf ce w xs):∃s,zgT ce w=some s/\s.items=xs/\s.Stays ce:=by
 cases h with
 | fr=>exact⟨.lst xs,rfl,rfl,trivial⟩
 | cl h=>exact⟨.cell _ xs,by simp only[zgT,h],rfl,h⟩
end LstOf
theorem zg2{ce:Ce}{w:W}{xs:List W}(h:LstOf ce w xs)(hz:xs.length<=PySem.sizeLine):zbz [w] ce=some (.ok (.tup xs) ce):=by
 cases h with
 | fr=>exact if_pos hz
 | cl h=>simp only[zbz,zcx h];exact if_pos hz
theorem zm4{ce:Ce}{w:W}{xs:List W}{mk:List W->M W}(h:zhP ce w=some xs):zjf mk [w] ce=mk xs ce:=by simp only[zjf,h]
def zfQ(di:Sl->M Src)(sl:Sl)(ce c1:Ce)(xs:List W):Prop:=∃s,di sl ce=some (.ok s c1)/\s.items=xs/\s.Stays c1
def SrcFix(di:Sl->M Src)(sl:Sl)(ce c1:Ce)(xs:List W):Prop:=∃s,di sl ce=some (.ok s c1)/\s.items=xs/\∀c,s.Stays c
section
variable {di:Sl->M Src} {sl:Sl} {ce c1 c2:Ce} {xs:List W} {a:Sl->M W} {ra:Sl->M (List W)} {w:W}
theorem SrcFix.is(h:SrcFix di sl ce c1 xs):zfQ di sl ce c1 xs:=by obtain⟨s,h1,h2,h3⟩:=h;exact⟨s,h1,h2,h3 _⟩
theorem zgo(h:a sl ce=some (.ok (.lst xs) c1)):SrcFix (dIL a) sl ce c1 xs:=⟨.lst xs,zkY h rfl,rfl,fun _=>trivial⟩
theorem zpm(h:a sl ce=some (.ok (.tup xs) c1)):SrcFix (dIT a) sl ce c1 xs:=⟨.tup xs,zpi h rfl,rfl,fun _=>trivial⟩
theorem zjx{l:List Nat}(h:a sl ce=some (.ok (wT l) c1)):SrcFix (dIT a) sl ce c1 (l.map nW):=zpm h
theorem zh1{n:Nat}(h:ra sl ce=some (.ok [nW n] c1))(hn:n<=1000):SrcFix (ziq ra) sl ce c1 ((List.range n).map nW):=⟨.rng 0 n,zjt h hn,zd2 n,fun _=>trivial⟩
theorem zjy(h:a sl ce=some (.ok w c1))(hw:LstOf c1 w xs):zfQ (dIL a) sl ce c1 xs:=by
 obtain⟨s,h1,h2,h3⟩:=hw.src
 exact⟨s,zkY h h1,h2,h3⟩
variable {α:Type} {en:α->W} {zs:List α} {t:α->Bool} {g:α->W} {js:List Nat} {c:Sl->M Bool} {e:Sl->M W}
theorem lcF(hi:zfQ di sl ce c1 (zs.map en))(hz:zs.length<=PySem.sizeLine)(hc:∀x∈zs,c (some (en x)::zdn js sl) c1=some (.ok (t x) c1))(he:∀x∈zs,t x=true->e (some (en x)::zdn js sl) c1=some (.ok (g x) c1)) :
  dLC zb6 js di c e sl ce=some (.ok (.lst ((zs.filter t).map g)) c1):=by
 obtain⟨s,h1,h2,h3⟩:=hi
 exact zpj h1 h2 h3 hc he hz (ze1 (by rw[List.length_map];exact Nat.le_trans (List.length_filter_le _ _) hz))
theorem lcC(hi:zfQ di sl ce c1 (zs.map en))(hz:zs.length<=PySem.sizeLine)(hc:∀x∈zs,c (some (en x)::zdn js sl) c1=some (.ok (t x) c1))(he:∀x∈zs,t x=true->e (some (en x)::zdn js sl) c1=some (.ok (g x) c1)) :
  dLC zgg js di c e sl ce=some (.ok (.cel c1.length) (c1++[.lst ((zs.filter t).map g)])):=by
 obtain⟨s,h1,h2,h3⟩:=hi
 exact zpj h1 h2 h3 hc he hz (zc7 (by rw[List.length_map];exact Nat.le_trans (List.length_filter_le _ _) hz))
theorem zg3(zs:List α):zs.filter (fun _=>true)=zs:=List.filter_eq_self.mpr fun _ _=>rfl
theorem zq8(hi:zfQ di sl ce c1 (zs.map en))(hz:zs.length<=PySem.sizeLine)(he:∀x∈zs,e (some (en x)::zdn js sl) c1=some (.ok (g x) c1)) :
  dLC zb6 js di zeS e sl ce=some (.ok (.lst (zs.map g)) c1):=by
 have h:=lcF (t:=fun _=>true) (js:=js) hi hz (c:=zeS) (fun _ _=>rfl) (fun x hx _=>he x hx)
 rwa [zg3] at h
theorem zrP(hi:zfQ di sl ce c1 (zs.map en))(hz:zs.length<=PySem.sizeLine)(he:∀x∈zs,e (some (en x)::zdn js sl) c1=some (.ok (g x) c1)) :
  dLC zgg js di zeS e sl ce=some (.ok (.cel c1.length) (c1++[.lst (zs.map g)])):=by
 have h:=lcC (t:=fun _=>true) (js:=js) hi hz (c:=zeS) (fun _ _=>rfl) (fun x hx _=>he x hx)
 rwa [zg3] at h
theorem zp1(hi:zfQ di sl ce c1 (zs.map en))(hz:zs.length<=PySem.sizeLine)(hc:∀x∈zs,c (some (en x)::zdn js sl) c1=some (.ok (t x) c1)):dLC zb6 js di c (zah 0) sl ce=some (.ok (.lst ((zs.filter t).map en)) c1) :=
 lcF hi hz hc fun _ _ _=>rfl
theorem zrQ(hi:zfQ di sl ce c1 (zs.map en))(hz:zs.length<=PySem.sizeLine)(hc:∀x∈zs,c (some (en x)::zdn js sl) c1=some (.ok (t x) c1)):dLC zgg js di c (zah 0) sl ce=some (.ok (.cel c1.length) (c1++[.lst ((zs.filter t).map en)])) :=
 lcC hi hz hc fun _ _ _=>rfl
theorem ze4{body:DS}{i:Nat}{Q:O->Prop}(hi:SrcFix di sl ce c1 (zs.map en))(R:List α->Sl->Ce->Prop)(h0:R [] sl c1)(step:∀d x r sl ce,d++x::r=zs->x∈zs->R d sl ce->Run body (sl.set i (some (en x))) ce (Nx (R (d++[x]))))(fin:∀sl ce,R zs sl ce->Q (.go .nx sl ce)):Run (zd0 di (gN i) body) sl ce Q:=by
 obtain⟨s,h1,h2,h3⟩:=hi
 exact zjo h1 h2 R h0 (fun d x r sl ce e m h=>⟨h3 _,step d x r sl ce e m h⟩) (fun _ _ _=>h3 _) fin
theorem zcW{body b:DS}{i:Nat}{Q:O->Prop}(hi:SrcFix di sl ce c1 (zs.map en))(R:List α->Sl->Ce->Prop)(h0:R [] sl c1)(step:∀d x r sl ce,d++x::r=zs->x∈zs->R d sl ce->Run body (sl.set i (some (en x))) ce (Nx (R (d++[x]))))(fin:∀sl ce,R zs sl ce->Run b sl ce Q):Run (zaG (zd0 di (gN i) body) b) sl ce Q:=by
 obtain⟨s,h1,h2,h3⟩:=hi
 exact zgn h1 h2 R h0 (fun d x r sl ce e m h=>⟨h3 _,step d x r sl ce e m h⟩) (fun _ _ _=>h3 _) fin
end
theorem zjz(ce:Ce)(x y:Int)(ng:Bool):eqW ng ce (.int x) (.int y)=some (.bl (if ng then !decide (x=y) else decide (x=y))):=by
 have d1:drf ce (.int x)=.int x:=rfl
 have d2:drf ce (.int y)=.int y:=rfl
 have c:∀i:Int,cln 8 (.int i)=true:=fun _=>rfl
 simp only[eqW,d1,d2,c,Bool.and_self,if_true,zjm]
theorem zbC{fin:Ce->Ce->W->Option (R W)}{n:Nat}{body:DS}{ws:List W}{ce:Ce}{w:W}{c':Ce}(sl:Sl)(e:ws.map some++List.replicate (n-ws.length) none=sl)(h:Run body sl ce (Rt fun v ce'=>fin ce ce' v=some (.ok w c'))):dFn fin n body ws ce=some (.ok w c'):=by
 subst e
 exact zfm h
section
variable {ce:Ce} {k p:Nat} {l:List Nat} {m:List Int} {i j:Int} {w w':W}
theorem eqI0:eqW false ce (.int i) (.int j)=some (.bl (decide (i=j))):=zjz _ _ _ _
theorem zsx:eqW true ce (.int i) (.int j)=some (.bl (!decide (i=j))):=zjz _ _ _ _
theorem zq9(g:ce[k]?=some (.dct (kvs l))):zlD true ce (nW p) (.cel k)=some (.bl (!decide (p∈l))):=zm3 g
end
section
variable {x y:W} {i j:Int} {n k:Nat} {ce:Ce}
theorem zgp(hx:x=.int i)(hy:y=.int j):zcE x y=some (.int (i+j)):=by subst hx;subst hy;rfl
theorem zjA(hx:x=.int i)(hy:y=.int j):zeA x y=some (.int (i-j)):=by subst hx;subst hy;rfl
theorem zjB(hx:x=.int i)(hy:y=.int j):fLt x y=some (.bl (decide (i<j))):=by subst hx;subst hy;rfl
theorem zgq(hx:x=.int i)(hy:y=.int j):zmV x y=some (.bl (decide (i=j))):=by subst hx;subst hy;rfl
theorem zgr(hx:x=.int i)(hy:y=.int j)(h:0<j):zcN x y=some (.int (i % j)):=by subst hx;subst hy;exact zlM h
theorem zjC(hx:x=.int i)(hy:y=.int j)(h:0<j/\j<1073741824):znL x y=some (.int (i / j)):=by subst hx;subst hy;exact zo9 h
theorem zbY(hx:x=.int i)(hy:y=.int j)(h:CMul i j):zin x y=some (.int (i*j)):=by subst hx;subst hy;exact zo8 h
theorem zpn(hx:x=.int i):zio x=some (.inl i):=by subst hx;rfl
end
section
variable {ce:Ce} {l:List Nat} {m:List Int} {w:W}
theorem zc8{P:W->Ce->Prop}{sl:Sl}(h:P w ce):Rt P (.go (.rt w) sl ce):=h
end
section
variable {ce c1:Ce} {l:List Nat} {k:Nat} {sl:Sl} {a:Sl->M W} {α:Type} {en:α->W} {zs:List α}
theorem zdF(l:List Nat):(zce l).length=l.length:=by rw[zce,List.length_map,(zbk _).length_eq,zbK]
theorem zjD{σ:Type}{c:Sl->M Bool}{body b:DS}{fu:Nat}{Q:O->Prop}(R:σ->Sl->Ce->Prop)(m:σ->Nat)(s0:σ)(h0:R s0 sl ce)(hm:m s0<fu)(step:∀s sl ce,R s sl ce->∃p,c sl ce=some (.ok p ce)/\(p=true->Run body sl ce (Nx fun sl2 ce2=>∃s2,m s2<m s/\R s2 sl2 ce2))/\(p=false->Run b sl ce Q)):Run (zaG (zcc c body fu) b) sl ce Q :=
 zm0 (zjp R m s0 h0 hm fun s sl ce h=>by
  obtain⟨p,e,ht,hf⟩:=step s sl ce h
  exact⟨p,e,ht,fun q=>⟨sl,ce,rfl,hf q⟩⟩)
end
theorem ze5(n:Nat):∀cs:List (List Nat),zcO n (cs.map wL)
 | []=>by simp only[List.map_nil,zcO]
 | a::r=>by simp only[List.map_cons,zcO,wL,Bel];exact⟨bels_nW n a,ze5 n r⟩
section
variable {ce:Ce} {k:Nat} {l:List Nat} {b:List (List Nat)} {m:List Int}
theorem zm5(g:ce[k]?=some (.lst (m.map W.int)))(h:m.length<=PySem.sizeLine):zbz [.cel k] ce=some (.ok (wS m) ce):=zg2 (.cl g) (by rw[List.length_map];exact h)
theorem zm6(h:b.length<=PySem.sizeLine):zbz [.lst (b.map wT)] ce=some (.ok (wB b) ce):=zg2 (.fr _) (by rw[List.length_map];exact h)
end
section
variable {ce:Ce} {k:Nat} {l l':List Nat} {m:List Int}
end
end VS
namespace VS
open PySem PySem.Spec PyProof.Rows L2
section
variable {X:Cx}
def zpo(K:PySem.W.Frag):R2:=fun x y H Q=>∃a b xs ys,x=.ref a/\y=.ref b/\SqT K H a xs/\SqT K H b ys/\xs.length+ys.length<=sizeLine /\
 (xs=[]->Q (.ref b) H)/\(ys=[]->Q (.ref a) H)/\(∀p,H p=none->Q (.ref p) (upd H p (.tup (xs++ys))))
theorem zk0:OpR X (binaryOp .Add) (zpo X.K):=by
 intro pins s σ H x y v u Q I rx ry h
 obtain⟨a,b,xs,ys,rfl,rfl,ha,hb,hz,q0,q1,q2⟩:=h
 by_cases hx:xs=[]
 ·cases rx
  cases ry
  obtain⟨its,r1,p1,_⟩:=I.tuple ha
  obtain⟨its2,r2,p2,_⟩:=I.tuple hb
  obtain⟨⟨cls,dd,data,sl⟩,ho,hc,n,hd⟩:=id p1
  obtain⟨⟨cls2,dd2,data2,sl2⟩,ho2,hc2,n2,hd2⟩:=id p2
  simp only at hc hd hc2 hd2
  subst hc hd hc2 hd2
  have he:its=[]:=r1.nil_iff.mpr hx
  exact concat_meets ⟨_,ho,rfl⟩ ⟨_,ho2,rfl⟩ noFill_tuple_add seq_tuple_add PySem.F.slot_tuple_add PySem.F.entry_tuple_add (PySem.F.args_tuple_add_2 _ _)
   (tuple_addW0 a b its.toArray its2.toArray n n2 dd dd2 sl sl2 (by simp[he])) ⟨ho,ho2,⟨.ref b,H,I,rfl,q0 hx⟩⟩
 ·exact zmw pins s σ H _ _ v u Q I rx ry ⟨a,b,xs,ys,rfl,rfl,ha,hb,hx,hz,q1,fun _=>q2⟩
end
section
variable {X:Cx} {G:Ga} {E:XK} {a b:Expr} {da db:Sl->M W} {pos:Pos}
def zm7(x y:W):M W:=fun ce=>match x,y with
 | .tup xs,.tup ys=>if xs.length+ys.length<=sizeLine then some (.ok (.tup (xs++ys)) ce) else none
 | _,_=>none
def zh2(a b:Sl->M W):Sl->M W:=fun sl=>bnd (a sl) fun x=>bnd (b sl) fun y=>zm7 x y
theorem zjE(ha:PE X a (zau G E da))(hb:PE X b (zau G E db)):PE X (.BinOp a .Add b pos) (zau G E (zh2 da db)):=by
 refine PE.imp (zks zk0 ha hb) fun σ H Q h=>zfy h fun F as sl ce H2 x y wx wy S rx ry P=>?_
 revert P
 unfold zm7
 cases wx<;>first|exact fun P=>P.elim|skip
 rename_i xs
 cases wy<;>first|exact fun P=>P.elim|skip
 rename_i ys
 dsimp only
 split
 ·rename_i hl
  intro P
  simp only[Rep] at rx ry
  obtain⟨p,vs,rfl,h1,r1⟩:=rx
  obtain⟨p',us,rfl,h2,r2⟩:=ry
  have P':Post G E Rep F as σ sl Q (mkF (.tup (xs++ys)) (xs++ys).length ce):=by
   have:mkF (.tup (xs++ys)) (xs++ys).length ce=some (.ok (.tup (xs++ys)) ce):=if_pos (by rw[List.length_append];exact hl)
   rw[this];exact P
  refine⟨p,p',vs,us,rfl,rfl,.inl (.inl (S.st.sub _ _ h1)),.inl (.inl (S.st.sub _ _ h2)),by rw[r1.length,r2.length];exact hl,fun e=>?_,fun e=>?_,(zeR S (r1.append r2) P').2⟩
  ·have hx:xs=[]:=List.length_eq_zero_iff.mp (by rw[<- r1.length,e];rfl)
   subst hx
   exact P.done S (by simp only[Rep,List.nil_append];exact⟨p',us,rfl,h2,r2⟩)
  ·have hx:ys=[]:=List.length_eq_zero_iff.mp (by rw[<- r2.length,e];rfl)
   subst hx
   exact P.done S (by simp only[Rep,List.append_nil];exact⟨p,vs,rfl,h1,r1⟩)
 ·exact fun P=>P.elim
def zsN(ng:Bool):W->W->Option W
 | .bl c,.bl d=>some (.bl (if ng then c != d else c==d))
 | _,_=>none
end
end VS
namespace VS
open L2
section
variable {sl:Sl} {ce c1 c2:Ce} {a b:Sl->M W} {w x y:W} {xs ys:List W} {k n:Nat} {i:Int} {p q:Bool}
theorem zk1{key:Key}(ha:a sl (ce++[.dct []])=some (.ok x (ce++[.dct []])))(hb:b sl (ce++[.dct []])=some (.ok y (ce++[.dct []])))(hk:zio x=some key):zfK a b sl ce=some (.ok (.cel ce.length) (ce++[.dct [(key,y)]])):=by
 have g:(ce++[C.dct []])[ce.length]?=some (.dct []):=zcy _ _
 have s:(ce++[C.dct []]).set ce.length (.dct [(key,y)])=ce++[.dct [(key,y)]]:=by rw[zqW];rfl
 simp only[zfK,bnd,ha,hb,ret,hk,g,s]
theorem zpp(g:ce[k]?=some (.lst xs))(e:xs=ys++[y]):zoX (.cel k) [] ce=some (.ok y (ce.set k (.lst ys))):=by
 subst e
 simp[zoX,zfL g]
theorem zm8(g:ce[k]?=some (.lst xs)):zgb ce (.cel k)=some (!xs.isEmpty):=by simp only[zgb,g]
theorem zgs(g:ce[k]?=some (.lst xs))(h:zdX ce w=some ys)(hz:xs.length+ys.length<=PySem.sizeLine):zmT (.cel k) [w] ce=some (.ok .non (ce.set k (.lst (xs++ys)))):=by simp only[zmT,zfL g,h,if_pos hz]
theorem zm9(ha:a sl ce=some (.ok (.tup xs) c1))(hb:b sl c1=some (.ok (.tup ys) c2))(hz:xs.length+ys.length<=PySem.sizeLine):zh2 a b sl ce=some (.ok (.tup (xs++ys)) c2):=by
 simp only[zh2,bnd,ha,hb,zm7,if_pos hz]
theorem zna(h:xs.length<=PySem.sizeLine):zoM xs ce=some (.ok (.tup xs) ce):=if_pos h
variable {α:Type} {en:α->W} {zs:List α} {di:Sl->M Src} {e:Sl->M W} {js:List Nat}
theorem zjF{body:DS}{i:Nat}{Q:O->Prop}(hi:SrcFix di sl ce c1 (zs.map en))(R:List α->Sl->Ce->Prop)(T:W->Ce->Prop)(h0:R [] sl c1)(step:∀d x r sl ce,d++x::r=zs->x∈zs->R d sl ce->Run body (sl.set i (some (en x))) ce (NR (R (d++[x])) T))(tell:∀w sl ce,T w ce->Q (.go (.rt w) sl ce))(fin:∀sl ce,R zs sl ce->Q (.go .nx sl ce)):Run (zd0 di (gN i) body) sl ce Q:=by
 obtain⟨s,h1,h2,h3⟩:=hi
 obtain⟨o,e,q⟩:=zdE (g:=gN i) (body:=body) (en:=en) (src:=s) zs R T (fun d x r sl ce e h=>⟨h3 _,_,rfl,step d x r sl ce e (by rw[<- e];simp) h⟩) (fun _ _ _=>h3 _) zs [] sl c1 rfl h0
 rcases q with ⟨sl',ce',rfl,h⟩|⟨w,sl',ce',rfl,h⟩
 ·exact⟨_,by rw[zeZ h1,h2];exact e,fin _ _ h⟩
 ·exact⟨_,by rw[zeZ h1,h2];exact e,tell _ _ _ h⟩
theorem zk2{a b:DS}{Q:O->Prop}(h:Run a sl ce fun o=>(∃sl' ce',o=.go .nx sl' ce'/\Run b sl' ce' Q)\/∃w sl' ce',o=.go (.rt w) sl' ce'/\Q o):Run (zaG a b) sl ce Q:=by
 obtain⟨o,e,⟨sl',ce',rfl,q⟩|⟨w,sl',ce',rfl,q⟩⟩:=h
 ·exact zcz e q
 ·exact⟨_,zmW e,q⟩
theorem zfR{body b:DS}{i:Nat}{Q:O->Prop}(hi:SrcFix di sl ce c1 (zs.map en))(R:List α->Sl->Ce->Prop)(T:W->Ce->Prop)(h0:R [] sl c1)(step:∀d x r sl ce,d++x::r=zs->x∈zs->R d sl ce->Run body (sl.set i (some (en x))) ce (NR (R (d++[x])) T))(tell:∀w sl ce,T w ce->Q (.go (.rt w) sl ce))(fin:∀sl ce,R zs sl ce->Run b sl ce Q):Run (zaG (zd0 di (gN i) body) b) sl ce Q :=
 zk2 (zjF hi R T h0 step (fun w sl ce h=>.inr ⟨w,sl,ce,rfl,tell w sl ce h⟩) fun sl ce h=>.inl ⟨sl,ce,rfl,fin sl ce h⟩)
end
inductive SetAt:Sl->Nat->Option W->Sl->Prop where
 | zero {x w:Option W} {r:Sl}:SetAt (x::r) 0 w (w::r)
 | succ {x w:Option W} {r r':Sl} {i:Nat} (h:SetAt r i w r'):SetAt (x::r) (i+1) w (x::r')
theorem SetAt.eq{sl sl':Sl}{i:Nat}{w:Option W}(h:SetAt sl i w sl'):sl.set i w=sl':=by
 induction h with
 | zero=>rfl
 | succ _ ih=>rw[List.set_cons_succ,ih]
theorem zam{b:DS}{sl sl':Sl}{i:Nat}{w:Option W}{ce:Ce}{Q:O->Prop}(hs:SetAt sl i w sl')(h:Run b sl' ce Q):Run b (sl.set i w) ce Q:=by rw[hs.eq];exact h
section
variable {b:List (List Nat)} {vl:Nat->Int} {s x y:Nat}
abbrev okV(vl:Nat->Int)(s y:Nat):Prop:=vl y=vl s
abbrev Sym(b:List (List Nat)):Prop:=∀i j,j∈b.getD i []->i∈b.getD j []
open Classical in
def cpt(b:List (List Nat))(vl:Nat->Int)(s:Nat):List Nat:=(List.range b.length).filter fun y=>decide (Reach b (okV vl s) s y)
def zbr(b:List (List Nat))(vl:Nat->Int)(s:Nat):Bool:=(cpt b vl s).all fun y=>decide (s<=y)
def ptc(b:List (List Nat))(vl:Nat->Int):List (List Nat):=((List.range b.length).filter (zbr b vl)).map (cpt b vl)
theorem Reach.lt(hb:Bd b)(hs:s<b.length){ok:Nat->Prop}(h:Reach b ok s x):x<b.length:=by
 cases h with
 | refl=>exact hs
 | step _ hy _=>exact hb.get hy
open Classical in
theorem zbZ(hb:Bd b)(hs:s<b.length):x∈cpt b vl s↔Reach b (okV vl s) s x:=by
 unfold cpt
 rw[List.mem_filter,List.mem_range,decide_eq_true_eq]
 exact⟨fun h=>h.2,fun h=>⟨h.lt hb hs,h⟩⟩
theorem cpt_lt(h:x∈cpt b vl s):x<b.length:=List.mem_range.mp (List.mem_filter.mp h).1
theorem zpq:(cpt b vl s).Nodup:=List.Pairwise.filter _ List.nodup_range
theorem znb:(cpt b vl s).length<=b.length:=by
 have:=List.length_filter_le (fun y=>@decide (Reach b (okV vl s) s y) (Classical.propDecidable _)) (List.range b.length)
 rw[List.length_range] at this
 exact this
theorem zbm(hb:Bd b)(hs:s<b.length):s∈cpt b vl s:=(zbZ hb hs).mpr .refl
theorem cpt_val(hb:Bd b)(hs:s<b.length)(h:x∈cpt b vl s):vl x=vl s:=Reach.okOf (ok:=okV vl s) rfl ((zbZ hb hs).mp h)
open Classical in
theorem znc{F:List Nat}(c:Comp b (okV vl s) s F):zce F=cpt b vl s:=by
 rw[ze3 c.nd c.lt]
 unfold cpt
 apply List.filter_congr
 intro x _
 rw[Bool.eq_iff_iff,decide_eq_true_eq,decide_eq_true_eq]
 exact c.mem x
theorem zlT(h:vl x=vl s):okV vl x=okV vl s:=by funext y;unfold okV;rw[h]
open Classical in
theorem zcA(hb:Bd b)(sym:Sym b)(hs:s<b.length)(h:x∈cpt b vl s):cpt b vl x=cpt b vl s:=by
 have v:=cpt_val hb hs h
 have r:=(zbZ hb hs).mp h
 unfold cpt
 apply List.filter_congr
 intro y _
 rw[Bool.eq_iff_iff,decide_eq_true_eq,decide_eq_true_eq,zlT v]
 exact⟨fun q=>r.trans q,fun q=>(Reach.symm (ok:=okV vl s) sym rfl r).trans q⟩
theorem zg4(hb:Bd b)(sym:Sym b)(hs:s<b.length)(h:x∈cpt b vl s):s∈cpt b vl x:=by rw[zcA hb sym hs h];exact zbm hb hs
theorem zfS(hb:Bd b)(sym:Sym b)(hs:s<b.length):∃m,m∈cpt b vl s/\zbr b vl m=true/\cpt b vl m=cpt b vl s:=by
 have key:∀(k:Nat) (s:Nat),s<=k->s<b.length->∃m,m∈cpt b vl s/\zbr b vl m=true/\cpt b vl m=cpt b vl s:=by
  intro k
  induction k with
  | zero =>
   intro s hk hs
   refine⟨s,zbm hb hs,?_,rfl⟩
   unfold zbr
   rw[List.all_eq_true]
   intro y _
   exact decide_eq_true (by omega)
  | succ k ih =>
   intro s hk hs
   by_cases h:zbr b vl s=true
   ·exact⟨s,zbm hb hs,h,rfl⟩
   ·unfold zbr at h
    rw[List.all_eq_true] at h
    obtain⟨y,hy⟩:=Classical.not_forall.mp h
    obtain⟨hy,hn⟩:=Classical.not_imp.mp hy
    have hn':¬s<=y:=fun q=>hn (decide_eq_true q)
    obtain⟨m,h1,h2,h3⟩:=ih y (by omega) (cpt_lt hy)
    have e:=zcA hb sym hs hy
    exact⟨m,by rw[<- e];exact h1,h2,by rw[h3,e]⟩
 exact key s s (Nat.le_refl _) hs
theorem zd4(hb:Bd b){c:List Nat}:c∈ptc b vl↔∃s,s<b.length/\zbr b vl s=true/\c=cpt b vl s:=by
 unfold ptc
 rw[List.mem_map]
 constructor
 ·rintro⟨s,hs,rfl⟩
  obtain⟨h1,h2⟩:=List.mem_filter.mp hs
  exact⟨s,List.mem_range.mp h1,h2,rfl⟩
 ·rintro⟨s,h1,h2,rfl⟩
  exact⟨s,List.mem_filter.mpr ⟨List.mem_range.mpr h1,h2⟩,rfl⟩
theorem znd:(ptc b vl).length<=b.length:=by
 unfold ptc
 rw[List.length_map]
 have:=List.length_filter_le (zbr b vl) (List.range b.length)
 rw[List.length_range] at this
 exact this
theorem zdG(hb:Bd b)(hs:s<b.length)(h:zbr b vl s=true):(cpt b vl s).getD 0 0=s:=by
 have hmem:=zbm (vl:=vl) hb hs
 unfold zbr at h
 rw[List.all_eq_true] at h
 have srt:(cpt b vl s).Pairwise (·<·):=List.Pairwise.filter _ List.pairwise_lt_range
 cases e:cpt b vl s with
 | nil=>rw[e] at hmem;simp at hmem
 | cons a r =>
  rw[e] at hmem h srt
  have h1:s<=a:=of_decide_eq_true (h a (by simp))
  rcases List.mem_cons.mp hmem with h2|h2
  ·simp[h2]
  ·have:=(List.pairwise_cons.mp srt).1 s h2
   omega
end
end VS
namespace VS
open PySem PySem.Spec PyProof.Rows L2
mutual
def zd5(n:Nat)(ce:Ce):Nat->W->Option W
 | 0,.cel k=>if k<n then some (.cel k) else none
 | 0,.lst _=>none
 | 0,.tup _=>none
 | d+1,.cel k=>if k<n then some (.cel k) else match ce[k]? with
  | some (.lst xs)=>(zcs n ce d xs).map .lst
  | _=>none
 | d+1,.lst xs=>(zcs n ce d xs).map .lst
 | d+1,.tup xs=>(zcs n ce d xs).map .tup
 | _,w=>some w
def zcs(n:Nat)(ce:Ce):Nat->List W->Option (List W)
 | _,[]=>some []
 | d,x::xs=>match zd5 n ce d x,zcs n ce d xs with
  | some y,some ys=>some (y::ys)
  | _,_=>none
end
section
variable {G:Ga} {F F2:Hp} {as as2:List Addr} {H:Hp} {ce:Ce} {n:Nat}
theorem zg5(h:∀{w w2:W} {v:V},zd5 n ce d w=some w2->Rep F as w v->Rep F2 as2 w2 v):∀{ws ws2:List W} {vs:List V},zcs n ce d ws=some ws2->Reps F as ws vs->Reps F2 as2 ws2 vs
 | [],ws2,vs,e,r=>by
  simp only[zcs,Option.some.injEq] at e
  subst e
  simp only[Reps] at r
  subst r
  exact .nil
 | x::xs,ws2,vs,e,r=>by
  simp only[zcs] at e
  simp only[Reps] at r
  obtain⟨v,r',rfl,q,s⟩:=r
  split at e
  ·rename_i y ys e1 e2
   cases e
   exact .cons (h e1 q) (zg5 h e2 s)
  ·cases e
theorem zg6(S:Store G F as H ce)(hF:∀a o,F a=some o->F2 a=some o)(hc:∀(k:Nat) (a:Addr) (xs:List W) (vs:List V),n<=k->as[k]?=some a->ce[k]?=some (.lst xs)->H a=some (.lst vs)->F2 a=some (.lst vs))(ha:∀(k:Nat) (a:Addr),k<n->as[k]?=some a->as2[k]?=some a):∀(d:Nat) {w w2:W} {v:V},zd5 n ce d w=some w2->Rep F as w v->Rep F2 as2 w2 v:=by
 have rd:∀{a:Addr} {o:HO},Rd F a o->Rd F2 a o:=fun r=>by
  rcases r with r|⟨u,r⟩
  ·exact .inl (hF _ _ r)
  ·exact .inr ⟨u,hF _ _ r⟩
 have low:∀{k:Nat} {v:V},k<n->Rep F as (.cel k) v->Rep F2 as2 (.cel k) v:=fun hk r=>by
  simp only[Rep] at r ⊢
  obtain⟨a,rfl,q⟩:=r
  exact⟨a,rfl,ha _ _ hk q⟩
 intro d
 induction d with
 | zero =>
  intro w w2 v e r
  cases w<;>simp only[zd5,Option.some.injEq,reduceCtorEq] at e
  case cel k =>
   split at e
   ·rename_i hk
    cases e
    exact low hk r
   ·cases e
  all_goals (subst e;simp only[Rep] at r ⊢;exact r)
 | succ d ih =>
  have ihs:∀{ws ws2:List W} {vs:List V},zcs n ce d ws=some ws2->Reps F as ws vs->Reps F2 as2 ws2 vs:=fun e r=>zg5 ih e r
  intro w w2 v e r
  cases w<;>simp only[zd5,Option.some.injEq] at e
  case cel k =>
   split at e
   ·rename_i hk
    cases e
    exact low hk r
   ·rename_i hk
    split at e
    ·rename_i xs hx
     obtain⟨ys,e1,rfl⟩:=Option.map_eq_some_iff.mp e
     simp only[Rep] at r
     obtain⟨a,rfl,q⟩:=r
     obtain⟨_,vs,h2,rs⟩:=S.cell _ _ _ q hx
     simp only[Rep]
     exact⟨a,vs,rfl,.inl (hc k a xs vs (by omega) q hx h2),ihs e1 rs⟩
    ·cases e
  case lst xs =>
   obtain⟨ys,e1,rfl⟩:=Option.map_eq_some_iff.mp e
   simp only[Rep] at r ⊢
   obtain⟨a,vs,rfl,h2,rs⟩:=r
   exact⟨a,vs,rfl,rd h2,ihs e1 rs⟩
  case tup xs =>
   obtain⟨ys,e1,rfl⟩:=Option.map_eq_some_iff.mp e
   simp only[Rep] at r ⊢
   obtain⟨a,vs,rfl,h2,rs⟩:=r
   exact⟨a,vs,rfl,hF _ _ h2,ihs e1 rs⟩
  all_goals (subst e;simp only[Rep] at r ⊢;exact r)
end
open Classical in
def zjG(d:List W->M W):List W->M W:=fun ws ce=>match d ws ce with
 | some (.ok w ce')=>if zeU ce ce' then match zd5 ce.length ce' 6 w with
  | some w2=>some (.ok w2 (ce'.take ce.length))
  | none=>none
  else none
 | r=>r
open Classical in
theorem zgt{P:Program}{w:World}{K:PySem.W.Frag}{mg:Str->Option Value}{base:Heap}{CX:CXT}{k n:Nat}{f:Addr}{fd:FuncData}{ps:List Str}{G:Ga}{fe:XK->XK}{d:List W->M W}(h:FnOk P w K mg base CX k f fd ps (spV G fe n d)):FnOk P w K mg base CX k f fd ps (spV G fe n (zjG d)):=by
 refine h.imp fun vs H Q E ⟨hl,F,as,ws,ce,S,rs,Pf⟩=>⟨hl,F,as,ws,ce,S,rs,?_⟩
 revert Pf
 unfold zjG
 cases d ws ce with
 | none=>exact fun P=>P
 | some r=>cases r with
  | ex x ce'=>exact fun P=>P
  | ok w ce' =>
   dsimp only
   intro Pf v H' F' as' l S' rv
   split at Pf
   ·rename_i h1
    split at Pf
    ·rename_i w2 e2
     obtain⟨S2,l2⟩:=S.cut S' l h1
     let isC:Addr->Prop:=fun a=>∃(k:Nat) (xs:List W),ce.length<=k/\as'[k]?=some a/\ce'[k]?=some (.lst xs)
     let F2:Hp:=fun a=>if isC a then H' a else F' a
     have sub:∀a o,F' a=some o->F2 a=some o:=fun a o e=>by
      have:¬isC a:=by
       rintro⟨k,xs,_,e1,e3⟩
       have:=(S'.cell k a _ e1 e3).1 rfl
       rw[this] at e
       cases e
      show(if isC a then H' a else F' a)=_
      rw[if_neg this];exact e
     have l3:Le F' (as'.take ce.length) F2 (as'.take ce.length):=⟨sub,fun _ _ h=>h⟩
     refine Pf v H' F2 (as'.take ce.length) (l2.trans l3) ⟨fun b o e=>?_,S2.nd,S2.len,fun i b c e1 e3=>?_⟩ ?_
     ·have e:(if isC b then H' b else F' b)=some o:=e
      split at e
      ·exact e
      ·exact S'.sub _ _ e
     ·obtain⟨p1,p2⟩:=S2.cell i b c e1 e3
      refine⟨fun hn=>?_,p2.le l3 rfl⟩
      show(if isC b then H' b else F' b)=none
      rw[if_neg]
      ·exact p1 hn
      ·rintro⟨k,xs,hk,e4,_⟩
       have hi:i<ce.length:=by have:=zat e3;rw[List.length_take] at this;omega
       rw[zbj hi] at e1
       have a1:=zat e4
       have a2:=zat e1
       rw[List.getElem?_eq_getElem a1] at e4
       rw[List.getElem?_eq_getElem a2] at e1
       have:=zgN S'.nd a1 a2 ((Option.some.inj e4).trans (Option.some.inj e1).symm)
       omega
     ·refine zg6 S' sub (fun k a xs vs hk e1 e3 e4=>?_) (fun k a hk e1=>by rw[zbj hk];exact e1) 6 e2 rv
      show(if isC a then H' a else F' a)=_
      rw[if_pos ⟨k,xs,hk,e1,e3⟩]
      exact e4
    ·exact Pf.elim
   ·exact Pf.elim
def znQ(ce:Ce)(w:W):Option W:=zd5 0 ce 6 w
theorem zg7{G:Ga}{F:Hp}{as:List Addr}{H:Hp}{ce:Ce}{w w2:W}{v:V}(S:Store G F as H ce)(r:Rep F as w v)(e:znQ ce w=some w2):Rep H as w2 v :=
 zg6 S S.sub (fun k a xs vs _ _ _ h=>h) (fun k a hk _=>absurd hk (Nat.not_lt_zero _)) 6 e r
def eqD(ng:Bool)(ce:Ce)(x y:W):Option W:=match znQ ce x,znQ ce y with
 | some x',some y'=>if (cln 8 x'&&cln 8 y')=true then some (.bl (if ng then !peq x' y' else peq x' y')) else none
 | _,_=>none
theorem zne(ng:Bool):OpC (zpV ng) (eqD ng):=by
 intro G F as H ce x y wx wy w S rx ry e Q q
 unfold eqD at e
 split at e
 ·rename_i x' y' e1 e2
  split at e
  ·rename_i hc
   rw[Bool.and_eq_true] at hc
   cases e
   exact⟨as,_,_,zg7 S rx e1,zg7 S ry e2,hc.1,hc.2,q _ (by simp only[Rep])⟩
  ·cases e
 ·cases e
section
variable {X:Cx} {G:Ga} {E:XK} {a b:Expr} {da db:Sl->M W} {pos:Pos}
theorem zjH(hu:X.A.units+8<cLine)(ha:PE X a (zau G E da))(hb:PE X b (zau G E db)):PE X (.Compare a [.Eq] [b] pos) (zau G E (zaY (eqD false) da db)):=PE.imp (zf7 (zlz hu) ha hb (zcQ _)) (zbS (zne false))
end
end VS
namespace VS
open L2
section
variable {sl:Sl} {ce c1 c2 c3:Ce} {e o i:Sl->M W} {w x y:W} {xs:List W} {k j:Nat} {b:DS} {Q:O->Prop} {p q:Nat} {ij:Int}
theorem zjI{n j:Nat}(h:j<n):ixN n (j:Int)=some j:=by
 unfold ixN
 rw[if_pos (by omega),if_pos (by omega)]
 simp
theorem zsy(he:e sl ce=some (.ok w c1))(ho:o sl c1=some (.ok (.cel k) c2))(hi:i sl c2=some (.ok (.int ij) c3))(g:c3[k]?=some (.lst xs))(hj:ixN xs.length ij=some j) :
  znO e (zgi o i) sl ce=some (.go .nx sl (c3.set k (.lst (xs.set j w)))):=by
 simp only[znO,lft,he,zgi,ho,hi,zfL g,hj]
theorem zg8(he:e sl ce=some (.ok w c1))(ho:o sl c1=some (.ok (.cel k) c2))(hi:i sl c2=some (.ok (.int ij) c3))(g:c3[k]?=some (.lst xs))(hj:ixN xs.length ij=some j)(q:Q (.go .nx sl (c3.set k (.lst (xs.set j w))))) :
  Run (znO e (zgi o i)) sl ce Q:=⟨_,zsy he ho hi g hj,q⟩
abbrev g2(p q:Nat):DG:=gT 2 (zeB (gN p) (zeB (gN q) zmN))
theorem zra:g2 p q (.tup [x,y]) sl ce=some ((sl.set p (some x)).set q (some y),ce):=rfl
variable {α:Type} {fa fb:α->W} {zs:List α} {di:Sl->M Src} {body:DS}
theorem zk3(hi:SrcFix di sl ce c1 (zs.map fun z=>.tup [fa z,fb z]))(R:List α->Sl->Ce->Prop)(h0:R [] sl c1)(step:∀d x r sl ce,d++x::r=zs->x∈zs->R d sl ce->Run body ((sl.set p (some (fa x))).set q (some (fb x))) ce (Nx (R (d++[x]))))(fin:∀sl ce,R zs sl ce->Run b sl ce Q):Run (zaG (zd0 di (g2 p q) body) b) sl ce Q:=by
 obtain⟨s,h1,h2,h3⟩:=hi
 obtain⟨o,e,q'⟩:=zdE (g:=g2 p q) (body:=body) (en:=fun z=>W.tup [fa z,fb z]) (src:=s) zs R (fun _ _=>False) (fun d x r sl ce e h=>⟨h3 _,_,zra,(step d x r sl ce e (by rw[<- e];simp) h).mono fun o q=>by
   cases o with
   | ex x c=>exact q.elim
   | go f sl2 ce2=>cases f<;>first|exact q|exact q.elim⟩) (fun _ _ _=>h3 _) zs [] sl c1 rfl h0
 rcases q' with ⟨sl',ce',rfl,h⟩|⟨w,sl',ce',rfl,h⟩
 ·exact zcz (by rw[zeZ h1,h2];exact e) (fin _ _ h)
 ·exact h.elim
end
structure Chg (ce b:Ce):Prop where
 len:b.length=ce.length
 cell:∀(k:Nat) (c:C),b[k]?=some c->ce[k]?=some c\/zgk ce.length c
theorem Chg.refl(ce:Ce):Chg ce ce:=⟨rfl,fun _ _ h=>.inl h⟩
theorem Chg.cut{ce b t:Ce}(h:Chg ce b):zeU ce (b++t):=⟨by rw[List.length_append,h.len];omega,fun k c hk e=>h.cell k c (by rwa [List.getElem?_append_left (by rw[h.len];exact hk)] at e)⟩
theorem Chg.take{ce b t:Ce}(h:Chg ce b):(b++t).take ce.length=b:=by rw[<- h.len];exact List.take_left
namespace Own
variable {b ce c:Ce} {l:List (Nat×C)} {k:Nat} {x:C} {w:W}
theorem frzD'{d:List W->M W}{ws:List W}{w2:W}(e:d ws ce=some (.ok w c))(h:Own b c l)(g:Chg ce b)(ht:zd5 ce.length c 6 w=some w2):zjG d ws ce=some (.ok w2 b):=by
 obtain⟨⟨t,rfl⟩,_⟩:=h
 simp only[zjG,e,ht,g.take]
 exact if_pos g.cut
end Own
section
variable {ce:Ce} {n:Nat}
end
end VS
namespace VS
open L2
section
variable {ce:Ce} {n:Nat}
def Cls(ce:Ce)(ks:List Nat)(cs:List (List Nat)):Prop:=PySem.Paired (fun k c=>ce[k]?=some (.lst (c.map nW))) ks cs
end
end VS
namespace VS
open PySem PySem.Spec PyProof.Rows L2
open MeetsSeq (EqGives)
section
variable {X:Cx} {G:Ga} {E:XK} {o e:Expr} {es:List Expr} {name:Str} {apos cpos:Pos} {do':Sl->M W} {dr:Sl->M (List W)} {id:String} {rm:V->List V->Hp->VK->Prop} {fm:W->List W->M W}
end
section
variable {X:Cx} {G:Ga} {E:XK} {tg a:Expr} {da:Sl->M W}
end
end VS
namespace VS
open L2
section
variable {sl:Sl} {ce c1 c2 c3:Ce} {a b:Sl->M W} {w x y:W} {xs ws:List W} {n:Nat} {ra:Sl->M (List W)}
theorem znf{k:Nat}(ha:ra sl ce=some (.ok xs c1))(hl:xs.length<=PySem.sizeLine)(hb:b sl c1=some (.ok (nW n) c2))(hz:xs.length*n<=PySem.sizeLine)(h63:n<=100000):zfJ zgg ra b sl ce=some (.ok (.cel c2.length) (c2++[.lst (List.replicate n xs).flatten])):=by
 have t:((n:Int)).toNat=n:=Int.toNat_natCast n
 simp only[zfJ,bnd,ha,zpZ,if_pos hl,hb,zoZ,nW,t]
 rw[if_pos ⟨by omega,by omega,hz⟩]
 exact zc7 (by rw[L2.len_rep,Nat.mul_comm];exact hz)
end
section
variable {ce:Ce} {k:Nat} {xs:List W}
end
end VS
namespace VS
open PySem PySem.Spec PyProof.Rows L2
section
variable {X:Cx} {G:Ga} {E:XK} {a b:Expr} {da db:Sl->M W} {pos:Pos}
end
end VS
namespace VS
open PySem PySem.Spec PyProof.Rows L2 HT
section
variable {prog:Program} {w:World} {A:Around} {E:Value->Shared->Prop} {s:Shared}
end
section
variable {X:Cx} {G:Ga} {E:XK} {a:Expr} {da:Sl->M W} {pos:Pos}
end
end VS
namespace VS
open PySem PySem.Spec PyProof.Rows L2
def zpr:List W->M W:=fun ws ce=>match ws with
 | [.int i]=>some (.ok (.int i) ce)
 | [.bl k]=>some (.ok (.int (if k then 1 else 0)) ce)
 | _=>none
theorem zrb{G:Ga}{E:XK}:Bi G E (fun xs H Q=>(∃i,xs=[.int i]/\Q (.int i) H)\/∃k,xs=[.bl k]/\Q (.int (if k then 1 else 0)) H) zpr:=by
 intro F as H σ sl ce ws vs Q S rs P
 revert P
 unfold zpr
 split
 ·intro P
  obtain⟨v,rfl,r⟩:=zbA rs
  simp only[Rep] at r
  subst r
  exact .inl ⟨_,rfl,P.done S (by simp only[Rep])⟩
 ·intro P
  obtain⟨v,rfl,r⟩:=zbA rs
  simp only[Rep] at r
  subst r
  exact .inr ⟨_,rfl,P.done S (by simp only[Rep])⟩
 ·exact fun P=>P.elim
end VS
namespace L2
open PySem PySem.Spec PyProof.Rows
theorem ObjOk.there{P:Program}{w:World}{H:Hp}{h:Heap}{a:Addr}{o:HO}(x:ObjOk P w H h a o):∃u,h.get? a=some u:=by
 cases o with
 | lst xs=>obtain⟨_,_,_,_,e⟩:=x;exact⟨_,e⟩
 | tup xs=>obtain⟨_,_,_,u,e,_⟩:=x;exact⟨_,e⟩
 | dK kvs=>obtain⟨_,_,_,_,o,_,_,e,_⟩:=x;exact⟨_,e⟩
 | dT kvs=>obtain⟨_,_,_,_,o,_,_,e,_⟩:=x;exact⟨_,e⟩
 | set S n=>obtain⟨o,_,_,_,e,_⟩:=x;exact⟨_,e⟩
 | ins C dx fs=>obtain⟨_,_,_,e,_⟩:=x;exact⟨_,e⟩
 | own y=>exact x
 | xd fs=>obtain⟨_,⟨_,_,_,e,_⟩,_⟩:=x;exact⟨_,e⟩
 | rng lo hi=>obtain⟨_,_,_,e⟩:=x;exact⟨_,e⟩
 | frz ob u=>obtain⟨e,_⟩:=x;exact⟨_,e⟩
 | tbl ps=>exact⟨_,x⟩
 | met f y=>exact⟨_,x⟩
 | ext φ=>exact x.2.1
def Fl(N:Addr->Prop)(a:Addr)(cls:Value)(H:Hp)(h:Heap):Prop :=
 ∃oe vs a0,N a/\H a=none/\h.get? a=some oe/\oe.cls=cls/\oe.data=.fields vs/\vs[0]?=some a0 /\
  (vs[1]?=some .none\/∃T oT ts,vs[1]?=some (.ref T)/\N T/\H T=none/\T≠a/\h.get? T=some oT/\oT.data=.fields ts/\ts[3]?=some .none)
theorem Fl.mono{N N':Addr->Prop}{a:Addr}{cls:Value}{H:Hp}{h:Heap}(f:Fl N a cls H h)(k:∀b,N b->N' b):Fl N' a cls H h:=by
 obtain⟨oe,vs,a0,n,h1,h2,h3,h4,h5,h6⟩:=f
 refine⟨oe,vs,a0,k _ n,h1,h2,h3,h4,h5,h6.imp id fun⟨T,oT,ts,e1,e2,e⟩=>⟨T,oT,ts,e1,k _ e2,e⟩⟩
theorem zk4{M:Model}{A:Around}{E:Value->Shared->Prop}{s:Shared}{B:Heap}{env:Env}{outer:List Env}{L a:Addr}{oe:Obj}{vs:Array Value}{a0:Value}{Q:Unit->Shared->Prop}(hfr:A.frames=some (env::outer))(hl:s.heap.FunFrames B (env::outer))(hf:env.frame=some L)(he:s.heap.get? a=some oe)(hkb:B.StaysIn s.heap)(hen:B.get? a=none)(hd:oe.data=.fields vs)(h0:vs[0]?=some a0)(h1:vs[1]?=some .none\/∃T oT ts,vs[1]?=some (.ref T)/\B.get? T=none/\T≠a/\s.heap.get? T=some oT/\oT.data=.fields ts/\ts[3]?=some .none)(hQ:∀h',Heap.NotedW B (env::outer) a oe.cls a0 (rawInt L) s.heap h'->Q () { s with heap:=h' }):wpAny M A (noteFrame (.ref a) env) Q E s:=by
 rcases h1 with h1|⟨T,oT,ts,h1,hnT,hTe,hT,hdT,h3⟩
 ·unfold noteFrame
  simp only[hf]
  refine wpAny_bind (wpAny_field he hd h1 ?_)
  rw[if_neg (by decide)]
  exact wpAny_entryW hfr hl hf he hkb hen hd (Array.getElem?_eq_some_iff.mp h1).1 h0 hQ
 ·exact wpAny_noteFrame_onW hfr hl hf ⟨oe,vs,T,oT,ts,he,⟨rfl,h0⟩,hd,h1,hnT,hTe,hT,hdT,h3⟩ hkb hen hQ
structure Flown (stk:List Addr) (N:Addr->Prop) (H:Hp) (a:Addr) (cls:Value) (h h':Heap):Prop where
 keep:∀b o,h.get? b=some o->b∉stk->(H b≠none\/¬N b\/∀vs,o.data≠.fields vs)->h'.get? b=some o
 slot:∀b o,h.get? b=some o->b∈stk->∃sl,h'.get? b=some { o with slots:=sl }
 fl:Fl (fun b=>N b\/h.get? b=none) a cls H h'
theorem flown{X:Cx}{M:Model}{A':Around}{E:Value->Shared->Prop}{pins:List (Addr×Obj)}{σ:St}{H:Hp}{s:Shared}{N:Addr->Prop}{a:Addr}{cls:Value}{Q:Unit->Shared->Prop}(I:Inv X pins σ H s)(hst:X.stack=X.env::X.outer)(hf:X.env.frame=some X.env.locals)(f:Fl N a cls H s.heap)(hQ:∀h',Flown (frs X.stack) N H a cls s.heap h'->Q () { s with heap:=h' }) :
  wpAny M X.A (noteFrame (.ref a) X.env) (fun _ s₂=>wpAny M A' (setFlight (.ref a) none) Q E s₂) E s:=by
 obtain⟨oe,vs,a0,na,ha,he,rfl,hd,h0,h1⟩:=f
 have hstk:=I.stack
 have hfree:=I.stkFree
 have hfr:=I.ok.frames
 obtain⟨hid,hh1,hh2,hh3,hh4⟩:∃hid:List Addr,(∀b∈frs X.stack,b∈hid)/\a∈hid/\(∀b∈hid,b∈frs X.stack\/(N b/\H b=none/\∃o vs,s.heap.get? b=some o/\o.data=.fields vs)) /\
   (vs[1]?=some .none\/∃T oT ts,vs[1]?=some (.ref T)/\T∈hid/\T≠a/\s.heap.get? T=some oT/\oT.data=.fields ts/\ts[3]?=some .none):=by
  rcases h1 with h1|⟨T,oT,ts,h1,nT,hT,hTa,r⟩
  ·refine⟨frs X.stack++[a],fun b hb=>List.mem_append_left _ hb,List.mem_append_right _ (by simp),fun b hb=>?_,.inl h1⟩
   rcases List.mem_append.mp hb with hb|hb
   ·exact .inl hb
   ·rw[List.mem_singleton] at hb;subst hb;exact .inr ⟨na,ha,_,_,he,hd⟩
  ·obtain⟨hT1,hT2,hT3⟩:=r
   refine⟨frs X.stack++[a,T],fun b hb=>List.mem_append_left _ hb,List.mem_append_right _ (by simp),fun b hb=>?_,.inr ⟨T,oT,ts,h1,List.mem_append_right _ (by simp),hTa,hT1,hT2,hT3⟩⟩
   rcases List.mem_append.mp hb with hb|hb
   ·exact .inl hb
   ·rcases List.mem_cons.mp hb with rfl|hb
    ·exact .inr ⟨na,ha,_,_,he,hd⟩
    ·rw[List.mem_singleton] at hb;subst hb;exact .inr ⟨nT,hT,_,_,hT1,hT2⟩
 have hin:∀env∈X.env::X.outer,∀b,env.frame=some b->b∈hid:=fun env he b hb=>hh1 b (List.mem_filterMap.mpr ⟨env,by rw[hst];exact he,hb⟩)
 have hl:s.heap.FunFrames (PySem.W.hideAll s.heap hid) (X.env::X.outer):=PySem.W.funFrames_hide (by rw[<- hst];exact hstk) hin
 refine zk4 (by rw[hfr,hst]) hl hf he (fun b o q=>PySem.W.of_hideAll _ q) (PySem.W.hideAll_none _ hh2) hd h0 (hh4.imp id fun⟨T,oT,ts,e1,e2,e3,e4⟩=>⟨T,oT,ts,e1,PySem.W.hideAll_none _ e2,e3,e4⟩) fun h1 z=>?_
 obtain⟨z1,z2,z3,z4⟩:=z
 refine wpAny_landsW (base:=PySem.W.hideAll s.heap hid) (l:=X.env::X.outer) (cls:=oe.cls) (a0:=a0) ⟨z1,PySem.W.hideAll_none _ hh2,z2,z3⟩ fun h2 y1 y2=>hQ h2 ?_
 have up:∀b o,s.heap.get? b=some o->(∀vs,o.data≠.fields vs)->∃sl,h2.get? b=some { o with slots:=sl }:=fun b o e n=>by
  obtain⟨s1,e1⟩:=z4 b o e n
  obtain⟨s2,e2⟩:=y2 b _ e1 n
  exact⟨s2,e2⟩
 have sl:∀b o,s.heap.get? b=some o->b∈frs X.stack->∃sl,h2.get? b=some { o with slots:=sl }:=fun b o e hb=>by
  obtain⟨_,o',e',n⟩:=hstk.mem hb
  rw[e] at e';cases e'
  exact up b o e n
 obtain⟨y1,y3,y4,oe',vs',T',oT',ts',t1,⟨t2,t3⟩,t4,t5,t6,t7,t8,t9,t10⟩:=y1
 refine⟨fun b o e hb hc=>?_,sl,oe',vs',a0,.inl na,ha,t1,t2,t4,t3,.inr ⟨T',oT',ts',t5,?_,?_,t7,t8,t9,t10⟩⟩
 ·refine y1 b o (PySem.W.hideAll_get _ e fun hm=>?_)
  rcases hh3 b hm with q|⟨q1,q2,o',vs',q3,q4⟩
  ·exact hb q
  ·rcases hc with hc|hc|hc
   ·exact hc q2
   ·exact hc q1
   ·rw[e] at q3;cases q3;exact hc _ q4
 all_goals
  cases q:s.heap.get? T' with
  | none =>
   first
    | exact .inr q
    | (cases q2:H T' with
       | none=>rfl
       | some u=>obtain⟨u',e'⟩:=(I.hok T' u q2).there;rw[q] at e';cases e')
  | some o =>
   have hm:T'∈hid:=by
    apply Classical.byContradiction
    intro hm
    have:=PySem.W.hideAll_get _ q hm
    rw[t6] at this;cases this
   rcases hh3 T' hm with hs|⟨q1,q2,_⟩
   ·exfalso
    obtain⟨_,o',e',n⟩:=hstk.mem hs
    rw[q] at e';cases e'
    obtain⟨s2,e2⟩:=up T' o q n
    rw[t8] at e2;cases e2
    exact n _ t9
   ·first|exact .inl q1|exact q2
def CXx(P:Program)(w:World):CXT:=fun outer H s E e s'=>∃a cls H',e=.ref a/\s'.os=s.os/\AllBare s'.gens/\Un (frs outer) [] H H' s.heap s'.heap/\HOk P w H' s'.heap/\Fl (fun b=>s.heap.get? b=none) a cls H' s'.heap/\E cls none H'
def Nw(X:Cx)(pins:List (Addr×Obj))(b:Addr):Prop:=X.s₀.heap.get? b=none/\∀p∈X.pn++pins,p.1≠b
def Flies(X:Cx)(E:XK):Prop:=∀(pins:List (Addr×Obj)) (σ:St) (H:Hp) (s:Shared) (a:Addr) (cls:Value),Inv X pins σ H s->Fl (Nw X pins) a cls H s.heap->E cls none H->X.xe (.ref a) s
theorem zjJ{X:Cx}{pins:List (Addr×Obj)}{σ:St}{H:Hp}{s:Shared}{b:Addr}(hx:X.ex=[])(I:Inv X pins σ H s)(h:s.heap.get? b=none):Nw X pins b:=by
 refine⟨?_,fun p hp e=>?_⟩
 ·cases q:X.s₀.heap.get? b with
  | none=>rfl
  | some o =>
   obtain⟨o',e⟩:=I.base.there b o q (by rw[hx];simp)
   rw[h] at e;cases e
 ·obtain⟨e1,_⟩:=I.pin p hp
  rw[e,h] at e1;cases e1
theorem Flies.passes{X:Cx}{E:XK}(h:Flies X E)(hx:X.ex=[]):zcv (CXx X.prog X.w) X E:=fun pins σ H s e s' I z=>by
 obtain⟨a,cls,H',rfl,ho,hg,u,hok,f,q⟩:=z
 exact h pins σ H' s' a cls (I.call' ho u hok hg (fun b z=>absurd z (by simp))) (f.mono fun b hb=>zjJ hx I hb) q
theorem zng{X:Cx}:zcv (CXx X.prog X.w) X E0:=fun _ _ _ _ _ _ _ z=>by
 obtain⟨_,_,_,_,_,_,_,_,_,q⟩:=z
 exact q.elim
theorem flies_cxOf{P:Program}{w:World}{K:PySem.W.Frag}{mg:Str->Option Value}{base:Heap}{N:List Str}{qual:Str}{scope:Scope}{f:Addr}{cd:Value}{A:Around}{outer:List Env}{s:Shared}{H:Hp}{E:XK} :
  Flies (zim (CXx P w) P w K mg base N qual scope f cd A outer s H E) E:=by
 intro pins σ H1 s1 a cls I fl q
 show wpAny (model P w) _ (leaving _ _) _ _ s1
 unfold leaving
 refine wpAny_bind (flown I rfl rfl fl fun h' F=>?_)
 have hb:=I.base
 have hstk:=I.stack
 have hlt:∀b o,s.heap.get? b=some o->b≠(zim (CXx P w) P w K mg base N qual scope f cd A outer s H E).env.locals:=fun b o e q=>absurd (Heap.lt_size e) (by rw[q];exact Nat.not_lt.mpr I.ok.above)
 have hfs:∀b,b∈frs (zim (CXx P w) P w K mg base N qual scope f cd A outer s H E).stack->b=(zim (CXx P w) P w K mg base N qual scope f cd A outer s H E).env.locals\/b∈frs outer:=fun b hb=>List.mem_cons.mp (I.stkSub b hb)
 have hout:∀b,b∈frs outer->b∈frs (zim (CXx P w) P w K mg base N qual scope f cd A outer s H E).stack:=fun b hb=>by
  obtain⟨env,h1,h2⟩:=List.mem_filterMap.mp hb
  exact List.mem_filterMap.mpr ⟨env,List.mem_cons_of_mem _ h1,h2⟩
 refine⟨a,cls,H1,rfl,I.os,I.bare,⟨fun b o e n h1 h2=>?_,fun b o e n h1 h2=>?_,fun b o e n h2=>hb.free b o e n h2,fun b o e h2=>?_,hb.tups,hb.frzs,hb.tbls⟩,fun b o e=>?_,F.fl.mono fun b hb'=>?_,q⟩
 ·have e1:=hb.keep b o e n h1 h2
  refine F.keep b o e1 (fun hm=>?_) (.inr<|.inl fun hn=>by have z:s.heap.get? b=none:=hn.1;rw[z] at e;cases e)
  rcases hfs b hm with z|z
  ·exact hlt b o e z
  ·exact h1 z
 ·obtain⟨sl,e1⟩:=hb.slot b o e n h1 h2
  obtain⟨s2,e2⟩:=F.slot b _ e1 (hout b h1)
  exact⟨s2,e2⟩
 ·obtain⟨o',e1⟩:=hb.there b o e h2
  by_cases hm:b∈frs (zim (CXx P w) P w K mg base N qual scope f cd A outer s H E).stack
  ·obtain⟨s2,e2⟩:=F.slot b o' e1 hm
   exact⟨_,e2⟩
  ·exact⟨o',F.keep b o' e1 hm (.inr<|.inl fun hn=>by have z:s.heap.get? b=none:=hn.1;rw[z] at e;cases e)⟩
 ·refine(I.hok b o e).stay (fun c u hc r=>?_) (fun _ q=>q) fun _ _ q=>q
  have hH:H1 c≠none:=by
   rcases hc with rfl|hc
   ·rw[e];simp
   ·rw[hc];simp
  exact F.keep c u r (fun hm=>hH (I.stkFree c hm)) (.inl hH)
 ·rcases hb' with hb'|hb'
  ·exact hb'.1
  ·exact(zjJ (pins:=pins) rfl I hb').1
theorem Fun.okX{P:Program}{w:World}{K:PySem.W.Frag}{mg:Str->Option Value}{base:Heap}{x qual:Str}{st:Stmt}{f:Addr}{fd:FuncData}{N ps:List Str}{k:Nat}{sp:Sp}(F:Fun K x qual st f fd)(S:FnScope N ps (zag st))(len:∀vs H Q E,sp vs H Q E->vs.length=ps.length)(hbody:∀(cdv:Value) (A:Around) (outer:List Env) (s:Shared) (H:Hp) (vs:List V) (Q:VK) (E:XK),Room k (A.deeper (envOfC qual (zag st) s.heap.objs.size f cdv))->sp vs H Q E ->
   ∃t,PSs (zim (CXx P w) P w K mg base N qual (zag st) f cdv A outer s H E) (zas st) t/\t { nx:=fun _ H'=>Q .non H',rt:=Q } (start N vs) H):FnOk P w K mg base (CXx P w) (k+1) f fd ps sp:=by
 obtain⟨oc,od,kV,doc,pm,an,cdv,ct,osl,rfl,lk,hcd⟩:=F.ex
 refine zqv lk hcd S len fun A outer s H vs Q E hr hsp=>?_
 obtain⟨t,h,q⟩:=hbody cdv A outer s H vs Q E hr hsp
 exact⟨t,h,q⟩
end L2
namespace L2
open PySem PySem.Spec PyProof.Rows
def bmV:List Value:=[.type "ValueError",.type "Exception",.type "BaseException",.type "object"]
def XC(K:PySem.W.Frag)(C:Addr):Prop:=PySem.W.excIn K C bmV "ValueError.__new__" = true
theorem XC.obj{K:PySem.W.Frag}{h:Heap}{C:Addr}(q:XC K C)(X:K.In h):∃bm N nm qn bs hdct sn sub ab col dd k0 k1 k2 k3 k5 mN,
  h.get? C=some (excClassObj nm qn C N bs bm hdct sn sub ab col dd k0 k1 k2 k3 k5 "ValueError.__new__")/\h.Ns N mN/\mN "__init__" = none/\OwnTail h bmV bm:=by
 unfold XC PySem.W.excIn at q
 split at q
 case h_2=>cases q
 rename_i dd cd sl ho
 split at q
 case h_2=>cases q
 rename_i C' bm k0 k1 k2 k3 n k5 hm hs
 simp only[Bool.and_eq_true,beq_iff_eq,Bool.not_eq_true'] at q
 obtain⟨⟨⟨⟨⟨rfl,rfl⟩,hdel⟩,ht⟩,hok⟩,hni⟩:=q
 obtain⟨nm,bs,mro,ns,qn,hd,sn,sub,ab,col,del⟩:=cd
 dsimp only at hm hdel hok hni
 subst hm hdel
 have hsl:sl=#[k0,k1,k2,k3,some (.builtin "ValueError.__new__"),k5]:=by
  obtain⟨l⟩:=sl
  simp only at hs
  rw[hs]
 subst hsl
 exact⟨bm,ns,nm,qn,bs,hd,sn,sub,ab,col,dd,k0,k1,k2,k3,k5,_,X _ _ ho,.of_isNs (PySem.W.isNs_of_in X hok),PySem.W.nsMap_none_of_in X hok hni,PySem.W.tail_of_in X ht⟩
section
variable {X:Cx}
def PM(X:Cx)(e:Expr)(t:St->Prop):Prop:=∀(pins:List (Addr×Obj)) (s:Shared) (σ:St) (H:Hp),Inv X pins σ H s->t σ->wpAny (model X.prog X.w) X.A (eval e X.env) (fun u s'=>(∃y tk,u=.str y tk/\y.length<=1000)/\Inv X pins σ H s') X.xe s
def PX(X:Cx)(e:Expr)(t:St->Prop):Prop:=∀(pins:List (Addr×Obj)) (s:Shared) (σ:St) (H:Hp),Inv X pins σ H s->t σ->wpAny (model X.prog X.w) X.A (eval e X.env) (fun u s'=>Inv X pins σ H s') X.xe s
def PMs(X:Cx)(es:List Expr)(t:St->Prop):Prop:=∀(out:Str) (pins:List (Addr×Obj)) (s:Shared) (σ:St) (H:Hp),out.length+1000*es.length<=sizeLine->Inv X pins σ H s->t σ->wpAny (model X.prog X.w) X.A (joinParts out (evalEach es X.env)) (fun u s'=>Inv X pins σ H s') X.xe s
theorem zeD{x:Str}{j:Nat}{pos:Pos}(hx:x.length<=1000:=by decide):PM X (.Constant (.str x) j pos) (fun _=>True):=fun pins s σ H I _=>Calls.Constant_str ⟨⟨x,_,rfl,hx⟩,I.tok _⟩
theorem zlU{e:Expr}{pos:Pos}{n:Int}{s:Shared}{pins:List (Addr×Obj)}{σ:St}{H:Hp}(hn:n.natAbs<1000)(I:Inv X pins σ H s)(tk:Tok) :
  wpAny (model X.prog X.w) X.A (formatField (.int n tk) Str.empty) (fun u s'=>(∃y tk,u=.str y tk/\y.length<=1000)/\Inv X pins σ H s') X.xe s:=by
 have hl:n.natAbs.log2<100:=by
  by_cases h0:n.natAbs=0
  ·rw[h0];decide
  ·exact(Nat.log2_lt h0).mpr (Nat.lt_of_lt_of_le hn (by decide))
 refine formatField_int_small (by omega) ⟨⟨_,_,rfl,?_⟩,I.tok _⟩
 have e:=int_text_length_le (k:=100) (by decide) hl
 show(Str.ofString (toString n)).length<=1000
 rw[PySem.ofString_length];omega
theorem zlV{x:Str}{p pos:Pos}(i:Nat)(hN:X.N[i]?=some x:=by rfl)(hv:Vis X.env.scope x:=by first|exact Or.inl rfl|exact Or.inr (Or.inl rfl)|exact Or.inr (Or.inr rfl))(hd:(x==("__debug__" : Str))=false:=by decide)(hcd:(x==("__classdict__" : Str))=false:=by decide):PM X (.FormattedValue (.Name x p) (-1) none pos) (fun σ=>∃n:Int,σ[i]?=some (some (.int n))/\n.natAbs<1000):=fun pins s σ H I ⟨n,e,hn⟩=>by
 refine FormattedValue_plain (thn (zls (pos:=p) hN hv hd hcd pins s σ H (fun v H'=>v=.int n/\H'=H) I ⟨.int n,e,rfl,rfl⟩) fun u s1 ⟨v,H1,I1,r,hv,hH⟩=>?_)
 subst hv;subst hH
 obtain⟨tk,rfl⟩:∃tk,u=.int n tk:=r
 exact zlU (e:=.Name x p) (pos:=pos) hn I1 tk
theorem znh{x:Str}{p pos:Pos}{n:Int}(hg:Gl X x)(hm:∃t,X.mg x=some (.int n t))(hn:n.natAbs<1000:=by decide)(hd:(x==("__debug__" : Str))=false:=by decide):PM X (.FormattedValue (.Name x p) (-1) none pos) (fun _=>True):=fun pins s σ H I _=>by
 obtain⟨tk,hm⟩:=hm
 refine FormattedValue_plain (zbR I hg hm ?_ hd)
 exact zlU (e:=.Name x p) (pos:=pos) hn I tk
theorem zgu:PMs X [] (fun _=>True):=fun out pins s σ H hl I _=>joinParts_nil (I.tok _) (by simpa using hl)
theorem zbs{e:Expr}{es:List Expr}{t t':St->Prop}(h1:PM X e t)(h2:PMs X es t'):PMs X (e::es) (fun σ=>t σ/\t' σ):=fun out pins s σ H hl I q=>by
 show wpAny _ _ (joinParts out (eval e X.env::evalEach es X.env)) _ _ _
 refine joinParts_cons (thn (h1 pins s σ H I q.1) fun u s1 ⟨⟨y,tk,hu,hy⟩,I1⟩=>?_)
 subst hu
 have hz:(out++y).length=out.length+y.length:=strLen_append _ _
 simp only[List.length_cons] at hl
 exact⟨by omega,h2 (out++y) pins s1 σ H (by omega) I1 q.2⟩
theorem zgv{e1 e2:Expr}{es:List Expr}{t:St->Prop}{pos:Pos}(h:PMs X (e1::e2::es) t)(hl:1000*(es.length+2)<=sizeLine:=by decide):PX X (.JoinedStr (e1::e2::es) pos) t:=fun pins s σ H I q =>
 JoinedStr_many (h Str.empty pins s σ H (by show 0+1000*(es.length+2)<=sizeLine;rw[Nat.zero_add];exact hl) I q)
theorem zk5{E:XK}{C:Addr}{x:Str}{np cpos pos:Pos}{e:Expr}{t:St->Prop}(hx:Flies X E)(hex:X.ex=[])(xc:XC X.K C)(hg:Gl X x)(hm:X.mg x=some (.ref C))(hh:X.A.handled=none)(ha:PX X e t)(he:starEach [e] X.env=[(false,eval e X.env)]:=by rfl)(hd:(x==("__debug__" : Str))=false:=by decide) :
  PS X (.Raise (some (.Call (.Name x np) [e] [] cpos)) none pos) (fun _ σ H=>t σ/\E (.ref C) none H):=by
 intro pins s σ H D I hq
 obtain⟨bm,N,nm,qn,bs,hdct,sn,sub,ab,col,dd,k0,k1,k2,k3,k5,mN,hC,hN,hni,T⟩:=xc.obj I.ok.mod.kin
 refine wpAny_Raise_call_subU (C:=C) (nm:=nm) (q:=qn) (N:=N) (bs:=bs) (bm:=bm) (hdct:=hdct) (sn:=sn) (sub:=sub) (ab:=ab) (col:=col) (dd:=dd) (k0:=k0) (k1:=k1) (k2:=k2) (k3:=k3) (k5:=k5)
  PySem.F.excBase_ValueError (by decide) PySem.F.excBase_ValueError (mN:=mN) (T.hasType PySem.F.excBase_ValueError.hasBase) hh (by rw[he];rfl) hni (zbR I hg hm ⟨rfl,?_⟩ hd)
 rw[he]
 refine Calls.evalArgs_plain (Calls.spliced_cons (thn (ha pins s σ H I hq.1) fun u s1 I1=>Calls.spliced_nil ?_))
 refine⟨rfl,(by show 1<=sizeLine;decide),I1.bk _ _ hC,hN.keeps I1.bk,T.keeps I1.bk,fun h' b hm=>?_⟩
 obtain⟨tt,e1,e2,e3⟩:=hm.there
 refine hx pins σ H { s1 with heap:=h' } b (.ref C) (I1.kept (t':=s1.toks) hm.keeps) ⟨_,_,_,zjJ hex I1 hm.new,?_,e1,rfl,rfl,rfl,.inl rfl⟩ hq.2
 cases q:H b with
 | none=>rfl
 | some o=>obtain⟨u,e⟩:=(I1.hok b o q).there;rw[hm.new] at e;cases e
end
end L2
namespace L2
open PySem PySem.Spec PyProof.Rows
section
variable {X:Cx} {pins:List (Addr×Obj)} {σ:St} {H:Hp} {s:Shared} {a:Addr} {cls:Value}
theorem Inv.flown{h':Heap}(I:Inv X pins σ H s)(hex:X.ex=[])(F:Flown (frs X.stack) (Nw X pins) H a cls s.heap h'):Inv X pins σ H { s with heap:=h' }:=by
 have neL:∀b o,X.s₀.heap.get? b=some o->b≠X.env.locals:=fun b o e=>Nat.ne_of_lt (Nat.lt_of_lt_of_le (Heap.lt_size e) I.ok.above)
 have hs0:∀b o,X.s₀.heap.get? b=some o->¬Nw X pins b:=fun b o e n=>by rw[n.1] at e;cases e
 have stk:∀b,b≠X.env.locals->b∉X.fs->b∉frs X.stack:=fun b h1 h2=>I.stkNe h1 h2
 have anyK:∀b o,s.heap.get? b=some o->(¬Nw X pins b\/∀vs,o.data≠.fields vs)->∃sl,h'.get? b=some { o with slots:=sl }:=fun b o e hn=>by
  by_cases hm:b∈frs X.stack
  ·exact F.slot b o e hm
  ·exact⟨o.slots,F.keep b o e hm (.inr hn)⟩
 have cellK:∀x c,X.env.cells.lookup x=some c->∀v,s.heap.IsCell c v->h'.IsCell c v:=fun x c e v ⟨o,ho,hd⟩=>by
  obtain⟨sl,q⟩:=anyK c o ho (.inr fun vs q=>by rw[hd] at q;cases q)
  exact⟨_,q,hd⟩
 refine⟨I.ok,I.os,I.bare,⟨fun b o e n hb hx=>?_,fun b o e n hb hx=>?_,I.base.free,fun b o e hx=>?_,I.base.tups,I.base.frzs,I.base.tbls⟩,?_,fun x c e=>?_,I.free,I.freeC,fun p hp=>?_,fun b o e=>?_,I.len⟩
 ·exact F.keep b o (I.base.keep b o e n hb hx) (stk b (neL b o e) hb) (.inr (.inl (hs0 b o e)))
 ·obtain⟨sl,e1⟩:=I.base.slot b o e n hb hx
  obtain⟨sl',e2⟩:=anyK b _ e1 (.inl (hs0 b o e))
  exact⟨sl',e2⟩
 ·obtain⟨o',e1⟩:=I.base.there b o e hx
  obtain⟨sl',e2⟩:=anyK b _ e1 (.inl (hs0 b o e))
  exact⟨_,e2⟩
 ·obtain⟨m,hn,hl⟩:=I.loc
  obtain⟨oL,es,ep,hoL,hdL,r⟩:=id hn
  obtain⟨sl,q⟩:=anyK _ oL hoL (.inr fun vs q=>by rw[hdL] at q;cases q)
  refine⟨m,⟨_,es,ep,q,hdL,r⟩,fun i x v e1 e2 e3=>?_⟩
  obtain⟨u,r,l⟩:=hl i x v e1 e2 e3
  refine⟨u,r,?_⟩
  rcases l with l|⟨k,c,e,z⟩
  ·exact .inl l
  ·exact .inr ⟨k,c,e,cellK x c e _ z⟩
 ·obtain⟨v,z⟩:=I.cell x c e
  exact⟨v,cellK x c e v z⟩
 ·obtain⟨e,n,ne,nf,d⟩:=I.pin p hp
  exact⟨F.keep p.1 p.2 e (stk _ ne nf) (.inr (.inl fun hn=>hn.2 p hp rfl)),n,ne,nf,d⟩
 ·refine(I.hok b o e).stay (fun c u hc r=>?_) (fun _ q=>q) fun _ _ q=>q
  have hH:H c≠none:=by
   rcases hc with rfl|hc
   ·rw[e];simp
   ·rw[hc];simp
  exact F.keep c u r (fun hm=>hH (I.stkFree c hm)) (.inl hH)
theorem Fl.nw{h':Heap}(I:Inv X pins σ H s)(hex:X.ex=[])(F:Flown (frs X.stack) (Nw X pins) H a cls s.heap h'):Fl (Nw X pins) a cls H h':=F.fl.mono fun b hb=>hb.elim id fun hb=>zjJ hex I hb
theorem zcg{N:Addr->Prop}{M:Model}{A:Around}{E:Value->Shared->Prop}{Q:Unit->Shared->Prop}(f:Fl N a cls H s.heap)(h:Q () s):wpAny M A (setFlight (.ref a) none) Q E s:=by
 obtain⟨oe,vs,a0,_,_,he,_,hd,h0,h1⟩:=f
 unfold setFlight
 rcases h1 with h1|⟨T,oT,ts,h1,_,_,_,hT,hdT,h3⟩
 ·refine wpAny_bind (wpAny_field he hd h1 ?_)
  rw[if_neg (by decide)]
  exact wpAny_pure h
 ·refine wpAny_bind (wpAny_field he hd h1 ?_)
  rw[if_pos (show(Value.ref T != Value.none)=true from by simp)]
  refine wpAny_setField hT hdT (Array.getElem?_eq_some_iff.mp h3).1 ?_
  show Q () { s with heap:=s.heap.update T (Obj.mapFields (·.setIfInBounds 3 Value.none)) }
  rw[Heap.update_setField_same s.heap T oT ts 3 Value.none hT hdT h3]
  exact h
theorem Inv.trackX{N:Addr->Prop}(I:Inv X pins σ H s)(hN:∀b,N b->Nw X pins b)(f:Fl N a cls H s.heap):Inv X pins σ (upd H a (.ext (VS.XPhi a cls))) s:=by
 obtain⟨oe,vs,a0,na,ha,he,hc,hd,_⟩:=f
 obtain⟨n1,n2⟩:=hN a na
 obtain⟨m,hn,hl⟩:=id I.loc
 obtain⟨oL,es,ep,hoL,hdL,r⟩:=id hn
 have hne:a≠X.env.locals:=by rintro rfl;rw[he] at hoL;cases hoL;rw[hd] at hdL;cases hdL
 have up:∀b,b≠a->∀{o:Option HO},H b=o->upd H a (.ext (VS.XPhi a cls)) b=o:=fun b hb o e=>by rw[zaz hb];exact e
 refine⟨I.ok,I.os,I.bare,⟨I.base.keep,I.base.slot,fun b o e n hx=>?_,I.base.there,fun b xs e=>?_,fun b o u e=>?_,fun b ps e=>?_⟩,I.loc,I.cell,?_,fun x c e=>?_,fun p hp=>?_,I.hok.track ha ⟨⟨oe,vs,he,hc,hd⟩,⟨oe,he⟩,fun h1 h2 ⟨o,vs,e1,e2,e3⟩ k=>⟨o,vs,k _ e1,e2,e3⟩⟩,I.len⟩
 ·refine up b ?_ (I.base.free b o e n hx)
  rintro rfl;rw[n1] at e;cases e
 ·have:=I.base.tups b xs e
  exact up b (zaq this ha) this
 ·have:=I.base.frzs b o u e
  exact up b (zaq this ha) this
 ·obtain⟨m,this⟩:=I.base.tbls b ps e
  exact⟨m,up b (zaq this ha) this⟩
 ·exact up _ (Ne.symm hne) I.free
 ·refine up c ?_ (I.freeC x c e)
  rintro rfl
  obtain⟨v,o,ho,hd'⟩:=I.cell x c e
  rw[he] at ho;cases ho;rw[hd] at hd';cases hd'
 ·obtain⟨e,n,r⟩:=I.pin p hp
  exact⟨e,up _ (n2 p hp) n,r⟩
theorem zcX{M:Model}{A:Around}{E:Value->Shared->Prop}{i:Nat}{n:Str}{pos:Pos}{Q:Unit->Shared->Prop}(I:Inv X pins σ H s)(hN:X.N.Nodup)(hi:X.N[i]?=some n)(hk:X.env.scope.names.lookup n=some .local)(h:∀s',Inv X pins (σ.set i none) H s'->Q () s'):wpAny M A (do bindName X.env n .none;unbindBehindTheSuite X.env n pos) Q E s:=by
 obtain⟨m,hn,hl⟩:=id I.loc
 have hcls:(X.env.scope.kind==.class||(X.env.scope.kind==.module&&X.env.locals != X.env.globals))=false:=by rw[I.ok.kind];rfl
 refine wpAny_nameGoes_keeps hk hn hcls fun h' v hn' hs=>h _ ?_
 refine⟨I.ok,I.os,I.bare,⟨fun b o e n hb hx=>?_,fun b o e n hb hx=>?_,I.base.free,fun b o e hx=>?_,I.base.tups,I.base.frzs,I.base.tbls⟩,⟨_,hn',fun j y v' e1 e2 e3=>?_⟩,fun y c e=>?_,I.free,I.freeC,fun p hp=>?_,fun b ob e=>?_,by simpa using I.len⟩
 ·exact(hs.2 b (Nat.ne_of_lt (Nat.lt_of_lt_of_le (Heap.lt_size e) I.ok.above))).trans (I.base.keep b o e n hb hx)
 ·obtain⟨sl,e1⟩:=I.base.slot b o e n hb hx
  exact⟨sl,(hs.2 b (Nat.ne_of_lt (Nat.lt_of_lt_of_le (Heap.lt_size e) I.ok.above))).trans e1⟩
 ·obtain⟨o',e1⟩:=I.base.there b o e hx
  exact⟨o',(hs.2 b (Nat.ne_of_lt (Nat.lt_of_lt_of_le (Heap.lt_size e) I.ok.above))).trans e1⟩
 ·by_cases hj:j=i
  ·subst hj
   by_cases hjl:j<σ.length
   ·rw[List.getElem?_set_self hjl] at e2;cases e2
   ·rw[List.getElem?_eq_none (by simpa using hjl)] at e2;cases e2
  ·rw[List.getElem?_set_ne (Ne.symm hj)] at e2
   obtain⟨u',r',q⟩:=hl j y v' e1 e2 e3
   refine⟨u',r',?_⟩
   rcases q with ⟨k,e⟩|⟨k,c,e,z⟩
   ·refine .inl ⟨k,?_⟩
    have:y≠n:=fun e=>hj (zeM hN e1 (e▸hi))
    simp[this,e]
   ·exact .inr ⟨k,c,e,z.sameBut hs (I.cne y c e)⟩
 ·obtain⟨w',z⟩:=I.cell y c e
  exact⟨w',z.sameBut hs (I.cne y c e)⟩
 ·obtain⟨e,n,ne,nf,d⟩:=I.pin p hp
  exact⟨(hs.2 p.1 ne).trans e,n,ne,nf,d⟩
 ·refine(I.hok b ob e).stay (fun c w' hc q=>(hs.2 c ?_).trans q) (fun _ q=>q) fun _ _ q=>q
  rintro rfl
  rcases hc with rfl|hc
  ·rw[I.free] at e;cases e
  ·rw[I.free] at hc;cases hc
end
abbrev Cx.hnd(X:Cx)(a:Addr):Cx:={ X with A:=X.A.mark (some (.ref a)),calm:=false,xe:=fun _ _=>False }
section
variable {X:Cx} {pins:List (Addr×Obj)} {σ:St} {H:Hp} {s:Shared} {a:Addr}
theorem Cx.Ok.hnd(ok:X.Ok)(a:Addr):(X.hnd a).Ok :=
 ⟨ok.mod,ok.kind,ok.glob,ok.blt,ok.above,ok.inj,ok.has,ok.cab,fun h=>absurd (show false=true from h) Bool.false_ne_true,ok.frames,ok.stk,ok.exf,ok.bs,ok.bsz,ok.noex,ok.exfs,ok.funs,ok.frf⟩
theorem Inv.hnd(I:Inv X pins σ H s)(a:Addr):Inv (X.hnd a) pins σ H s:=⟨I.ok.hnd a,I.os,I.bare,I.base,I.loc,I.cell,I.free,I.freeC,I.pin,I.hok,I.len⟩
theorem Inv.unhnd(ok:X.Ok)(I:Inv (X.hnd a) pins σ H s):Inv X pins σ H s:=⟨ok,I.os,I.bare,I.base,I.loc,I.cell,I.free,I.freeC,I.pin,I.hok,I.len⟩
theorem SP.unhnd{D:Ends}{f:Flow}{s':Shared}(ok:X.Ok)(h:SP (X.hnd a) pins D f s'):SP X pins D f s':=by
 cases f with
 | next=>obtain⟨σ',H',I,q⟩:=h;exact⟨σ',H',I.unhnd ok,q⟩
 | brk=>obtain⟨σ',H',I,q⟩:=h;exact⟨σ',H',I.unhnd ok,q⟩
 | cont=>obtain⟨σ',H',I,q⟩:=h;exact⟨σ',H',I.unhnd ok,q⟩
 | ret u=>obtain⟨v,σ',H',I,r,q⟩:=h;exact⟨v,σ',H',I.unhnd ok,r,q⟩
end
end L2
namespace L2
open PySem PySem.Spec PyProof.Rows
theorem zem{K:PySem.W.Frag}{M:Model}{A:Around}{E:Value->Shared->Prop}{s:Shared}{Q:Bool->Shared->Prop}{a C S:Addr}{oe:Obj}{b:Bool}(X:K.In s.heap)(he:s.heap.get? a=some oe)(hcls:oe.cls=.ref C)(xs:XC K S)(hm:PySem.W.mroIn K C (.ref S)=some b)(h:Q b s):wpAny M A (excMatches (.ref a) (.ref S)) Q E s:=by
 obtain⟨bm,N,nm,qn,bs,hdct,sn,sub,ab,col,dd,k0,k1,k2,k3,k5,mN,hC,hN,hni,T⟩:=xs.obj X
 have hL:=PySem.W.looks_mroIn (M:=M) X hm
 obtain⟨hp,g,d,tk,os⟩:=s
 have hcB:(Value.ref S::bm).contains (.type "BaseException")=true:=by rw[List.contains_cons,T.hasType PySem.F.excBase_ValueError.hasBase,Bool.or_true]
 have f:=tc_notTuple
 unfold excMatches
 repeat (first|with_reducible refine hL.at ?_|(with_reducible refine wpAny_loadPart_at he ?_;rw[hcls])|with_reducible refine wpAny_loadPart_at hC ?_|(with_reducible refine wpAny_isSubtype_exc hC ?_;rw[hcB])|wp_step)
 cases b<;>(wp_walk;exact h)
section
variable {X:Cx}
def PH(X:Cx)(h:ExceptHandler)(th:Value->TS):Prop:=∀(pins:List (Addr×Obj)) (s:Shared) (σ:St) (H:Hp) (D:Ends) (a:Addr) (cls:Value),Inv X pins σ H s->Fl (Nw X pins) a cls H s.heap->th cls D σ H ->
 wpAny (model X.prog X.w) X.A (handleBy (.ref a) X.env [h]) (SP X pins D) X.xe s
def zlW(D:Ends)(i:Nat):Ends:={ nx:=fun σ' H'=>D.nx (σ'.set i none) H',rt:=D.rt,bk:=fun σ' H'=>D.bk (σ'.set i none) H',ct:=fun σ' H'=>D.ct (σ'.set i none) H' }
theorem zrc{S:Addr}{cn n:Str}{i:Nat}{np hpos:Pos}{b0:Stmt}{suite:List Stmt}{ts:TS}(hN:X.N.Nodup)(hi:X.N[i]?=some n)(hk:X.env.scope.names.lookup n=some .local)(hg:Gl X cn)(hm:X.mg cn=some (.ref S))(xs:XC X.K S)(hs:∀a,PSs (X.hnd a) (b0::suite) ts)(hd:(cn==("__debug__" : Str))=false:=by decide) :
  PH X (.ExceptHandler (some (.Name cn np)) (some n) (b0::suite) hpos) (fun cls D σ H=>(∃C,cls=.ref C/\PySem.W.mroIn X.K C (.ref S)=some true)/\∀a,H a=none->ts (zlW D i) (σ.set i (some (.ref a))) (upd H a (.ext (VS.XPhi a cls)))):=by
 intro pins s σ H D a cls I fl ⟨⟨C,hC,hmr⟩,hq⟩
 subst hC
 refine wpAny_handleBy_cons (codeAny_handlers_test (zbR (X:=X.hnd a) (I.hnd a) hg hm ?_ hd)) (by intro q;cases q)
 obtain⟨oe,vs,a0,_,ha,he,hc,_⟩:=id fl
 refine zem I.kIn he hc xs hmr ?_
 refine codeAny_handlers_suite_as (zcg fl (zdw (I.trackX (fun _ z=>z) fl) hN hi (.inl hk) (show RelV (.ref a) (.ref a) from rfl) (fun s2 I2=>?_) (.inr hk)))
 refine wpAny_mono (hs a pins s2 _ _ (zlW D i) (I2.hnd a) (hq a ha)) (fun f s3 z=>?_) fun _ _ z=>z.elim
 have z':=SP.unhnd I.ok z
 cases f with
 | next=>obtain⟨σ',H',I3,q⟩:=z';exact zcX I3 hN hi hk fun s4 I4=>⟨_,H',I4,q⟩
 | brk=>obtain⟨σ',H',I3,q⟩:=z';exact zcX I3 hN hi hk fun s4 I4=>⟨_,H',I4,q⟩
 | cont=>obtain⟨σ',H',I3,q⟩:=z';exact zcX I3 hN hi hk fun s4 I4=>⟨_,H',I4,q⟩
 | ret u=>obtain⟨v,σ',H',I3,r,q⟩:=z';exact zcX I3 hN hi hk fun s4 I4=>⟨v,_,H',I4,r,q⟩
def XP(X:Cx)(pins:List (Addr×Obj))(σ:St)(E:XK)(e:Value)(s':Shared):Prop:=∃a cls H',e=.ref a/\Inv X pins σ H' s'/\Fl (Nw X pins) a cls H' s'.heap/\E cls none H'
def PCx(X:Cx)(e:Expr)(t:XK->TE):Prop:=∀(pins:List (Addr×Obj)) (s:Shared) (σ:St) (H:Hp) (Q:VK) (E:XK),Inv X pins σ H s->t E σ H Q->wpAny (model X.prog X.w) X.A (eval e X.env) (EP X pins σ Q) (XP X pins σ E) s
def PB(X:Cx)(b:List Stmt)(t:XK->TS):Prop:=∀(pins:List (Addr×Obj)) (s:Shared) (σ:St) (H:Hp) (D:Ends) (E:XK),Inv X pins σ H s->t E D σ H->wpAny (model X.prog X.w) X.A (execs b X.env) (SP X pins D) (XP X pins σ E) s
theorem zlX{b:List Stmt}{h:ExceptHandler}{t:XK->TS}{th:Value->TS}{pos:Pos}(hst:X.stack=X.env::X.outer)(hf:X.env.frame=some X.env.locals)(hex:X.ex=[])(hb:PB X b t)(hh:PH X h th) :
  PS X (.Try b [h] [] [] pos) (fun D σ H=>t (fun cls _ H'=>th cls D σ H') D σ H):=by
 intro pins s σ H D I q
 refine wpAny_Try_except (wpAny_mono (hb pins s σ H D _ I q) (fun f s1 z=>?_) fun e s1 ⟨a,cls,H',e1,I1,fl,z⟩=>?_)
 ·cases f with
  | next=>exact wpAny_execs_nil z
  | brk=>exact z
  | cont=>exact z
  | ret u=>exact z
 ·subst e1
  exact flown I1 hst hf fl fun h' F=>hh pins _ σ H' D a cls (I1.flown hex F) (Fl.nw I1 hex F) z
variable {k:Nat} {f:Addr} {fd:FuncData} {ps:List Str} {sp:Sp} {x:Str} {p pos:Pos} {e:Expr} {es:List Expr} {t:TA}
theorem zg9(F:FnOk X.prog X.w X.K X.mg X.base (CXx X.prog X.w) k f fd ps sp)(hr:Room k X.A)(hex:X.ex=[])(hg:Gl X x)(hm:X.mg x=some (.ref f))(hk:PySem.W.keepIn X.K (.ref f)=true)(hb:Binds X.K fd ps [])(ha:PA X.nox (e::es) t)(hdb:(x==("__debug__" : Str))=false:=by decide)(he:starEach (e::es) X.env=(false,eval e X.env)::starEach es X.env:=by rfl)(hpl:(backTo pos (starEach es X.env)).any (·.1)=false:=by rfl) :
  PCx X (.Call (.Name x p) (e::es) [] pos) (fun E σ H Q=>t σ H fun vs H1=>sp vs H1 Q E):=by
 intro pins s σ H Q E I h
 refine wpAny_Call_Name_kw (zbR I hg hm ?_ hdb)
 refine PySem.W.callWith_K (h₀:=X.base) I.ok.mod.kin hk (wpAny_mono (ha pos pins s σ H _ (I.wish _) h) (fun us s1 ⟨vs,H1,I1,r,q⟩=>⟨I1.unwish.kIn,?_⟩) fun _ _ z=>z.elim) he hpl
 have I1:=I1.unwish
 have hl:(us++[]).length=ps.length:=by rw[List.append_nil,<- r.length];exact F.len _ _ _ _ q
 have hb':=hb s1 us I1.kIn hl
 rw[List.append_nil] at hb'
 refine wpAny_call (codeAny_mono (F.run X.A X.stack s1 H1 ⟨us,[]⟩ us vs Q E hr I1.env0 hb' r q) fun r s' hq=>?_)
 cases r with
 | error e =>
  obtain⟨a,cls,H',rfl,ho,hgn,u,hok,fl,z⟩:=hq
  exact⟨a,cls,H',rfl,I1.call' ho u hok hgn (fun b z=>absurd z (by simp)),fl.mono fun b hb=>zjJ hex I1 hb,z⟩
 | ok fl =>
  cases fl with
  | ret u=>exact I1.after hq
  | next=>exact False.elim hq
  | brk=>exact False.elim hq
  | cont=>exact False.elim hq
variable {te:XK->TE}
theorem zni(he:PCx X e te)(hs:swapsWith e none pos.line X.env=pure false:=by rfl):PB X [.Expr e pos] (fun E D σ H=>te E σ H fun _ H1=>D.nx σ H1):=by
 intro pins s σ H D E I h
 exact wpAny_execs_cons (wpAny_Expr_any (wpAny_mono (he pins s σ H _ E I h) (fun v s1 ⟨x,H1,I1,r1,q1⟩=>wpAny_execs_nil ⟨σ,H1,I1,q1⟩) fun _ _ z=>z) I.quiet hs)
theorem zps{i:Nat}{pos':Pos}(hN:X.N.Nodup)(hi:X.N[i]?=some x)(hx:Loc X.env.scope x)(he:PCx X e te)(hs:swapsWith e (some (.Name x pos')) pos.line X.env=pure false:=by rfl)(hf:X.fn x=true\/X.env.scope.names.lookup x=some .local:=by first|exact .inl rfl|exact .inr rfl|assumption):PB X [.Assign [.Name x pos'] e pos] (fun E D σ H=>te E σ H fun v H1=>D.nx (σ.set i (some v)) H1):=by
 intro pins s σ H D E I h
 refine wpAny_execs_cons (wpAny_Assign_Name (wpAny_mono (he pins s σ H _ E I h) (fun v s1 ⟨y,H1,I1,r1,q1⟩=>?_) fun _ _ z=>z) hs)
 exact zdw I1 hN hi hx r1 (fun s2 I2=>wpAny_execs_nil ⟨_,H1,I2,q1⟩) hf
end
end L2
namespace L2
open PySem PySem.Spec PyProof.Rows PySem.W PySem.Builtin PySem.Builtin.ObjectAttr PySem.Builtin.Getset_descriptor
section
variable {prog:Program} {w:World} {A:Around} {E:Value->Shared->Prop} {K:PySem.W.Frag} {h:Heap} {g:Array GenState} {d:Drawn} {t:Nat} {os:OsState} {a C:Addr} {o:Obj}
theorem zpt{tp:Value}{R:Result->Shared->Prop}(X:K.In h)(hx:h.get? a=some o)(hc:o.cls=.ref C)(hm:mroIn K C (.type "object")=some true)(hq:R (.ok (.ret (.ref C))) ⟨h,g,d,t,os⟩) :
  codeAny (model prog w) A (.call (.builtin "getset_descriptor.__get__") ⟨[.builtin "object.__class__",.ref a,tp],[]⟩) R ⟨h,g,d,t,os⟩:=by
 have L0:Looks (model prog w) h (typeOf (.ref a)) (.ref C):=hc▸(Looks.ld hx).andThen .now
 have L1:=looks_mroIn (M:=model prog w) X hm
 refine codeAny_call_builtin KF.slot_gs.plain KF.entry_gs (KF.slot_gs.check _ _ _ _ _ _ _ _ KF.type_class (KF.args_gs _ _ _) ?_)
 unfold Builtin.«getset_descriptor.__get__» descrGet
 rw[dga_obj]
 refine wpAny_bind (wpAny_pure ?_)
 unfold descrGetter descrCheckInstance descrNameAndClass isInstance
 simp only[KF.owner_class]
 repeat lk
 refine⟨Code.quiet_builtin _ (by decide +kernel),codeAny_builtin KF.entry_class ?_⟩
 unfold Builtin.«object.__class__» shownTypeOf
 repeat lk
 exact hq
theorem zk6{tk:Tok}{Q:Fin->Shared->Prop}(X:K.In h)(hx:h.get? a=some o)(hc:o.cls=.ref C)(hcl:findIn K (.ref C) "__class__" = some (some (.builtin "object.__class__")))(hm:mroIn K C (.type "object")=some true)(hq:Q (.done (.ret (.ref C))) ⟨h,g,d,t,os⟩) :
  wpAny (model prog w) A (Builtin.«object.__getattribute__» ⟨[.ref a,.str "__class__" tk],[]⟩) Q E ⟨h,g,d,t,os⟩:=by
 have hT5:(⟨h,g,d,t,os⟩:Shared).TypeIs (.builtin "object.__class__") "getset_descriptor" := PySem.F.typeOf_object_class
 have f5:=PySem.F.typeOf_object_class
 have f6:=PySem.F.slot_gs_get.lookup
 have f7:=PySem.F.slot_gs_set.lookup
 have L2:=looks_findIn (M:=model prog w) X hcl
 repeat (any_goals (first|assumption|(with_reducible refine wpAny_loadPart_at hx ?_;rw[hc])|with_reducible refine L2.at ?_|wp_step))
 refine zpt X hx hc hm ?_
 repeat (any_goals (first|assumption|wp_step))
theorem zk7{M:Model}{nameV:Value}{Q:Unit->Shared->Prop}(X:K.In h)(hx:h.get? a=some o)(hc:o.cls=.ref C)(hb:mroIn K C (.type "BaseException")=some true)(hq:Q () ⟨h,g,d,t,os⟩) :
  wpAny M A (checkBuiltinCall "BaseException.__getattribute__" ⟨[.ref a,nameV],[]⟩) Q E ⟨h,g,d,t,os⟩:=by
 have hk:builtinKind "BaseException.__getattribute__" = some .slot:=by decide +kernel
 have hsplit:splitId "BaseException.__getattribute__" = some ("BaseException", "__getattribute__"):=by decide +kernel
 have ha:=PySem.F.args_bexc_ga (.ref a) nameV
 have L1:=looks_mroIn (M:=M) X hb
 simp only[checkBuiltinCall,hk,hsplit]
 refine wpAny_bind ?_
 ·unfold isInstance
  repeat (first|(with_reducible refine wpAny_loadPart_at hx ?_;rw[hc])|with_reducible refine L1.at ?_|wp_step)
  exact hq
theorem zrd{tk:Tok}{Q:Value->Shared->Prop}(X:K.In h)(hx:h.get? a=some o)(hc:o.cls=.ref C)(hga:findIn K (.ref C) "__getattribute__" = some (some (.builtin "BaseException.__getattribute__")))(hgh:findIn K (.ref C) "__getattr__" = some none)(hcl:findIn K (.ref C) "__class__" = some (some (.builtin "object.__class__")))(hm:mroIn K C (.type "object")=some true)(hb:mroIn K C (.type "BaseException")=some true)(hq:Q (.ref C) ⟨h,g,d,t,os⟩) :
  wpAny (model prog w) A (getAttrBy (.ref a) (.str "__class__" tk) false) Q E ⟨h,g,d,t,os⟩:=by
 have f3:=PySem.F.attr_ValueError.ga.bind (.ref a)
 have hx2:(Value.builtin "BaseException.__getattribute__" == Value.builtin "object.__getattribute__")=false:=by decide +kernel
 have hx1:(onTheHeap (Value.ref C)&&Value.builtin "BaseException.__getattribute__" == Value.builtin "object.__getattribute__")=false:=by rw[hx2];rfl
 have L1:=looks_findIn (M:=model prog w) X hga
 have L2:=looks_findIn (M:=model prog w) X hgh
 repeat (any_goals (first|assumption|(with_reducible refine wpAny_loadPart_at hx ?_;rw[hc])|with_reducible refine L1.at ?_|with_reducible refine L2.at ?_|wp_step))
 refine codeAny_call_builtin PySem.F.attr_ValueError.ga.plain PySem.F.entry_bexc_ga (zk7 X hx hc hb (zk6 X hx hc hcl hm ?_))
 repeat (any_goals (first|assumption|wp_step))
theorem znj{Q:Option Value->Shared->Prop}(X:K.In h)(hx:h.get? a=some o)(hc:o.cls=.ref C)(hga:findIn K (.ref C) "__getattribute__" = some (some (.builtin "BaseException.__getattribute__")))(hgh:findIn K (.ref C) "__getattr__" = some none)(hcl:findIn K (.ref C) "__class__" = some (some (.builtin "object.__class__")))(hm:mroIn K C (.type "object")=some true)(hb:mroIn K C (.type "BaseException")=some true)(hq:Q (some (.ref C)) ⟨h,g,d,t+1,os⟩) :
  wpAny (model prog w) A (getAttr? (.ref a) "__class__") Q E ⟨h,g,d,t,os⟩:=by
 unfold getAttr? getAttrBy?
 refine wpAny_bind (wpAny_mkText (wpAny_bind (wpAny_attempt (zrd X hx hc hga hgh hcl hm hb (wpAny_pure hq)))))
def znR(K:PySem.W.Frag)(C:Addr):Bool:=excIn K C bmV "ValueError.__new__" && findIn K (.ref C) "__getattribute__" == some (some (.builtin "BaseException.__getattribute__"))&&findIn K (.ref C) "__getattr__" == some none &&
 findIn K (.ref C) "__class__" == some (some (.builtin "object.__class__"))&&mroIn K C (.type "object")==some true&&mroIn K C (.type "BaseException")==some true&&(clsIn K C).isSome
theorem zd6{C:Addr}(q:znR K C=true):XC K C/\findIn K (.ref C) "__getattribute__" = some (some (.builtin "BaseException.__getattribute__"))/\findIn K (.ref C) "__getattr__" = some none /\
  findIn K (.ref C) "__class__" = some (some (.builtin "object.__class__"))/\mroIn K C (.type "object")=some true/\mroIn K C (.type "BaseException")=some true/\(clsIn K C).isSome=true:=by
 unfold znR at q
 simp only[Bool.and_eq_true,beq_iff_eq] at q
 obtain⟨⟨⟨⟨⟨⟨q1,q2⟩,q3⟩,q4⟩,q5⟩,q6⟩,q7⟩:=q
 exact⟨q1,q2,q3,q4,q5,q6,q7⟩
theorem ze6(q:znR K C=true):KitX K (.ref a) (.ref C) (VS.XPhi a (.ref C)):=by
 obtain⟨q1,q2,q3,q4,q5,q6,q7⟩:=zd6 q
 obtain⟨cdD,hcD⟩:=Option.isSome_iff_exists.mp q7
 refine⟨fun M h X p=>?_,fun M h X p=>?_,fun h tp dd its n sl X htp=>?_,fun {prog w A E Q s} X p k=>?_⟩
 ·obtain⟨o,vs,e1,e2,_⟩:=p
  exact e2▸(Looks.ld e1).andThen .now
 ·unfold clsIn at hcD
  split at hcD
  ·rename_i c' d' cd' sl' ho
   intro A' Q' E' s' k q
   unfold isType loadHead
   exact wpAny_bind (wpAny_loadPart (k _ _ (X _ _ ho)) (wpAny_pure q))
  ·cases hcD
 ·refine Bool.eq_false_iff.mpr fun q=>?_
  have e:C=tp:=Value.ref.inj (beq_iff_eq.mp q)
  subst e
  unfold clsIn at hcD
  split at hcD
  ·rename_i c' d' cd' sl' ho
   have z:=(X _ _ ho).symm.trans htp
   cases z
  ·cases hcD
 ·obtain⟨o,vs,e1,e2,_⟩:=p
  obtain⟨hh,gg,dd,tt,oss⟩:=s
  exact znj X e1 e2 q2 q3 q4 q5 q6 k
end
end L2
namespace L2
open PySem PySem.Spec PyProof.Rows
section
variable {X:Cx}
def zre(K:PySem.W.Frag):List V->Hp->VK->Prop:=fun xs H Q=>∃a C,PySem.W.keepIn K (.ref C)=PySem.W.keepIn K (.ref C)/\znR K C=true/\H a=some (.ext (VS.XPhi a (.ref C))) /\
 ((∃S b,xs=[.ref a,.ref S]/\PySem.W.kitOne K (.ref C) (.ref S)=some b/\Q (.bl b) H)\/(∃T b,xs=[.ref a,.ty T]/\PySem.W.kitOne K (.ref C) (.type T)=some b/\Q (.bl b) H) \/
   (∃(tp:Addr) (Ss:List Addr) (b:Bool),xs=[.ref a,.ref tp]/\H tp=some (.tup (Ss.map V.ref))/\PySem.W.kitAny K (.ref C) (Ss.map Value.ref)=some b/\Q (.bl b) H))
theorem zfT:∀{Ss:List Addr} {us:List Value},Vals (Ss.map V.ref) us->us=Ss.map Value.ref
 | [],us,h=>by cases h;rfl
 | S::r,us,h=>by
  cases h with
  | cons h1 h2 =>
   rw[zfT h2]
   exact congrArg (·::_) h1
theorem zk8:CallR X (.builtin "isinstance") (zre X.K):=by
 intro pins s σ H xs us Q I r h
 obtain⟨a,C,_,xc,hH,h⟩:=h
 have hp:VS.XPhi a (.ref C) s.heap:=(I.hok a _ hH).1
 have fin:∀b tk,Q (.bl b) H->EP X pins σ Q (.bool b) { s with toks:=tk }:=fun b tk q=>⟨.bl b,H,I.tok tk,rfl,q⟩
 rcases h with ⟨S,b,rfl,e,q⟩|⟨T,b,rfl,e,q⟩|⟨tp,Ss,b,rfl,hT,e,q⟩
 ·obtain⟨u,w',rfl,rx,ry⟩:=zmp r
  cases rx;cases ry
  exact PySem.W.kia_one (ze6 xc) I.kIn hp e (by intro z;cases z) fun tk=>fin b tk q
 ·obtain⟨u,w',rfl,rx,ry⟩:=zmp r
  cases rx;cases ry
  exact PySem.W.kia_one (ze6 xc) I.kIn hp e (by intro z;cases z) fun tk=>fin b tk q
 ·obtain⟨u,w',rfl,rx,ry⟩:=zmp r
  cases rx;cases ry
  obtain⟨_,its,rv,⟨oc,od,odt,osl⟩,e1,e2,⟨n,e3⟩,_⟩:=I.hok tp _ hT
  dsimp only at e2 e3
  subst e2;subst e3
  rw[zfT rv] at e1
  exact PySem.W.kia_tup (ze6 xc) I.kIn hp e1 e (by intro z;cases z) fun tk=>fin b tk q
end
end L2
namespace VS
open PySem PySem.Spec PyProof.Rows L2
section
def clOf(K:PySem.W.Frag)(nm:Str):Addr:=match PySem.W.nsIn K mainGlobals nm with
 | some (some (.ref C))=>C
 | _=>0
abbrev Gy(K:PySem.W.Frag):Ga:=⟨K,clOf K,fun x cv od _=>cv=.ref (clOf K x.nm)/\od=none⟩
abbrev XTb:=List (Str×Bool×List Str)
def zrf(K:PySem.W.Frag)(tb:XTb):Bool:=tb.all fun p=>PySem.W.nsIn K mainGlobals p.1==some (some (.ref (clOf K p.1)))&&(!p.2.1||(znR K (clOf K p.1)&&PySem.W.kitOne K (.ref (clOf K p.1)) (.type "ValueError")==some true &&
 tb.all fun q=>PySem.W.kitOne K (.ref (clOf K p.1)) (.ref (clOf K q.1))==some (p.2.2.contains q.1)&&PySem.W.mroIn K (clOf K p.1) (.ref (clOf K q.1))==some (p.2.2.contains q.1)))
structure XT (K:PySem.W.Frag) (mg:Str->Option Value) (tb:XTb):Prop where
 ok:zrf K tb=true
 mg:∀p∈tb,mg p.1=some (.ref (clOf K p.1))
theorem zrg{K:PySem.W.Frag}{h:Heap}{mg:Str->Option Value}{tb:XTb}(X:K.In h)(G:h.Ns mainGlobals mg)(ok:zrf K tb=true):XT K mg tb:=by
 refine⟨ok,fun p hp=>?_⟩
 have:=List.all_eq_true.mp ok p hp
 simp only[Bool.and_eq_true,beq_iff_eq] at this
 exact PySem.W.mg_of X G this.1
section
variable {K:PySem.W.Frag} {mg:Str->Option Value} {tb:XTb}
theorem XT.x(T:XT K mg tb){nm:Str}{anc:List Str}(h:(nm,true,anc)∈tb):znR K (clOf K nm)=true/\PySem.W.kitOne K (.ref (clOf K nm)) (.type "ValueError")=some true /\
  ∀q∈tb,PySem.W.kitOne K (.ref (clOf K nm)) (.ref (clOf K q.1))=some (anc.contains q.1)/\PySem.W.mroIn K (clOf K nm) (.ref (clOf K q.1))=some (anc.contains q.1):=by
 have:=List.all_eq_true.mp T.ok _ h
 simp only[Bool.not_true,Bool.false_or,Bool.and_eq_true,beq_iff_eq,List.all_eq_true] at this
 exact⟨this.2.1.1,this.2.1.2,fun q hq=>this.2.2 q hq⟩
end
def zcY(tb:XTb)(nm:Str):Option (List Str):=match tb.find? (fun p=>p.1==nm&&p.2.1) with
 | some p=>some p.2.2
 | none=>none
theorem zbc{tb:XTb}{nm:Str}{anc:List Str}(h:zcY tb nm=some anc):(nm,true,anc)∈tb:=by
 unfold zcY at h
 split at h
 ·rename_i p e
  cases h
  have h1:=List.mem_of_find?_eq_some e
  have h2:=List.find?_some e
  simp only[Bool.and_eq_true,beq_iff_eq] at h2
  obtain⟨a,b,c⟩:=p
  dsimp only at h2
  obtain⟨rfl,rfl⟩:=h2
  exact h1
 ·cases h
def noX{α:Type}(m:M α):M α:=fun ce=>match m ce with
 | some (.ok a ce')=>some (.ok a ce')
 | _=>none
section
variable {α β:Type} {X:Cx} {G:Ga} {E E':XK} {RP:Hp->List Addr->α->β->Prop}
theorem toT.noX{d:Sl->M α}{σ:VS.St}{H:Hp}{Q:β->Hp->Prop}(h:toT G E RP (fun sl=>VS.noX (d sl)) σ H Q):toT G E' RP d σ H Q:=by
 obtain⟨F,as,sl,ce,S,P⟩:=h
 refine⟨F,as,sl,ce,S,?_⟩
 unfold VS.noX at P
 dsimp only at P
 split at P
 ·rename_i a ce' e
  rw[e];exact P
 ·exact(show False from P).elim
def zh3{α:Type}(d:Sl->M α):Sl->M α:=fun sl=>noX (d sl)
theorem zpu{e:Expr}{d:Sl->M Bool}(h:PT X e (zb8 G E0 d)):PT X e (zb8 G E (zh3 d)):=PT.imp h fun _ _ _ z=>z.noX
end
def sml(sl:Sl)(i:Nat):Bool:=match sl[i]? with
 | some (some (.int n))=>decide (n.natAbs<1000)
 | _=>false
def zch(nm:Str)(l:List Nat):DS:=fun sl ce=>if l.all (sml sl)=true then some (.ex ⟨nm,none⟩ ce) else none
section
variable {X:Cx} {K:PySem.W.Frag} {E:XK} {tb:XTb} {x:Str} {np cpos pos:Pos} {e:Expr} {t:L2.St->Prop}
theorem ze7{l:List Nat}{anc:List Str}(hx:Flies X E)(hK:X.K=K)(T:XT K X.mg tb)(hm:zcY tb x=some anc)(hex:X.ex=[])(hg:Gl X x)(hh:X.A.handled=none)(ha:PX X e t)(ht:∀σ:L2.St,(∀i∈l,∃n:Int,σ[i]?=some (some (.int n))/\n.natAbs<1000)->t σ)(he:starEach [e] X.env=[(false,eval e X.env)]:=by rfl)(hd:(x==("__debug__" : Str))=false:=by decide) :
  PS X (.Raise (some (.Call (.Name x np) [e] [] cpos)) none pos) (toTS (Gy K) E (zch x l)):=by
 have hmem:=zbc hm
 have hx':=(zd6 (T.x hmem).1).1
 refine PS.imp (zk5 (E:=E) (C:=clOf K x) hx hex (by rw[hK];exact hx') hg (T.mg _ hmem) hh ha he hd) fun D σ H zz_=>el6 zz_ fun F as sl ce S P=>?_
 unfold zch at P
 split at P
 ·rename_i h
  refine⟨ht σ fun i hi=>?_,P H F as (.ref (clOf K x)) none .refl S.st ⟨rfl,rfl⟩⟩
  have:=List.all_eq_true.mp h i hi
  unfold sml at this
  split at this
  ·rename_i n e
   obtain⟨v,e1,e2⟩:=S.slot i _ e
   simp only[Rep] at e2
   subst e2
   exact⟨n,e1,of_decide_eq_true this⟩
  ·cases this
 ·exact(show False from P).elim
end
def zp2(d:DS):DS:=fun sl ce=>match d sl ce with
 | some (.go f sl' ce')=>some (.go f sl' ce')
 | _=>none
def zrR(put:Option Nat)(sl:Sl)(w:W):Sl:=match put with
 | some i=>sl.set i (some w)
 | none=>sl
def zsz(put:Option Nat)(σ:VS.St)(v:V):VS.St:=match put with
 | some i=>σ.set i (some v)
 | none=>σ
def zir(c:Sl->M W)(put:Option Nat)(ok:Exn->Bool)(hd:Exn->DS):DS:=fun sl ce=>match c sl ce with
 | some (.ok w ce')=>some (.go .nx (zrR put sl w) ce')
 | some (.ex x ce')=>if ok x=true then hd x sl ce' else none
 | none=>none
def zrh(i:Nat):Option O->Option O
 | some (.go f sl ce)=>some (.go f (sl.set i none) ce)
 | _=>none
def dAs(i:Nat)(d:DS):Exn->DS:=fun x sl ce=>zrh i (d (sl.set i (some (.cel ce.length))) (ce++[.exn x.nm]))
def zbG(tb:XTb)(cn:Str)(x:Exn):Bool:=match zcY tb x.nm with
 | some anc=>anc.contains cn&&tb.any (fun p=>p.1==cn)
 | none=>false
theorem zh4{K:PySem.W.Frag}{mg:Str->Option Value}{tb:XTb}(T:XT K mg tb){cn:Str}{x:Exn}(h:zbG tb cn x=true):PySem.W.mroIn K (clOf K x.nm) (.ref (clOf K cn))=some true:=by
 unfold zbG at h
 split at h
 ·rename_i anc e
  simp only[Bool.and_eq_true,List.any_eq_true,beq_iff_eq] at h
  obtain⟨h1,p,hp,rfl⟩:=h
  have:=((T.x (zbc e)).2.2 p hp).2
  rw[h1] at this
  exact this
 ·cases h
theorem SR.unset{G:Ga}{F:Hp}{as:List Addr}{H:Hp}{σ:VS.St}{sl:Sl}{ce:Ce}(S:SR G F as H σ sl ce)(i:Nat):SR G F as H (σ.set i none) (sl.set i none) ce:=by
 refine⟨S.st,by rw[List.length_set,List.length_set];exact S.len,fun j u e=>?_⟩
 by_cases hj:i=j
 ·subst hj
  have hi:i<sl.length:=by have:=zat e;rwa [List.length_set] at this
  rw[List.getElem?_set_self hi] at e
  cases e
 ·rw[List.getElem?_set_ne hj] at e
  obtain⟨v,h1,h2⟩:=S.slot j u e
  exact⟨v,by rw[List.getElem?_set_ne hj];exact h1,h2⟩
section
variable {X:Cx} {K:PySem.W.Frag} {E:XK} {tb:XTb} {k n:Nat} {f:Addr} {fd:FuncData} {ps:List Str} {df:List W->M W} {x cn:Str} {p pos hpos np cpos epos:Pos} {e:Expr} {es:List Expr} {dr:Sl->M (List W)} {h:ExceptHandler} {hd:Exn->DS} {ok:Exn->Bool} {b0:Stmt} {suite:List Stmt} {ds:DS}
def PHv(K:PySem.W.Frag)(E:XK)(X:Cx)(h:ExceptHandler)(ok:Exn->Bool)(hd:Exn->DS):Prop:=∃th:Value->TS,PH X h th/\∀D σ H F as sl ce (x:Exn),SR (Gy K) F as H σ sl ce->ok x=true->PostS (Gy K) E D F as (hd x sl ce)->th (.ref (clOf K x.nm)) D σ H
theorem zjK{G:Ga}{E':XK}{D:Ends}{F:Hp}{as:List Addr}{sl:Sl}{ce:Ce}(P:PostS G E D F as (zp2 ds sl ce)):PostS G E' D F as (ds sl ce):=by
 unfold zp2 at P
 split at P
 ·rename_i e;rw[e];exact P
 ·exact(show False from P).elim
theorem zri{i:Nat}{nm:Str}{anc:List Str}(hK:X.K=K)(T:XT K X.mg tb)(hm:zcY tb cn=some anc)(hN:X.N.Nodup)(hi:X.N[i]?=some nm)(hk:X.env.scope.names.lookup nm=some .local)(hg:Gl X cn)(hs:∀a,PSs (X.hnd a) (b0::suite) (toTS (Gy K) E0 ds))(hd:(cn==("__debug__" : Str))=false:=by decide):PHv K E X (.ExceptHandler (some (.Name cn np)) (some nm) (b0::suite) hpos) (zbG tb cn) (dAs i ds):=by
 have hmem:=zbc hm
 refine⟨_,zrc hN hi hk hg (T.mg _ hmem) (by rw[hK];exact(zd6 (T.x hmem).1).1) hs hd,fun D σ H F as sl ce x S hx P=>⟨⟨_,rfl,by rw[hK];exact zh4 T hx⟩,fun a ha=>?_⟩⟩
 obtain⟨S2,l2⟩:=S.st.alloc (G:=Gy K) (o:=.ext (XPhi a (.ref (clOf K x.nm)))) ha (c:=.exn x.nm) (fun as' _=>zaB)
 have S3:SR (Gy K) F (as++[a]) (upd H a (.ext (XPhi a (.ref (clOf K x.nm))))) σ sl (ce++[.exn x.nm]):=S.slots S2 l2
 have hr:Rep F (as++[a]) (.cel ce.length) (.ref a):=by
  simp only[Rep]
  exact⟨a,rfl,by rw[<- S.st.len];simp⟩
 refine⟨F,as++[a],_,_,S3.put hr i,?_⟩
 unfold dAs at P
 revert P
 cases ds (sl.set i (some (.cel ce.length))) (ce++[.exn x.nm]) with
 | none=>exact fun P=>P
 | some o=>cases o with
  | ex y ce'=>exact fun P=>(show False from P).elim
  | go f sl' ce' =>
   intro P σ' H' F' as' l S'
   have q:=P (σ'.set i none) H' F' as' (l2.trans l) (S'.unset i)
   cases f with
   | nx=>exact q
   | bk=>exact q
   | ct=>exact q
   | rt w=>exact q
theorem zjL{G:Ga}{D:Ends}{σ:VS.St}{H:Hp}{put:Option Nat}{th:Value->TS}{F:Hp}{as:List Addr}{sl:Sl}{ce:Ce}(hh:∀D σ H F as sl ce (x:Exn),SR (Gy K) F as H σ sl ce->ok x=true->PostS (Gy K) E D F as (hd x sl ce)->th (.ref (clOf K x.nm)) D σ H)(S:SR (Gy K) F as H σ sl ce)(P:PostS (Gy K) E D F as (zir (zar n df (zh3 dr)) put ok hd sl ce)) :
  zez (Gy K) E0 dr σ H fun vs H1=>spV (Gy K) (fun E=>E) n df vs H1 (fun v H2=>D.nx (zsz put σ v) H2) (fun cls _ H'=>th cls D σ H'):=by
 refine⟨F,as,sl,ce,S,?_⟩
 unfold zir zar zh3 noX bnd at P
 dsimp only at P
 cases e:dr sl ce with
 | none=>rw[e] at P;exact(show False from P).elim
 | some r=>cases r with
  | ex y ce'=>rw[e] at P;exact(show False from P).elim
  | ok ws ce1 =>
   rw[e] at P
   dsimp only at P
   intro vs H1 F1 as1 l1 S1 rs
   split at P
   ·rename_i w ce2 e2
    split at e2
    ·rename_i hl
     refine⟨by rw[rs.length];exact hl,F1,as1,ws,ce1,S1.st,rs,?_⟩
     rw[e2]
     intro v H2 F2 as2 l2 S2 rv
     have S3:=S1.slots S2 l2
     cases put with
     | none=>exact P σ H2 F2 as2 (l1.trans l2) S3
     | some i=>exact P _ H2 F2 as2 (l1.trans l2) (S3.put rv i)
    ·cases e2
   ·rename_i x ce2 e2
    split at e2
    ·rename_i hl
     refine⟨by rw[rs.length];exact hl,F1,as1,ws,ce1,S1.st,rs,?_⟩
     rw[e2]
     split at P
     ·rename_i hok
      intro H2 F2 as2 cv od l2 S2 hx
      obtain⟨rfl,rfl⟩:=hx
      exact hh D σ H2 F2 as2 sl ce2 x (S1.slots S2 l2) hok (P.le (l1.trans l2))
     ·exact(show False from P).elim
    ·cases e2
   ·exact(show False from P).elim
theorem znk(hst:X.stack=X.env::X.outer)(hf:X.env.frame=some X.env.locals)(hex:X.ex=[])(Fk:FnOk X.prog X.w X.K X.mg X.base (CXx X.prog X.w) k f fd ps (spV (Gy K) (fun E=>E) n df))(hr:Room k X.A)(hg:Gl X x)(hm:X.mg x=some (.ref f))(hk:PySem.W.keepIn X.K (.ref f)=true)(hb:Binds X.K fd ps [])(ha:PA X.nox (e::es) (zez (Gy K) E0 dr))(hh:PHv K E X h ok hd)(hdb:(x==("__debug__" : Str))=false:=by decide)(he:starEach (e::es) X.env=(false,eval e X.env)::starEach es X.env:=by rfl)(hpl:(backTo cpos (starEach es X.env)).any (·.1)=false:=by rfl)(hs:swapsWith (.Call (.Name x p) (e::es) [] cpos) none epos.line X.env=pure false:=by rfl) :
  PS X (.Try [.Expr (.Call (.Name x p) (e::es) [] cpos) epos] [h] [] [] pos) (toTS (Gy K) E (zir (zar n df (zh3 dr)) none ok hd)):=by
 obtain⟨th,hh1,hh2⟩:=hh
 exact PS.imp (zlX hst hf hex (zni (zg9 Fk hr hex hg hm hk hb ha hdb he hpl) hs) hh1) fun D σ H zz_=>el6 zz_ fun F as sl ce S P=>zjL (G:=Gy K) hh2 S P
theorem znl{i:Nat}{y:Str}{pos':Pos}(hst:X.stack=X.env::X.outer)(hf:X.env.frame=some X.env.locals)(hex:X.ex=[])(hN:X.N.Nodup)(hi:X.N[i]?=some y)(hx:Loc X.env.scope y)(Fk:FnOk X.prog X.w X.K X.mg X.base (CXx X.prog X.w) k f fd ps (spV (Gy K) (fun E=>E) n df))(hr:Room k X.A)(hg:Gl X x)(hm:X.mg x=some (.ref f))(hk:PySem.W.keepIn X.K (.ref f)=true)(hb:Binds X.K fd ps [])(ha:PA X.nox (e::es) (zez (Gy K) E0 dr))(hh:PHv K E X h ok hd)(hdb:(x==("__debug__" : Str))=false:=by decide)(he:starEach (e::es) X.env=(false,eval e X.env)::starEach es X.env:=by rfl)(hpl:(backTo cpos (starEach es X.env)).any (·.1)=false:=by rfl)(hs:swapsWith (.Call (.Name x p) (e::es) [] cpos) (some (.Name y pos')) epos.line X.env=pure false:=by rfl)(hfn:X.fn y=true\/X.env.scope.names.lookup y=some .local:=by first|exact .inl rfl|exact .inr rfl|assumption) :
  PS X (.Try [.Assign [.Name y pos'] (.Call (.Name x p) (e::es) [] cpos) epos] [h] [] [] pos) (toTS (Gy K) E (zir (zar n df (zh3 dr)) (some i) ok hd)):=by
 obtain⟨th,hh1,hh2⟩:=hh
 exact PS.imp (zlX hst hf hex (zps hN hi hx (zg9 Fk hr hex hg hm hk hb ha hdb he hpl) hs hfn) hh1) fun D σ H zz_=>el6 zz_ fun F as sl ce S P=>zjL (G:=Gy K) hh2 S P
end
def zh5(ce:Ce):W->Option Str
 | .cel k=>match ce[k]? with
  | some (.exn nm)=>some nm
  | _=>none
 | _=>none
def zgw(tb:XTb)(ce:Ce)(w:W)(cn:Str):Option W:=(zh5 ce w).bind fun nm=>(zcY tb nm).bind fun anc=>if tb.any (fun p=>p.1==cn)=true then some (.bl (anc.contains cn)) else none
def zpv(tb:XTb)(ce:Ce)(w:W):Option W:=(zh5 ce w).bind fun nm=>(zcY tb nm).bind fun _=>some (.bl true)
def zfU(f:Ce->W->Option W)(d:Sl->M W):Sl->M W:=fun sl=>bnd (d sl) fun w=>look fun ce=>f ce w
section
variable {X:Cx} {K:PySem.W.Frag} {E:XK} {tb:XTb} {cn:Str} {p pos p2:Pos} {e:Expr} {d:Sl->M W} {F:Hp} {as:List Addr} {H:Hp} {ce:Ce} {w:W} {v:V}
theorem zha{nm:Str}{σ:VS.St}{sl:Sl}(S:SR (Gy K) F as H σ sl ce)(r:Rep F as w v)(h:zh5 ce w=some nm):∃a,v=.ref a/\H a=some (.ext (XPhi a (.ref (clOf K nm)))):=by
 unfold zh5 at h
 split at h
 ·rename_i k
  split at h
  ·rename_i nm' e
   cases h
   simp only[Rep] at r
   obtain⟨a,rfl,ha⟩:=r
   obtain⟨_,q⟩:=S.st.cell k a _ ha e
   exact⟨a,rfl,q⟩
  ·cases h
 ·cases h
theorem zlY{f:Ce->W->Option W}{x2:Expr}{t2:TE}(hK:X.K=K)(hx:PE X e (zau (Gy K) E d))(h2:PE X x2 t2)(hg:Gl X "isinstance")(hm:X.mg "isinstance" = none)(hf:∀F as H σ sl ce w w' v (Q:VK),SR (Gy K) F as H σ sl ce->Rep F as w v->f ce w=some w'->(∀H' v',(∀b o,H b=some o->H' b=some o)->SR (Gy K) F as H' σ sl ce->Rep F as w' v'->Q v' H')->t2 σ H fun u H2=>zre K [v,u] H2 Q)(he:starEach [e,x2] X.env=(false,eval e X.env)::starEach [x2] X.env:=by rfl)(he2:starEach [x2] X.env=(false,eval x2 X.env)::starEach [] X.env:=by rfl)(hpl:(backTo pos (starEach [x2] X.env)).any (·.1)=false:=by rfl) :
  PE X (.Call (.Name "isinstance" p) [e,x2] [] pos) (zau (Gy K) E (zfU f d)):=by
 refine PE.imp (zgI (r:=zre K) (hK▸zk8) hg hm PyProof.Rows.boot_isinstance (zdR hx (zdR h2 zgG he2) he) (he:=he) (hpl:=hpl)) fun σ H Q zz_=>el6 zz_ fun F as sl ce S P=>?_
 refine(step S P).mono fun v H1 zz_=>el8 zz_ fun w F1 as1 ce1 l1 S1 r1 P1=>?_
 obtain⟨w',e1,P2⟩:=zbn P1
 exact hf F1 as1 H1 σ sl ce1 w w' v Q S1 r1 e1 fun H' v' _ S' r'=>P2 v' H' F1 as1 .refl S' r'
theorem zbD(hK:X.K=K)(T:XT K X.mg tb)(hin:tb.any (fun p=>p.1==cn)=true)(hx:PE X e (zau (Gy K) E d))(hg:Gl X "isinstance")(hm:X.mg "isinstance" = none)(hgc:Gl X cn)(hd:(cn==("__debug__" : Str))=false:=by decide)(he:starEach [e,.Name cn p2] X.env=(false,eval e X.env)::starEach [.Name cn p2] X.env:=by rfl)(he2:starEach [.Name cn p2] X.env=(false,eval (.Name cn p2) X.env)::starEach [] X.env:=by rfl)(hpl:(backTo pos (starEach [.Name cn p2] X.env)).any (·.1)=false:=by rfl) :
  PE X (.Call (.Name "isinstance" p) [e,.Name cn p2] [] pos) (zau (Gy K) E (zfU (fun ce w=>zgw tb ce w cn) d)):=by
 obtain⟨q,hq,hqn⟩:=List.any_eq_true.mp hin
 have hqn:=beq_iff_eq.mp hqn
 have hmg:X.mg cn=some (.ref (clOf K cn)):=hqn▸T.mg q hq
 refine zlY hK hx (ziw (v:=.ref (clOf K cn)) hgc hmg rfl hd) hg hm (fun F as H σ sl ce w w' v Q S r e1 k=>?_) he he2 hpl
 unfold zgw at e1
 obtain⟨nm,h1,e1⟩:=Option.bind_eq_some_iff.mp e1
 obtain⟨anc,h2,e1⟩:=Option.bind_eq_some_iff.mp e1
 rw[if_pos hin] at e1
 cases e1
 obtain⟨a,rfl,ha⟩:=zha S r h1
 obtain⟨t1,t2,t3⟩:=T.x (zbc h2)
 exact⟨a,_,rfl,t1,ha,.inl ⟨_,_,rfl,hqn▸(t3 q hq).1,k H _ (fun _ _ z=>z) S (by simp only[Rep])⟩⟩
theorem znm(hK:X.K=K)(T:XT K X.mg tb)(hx:PE X e (zau (Gy K) E d))(hg:Gl X "isinstance")(hm:X.mg "isinstance" = none)(hgc:Gl X "ValueError")(hmv:X.mg "ValueError" = none)(he:starEach [e,.Name "ValueError" p2] X.env=(false,eval e X.env)::starEach [.Name "ValueError" p2] X.env:=by rfl)(he2:starEach [.Name "ValueError" p2] X.env=(false,eval (.Name "ValueError" p2) X.env)::starEach [] X.env:=by rfl)(hpl:(backTo pos (starEach [.Name "ValueError" p2] X.env)).any (·.1)=false:=by rfl) :
  PE X (.Call (.Name "isinstance" p) [e,.Name "ValueError" p2] [] pos) (zau (Gy K) E (zfU (fun ce w=>zpv tb ce w) d)):=by
 refine zlY hK hx (zmc (v:=.ty "ValueError") hgc hmv (by decide +kernel) rfl) hg hm (fun F as H σ sl ce w w' v Q S r e1 k=>?_) he he2 hpl
 unfold zpv at e1
 obtain⟨nm,h1,e1⟩:=Option.bind_eq_some_iff.mp e1
 obtain⟨anc,h2,e1⟩:=Option.bind_eq_some_iff.mp e1
 cases e1
 obtain⟨a,rfl,ha⟩:=zha S r h1
 obtain⟨t1,t2,t3⟩:=T.x (zbc h2)
 exact⟨a,_,rfl,t1,ha,.inr (.inl ⟨_,_,rfl,t2,k H _ (fun _ _ z=>z) S (by simp only[Rep])⟩)⟩
end
end
end VS
namespace VS
open PySem PySem.Spec PyProof.Rows L2
section
section
variable {P:Program} {w:World} {K:PySem.W.Frag} {mg:Str->Option Value} {base:Heap} {k:Nat} {f:Addr} {fd:FuncData} {ps:List Str}
theorem zpw{sp:Sp}(F:FnOk P w K mg base (CXx P w) k f fd ps sp):FnOk P w K mg base CX0 k f fd ps (fun vs H Q _=>sp vs H Q E0):=by
 refine⟨fun vs H Q E h=>F.len vs H Q E0 h,fun A outer s H args us vs Q E hr he hb hv hs=>codeAny_mono (F.run A outer s H args us vs Q E0 hr he hb hv hs) fun r s' h=>?_⟩
 cases r with
 | error e=>obtain⟨_,_,_,_,_,_,_,_,_,z⟩:=h;exact z
 | ok fl=>cases fl<;>exact h
theorem znn{G:PySem.W.Frag->Ga}{d:List W->M W}(nl:noL K=true)(h:FnOk P w K mg base (CXx P w) k f fd ps (spV (G K) (fun E=>E) 1 d)):FnOk P w K mg base CX0 k f fd ps (spLaw G d K):=(zpw h).imp fun _ _ _ _ q=>q nl
end
end
end VS
namespace VS
open PySem PySem.Spec PyProof.Rows L2
section
def Xt(T:Exn->Ce->Prop):O->Prop
 | .ex x ce=>T x ce
 | _=>False
section
variable {sl:Sl} {ce c1:Ce} {a b:DS} {Q:O->Prop} {x:Exn} {nm:Str} {l:List Nat}
theorem zjM(h:l.all (sml sl)=true)(q:Q (.ex ⟨nm,none⟩ ce)):Run (zch nm l) sl ce Q:=⟨_,by unfold zch;rw[if_pos h],q⟩
theorem zno(h:Run a sl ce (Xt fun x c=>Q (.ex x c))):Run (zaG a b) sl ce Q:=by
 obtain⟨o,e,q⟩:=h
 cases o with
 | ex x c=>exact⟨_,by simp only[zaG,e],q⟩
 | go f sl' c=>exact(show False from q).elim
theorem zd7(h:l.all (sml sl)=true)(q:Q (.ex ⟨nm,none⟩ ce)):Run (zaG (zch nm l) b) sl ce Q:=zno (zjM h q)
variable {f:List W->M W} {n:Nat} {ra:Sl->M (List W)} {ws:List W} {e:Sl->M W} {i:Nat}
theorem zk9(h:ra sl ce=some (.ok ws c1))(hn:ws.length=n)(hf:f ws c1=some (.ex x ce)):zar n f ra sl ce=some (.ex x ce):=by simp only[zar,bnd,h,hn,if_true,hf]
theorem zhb{α:Type}{d:Sl->M α}{v:α}(h:d sl ce=some (.ok v c1)):zh3 d sl ce=some (.ok v c1):=by simp only[zh3,noX,h]
theorem ze8{fin:Ce->Ce->W->Option (R W)}{body:DS}(sl:Sl)(e:ws.map some++List.replicate (n-ws.length) none=sl)(h:Run body sl ce (Xt fun y c'=>y=x/\∃t,c'=ce++t)):dFn fin n body ws ce=some (.ex x ce):=by
 subst e
 obtain⟨o,e,q⟩:=h
 cases o with
 | go f sl' c=>exact(show False from q).elim
 | ex y c =>
  obtain⟨rfl,t,rfl⟩:=q
  have hc:zeU ce (ce++t):=⟨by simp,fun k c hk e=>.inl (by rw[List.getElem?_append_left hk] at e;exact e)⟩
  simp only[dFn,e]
  rw[if_pos hc]
  simp
theorem zla{c:Sl->M W}{put:Option Nat}{ok:Exn->Bool}{hd:Exn->DS}{w:W}(h:c sl ce=some (.ok w c1))(q:Run b (zrR put sl w) c1 Q):Run (zaG (zir c put ok hd) b) sl ce Q:=zcz (by simp only[zir,h]) q
theorem zlb{c:Sl->M W}{put:Option Nat}{ok:Exn->Bool}{hd:Exn->DS}{sl':Sl}{c2:Ce}(h:c sl ce=some (.ex x c1))(hok:ok x=true)(e:hd x sl c1=some (.go .nx sl' c2))(q:Run b sl' c2 Q):Run (zaG (zir c put ok hd) b) sl ce Q :=
 zcz (by simp only[zir,h];rw[if_pos hok];exact e) q
variable {α:Type} {en:α->W} {src:Src} {g:DG} {body:DS} {zs:List α} {di:Sl->M Src}
end
end
end VS
namespace L2
open PySem PySem.Spec PyProof.Rows
section
variable {X:Cx}
end
end L2
namespace VS
open PySem PySem.Spec PyProof.Rows L2
section
section
variable {G:Ga} {E:XK}
end
end
end VS
namespace VS
open PySem PySem.Spec PyProof.Rows L2
section
end
end VS
namespace L2
open PySem PySem.Spec PyProof.Rows
section
variable {X:Cx}
end
end L2
namespace VS
open PySem PySem.Spec PyProof.Rows L2
section
section
variable {G:Ga} {E:XK}
end
end
end VS
namespace HT
open PySem PySem.Spec PyProof.Rows
section
variable {prog:Program} {w:World} {A:Around} {E:Value->Shared->Prop} {s:Shared}
end
end HT
namespace L2
open PySem PySem.Spec PyProof.Rows
section
variable {X:Cx} {e:Expr} {te:TE} {st:Expr} {ts:TO} {pos p2:Pos}
end
end L2
namespace VS
open PySem PySem.Spec PyProof.Rows L2
section
section
variable {X:Cx} {G:Ga} {E:XK} {a:Expr} {da:Sl->M W} {pos p2:Pos}
end
end
end VS
namespace VS
open PySem PySem.Spec PyProof.Rows L2
theorem us1{fd:FuncData}{ps:List Str}(h:∀a,bindArgs fd { pos:=[a] }=pure (ps.zip [a])):∀us:List Value,us.length=1->bindArgs fd { pos:=us }=pure (ps.zip us)
 | [a],_=>h a
theorem us2{fd:FuncData}{ps:List Str}(h:∀a b,bindArgs fd { pos:=[a,b] }=pure (ps.zip [a,b])):∀us:List Value,us.length=2->bindArgs fd { pos:=us }=pure (ps.zip us)
 | [a,b],_=>h a b
theorem us3{fd:FuncData}{ps:List Str}(h:∀a b c,bindArgs fd { pos:=[a,b,c] }=pure (ps.zip [a,b,c])):∀us:List Value,us.length=3->bindArgs fd { pos:=us }=pure (ps.zip us)
 | [a,b,c],_=>h a b c
theorem us4{fd:FuncData}{ps:List Str}(h:∀a b c d,bindArgs fd { pos:=[a,b,c,d] }=pure (ps.zip [a,b,c,d])):∀us:List Value,us.length=4->bindArgs fd { pos:=us }=pure (ps.zip us)
 | [a,b,c,d],_=>h a b c d
theorem us5{fd:FuncData}{ps:List Str}(h:∀a b c d e,bindArgs fd { pos:=[a,b,c,d,e] }=pure (ps.zip [a,b,c,d,e])):∀us:List Value,us.length=5->bindArgs fd { pos:=us }=pure (ps.zip us)
 | [a,b,c,d,e],_=>h a b c d e
end VS
namespace VS
open PySem PySem.Spec PyProof.Rows L2
section
section
variable {κ:Type} [DecidableEq κ] {F:Hp} {as:List Addr} {kvs:List (κ×W)} {ps:List (κ×V)}
end
section
variable {G:Ga} {F:Hp} {as:List Addr} {H:Hp} {ce:Ce} {w:W} {v:V}
end
section
variable {X:Cx} {G:Ga} {E:XK} {a b c:Expr} {da db dc:Sl->M W} {pos:Pos}
end
section
variable {sl:Sl} {ce c1 c2 c3:Ce} {k:Nat} {a b o i v:Sl->M W} {x y w:W}
end
end
end VS
namespace L2
open PySem PySem.Spec PyProof.Rows PySem.MeetsSeq
open PySem.AutoSeq1 (wpAny_loadPart')
end L2
namespace VS
open PySem PySem.Spec PyProof.Rows L2
section
section
variable {X:Cx}
end
section
variable {G:Ga} {E:XK}
end
end
end VS
namespace L2
open PySem PySem.Spec PyProof.Rows
section
variable {X:Cx} {e:Expr} {te:TE} {st:Expr} {ts:TO} {pos p2:Pos}
end
end L2
namespace VS
open PySem PySem.Spec PyProof.Rows L2
section
section
variable {X:Cx} {G:Ga} {E:XK} {a:Expr} {da:Sl->M W} {pos p2:Pos}
end
end
end VS
namespace L2
open PySem PySem.Spec PyProof.Rows
section
variable {X:Cx} {e:Expr} {t:TA} {p pos p2 pos2:Pos}
end
end L2
namespace VS
open PySem PySem.Spec PyProof.Rows L2
section
section
variable {X:Cx} {G:Ga} {E:XK} {e:Expr} {dr:Sl->M (List W)} {p pos p2 pos2:Pos}
end
end
end VS
namespace L2
open PySem PySem.Spec PyProof.Rows
section
variable {X:Cx}
end
end L2
namespace VS
open PySem PySem.Spec PyProof.Rows L2
section
section
variable {X:Cx} {G:Ga} {E:XK}
end
end
end VS
namespace VS
open PySem PySem.Spec PyProof.Rows L2
section
variable {X:Cx} {G:Ga} {E:XK} {a b c:Expr} {da db dc:Sl->M W} {pos:Pos}
end
end VS
namespace VS
open PySem PySem.Spec PyProof.Rows L2
section
variable {G:Ga} {E:XK}
end
end VS
namespace L2
open PySem PySem.Spec PyProof.Rows
theorem zdo{K:PySem.W.Frag}{M:Model}{h:Heap}{S:Addr}(X:K.In h)(xs:XC K S):PySem.W.Looks M h (isExcClass (.ref S)) true:=by
 obtain⟨bm,N,nm,qn,bs,hdct,sn,sub,ab,col,dd,k0,k1,k2,k3,k5,mN,hC,hN,hni,T⟩:=xs.obj X
 have hcB:(Value.ref S::bm).contains (.type "BaseException")=true:=by rw[List.contains_cons,T.hasType PySem.F.excBase_ValueError.hasBase,Bool.or_true]
 intro A Q E s k q
 obtain⟨hh,g,d,tk,os⟩:=s
 have k:∀b o,h.get? b=some o->hh.get? b=some o:=k
 have hC:=k _ _ hC
 have f:=tc_notTuple
 unfold isExcClass
 repeat (first|with_reducible refine wpAny_loadPart_at hC ?_|(with_reducible refine wpAny_isSubtype_exc hC ?_;rw[hcB])|wp_step)
 exact q
open PySem.W in
theorem zen{K:PySem.W.Frag}{M:Model}{A:Around}{E:Value->Shared->Prop}{s:Shared}{Q:Bool->Shared->Prop}{a C S1 S2 tp:Addr}{oe:Obj}{b1 b2:Bool}(X:K.In s.heap)(he:s.heap.get? a=some oe)(hcls:oe.cls=.ref C)(x1:XC K S1)(x2:XC K S2)(hp:s.heap.get? tp=some { cls:=.type "tuple",data:=.seq [Value.ref S1,.ref S2].toArray })(m1:PySem.W.mroIn K C (.ref S1)=some b1)(m2:PySem.W.mroIn K C (.ref S2)=some b2)(h:Q (b1||b2) s):wpAny M A (excMatches (.ref a) (.ref tp)) Q E s:=by
 have e1:=zdo (M:=M) X x1
 have e2:=zdo (M:=M) X x2
 have S1':=PySem.W.looks_mroIn (M:=M) X m1
 have S2':=PySem.W.looks_mroIn (M:=M) X m2
 have LT0:Looks M s.heap (isInstance (.ref tp) (.type "tuple")) true:=((Looks.ld hp).andThen .now).andThen (Looks.of_pure isSubtype_tuple_tuple)
 have LT:Looks M s.heap (typeOf (.ref a)) (.ref C):=by
  rw[<- hcls]
  exact(Looks.ld he).andThen .now
 obtain⟨hh,g,d,tk,os⟩:=s
 unfold excMatches
 refine wpAny_bind (LT0.at ?_)
 dsimp only
 rw[if_pos rfl]
 first
  | refine wpAny_bind (wpAny_seqItems hp rfl ?_)
  | refine wpAny_bind (wpAny_bind (wpAny_seqItems hp rfl (wpAny_pure ?_)))
 dsimp only[Option.getD_some,Option.getD]
 cases b1<;>cases b2<;>((repeat (first|simp only[List.forIn_cons,List.forIn_nil,Bool.not_true,Bool.false_eq_true,if_false,if_true]|lk));exact h)
section
variable {X:Cx}
theorem Fl.push{N:Addr->Prop}{a:Addr}{cls:Value}{H:Hp}{h:Heap}{o:Obj}{x:HO}(f:Fl N a cls H h):Fl N a cls (upd H h.objs.size x) (h.push o):=by
 obtain⟨oe,vs,a0,n,h1,h2,h3,h4,h5,h6⟩:=f
 refine⟨oe,vs,a0,n,by rw[zaz (Nat.ne_of_lt (Heap.lt_size h2))];exact h1,Heap.get?_push_of_some _ h2,h3,h4,h5,h6.imp id ?_⟩
 rintro⟨T,oT,ts,e1,e2,e3,e4,e5,e6⟩
 exact⟨T,oT,ts,e1,e2,by rw[zaz (Nat.ne_of_lt (Heap.lt_size e5))];exact e3,e4,Heap.get?_push_of_some _ e5,e6⟩
theorem zpx{S1 S2:Addr}{c1 c2:Str}{p1 p2 hpos tpos:Pos}{x1}{b0:Stmt}{suite:List Stmt}{ts:TS}(g1:Gl X c1)(m1:X.mg c1=some (.ref S1))(s1:XC X.K S1)(g2:Gl X c2)(m2:X.mg c2=some (.ref S2))(s2:XC X.K S2)(hs:∀a,PSs (X.hnd a) (b0::suite) ts)(d1:(c1==("__debug__" : Str))=false:=by decide)(d2:(c2==("__debug__" : Str))=false:=by decide)(st1:starEach [.Name c1 p1,.Name c2 p2] X.env=(false,eval (.Name c1 p1) X.env)::starEach [.Name c2 p2] X.env:=by rfl)(st2:starEach [.Name c2 p2] X.env=(false,eval (.Name c2 p2) X.env)::starEach [] X.env:=by rfl) :
  PH X (.ExceptHandler (some (.Tuple [.Name c1 p1,.Name c2 p2] x1 tpos)) none (b0::suite) hpos) (fun cls D σ H=>(∃C q1 q2,cls=.ref C/\PySem.W.mroIn X.K C (.ref S1)=some q1/\PySem.W.mroIn X.K C (.ref S2)=some q2/\(q1||q2)=true)/\∀t,H t=none->ts D σ (upd H t (.tup [V.ref S1,V.ref S2]))):=by
 intro pins s σ H D a cls I fl ⟨⟨C,q1,q2,hC,r1,r2,hq12⟩,hq⟩
 subst hC
 refine wpAny_handleBy_cons (codeAny_handlers_test (wpAny_Tuple_spliced ?_)) (by intro q;cases q)
 show wpAny _ _ (spliced (backTo tpos (starEach [.Name c1 p1,.Name c2 p2] (X.hnd a).env))) _ _ s
 have st1:starEach [.Name c1 p1,.Name c2 p2] (X.hnd a).env=(false,eval (.Name c1 p1) (X.hnd a).env)::starEach [.Name c2 p2] (X.hnd a).env:=st1
 have st2:starEach [.Name c2 p2] (X.hnd a).env=(false,eval (.Name c2 p2) (X.hnd a).env)::starEach [] (X.hnd a).env:=st2
 rw[st1]
 refine Calls.spliced_cons (zbR (X:=X.hnd a) (I.hnd a) g1 m1 ?_ d1)
 rw[st2]
 refine Calls.spliced_cons (zbR (X:=X.hnd a) (I.hnd a) g2 m2 ?_ d2)
 refine Calls.spliced_nil ⟨(show 2<=sizeLine by decide),?_⟩
 obtain⟨oe,vs,a0,_,_,he,hc,_⟩:=id fl
 have I':Inv X pins σ (upd H s.heap.objs.size (.tup [V.ref S1,V.ref S2])) { s with heap:=s.heap.push { cls:=.type "tuple",data:=.seq [Value.ref S1,.ref S2].toArray } } :=
  I.laid (t':=s.toks) (fun b u e=>Heap.get?_push_of_some _ e) (Nat.le_refl _) ⟨(show 2<=sizeLine by decide),[.ref S1,.ref S2],.cons rfl (.cons rfl .nil),⟨_,Heap.get?_push_size _ rfl,rfl,⟨_,rfl⟩,rfl⟩⟩
 refine zen I'.kIn (Heap.get?_push_of_some _ he) hc s1 s2 (Heap.get?_push_size _ rfl) r1 r2 ?_
 rw[hq12]
 have hf:H s.heap.objs.size=none:=I.hok.fresh (Nat.le_refl _)
 exact codeAny_handlers_suite (zcg (fl.push (x:=.tup [V.ref S1,V.ref S2])) (wpAny_mono (hs a pins _ σ _ D (I'.hnd a) (hq _ hf)) (fun f s2 z=>z.unhnd I.ok) fun _ _ z=>z.elim))
end
end L2
namespace VS
open PySem PySem.Spec PyProof.Rows L2
section
variable {X:Cx} {K:PySem.W.Frag} {E:XK} {tb:XTb} {c1 c2:Str} {p1 p2 tpos hpos:Pos} {b0:Stmt} {suite:List Stmt} {ds:DS}
theorem zeE{K:PySem.W.Frag}{mg:Str->Option Value}{tb:XTb}(T:XT K mg tb){x:Exn}{anc:List Str}(h:zcY tb x.nm=some anc){cn:Str}{an:List Str}(hc:zcY tb cn=some an):PySem.W.mroIn K (clOf K x.nm) (.ref (clOf K cn))=some (anc.contains cn) :=
 ((T.x (zbc h)).2.2 _ (zbc hc)).2
theorem zpy{a1 a2:List Str}{x1}(hK:X.K=K)(T:XT K X.mg tb)(h1:zcY tb c1=some a1)(h2:zcY tb c2=some a2)(g1:Gl X c1)(g2:Gl X c2)(hs:∀a,PSs (X.hnd a) (b0::suite) (toTS (Gy K) E0 ds))(d1:(c1==("__debug__" : Str))=false:=by decide)(d2:(c2==("__debug__" : Str))=false:=by decide)(st1:starEach [.Name c1 p1,.Name c2 p2] X.env=(false,eval (.Name c1 p1) X.env)::starEach [.Name c2 p2] X.env:=by rfl)(st2:starEach [.Name c2 p2] X.env=(false,eval (.Name c2 p2) X.env)::starEach [] X.env:=by rfl) :
  PHv K E X (.ExceptHandler (some (.Tuple [.Name c1 p1,.Name c2 p2] x1 tpos)) none (b0::suite) hpos) (fun x=>zbG tb c1 x||zbG tb c2 x) (fun _=>zp2 ds):=by
 have e1:=zbc h1
 have e2:=zbc h2
 refine⟨_,zpx g1 (T.mg _ e1) (by rw[hK];exact(zd6 (T.x e1).1).1) g2 (T.mg _ e2) (by rw[hK];exact(zd6 (T.x e2).1).1) hs d1 d2 st1 st2,fun D σ H F as sl ce x S hx P=>?_⟩
 obtain⟨anc,ha⟩:∃anc,zcY tb x.nm=some anc:=by
  cases q:zcY tb x.nm with
  | some anc=>exact⟨anc,rfl⟩
  | none=>simp only[zbG,q] at hx;cases hx
 refine⟨⟨_,anc.contains c1,anc.contains c2,rfl,by rw[hK];exact zeE T ha h1,by rw[hK];exact zeE T ha h2,by simp only[zbG,ha,Bool.or_eq_true,Bool.and_eq_true] at hx;rw[Bool.or_eq_true];exact hx.imp And.left And.left⟩,fun t ht=>?_⟩
 have keep:∀b o,H b=some o->upd H t (.tup [V.ref (clOf K c1),V.ref (clOf K c2)]) b=some o:=fun b o q=>by rw[zaz (zaq q ht)];exact q
 have S2:Store (Gy K) F as (upd H t (.tup [V.ref (clOf K c1),V.ref (clOf K c2)])) ce:=by
  refine⟨fun b o q=>keep b o (S.st.sub b o q),S.st.nd,S.st.len,fun j b c q1 q2=>?_⟩
  obtain⟨z1,z2⟩:=S.st.cell j b c q1 q2
  obtain⟨o,ho⟩:=z2.tracked
  exact⟨z1,z2.le .refl (by rw[ho];exact keep b o ho)⟩
 exact⟨F,as,sl,ce,⟨S2,S.len,S.slot⟩,zjK P⟩
end
end VS
namespace L2
open PySem PySem.Spec PyProof.Rows
section
variable {X:Cx} {k:Nat} {f C:Addr} {fd:FuncData} {ps:List Str} {sp:Sp} {x m:Str} {p pos apos:Pos} {e o:Expr} {es:List Expr} {t:TA} {ta:TE}
end
end L2
namespace VS
open PySem PySem.Spec PyProof.Rows L2
section
def putA(f:Str)(v:W):List (Str×W)->List (Str×W)
 | []=>[(f,v)]
 | (g,x)::r=>if g=f then (g,v)::r else (g,x)::putA f v r
section
variable {F:Hp} {as:List Addr} {fs:List (Str×W)} {ps:List (Str×V)}
theorem RepKV.look{w:W}{f:Str}(r:RepKV F as fs ps)(e:fs.lookup f=some w):∃v,ps.lookup f=some v/\Rep F as w v:=by
 induction r with
 | nil=>cases e
 | @cons p q l1 l2 h t ih =>
  obtain⟨a,x⟩:=p
  obtain⟨b,y⟩:=q
  obtain⟨e1,rv⟩:=h
  dsimp only at e1 rv
  subst e1
  rw[List.lookup_cons] at e ⊢
  split at e
  ·rename_i h;cases e;exact⟨y,rfl,rv⟩
  ·rename_i h;exact ih e
theorem RepKV.lookN{f:Str}(r:RepKV F as fs ps)(e:fs.lookup f=none):ps.lookup f=none:=by
 induction r with
 | nil=>rfl
 | @cons p q l1 l2 h t ih =>
  obtain⟨a,x⟩:=p
  obtain⟨b,y⟩:=q
  obtain⟨e1,rv⟩:=h
  dsimp only at e1 rv
  subst e1
  rw[List.lookup_cons] at e ⊢
  split at e
  ·cases e
  ·exact ih e
theorem RepKV.putA{w:W}{v:V}(r:RepKV F as fs ps)(f:Str)(rv:Rep F as w v):RepKV F as (VS.putA f w fs) (zeN f v ps):=by
 induction r with
 | nil=>exact .cons ⟨rfl,rv⟩ .nil
 | @cons p q l1 l2 h t ih =>
  obtain⟨a,x⟩:=p
  obtain⟨b,y⟩:=q
  obtain⟨e1,rx⟩:=h
  dsimp only at e1 rx
  subst e1
  simp only[VS.putA,zeN]
  split
  ·exact .cons ⟨rfl,rv⟩ t
  ·exact .cons ⟨rfl,rx⟩ ih
end
def ze9(ce:Ce)(c:Str):W->Option (Nat×List (Str×W))
 | .cel k=>match ce[k]? with
  | some (.ins c' fs)=>if c'=c then some (k,fs) else none
  | _=>none
 | _=>none
section
variable {G:Ga} {E:XK} {F:Hp} {as:List Addr} {H:Hp} {σ:VS.St} {sl:Sl} {ce:Ce} {w:W} {v:V} {c:Str} {k:Nat} {fs:List (Str×W)}
theorem zfa(S:Store G F as H ce)(r:Rep F as w v)(h:ze9 ce c w=some (k,fs)):∃a dx ps,v=.ref a/\as[k]?=some a/\H a=some (.ins (G.cl c) dx ps)/\RepKV F as fs ps:=by
 unfold ze9 at h
 split at h
 ·rename_i j
  split at h
  ·rename_i c' fs' e
   split at h
   ·rename_i hc
    cases h
    subst hc
    simp only[Rep] at r
    obtain⟨a,rfl,ha⟩:=r
    obtain⟨_,dx,ps,h1,h2⟩:=S.cell _ a _ ha e
    exact⟨a,dx,ps,rfl,ha,h1,h2⟩
   ·cases h
  ·cases h
 ·cases h
end
def zh6(c f:Str)(d:Sl->M W):Sl->M W:=fun sl=>bnd (d sl) fun x=>look fun ce=>match ze9 ce c x with
 | some p=>p.2.lookup f
 | none=>none
def zeo(c f:Str)(d v:Sl->M W):DS:=fun sl ce=>lft (v sl ce) fun w ce1=>lft (d sl ce1) fun x ce2=>match ze9 ce2 c x with
 | some (k,fs)=>if fs.length<1000 then some (.go .nx sl (ce2.set k (.ins c (putA f w fs)))) else none
 | none=>none
def zc9(c m:Str)(n:Nat)(df:List W->M W)(d:Sl->M W)(dr:Sl->M (List W)):Sl->M W:=fun sl=>bnd (d sl) fun x=>bnd (look fun ce=>match ze9 ce c x with
 | some p=>if p.2.lookup m=none then some () else none
 | none=>none) fun _=>bnd (dr sl) fun ws=>if ws.length+1=n then df (x::ws) else ziU
def znp(k:Nat):Option (R W)->Option (R W)
 | some (.ok .non ce')=>some (.ok (.cel k) ce')
 | some (.ex x ce')=>some (.ex x ce')
 | _=>none
def zlc(c:Str)(n:Nat)(df:List W->M W)(dr:Sl->M (List W)):Sl->M W:=fun sl=>bnd (dr sl) fun ws ce=>if ws.length+1=n then znp ce.length (df (.cel ce.length::ws) (ce++[.ins c []])) else none
section
variable {X:Cx} {G:Ga} {E E1:XK} {CX:CXT} {k n:Nat} {f:Addr} {fd:FuncData} {ps:List Str} {df:List W->M W} {x c m:Str} {p pos pos' apos tpos:Pos} {e o value:Expr} {es:List Expr} {d dv:Sl->M W} {dr:Sl->M (List W)} {fe:XK->XK}
theorem zcB(hc:L2.Cls X.K (G.cl c))(hn:L2.NoAttr X.K (G.cl c) m)(he:PE X e (zau G E d))(hb:attributeBase e m X.env (eval e X.env)=eval e X.env:=by rfl):PE X (.Attribute e m pos) (zau G E (zh6 c m d)):=by
 refine PE.imp (zon he hb) fun σ H Q zz_=>el6 zz_ fun F as sl ce S P=>(step S P).mono fun x H1 zz_=>el8 zz_ fun wx F1 as1 ce1 l1 S1 rx P1=>?_
 obtain⟨w,e1,P2⟩:=zbn P1
 split at e1
 ·rename_i q hq
  obtain⟨j,fs⟩:=q
  obtain⟨a,dx,ps,rfl,ha,hH,rk⟩:=zfa S1.st rx hq
  obtain⟨v,e4,rv⟩:=rk.look e1
  exact⟨a,_,dx,ps,v,rfl,hH,hc,hn,e4,P2.done S1 rv⟩
 ·cases e1
theorem zfV(hc:L2.Cls X.K (G.cl c))(hn:L2.NoAttr X.K (G.cl c) m)(ho:PE X o (zau G E d))(hv:PE X value (zau G E dv))(hs:swapsWith value (some (.Attribute o m pos')) pos.line X.env=pure false:=by rfl) :
  PS X (.Assign [.Attribute o m pos'] value pos) (toTS G E (zeo c m d dv)):=by
 refine PS.imp (zoo ho hv hs) fun D σ H zz_=>el6 zz_ fun F as sl ce S P=>(zc5 S P).mono fun y H1 zz_=>el8 zz_ fun wy F1 as1 ce1 l1 S1 ry P1=>(zc5 S1 P1).mono fun x H2 zz_=>el8 zz_ fun wx F2 as2 ce2 l2 S2 rx P2=>?_
 split at P2
 ·rename_i j fs hq
  split at P2
  ·rename_i hl
   obtain⟨a,dx,ps,rfl,ha,hH,rk⟩:=zfa S2.st rx hq
   refine⟨a,_,dx,ps,rfl,hH,hc,hn,by rw[<- Paired.length rk];exact hl,?_⟩
   exact P2 _ _ _ _ .refl (S2.slots (S2.st.write (o:=.ins (G.cl c) dx (zeN m y ps)) (c:=.ins c (putA m wy fs)) ha ⟨_,_,zaB,rk.putA m (ry.le l2)⟩) .refl)
  ·exact(show False from P2).elim
 ·exact(show False from P2).elim
theorem zld{F:Hp}{as:List Addr}{H:Hp}{σ:VS.St}{sl:Sl}{ce:Ce}{Q:VK}(S:SR G F as H σ sl ce)(P:Post G E Rep F as σ sl Q (zc9 c m n df d dr sl ce)) :
  zau G E d σ H fun x H1=>∃a dx fs,x=.ref a/\H1 a=some (.ins (G.cl c) dx fs)/\fs.lookup m=none/\zez G E dr σ H1 fun vs H2=>vs.length+1=n/\∃F2 as2 ws ce2,SR G F2 as2 H2 σ sl ce2/\Reps F2 as2 ws (x::vs)/\Post G E Rep F2 as2 σ sl Q (df ws ce2):=by
 refine(step S P).mono fun x H1 zz_=>el8 zz_ fun wx F1 as1 ce1 l1 S1 rx P1=>?_
 unfold bnd at P1
 unfold look at P1
 dsimp only at P1
 split at P1
 ·rename_i u ce' e1
  cases hq:ze9 ce1 c wx with
  | none=>rw[hq] at e1;cases e1
  | some q =>
   obtain⟨j,fs⟩:=q
   rw[hq] at e1
   dsimp only at e1
   split at e1
   ·rename_i hl
    cases e1
    obtain⟨a,dx,ps,rfl,ha,hH,rk⟩:=zfa S1.st rx hq
    refine⟨a,dx,ps,rfl,hH,rk.lookN hl,?_⟩
    refine(step (RP:=Reps) S1 P1).mono fun vs H2 zz_=>el8 zz_ fun ws F2 as2 ce2 l2 S2 rs P2=>?_
    split at P2
    ·rename_i hn
     exact⟨by rw[rs.length];exact hn,F2,as2,wx::ws,ce2,S2,.cons (rx.le l2) rs,P2⟩
    ·exact(show False from P2).elim
   ·cases e1
 ·rename_i e1
  cases hq:ze9 ce1 c wx with
  | none=>rw[hq] at e1;cases e1
  | some q=>rw[hq] at e1;dsimp only at e1;split at e1<;>cases e1
 ·exact P1.elim
theorem zci{pl:Sem Bool}(hc:L2.Cls X.K (G.cl c))(hm:L2.Meth X.K (G.cl c) m f)(Fk:FnOk X.prog X.w X.K X.mg X.base CX k f fd ps (spV G fe n df))(hr:Room k X.A)(hb:Binds X.K fd ps [])(hx:zcv CX X E1)(he:PE X o (zau G E d))(ha:PA X (e::es) (zez G E dr))(hfe:fe E1=E:=by rfl)(hst:starEach (e::es) X.env=(false,eval e X.env)::starEach es X.env:=by rfl)(hpl:(backTo pos (starEach es X.env)).any (·.1)=false:=by rfl)(ht:eval (.Call (.Attribute o m apos) (e::es) [] pos) X.env=(do
   let ov <- eval o X.env
   standAt apos.atName
   let (f,first) <- holding [ov] (getMethod ov m pl)
   callWith pos f first (backTo pos (starEach (e::es) X.env)) (backToKw pos (keywordEach [] X.env))):=by rfl) :
  PE X (.Call (.Attribute o m apos) (e::es) [] pos) (zau G E (zc9 c m n df d dr)):=by
 refine PE.imp (zmu he hc hm Fk hr hb .nil hx ha hst hpl ht) fun σ H Q zz_=>el6 zz_ fun F as sl ce S P=>(zld S P).mono fun x H1 h=>?_
 obtain⟨a,dx,fs,e1,e2,e3,h⟩:=h
 refine⟨a,dx,fs,e1,e2,e3,h.mono fun vs H2 h=>?_⟩
 obtain⟨hn,F2,as2,ws,ce2,S2,rs,P2⟩:=h
 rw[List.append_nil]
 exact⟨hn,F2,as2,ws,ce2,S2.st,rs,by rw[hfe];exact PostF.of S2 P2⟩
theorem Store.other{F:Hp}{as:List Addr}{H:Hp}{ce:Ce}{q:Addr}{ho:HO}(S:Store G F as H ce)(hp:H q=none):Store G F as (upd H q ho) ce:=by
 refine⟨fun a u e=>?_,S.nd,S.len,fun k a c' h1 h2=>?_⟩
 ·rw[zaz (zaq (S.sub _ _ e) hp)];exact S.sub _ _ e
 ·obtain⟨q1,q2⟩:=S.cell k a c' h1 h2
  obtain⟨u,hu⟩:=q2.tracked
  exact⟨q1,q2.le .refl (zaz (zaq hu hp))⟩
theorem zle{F:Hp}{as:List Addr}{H:Hp}{σ:VS.St}{sl:Sl}{ce:Ce}{Q:VK}{ws:List W}{vs:List V}{x dx:Addr}(S:SR G F as H σ sl ce)(rs:Reps F as ws vs)(hx:H x=none)(hdx:H dx=none)(hne:dx≠x)(hl:ws.length+1=n)(P:Post G E Rep F as σ sl Q (znp ce.length (df (.cel ce.length::ws) (ce++[.ins c []])))):spV G (fun _=>E) n df (.ref x::vs) (upd (upd H dx (.own x)) x (.ins (G.cl c) dx [])) (fun v H2=>v=.non/\Q (.ref x) H2) E:=by
 have hx':upd H dx (.own x) x=none:=by rw[zaz (fun z=>hne z.symm)];exact hx
 obtain⟨S2,l2⟩:=(S.st.other (ho:=.own x) hdx).alloc (o:=.ins (G.cl c) dx []) hx' (c:=.ins c []) (fun as' _=>⟨dx,[],zaB,.nil⟩)
 have hr:Rep F (as++[x]) (.cel ce.length) (.ref x):=by
  simp only[Rep]
  exact⟨x,rfl,by rw[<- S.st.len];simp⟩
 refine⟨by rw[List.length_cons,rs.length];exact hl,F,as++[x],_,_,S2,.cons hr (rs.le l2),?_⟩
 revert P
 cases df (.cel ce.length::ws) (ce++[.ins c []]) with
 | none=>exact fun P=>P
 | some r=>cases r with
  | ex y ce'=>exact fun P H' F' as' cv od l S' hx=>P H' F' as' cv od (l2.trans l) S' hx
  | ok w ce' =>
   cases w<;>first|exact fun P=>(show False from P).elim|skip
   intro P v H' F' as' l S' rv
   simp only[Rep] at rv
   exact⟨rv,P (.ref x) H' F' as' (l2.trans l) (S.slots S' (l2.trans l)) (hr.le l)⟩
theorem znq(M:L2.Mk X.K (G.cl c) f)(Fk:FnOk X.prog X.w X.K X.mg X.base CX k f fd ps (spV G fe n df))(hr:Room (k+1) X.A)(hg:Gl X c)(hm:X.mg c=some (.ref (G.cl c)))(hb:Binds X.K fd ps [])(hx:zcv CX X E1)(ha:PA X (e::es) (zez G E dr))(hfe:fe E1=E:=by rfl)(hdb:(c==("__debug__" : Str))=false:=by decide)(he:starEach (e::es) X.env=(false,eval e X.env)::starEach es X.env:=by rfl)(hpl:(backTo pos (starEach es X.env)).any (·.1)=false:=by rfl) :
  PE X (.Call (.Name c p) (e::es) [] pos) (zau G E (zlc c n df dr)):=by
 refine PE.imp (zmv M Fk hr hg hm hb .nil hx ha hdb he hpl) fun σ H Q zz_=>el6 zz_ fun F as sl ce S P=>(step (RP:=Reps) S P).mono fun vs H1 zz_=>el8 zz_ fun ws F1 as1 ce1 l1 S1 rs P1=>?_
 intro y dy hy hdy hne
 split at P1
 ·rename_i hn
  rw[List.append_nil]
  have q:=zle S1 rs hy hdy hne hn P1
  obtain⟨h1,F2,as2,ws2,ce2,S2,rs2,P2⟩:=q
  exact⟨h1,F2,as2,ws2,ce2,S2,rs2,by rw[hfe];exact P2⟩
 ·exact(show False from P1).elim
end
section
variable {X:Cx} {K:PySem.W.Frag} {E:XK} {k n:Nat} {f:Addr} {fd:FuncData} {ps:List Str} {df:List W->M W} {x c m:Str} {p pos apos cpos epos:Pos} {e o:Expr} {es:List Expr} {d:Sl->M W} {dr:Sl->M (List W)} {h:ExceptHandler} {hd:Exn->DS} {ok:Exn->Bool}
end
end
end VS
namespace VS
open PySem PySem.Spec PyProof.Rows L2
section
section
variable {sl:Sl} {ce c1 c2 c3:Ce} {a b:DS} {Q:O->Prop} {d v:Sl->M W} {dr:Sl->M (List W)} {w u:W} {ws:List W} {k n:Nat} {c f m:Str} {fs:List (Str×W)} {df:List W->M W} {x:Exn}
theorem zfb{p:List (Str×W)}{j:Nat}(h:p.length<=j):(putA f w p).length<=j+1:=by
 induction p generalizing j with
 | nil=>simp[putA]
 | cons a r ih =>
  obtain⟨g,y⟩:=a
  rw[List.length_cons] at h
  simp only[putA]
  split
  ·rw[List.length_cons];omega
  ·rw[List.length_cons]
   have:=ih (j:=j-1) (by omega)
   omega
theorem znr(g:ce[k]?=some (.ins c fs)):ze9 ce c (.cel k)=some (k,fs):=by simp only[ze9,g,if_true]
theorem zcC(h:d sl ce=some (.ok (.cel k) c1))(g:c1[k]?=some (.ins c fs))(l:fs.lookup f=some w):zh6 c f d sl ce=some (.ok w c1):=by
 simp only[zh6,bnd,h,look,znr g,l,Option.map_some]
theorem zlZ(hv:v sl ce=some (.ok w c1))(h:d sl c1=some (.ok (.cel k) c2))(g:c2[k]?=some (.ins c fs))(hl:fs.length<1000):zeo c f d v sl ce=some (.go .nx sl (c2.set k (.ins c (putA f w fs)))):=by
 simp only[zeo,lft,hv,h,znr g,if_pos hl]
theorem zlf(hv:v sl ce=some (.ok w c1))(h:d sl c1=some (.ok (.cel k) c2))(g:c2[k]?=some (.ins c fs))(hl:fs.length<1000)(q:Q (.go .nx sl (c2.set k (.ins c (putA f w fs))))):Run (zeo c f d v) sl ce Q:=⟨_,zlZ hv h g hl,q⟩
theorem zdH(hv:v sl ce=some (.ok w c1))(h:d sl c1=some (.ok (.cel k) c2))(g:c2[k]?=some (.ins c fs))(hl:fs.length<1000)(q:Run b sl (c2.set k (.ins c (putA f w fs))) Q):Run (zaG (zeo c f d v) b) sl ce Q:=zcz (zlZ hv h g hl) q
theorem zpz(h:d sl ce=some (.ok (.cel k) c1))(g:c1[k]?=some (.ins c fs))(l:fs.lookup m=none)(hr:dr sl c1=some (.ok ws c2))(hn:ws.length+1=n):zc9 c m n df d dr sl ce=df (.cel k::ws) c2:=by
 simp only[zc9,bnd,h,look,znr g,l,if_true,Option.map_some,hr,hn]
theorem zcj{r:Option (R W)}(h:d sl ce=some (.ok (.cel k) c1))(g:c1[k]?=some (.ins c fs))(l:fs.lookup m=none)(hr:dr sl c1=some (.ok ws c2))(hn:ws.length+1=n)(hf:df (.cel k::ws) c2=r):zc9 c m n df d dr sl ce=r:=(zpz h g l hr hn).trans hf
theorem zns(hr:dr sl ce=some (.ok ws c1))(hn:ws.length+1=n)(hf:df (.cel c1.length::ws) (c1++[.ins c []])=some (.ok .non c2)):zlc c n df dr sl ce=some (.ok (.cel c1.length) c2):=by
 simp only[zlc,bnd,hr,if_pos hn,hf,znp]
theorem zpA{q:Bool}(h:d sl ce=some (.ok (.bl q) c1)):zpW d sl ce=some (.ok (.bl (!q)) c1):=by simp only[zpW,bnd,h,ret]
theorem zrj{fin:Ce->Ce->W->Option (R W)}{body:DS}{r:R W}(sl:Sl)(e:ws.map some++List.replicate (n-ws.length) none=sl)(h:Run body sl ce fun o=>∃sl' c',o=.go .nx sl' c'/\fin ce c' .non=some r):dFn fin n body ws ce=some r:=by
 subst e
 obtain⟨o,e,sl',c',rfl,hf⟩:=h
 simp only[dFn,e,hf]
end
theorem fn_never{P:Program}{w:World}{K:PySem.W.Frag}{mg:Str->Option Value}{base:Heap}{CX:CXT}{k n:Nat}{f:Addr}{fd:FuncData}{ps:List Str}{G:Ga}{fe:XK->XK}(hn:n=ps.length):FnOk P w K mg base CX k f fd ps (spV G fe n fun _ _=>none) :=
 ⟨fun vs H Q E h=>h.1.trans hn,fun A outer s H args us vs Q E hr he hb hv h=>by
  obtain⟨_,_,_,_,_,_,_,h⟩:=h
  exact h.elim⟩
end
end VS
namespace L2
open PySem PySem.Spec PyProof.Rows
section
variable {X:Cx} {c:Expr} {a b:List Stmt} {tc:TT} {ta tb:XK->TS} {pos:Pos}
end
end L2
namespace VS
open PySem PySem.Spec PyProof.Rows L2
section
section
variable {X:Cx} {K:PySem.W.Frag} {E:XK} {k n:Nat} {f:Addr} {fd:FuncData} {ps:List Str} {df:List W->M W} {x y:Str} {p pos cpos epos pos':Pos} {e t:Expr} {es:List Expr} {dr:Sl->M (List W)} {h:ExceptHandler} {hd:Exn->DS} {ok:Exn->Bool} {i:Nat} {sa sb:List Stmt} {da db d:DS} {c:Sl->M Bool}
end
section
variable {sl sl':Sl} {ce c1 c2:Ce} {d b:DS} {Q:O->Prop} {ok:Exn->Bool} {hd:Exn->DS} {x:Exn}
end
end
end VS
namespace L2
open PySem PySem.Spec PyProof.Rows
open AutoSeq1 (wpAny_loadPart')
section
variable {prog:Program} {w:World} {A:Around} {E:Value->Shared->Prop} {s:Shared}
theorem zcI{Q:List Value->Shared->Prop}{r:Addr}{a b c:Int}{t u v:Tok}{n:Nat}(hh:A.handled=none)(hr:IsRange s.heap r a b c t u v)(hsmall:Builtin.Range.small a b c=true)(hn:Builtin.Range.rangeSize a b c=n)(hlen:n<=2 ^ 24)(hQ:∀h' tk acc,(∀b o,s.heap.get? b=some o->h'.get? b=some o)->ItemsOf (fun i v=>∃t,v=.int (a+i*c) t) acc n->Q acc.toList { s with heap:=h',toks:=tk }):wpAny (model prog w) A (collect (.ref r)) Q E s:=by
 unfold collect
 refine wpAny_bind (wpAny_runValue (codeAny_builtin F.entry_proto_collect ?_))
 rw[Around.under_plainId F.plain_proto_collect _]
 show wpAny _ A.in1 (newList [] >>= fun l=>again (.builtin "list.__iadd__" ⟨[l,.ref r],[]⟩)) _ _ s
 refine wpAny_bind (wpAny_newObj_type ?_)
 refine wpAny_pure ⟨plainId_quiet F.plain_list_iadd _,codeAny_builtin F.entry_list_iadd ?_⟩
 rw[Around.under_plainId F.plain_list_iadd _]
 show wpAny _ A.in1 (Builtin.List.listExtendWith (.ref s.heap.objs.size) (.ref r) (.ref s.heap.objs.size)) _ _ _
 have hS:(s.heap.push { cls:=.type "list",data:=.seq ([]:List Value).toArray }).get? s.heap.objs.size=some { cls:=.type "list",data:=.seq #[] 0 }:=Heap.get?_push_size _ rfl
 have fin':∀(h':Heap) (tk:Nat) (acc:Array Value) (c':Nat),(∀b o,b≠s.heap.objs.size->(s.heap.push { cls:=.type "list",data:=.seq ([]:List Value).toArray }).get? b=some o->h'.get? b=some o)->h'.get? s.heap.objs.size=some { cls:=.type "list",dict:=none,data:=.seq acc c',slots:=#[] }->ItemsOf (fun i v=>∃t,v=.int (a+i*c) t) acc n ->
   wpAny (model prog w) A (match Value.ref s.heap.objs.size with
   | Value.ref a=>do
    match (<- load a).data with
     | Data.seq xs _=>pure xs.toList
     | _=>unsupported "internal:collect"
   | _=>unsupported "internal:collect") Q E { s with heap:=h',toks:=tk }:=fun h' tk acc c' hk hS' hacc=>by
  show wpAny _ A (load s.heap.objs.size >>= _) _ _ _
  refine wpAny_bind (wpAny_load hS' ?_)
  refine wpAny_pure ?_
  exact hQ h' tk acc (fun b o e=>hk b o (Nat.ne_of_lt (Heap.lt_size e)) (Heap.get?_push_of_some _ e)) hacc
 refine wpAny_mono (wpAny_extend_range (A:=A) (R:=fun res s'=>∃(h':Heap) (tk:Nat) (acc:Array Value) (c':Nat),res=.ok (.ret (.ref s.heap.objs.size))/\s'={ s with heap:=h',toks:=tk }/\(∀b o,b≠s.heap.objs.size->(s.heap.push { cls:=.type "list",data:=.seq ([]:List Value).toArray }).get? b=some o->h'.get? b=some o)/\h'.get? s.heap.objs.size=some { cls:=.type "list",dict:=none,data:=.seq acc c',slots:=#[] }/\ItemsOf (fun i v=>∃t,v=.int (a+i*c) t) acc n)
  (s:={ s with heap:=s.heap.push { cls:=.type "list",data:=.seq ([]:List Value).toArray } }) hh (Heap.get?_push_of_some _ hr) hsmall hn hlen _ _ 0 hS fun h' tk acc c' hk hS' hacc=>⟨h',tk,acc,c',rfl,rfl,hk,hS',hacc⟩) (fun fin s' h=>?_) (fun e s' h=>?_)
 ·cases fin with
  | done f =>
   obtain⟨h',tk,acc,c',e,rfl,hk,hS',hacc⟩:=h
   cases e
   exact fin' h' tk acc c' hk hS' hacc
  | again c' =>
   refine⟨h.1,codeAny_mono h.2 fun r s'' hr=>?_⟩
   obtain⟨h',tk,acc,c',rfl,rfl,hk,hS',hacc⟩:=hr
   exact fin' h' tk acc c' hk hS' hacc
 ·obtain⟨h',tk,acc,c',e,_⟩:=h
  cases e
end
theorem zck(r:Addr)(a b c:Int)(t u v:Tok)(n:Nat)(hsmall:Builtin.Range.small a b c=true)(hn:Builtin.Range.rangeSize a b c=n)(hlen:n<=2 ^ 24) :
  Meets (Builtin.«tuple.__new__» ⟨[.type "tuple",.ref r],[]⟩)
   (fun A R s=>A.handled=none/\IsRange s.heap r a b c t u v/\∀(h':Heap) (tk:Nat) (acc:Array Value),(∀b o,s.heap.get? b=some o->h'.get? b=some o)->ItemsOf (fun i v=>∃t,v=.int (a+i*c) t) acc n ->
    R (.ok (.ret (.ref h'.objs.size))) { s with heap:=h'.push { cls:=.type "tuple",data:=.seq acc },toks:=tk }) :=
 .of_wp fun prog w A R s h=>by
  obtain⟨hh,hr,h⟩:=h
  have hsub:=sub_tuple_self
  have hinit:=init_tuple_lookup
  have hmh:=madeHere_tuple
  have hT:s.TypeIs (.ref r) "range" := ⟨_,hr,rfl⟩
  have hh1:A.in1.handled=none:=hh
  wp_walk using wpAny_typeOf hT,zcI hh1 hr hsmall hn hlen
  intro h' tk acc hk hacc
  show wpAny _ _ (Builtin.Tuple.tupleExact acc.toList.toArray >>= fun v=>ret v) _ _ _
  unfold Builtin.Tuple.tupleExact
  refine wpAny_bind (wpAny_newObj_type ?_ (show acc.toList.toArray.size<=sizeLine by simp only[Array.toArray_toList];rw[hacc.1,sizeLine_eq];exact hlen))
  refine wpAny_pure ⟨_,rfl,?_⟩
  have e:acc.toList.toArray=acc:=by simp
  rw[e]
  exact h h' tk acc hk hacc
section
variable {prog:Program} {w:World} {A:Around} {E:Value->Shared->Prop} {s:Shared}
theorem zds{Q:Value->Shared->Prop}{r:Addr}{a b c:Int}{t u v:Tok}{n:Nat}(hh:A.handled=none)(hr:IsRange s.heap r a b c t u v)(hsmall:Builtin.Range.small a b c=true)(hn:Builtin.Range.rangeSize a b c=n)(hlen:n<=2 ^ 24)(h:∀(h':Heap) (tk:Nat) (acc:Array Value),(∀b o,s.heap.get? b=some o->h'.get? b=some o)->ItemsOf (fun i v=>∃t,v=.int (a+i*c) t) acc n->Q (.ref h'.objs.size) { s with heap:=h'.push { cls:=.type "tuple",data:=.seq acc },toks:=tk }) :
  wpAny (model prog w) A (call (.type "tuple") [.ref r]) Q E s :=
 callType_new F.called_tuple (by decide) (F.typeCall_tuple_1 _) (F.newCall_tuple_1 _) (fun obj=>F.args_object_init_2 obj _) F.entry_tuple_new
  (zck r a b c t u v n hsmall hn hlen) ⟨hh,hr,fun h' tk acc hk hacc=>⟨⟨_,Heap.get?_push_size _ rfl,rfl⟩,h h' tk acc hk hacc⟩⟩
end
section
variable {X:Cx}
theorem zgx(hc:X.calm=true):CallR X (.type "tuple") (fun xs H Q=>∃(p:Addr) (lo hi:Int),xs=[.ref p]/\H p=some (.rng lo hi)/\-(2 ^ 62)<=lo/\lo<2 ^ 62/\-(2 ^ 62)<=hi/\hi<2 ^ 62/\(hi-lo).toNat<=sizeLine /\
  ∀l,H l=none->Q (.ref l) (upd H l (.tup ((List.range (hi-lo).toNat).map fun(i:Nat)=>V.int (lo+(i:Int)))))):=by
 intro pins s σ H xs us Q I r h
 obtain⟨p,lo,hi,rfl,hp,h1,h2,h3,h4,hz,q⟩:=h
 obtain⟨u,rfl,rx⟩:=zdN r
 cases rx
 obtain⟨t,u,v,hr⟩:=I.hok p _ hp
 have hn:Builtin.Range.rangeSize lo hi 1=(((hi-lo).toNat:Nat):Int):=by rw[rangeSize_one];split<;>omega
 refine zds (I.ok.hd hc) hr (small_one h1 h2 h3 h4) hn (by rw[sizeLine_eq] at hz;exact hz) fun h' tk acc hkp hacc=>?_
 have hl:acc.toList.length=(hi-lo).toNat:=by rw[Array.length_toList];exact hacc.1
 have hv:∀(i:Nat) (v:Value),acc.toList[i]?=some v->∃t,v=Value.int (lo+(i:Int)) t:=fun i v e=>by
  obtain⟨t,e'⟩:=hacc.2 i v (by rw[<- Array.getElem?_toList];exact e)
  exact⟨t,by rw[e',Int.mul_one]⟩
 have rv:Vals ((List.range (hi-lo).toNat).map fun(i:Nat)=>V.int (lo+(i:Int))) acc.toList:=by
  clear hn hz hacc
  revert hl hv
  generalize acc.toList=us
  generalize (hi-lo).toNat=n
  intro hl hv
  have:∀(us:List Value) (k:Nat),(∀(i:Nat) (v:Value),us[i]?=some v->∃t,v=Value.int (lo+((k+i:Nat):Int)) t)->Vals ((List.range' k us.length).map fun(i:Nat)=>V.int (lo+(i:Int))) us:=by
   intro us
   induction us with
   | nil=>intro k _;exact .nil
   | cons a r ih =>
    intro k h
    obtain⟨t,rfl⟩:=h 0 a rfl
    rw[List.length_cons,List.range'_succ,List.map_cons]
    refine .cons ⟨t,by simp⟩ (ih (k+1) fun i v e=>?_)
    obtain⟨t',e'⟩:=h (i+1) v e
    exact⟨t',by rw[e'];congr 2;omega⟩
  have q':=this us 0 fun i v e=>by simpa using hv i v e
  rw[<- List.range_eq_range',hl] at q'
  exact q'
 have I1:Inv X pins σ H { s with heap:=h',toks:=tk }:=I.kept (t':=tk) hkp
 have I2:Inv X pins σ (upd H h'.objs.size (.tup ((List.range (hi-lo).toNat).map fun(i:Nat)=>V.int (lo+(i:Int))))) { s with heap:=h'.push { cls:=.type "tuple",data:=.seq acc },toks:=tk } :=
  I1.laid (t':=tk) (fun b o e=>Heap.get?_push_of_some _ e) (Nat.le_refl _) (show ObjOk X.prog X.w _ _ _ (.tup _) from⟨by rw[List.length_map,List.length_range];exact hz,acc.toList,rv,by have:=TupN.new h' acc;rw[Array.toArray_toList];exact TupN.new _ _⟩)
 exact⟨.ref h'.objs.size,_,I2,rfl,q _ (I1.hok.fresh (Nat.le_refl _))⟩
theorem zjN{a b:Expr}{ta:TA}{p pos:Pos}(hg:Gl X "range")(hm:X.mg "range" = none)(ha:PA X [a,b] ta)(hs:starEach [a,b] X.env=(false,eval a X.env)::starEach [b] X.env:=by rfl)(hpl:(backTo pos (starEach [b] X.env)).any (·.1)=false:=by rfl) :
  PE X (.Call (.Name "range" p) [a,b] [] pos) (fun σ H Q=>ta σ H fun vs H1=>∃i j:Int,vs=[.int i,.int j]/\∀p,H1 p=none->Q (.ref p) (upd H1 p (.rng i j))):=by
 intro pins s σ H Q I h
 refine Call_ (zer I hg hm boot_range (PyProof.Rows.callWith_type1 (thn (ha pos pins s σ H _ I h) fun us s1 ⟨vs,H1,I1,r1,q1⟩=>?_) hs hpl))
 obtain⟨i,j,e,q⟩:=q1
 subst e
 cases r1 with
 | cons r rr =>
  cases rr with
  | cons r2 rr =>
   cases rr
   obtain⟨t,rfl⟩:=r
   obtain⟨t2,rfl⟩:=r2
   refine call_range_2 ⟨.ref s1.heap.objs.size,_,I1.laid (t':=s1.toks+1) (a:=s1.heap.objs.size) (o:=.rng i j) (fun b o e=>Heap.get?_push_of_some _ e) (Nat.le_refl _) ?_,rfl,q _ I1.fresh⟩
   exact⟨_,_,_,Heap.get?_push_size _ rfl⟩
end
end L2
namespace VS
open PySem PySem.Spec PyProof.Rows L2
section
open Classical in
def zh7:List W->M W:=fun ws ce=>match zpY ws with
 | some (.rng lo n)=>if n<=sizeLine then zoM ((List.range n).map fun(i:Nat)=>W.int (lo+(i:Int))) ce else none
 | _=>none
section
variable {G:Ga} {E:XK} {X:Cx} {dr:Sl->M (List W)} {p pos:Pos}
theorem znt{a b:Expr}{p2 pos2:Pos}(hc:X.calm=true)(hgl:Gl X "tuple")(hml:X.mg "tuple" = none)(hg:Gl X "range")(hm:X.mg "range" = none)(ha:PA X [a,b] (zez G E dr))(hs:starEach [a,b] X.env=(false,eval a X.env)::starEach [b] X.env:=by rfl)(hpl:(backTo pos2 (starEach [b] X.env)).any (·.1)=false:=by rfl)(he:starEach [.Call (.Name "range" p2) [a,b] [] pos2] X.env=[(false,eval (.Call (.Name "range" p2) [a,b] [] pos2) X.env)]:=by rfl) :
  PE X (.Call (.Name "tuple" p) [.Call (.Name "range" p2) [a,b] [] pos2] [] pos) (zau G E (dBi zh7 dr)):=by
 refine PE.imp (zdS (zgx hc) hgl hml boot_tuple (zdR (zjN hg hm ha hs hpl) zgG (by rw[he];rfl)) (by decide) (by decide) (by rw[he];rfl) rfl) fun σ H Q zz_=>el6 zz_ fun F as sl ce S P=>(step (RP:=Reps) S P).mono fun vs H1 zz_=>el8 zz_ fun ws F1 as1 ce1 l1 S1 rs P1=>?_
 unfold zh7 at P1
 split at P1
 ·rename_i lo n hr
  unfold zpY at hr
  split at hr
  ·rename_i i j
   split at hr
   ·rename_i hj
    cases hr
    split at P1
    ·rename_i hz
     obtain⟨v,v',rfl,r1,r2⟩:=zmR rs
     simp only[Rep] at r1 r2
     subst r1
     subst r2
     refine⟨lo,j,rfl,fun q hq=>?_⟩
     refine⟨q,lo,j,rfl,zaB,by omega,by omega,by omega,by omega,hz,fun l hl=>?_⟩
     obtain⟨S2,l2⟩:=S1.st.freeze (o:=.rng lo j) hq
     exact(zeR (S1.slots S2 l2) (Reps.rng lo _) (P1.le l2)).2 l hl
    ·exact(show False from P1).elim
   ·cases hr
  ·cases hr
 ·exact(show False from P1).elim
end
end
end VS
namespace K40
open PySem PySem.Spec PyProof.Rows L2 VS
def XTB:XTb:=[("StoneError",true,["StoneError"]),("NoBoard",true,["NoBoard", "StoneError"]),("NoStand",true,["NoStand", "StoneError"]),("NoLay",true,["NoLay", "StoneError"]),("NoBreath",true,["NoBreath", "StoneError"]),("Again",false,["Again", "StoneError"]),("Over",true,["Over", "StoneError"]),("NoBack",true,["NoBack", "StoneError"]),("TooMuch",true,["TooMuch", "StoneError"]),("NoText",false,["NoText", "StoneError"]),("NoRow",true,["NoRow", "StoneError"]),("NoPoint",true,["NoPoint", "StoneError"])]
def d_other_hand(fu:Nat):List W->M W:=dFn finC 1
 (zbt (dOp zeA (dC (.int 3)) (zah 0)))
def zd8(fu:Nat):DS :=
 (dIf (zgf (dB (zaY (zlD true) (zah 6) (zah 3))) (dB (zaY (eqW false) (zaY ixW (zah 1) (zah 6)) (zaY ixW (zah 1) (zah 2))))) (zaG (zlG (zah 3) (zah 6) (dC (.bl true)))
 (dEx (dMt zhX (zah 4) (zad (zah 6) zao)))) zby)
def zd9(fu:Nat):DS :=
 (zaG (zbp 5 (zoV zoX (zah 4)))
 (zd0 (dIT (zaY ixW (zah 0) (zah 5))) (gN 6) (zd8 fu)))
def d_patch_of(fu:Nat):List W->M W:=dFn finO 7
 (zaG (zbp 3 (zfK (zah 2) (dC (.bl true))))
 (zaG (zbp 4 (zcb (zad (zah 2) zao)))
 (zaG (zcc (zki (zah 4)) (zd9 fu) fu)
 (zbt (dBi (za5 zgg) (zad (zah 3) zao))))))
def zeF(fu:Nat):DS :=
 (zlG (zah 2) (zah 6) (dC (.bl true)))
def zeG(fu:Nat):DS :=
 (dIf (dB (zaY (zlD true) (zah 4) (zah 2))) (zaG (zbp 5 (zar 3 (zcP (d_patch_of fu)) (zad (zah 0) (zad (zah 1) (zad (zah 4) zao)))))
 (zaG (dEx (dMt zhX (zah 3) (zad (zah 5) zao)))
 (zd0 (dIL (zah 5)) (gN 6) (zeF fu)))) zby)
def d_patches(fu:Nat):List W->M W:=dFn finO 7
 (zaG (zbp 2 zhQ)
 (zaG (zbp 3 (zcb zao))
 (zaG (zd0 (ziq (zad (dBi zf2 (zad (zah 0) zao)) zao)) (gN 4) (zeG fu))
 (zbt (zah 3)))))
def d_patch(fu:Nat):List W->M W:=dFn finO 3
 (zbt (zar 3 (d_patch_of fu) (zad (zah 0) (zad (zah 1) (zad (zah 2) zao)))))
def d_rows(fu:Nat):List W->M W:=dFn finC 2
 (zbt (dLC zb6 [1] (dIL (zar 2 (zcP (d_patches fu)) (zad (zah 0) (zad (zah 1) zao)))) (dB (zaY (eqW true) (zaY ixW (zah 1) (zaY ixW (zah 0) (dC (.int 0)))) (dC (.int 0)))) (zah 0)))
def zb3(fu:Nat):DS :=
 (zlG (zah 2) (zah 4) (dC (.bl true)))
def zb4(fu:Nat):DS :=
 (zd0 (dIT (zaY ixW (zah 0) (zah 3))) (gN 4) (zb3 fu))
def d_points_beside(fu:Nat):List W->M W:=dFn finO 5
 (zaG (zbp 2 zhQ)
 (zaG (zd0 (dIL (zah 1)) (gN 3) (zb4 fu))
 (zbt (dBi (za5 zgg) (zad (zah 2) zao)))))
def d_breaths(fu:Nat):List W->M W:=dFn finO 3
 (zbt (dLC zgg [1] (dIL (zar 2 (zcP (d_points_beside fu)) (zad (zah 0) (zad (zah 2) zao)))) (dB (zaY (eqW false) (zaY ixW (zah 1) (zah 0)) (dC (.int 0)))) (zah 0)))
def zfW(fu:Nat):DS :=
 (znO (zah 2) (zgi (zah 3) (zah 4)))
def d_filled(fu:Nat):List W->M W:=dFn finC 5
 (zaG (zbp 3 (dBi (zjf zgg) (zad (zah 0) zao)))
 (zaG (zd0 (dIL (zah 1)) (gN 4) (zfW fu))
 (zbt (dBi zbz (zad (zah 3) zao)))))
def zcZ(fu:Nat):DS :=
 (dIf (zgf (dB (zaY (eqW false) (zaY ixW (zah 1) (zaY ixW (zah 4) (dC (.int 0)))) (zah 2))) (zcF (zki (zar 3 (zcP (d_breaths fu)) (zad (zah 0) (zad (zah 1) (zad (zah 4) zao))))))) (dEx (dMt zmT (zah 3) (zad (zah 4) zao))) zby)
def d_breathless(fu:Nat):List W->M W:=dFn finO 5
 (zaG (zbp 3 (zcb zao))
 (zaG (zd0 (dIL (zar 2 (d_rows fu) (zad (zah 0) (zad (zah 1) zao)))) (gN 4) (zcZ fu))
 (zbt (dBi (za5 zgg) (zad (zah 3) zao)))))
def d_laid(fu:Nat):List W->M W:=dFn finC 7
 (zaG (dIf (dB (zaY (eqW true) (zaY ixW (zah 1) (zah 3)) (dC (.int 0)))) (zch "NoLay" [3]) zby)
 (zaG (zbp 4 (zar 3 (d_filled fu) (zad (zah 1) (zad (zdm (zad (zah 3) zao)) (zad (zah 2) zao)))))
 (zaG (zbp 5 (zar 3 (zcP (d_breathless fu)) (zad (zah 0) (zad (zah 4) (zad (zar 1 (d_other_hand fu) (zad (zah 2) zao)) zao)))))
 (zaG (zbp 6 (zar 3 (d_filled fu) (zad (zah 4) (zad (zah 5) (zad (dC (.int 0)) zao)))))
 (zaG (dIf (zcF (zki (zar 3 (zcP (d_breaths fu)) (zad (zah 0) (zad (zah 6) (zad (zar 3 (zcP (d_patch fu)) (zad (zah 0) (zad (zah 6) (zad (zah 3) zao)))) zao)))))) (zch "NoBreath" [3]) zby)
 (zbt (zbQ (zad (zah 6) (zad (zah 5) zao)))))))))
def zeH(fu:Nat):DS :=
 (zaG (zir (zar 4 (d_laid fu) (zh3 (zad (zah 0) (zad (zah 1) (zad (zah 2) (zad (zah 5) zao)))))) (some 6) (fun x=>zbG XTB "NoLay" x||zbG XTB "NoBreath" x) (fun _=>zp2 zrs))
 (dEx (dMt zhX (zah 4) (zad (zbQ (zad (zah 5) (zad (zaY ixW (zah 6) (dC (.int 0))) (zad (zaY ixW (zah 6) (dC (.int 1))) zao)))) zao))))
def d_lays_on(fu:Nat):List W->M W:=dFn finO 7
 (zaG (zbp 4 (zcb zao))
 (zaG (zd0 (dIL (zah 3)) (gN 5) (zeH fu))
 (zbt (zah 4))))
def d_new_lays(fu:Nat):List W->M W:=dFn finC 4
 (zbt (dLC zb6 [1] (dIL (zar 4 (zcP (d_lays_on fu)) (zad (zah 0) (zad (zaY ixW (zah 1) (dUn zmG (dC (.int 1)))) (zad (zah 2) (zad (zah 3) zao)))))) (dB (zaY (inW true) (zaY ixW (zah 0) (dC (.int 1))) (zah 1))) (zah 0)))
def d_steps(fu:Nat):List W->M W:=dFn finO 4
 (zaG (zbp 3 (dLC zgg [] (dIL (zar 4 (d_new_lays fu) (zad (zah 0) (zad (zah 1) (zad (zah 2) (zad (dBi (zhW zb6) (zad (dBi zf2 (zad (zah 0) zao)) zao)) zao)))))) zeS (zbQ (zad (zaY ixW (zah 0) (dC (.int 0))) (zad (zaY ixW (zah 0) (dC (.int 1))) zao)))))
 (zaG (dEx (dMt zhX (zah 3) (zad (zbQ (zad (dC .non) (zad (zaY ixW (zah 1) (dUn zmG (dC (.int 1)))) zao))) zao)))
 (zbt (zah 3))))
def d_Chase_is_spent(fu:Nat):List W->M W:=dFn finC 2
 (zbt (dOp fGe (dOp znL (dOp zcE (dBi zf2 (zad (zah 1) zao)) (dC (.int 1))) (dC (.int 2))) (zh6 "Chase" "most" (zah 0))))
def d_Chase_breaths_at(fu:Nat):List W->M W:=dFn finC 2
 (zbt (zar 3 (zcP (d_breaths fu)) (zad (zh6 "Chase" "joined" (zah 0)) (zad (zah 1) (zad (zar 3 (zcP (d_patch fu)) (zad (zh6 "Chase" "joined" (zah 0)) (zad (zah 1) (zad (zh6 "Chase" "stone" (zah 0)) zao)))) zao)))))
def d_Chase_hunter_lays(fu:Nat):List W->M W:=dFn finC 3
 (zaG (zbp 2 (zar 4 (d_new_lays fu) (zad (zh6 "Chase" "joined" (zah 0)) (zad (zah 1) (zad (zh6 "Chase" "hunter" (zah 0)) (zad (zc9 "Chase" "breaths_at" 2 (d_Chase_breaths_at fu) (zah 0) (zad (zaY ixW (zah 1) (dUn zmG (dC (.int 1)))) zao)) zao))))))
 (zbt (dLC zb6 [0] (dIL (zah 2)) (zh3 (zkJ (dB (zaY (eqW false) (zaY ixW (zaY ixW (zah 0) (dC (.int 1))) (zh6 "Chase" "stone" (zah 1))) (dC (.int 0)))) (dB (dOp fLe (dBi zf2 (zad (zc9 "Chase" "breaths_at" 2 (d_Chase_breaths_at fu) (zah 1) (zad (zaY ixW (zah 0) (dC (.int 1))) zao)) zao)) (dC (.int 1)))))) (zah 0))))
def zc0(fu:Nat)(r_Chase_hunt:List W->M W)(r_Chase_run:List W->M W):DS :=
 (zaG (dIf (dB (zaY (eqW false) (zaY ixW (zaY ixW (zah 4) (dC (.int 1))) (zh6 "Chase" "stone" (zah 0))) (dC (.int 0)))) (zbt (zbQ (zad (dC (.str "caught")) (zad (zdm (zad (zbQ (zad (zah 2) (zad (zaY ixW (zah 4) (dC (.int 0))) zao))) zao)) zao)))) zby)
 (zaG (zbp 5 (zc9 "Chase" "run" 3 (zjG r_Chase_run) (zah 0) (zad (zja zb6 (zah 1) (zdm (zad (zaY ixW (zah 4) (dC (.int 1))) zao))) (zad (zh2 (zah 2) (zbQ (zad (zaY ixW (zah 4) (dC (.int 0))) zao))) zao))))
 (zaG (dIf (dB (zaY (eqW false) (zaY ixW (zah 5) (dC (.int 0))) (dC (.str "caught")))) (zbt (zbQ (zad (dC (.str "caught")) (zad (zja zb6 (zdm (zad (zbQ (zad (zah 2) (zad (zaY ixW (zah 4) (dC (.int 0))) zao))) zao)) (zaY ixW (zah 5) (dC (.int 1)))) zao)))) zby)
 (dEx (dMt zmT (zah 3) (zad (zaY ixW (zah 5) (dC (.int 1))) zao))))))
def za4(fu:Nat)(r_Chase_hunt:List W->M W)(r_Chase_run:List W->M W):List W->M W:=dFn znP 6
 (zaG (dIf (dB (zc9 "Chase" "is_spent" 2 (d_Chase_is_spent fu) (zah 0) (zad (zah 2) zao))) (zbt (zbQ (zad (dC (.str "free")) (zad (zdm zao) zao)))) zby)
 (zaG (zbp 3 (zcb zao))
 (zaG (zd0 (dIL (zc9 "Chase" "hunter_lays" 2 (d_Chase_hunter_lays fu) (zah 0) (zad (zah 1) zao))) (gN 4) (zc0 fu r_Chase_hunt r_Chase_run))
 (zbt (zbQ (zad (dC (.str "free")) (zad (zah 3) zao)))))))
def zdp(fu:Nat)(r_Chase_hunt:List W->M W)(r_Chase_run:List W->M W):DS :=
 (zaG (zbp 5 (zc9 "Chase" "hunt" 3 (zjG r_Chase_hunt) (zah 0) (zad (zja zb6 (zah 1) (zdm (zad (zaY ixW (zah 4) (dC (.int 1))) zao))) (zad (zh2 (zah 2) (zbQ (zad (zaY ixW (zah 4) (dC (.int 0))) zao))) zao))))
 (zaG (dIf (dB (zaY (eqW false) (zaY ixW (zah 5) (dC (.int 0))) (dC (.str "free")))) (zbt (zbQ (zad (dC (.str "free")) (zad (zja zb6 (zdm (zad (zbQ (zad (zah 2) (zad (zaY ixW (zah 4) (dC (.int 0))) zao))) zao)) (zaY ixW (zah 5) (dC (.int 1)))) zao)))) zby)
 (dEx (dMt zmT (zah 3) (zad (zaY ixW (zah 5) (dC (.int 1))) zao)))))
def zbd(fu:Nat)(r_Chase_hunt:List W->M W)(r_Chase_run:List W->M W):List W->M W:=dFn znP 6
 (zaG (dIf (dB (zc9 "Chase" "is_spent" 2 (d_Chase_is_spent fu) (zah 0) (zad (zah 2) zao))) (zbt (zbQ (zad (dC (.str "free")) (zad (zdm zao) zao)))) zby)
 (zaG (zbp 3 (zcb zao))
 (zaG (zd0 (dIL (zar 3 (zcP (d_steps fu)) (zad (zh6 "Chase" "joined" (zah 0)) (zad (zah 1) (zad (zh6 "Chase" "runner" (zah 0)) zao))))) (gN 4) (zdp fu r_Chase_hunt r_Chase_run))
 (zbt (zbQ (zad (dC (.str "caught")) (zad (zah 3) zao)))))))
def zan(fu:Nat):Nat->(List W->M W)×(List W->M W)
 | 0=>(fun _ _=>none,fun _ _=>none)
 | r+1=>(za4 fu (zan fu r).1 (zan fu r).2,zbd fu (zan fu r).1 (zan fu r).2)
def d_Chase_hunt(fu:Nat):List W->M W:=(zan fu 10).1
def d_Chase_run(fu:Nat):List W->M W:=(zan fu 10).2
def d_Chase___init__(fu:Nat):List W->M W:=dFn znP 5
 (zaG (zeo "Chase" "joined" (zah 0) (zah 1))
 (zaG (zeo "Chase" "hunter" (zah 0) (zah 2))
 (zaG (zeo "Chase" "runner" (zah 0) (zar 1 (d_other_hand fu) (zad (zah 2) zao)))
 (zaG (zeo "Chase" "stone" (zah 0) (zah 3))
 (zeo "Chase" "most" (zah 0) (zah 4))))))
def d_chase(fu:Nat):List W->M W:=dFn finC 5
 (zaG (dIf (dB (dOp fGt (dBi zf2 (zad (zah 0) zao)) (dC (.int 16)))) (zch "TooMuch" []) zby)
 (zbt (zc9 "Chase" "hunt" 3 (zjG (d_Chase_hunt fu)) (zlc "Chase" 5 (d_Chase___init__ fu) (zad (zah 0) (zad (zah 2) (zad (zah 3) (zad (zah 4) zao))))) (zad (zdm (zad (zah 1) zao)) (zad (zbQ zao) zao)))))
def d__law_cell_at(fu:Nat):List W->M W:=dFn finC 2
 (zaG (dIf (dB (dOp fLt (zah 1) (dBi zf2 (zad (zah 0) zao)))) (zbt (zaY ixW (zah 0) (zah 1))) zby)
 (zbt (dOp zcE (dOp zin (dOp zin (dC (.int 71)) (zah 1)) (zah 1)) (dOp zin (dC (.int 7)) (zah 1)))))
def d__law_mix(fu:Nat):List W->M W:=dFn finC 3
 (zaG (zbp 2 (dOp zcN (dOp zin (dOp zcE (dOp zcN (zah 0) (dC (.int 99991))) (dC (.int 1))) (dOp zcE (dC (.int 48271)) (dOp zin (dOp zin (dC (.int 2018)) (zah 1)) (zah 1)))) (dC (.int 65521))))
 (zbt (dOp zcN (dOp zcE (dOp zin (zah 2) (zah 2)) (dOp zin (dC (.int 7919)) (zah 1))) (dC (.int 65519)))))
def zdq(fu:Nat):DS :=
 (zaG (dEx (dMt zhX (zaY ixW (zah 2) (zah 3)) (zad (dOp zcN (dOp zcE (zah 3) (dC (.int 1))) (zah 0)) zao)))
 (dEx (dMt zhX (zaY ixW (zah 2) (dOp zcN (dOp zcE (zah 3) (dC (.int 1))) (zah 0))) (zad (zah 3) zao))))
def d__law_line(fu:Nat):List W->M W:=dFn finC 4
 (zaG (zbp 2 (dLC zb6 [] (ziq (zad (zah 0) zao)) zeS (zcb zao)))
 (zaG (zd0 (ziq (zad (dOp zcE (dOp zeA (zah 0) (dC (.int 1))) (dBi zpr (zad (zah 1) zao))) zao)) (gN 3) (zdq fu))
 (zbt (dBi zbz (zad (dLC zb6 [] (dIL (zah 2)) zeS (dBi zbz (zad (dBi (za5 zb6) (zad (zah 0) zao)) zao))) zao)))))
def d__law_star(fu:Nat):List W->M W:=dFn finC 1
 (zbt (dBi zbz (zad (zja zb6 (zdm (zad (dBi zh7 (zad (dC (.int 1)) (zad (zah 0) zao))) zao)) (zfJ zb6 (zad (zbQ (zad (dC (.int 0)) zao)) zao) (dOp zeA (zah 0) (dC (.int 1))))) zao)))
def zea(fu:Nat):DS :=
 (znO (zah 4) (zgi (zah 2) (dOp zcN (zah 3) (zah 0))))
def d__law_put(fu:Nat):List W->M W:=dFn finC 5
 (zaG (zbp 2 (zfJ zgg (zad (dC (.int 0)) zao) (zah 0)))
 (zaG (zd0 (dIL (zah 1)) (gT 2 (zeB (gN 3) (zeB (gN 4) zmN))) (zea fu))
 (zbt (dBi zbz (zad (zah 2) zao)))))
def d__law_refused(fu:Nat):List W->M W:=dFn finC 8
 (zaG (zbp 5 (dC .non))
 (zaG (zir (zar 5 (d_chase fu) (zh3 (zad (zah 0) (zad (zah 1) (zad (zah 2) (zad (zah 3) (zad (zah 4) zao))))))) none (zbG XTB "StoneError") (dAs 6 (zbp 5 (zah 6))))
 (zaG (dIf (zkJ (dB (dUn zrq (zah 5))) (zkJ (zcF (dB (zfU (fun ce w=>zgw XTB ce w "TooMuch") (zah 5)))) (zcF (dB (zfU (fun ce w=>zpv XTB ce w) (zah 5)))))) (zbt (dC (.bl false))) zby)
 (zaG (zbp 7 (zdm (zad (zfU (fun ce w=>zgw XTB ce w "Again") (zah 5)) (zad (zfU (fun ce w=>zgw XTB ce w "NoBack") (zah 5)) (zad (zfU (fun ce w=>zgw XTB ce w "NoBoard") (zah 5)) zao)))))
 (zaG (zbp 7 (zja zb6 (zah 7) (zdm (zad (zfU (fun ce w=>zgw XTB ce w "NoBreath") (zah 5)) (zad (zfU (fun ce w=>zgw XTB ce w "NoLay") (zah 5)) (zad (zfU (fun ce w=>zgw XTB ce w "NoPoint") (zah 5)) zao))))))
 (zaG (zbp 7 (zja zb6 (zah 7) (zdm (zad (zfU (fun ce w=>zgw XTB ce w "NoRow") (zah 5)) (zad (zfU (fun ce w=>zgw XTB ce w "NoStand") (zah 5)) (zad (zfU (fun ce w=>zgw XTB ce w "NoText") (zah 5)) zao))))))
 (zbt (zoH (zaY (inW true) (dC (.bl true)) (zah 7)) (zpW (zfU (fun ce w=>zgw XTB ce w "Over") (zah 5)))))))))))
def d__law_one_breath(fu:Nat):List W->M W:=dFn finC 7
 (zaG (zbp 3 (dOp zcE (dC (.int 4)) (dOp zcN (zar 2 (d__law_mix fu) (zad (zah 0) (zad (dC (.int 3)) zao))) (dC (.int 13)))))
 (zaG (zbp 4 (zar 2 (d__law_line fu) (zad (zah 3) (zad (dC (.bl false)) zao))))
 (zaG (zbp 5 (dOp zcE (dC (.int 1)) (dOp zcN (zar 2 (d__law_mix fu) (zad (zah 0) (zad (dC (.int 4)) zao))) (dOp zeA (zah 3) (dC (.int 3))))))
 (zaG (zbp 6 (zar 2 (d__law_put fu) (zad (zah 3) (zad (dLC zb6 [1] (ziq (zad (zah 5) zao)) zeS (zbQ (zad (zah 0) (zad (zah 1) zao)))) zao))))
 (zbt (zaY (eqD false) (zar 5 (d_chase fu) (zad (zah 4) (zad (zah 6) (zad (dOp zeA (dC (.int 3)) (zah 1)) (zad (dOp zcN (zar 2 (d__law_mix fu) (zad (zah 0) (zad (dC (.int 5)) zao))) (zah 5)) (zad (zah 2) zao)))))) (zbQ (zad (dC (.str "caught")) (zad (zdm (zad (zbQ (zad (zbQ zao) (zad (zah 5) zao))) zao)) zao)))))))))
def d__law_two_breaths(fu:Nat):List W->M W:=dFn finC 7
 (zaG (zbp 2 (dOp zcE (dC (.int 5)) (dOp zcN (zar 2 (d__law_mix fu) (zad (zah 0) (zad (dC (.int 3)) zao))) (dC (.int 12)))))
 (zaG (zbp 3 (zar 2 (d__law_line fu) (zad (zah 2) (zad (dOp zmV (dOp zcN (zar 2 (d__law_mix fu) (zad (zah 0) (zad (dC (.int 6)) zao))) (dC (.int 2))) (dC (.int 1))) zao))))
 (zaG (zbp 4 (dOp zcE (dC (.int 1)) (dOp zcN (zar 2 (d__law_mix fu) (zad (zah 0) (zad (dC (.int 4)) zao))) (dOp zeA (zah 2) (dC (.int 4))))))
 (zaG (zbp 5 (dOp zcE (dC (.int 1)) (dOp zcN (zar 2 (d__law_mix fu) (zad (zah 0) (zad (dC (.int 7)) zao))) (dOp zeA (dOp zeA (zah 2) (zah 4)) (dC (.int 2))))))
 (zaG (zbp 6 (zar 2 (d__law_put fu) (zad (zah 2) (zad (dLC zb6 [1,5] (ziq (zad (zah 4) zao)) zeS (zbQ (zad (dOp zcE (zah 2) (zah 0)) (zad (zah 1) zao)))) zao))))
 (zbt (zaY (eqD false) (zar 5 (d_chase fu) (zad (zah 3) (zad (zah 6) (zad (dOp zeA (dC (.int 3)) (zah 1)) (zad (dOp zcE (zah 5) (dOp zcN (zar 2 (d__law_mix fu) (zad (zah 0) (zad (dC (.int 5)) zao))) (zah 4))) (zad (dC (.int 1)) zao)))))) (zbQ (zad (dC (.str "free")) (zad (zdm zao) zao))))))))))
def d__law_many_breaths(fu:Nat):List W->M W:=dFn finC 4
 (zaG (zbp 3 (dOp zcE (dC (.int 4)) (dOp zcN (zar 2 (d__law_mix fu) (zad (zah 0) (zad (dC (.int 3)) zao))) (dC (.int 13)))))
 (zbt (zaY (eqD false) (zar 5 (d_chase fu) (zad (zar 1 (d__law_star fu) (zad (zah 3) zao)) (zad (zar 2 (d__law_put fu) (zad (zah 3) (zad (zdm (zad (zbQ (zad (dC (.int 0)) (zad (zah 1) zao))) zao)) zao))) (zad (dOp zeA (dC (.int 3)) (zah 1)) (zad (dC (.int 0)) (zad (zah 2) zao)))))) (zbQ (zad (dC (.str "free")) (zad (zdm zao) zao))))))
def zl0(fu:Nat):DS :=
 (zaG (zbp 2 (zar 2 (d__law_cell_at fu) (zad (zah 0) (zad (zah 1) zao))))
 (zaG (zbp 3 (dOp zcE (dC (.int 1)) (dOp zcN (zar 2 (d__law_mix fu) (zad (zah 2) (zad (dC (.int 1)) zao))) (dC (.int 2)))))
 (zaG (zbp 4 (dOp zcE (dC (.int 1)) (dOp zcN (zar 2 (d__law_mix fu) (zad (zah 2) (zad (dC (.int 2)) zao))) (dC (.int 5)))))
 (zaG (dIf (zkJ (zcF (dB (zar 3 (d__law_one_breath fu) (zad (zah 2) (zad (zah 3) (zad (zah 4) zao)))))) (zcF (dB (zar 3 (d__law_many_breaths fu) (zad (zah 2) (zad (zah 3) (zad (zah 4) zao))))))) (zbt (dC (.bl false))) zby)
 (zaG (dIf (zcF (dB (zar 2 (d__law_two_breaths fu) (zad (zah 2) (zad (zah 3) zao))))) (zbt (dC (.bl false))) zby)
 (zaG (zbp 5 (dOp zcE (dC (.int 17)) (dOp zcN (zar 2 (d__law_mix fu) (zad (zah 2) (zad (dC (.int 8)) zao))) (dC (.int 20)))))
 (zaG (zbp 6 (zar 2 (d__law_put fu) (zad (zah 5) (zad (zdm (zad (zbQ (zad (dC (.int 3)) (zad (zah 3) zao))) zao)) zao))))
 (dIf (zcF (dB (zar 5 (d__law_refused fu) (zad (zar 2 (d__law_line fu) (zad (zah 5) (zad (dOp zmV (dOp zcN (zar 2 (d__law_mix fu) (zad (zah 2) (zad (dC (.int 9)) zao))) (dC (.int 2))) (dC (.int 1))) zao))) (zad (zah 6) (zad (dOp zeA (dC (.int 3)) (zah 3)) (zad (dC (.int 3)) (zad (zah 4) zao)))))))) (zbt (dC (.bl false))) zby))))))))
def d_law(fu:Nat):List W->M W:=dFn finC 7
 (zaG (zd0 (ziq (zad (dC (.int 8)) zao)) (gN 1) (zl0 fu))
 (zbt (dC (.bl true))))
end K40
namespace K40
open PySem PySem.Spec PyProof.Rows L2 VS
def top(i:Nat):Stmt:=PySem.Challenge.pw_stonebreath_k40_chases_at_once.main.body.getD i (.Pass ⟨0,0,0,0⟩)
def zh8(s:Stmt)(j:Nat):Stmt:=match s with
 | .ClassDef _ _ _ b _ _ _ _ _ _ _=>b.getD j (.Pass ⟨0,0,0,0⟩)
 | _=>.Pass ⟨0,0,0,0⟩
abbrev za6:Stmt:=top 1
abbrev zbu:Stmt:=top 2
abbrev zbL:Stmt:=top 3
abbrev zda:Stmt:=top 18
abbrev zeb:Stmt:=top 19
abbrev zbE:Stmt:=top 20
abbrev zaT:Stmt:=top 21
abbrev zeI:Stmt:=top 23
abbrev zbM:Stmt:=top 24
abbrev zbg:Stmt:=top 25
abbrev zcJ:Stmt:=top 26
abbrev zcq:Stmt:=top 27
abbrev za7:Stmt:=top 28
abbrev zdb:Stmt:=top 31
abbrev zaZ:Stmt:=top 34
abbrev zbv:Stmt:=top 35
abbrev za1:Stmt:=top 36
abbrev zbh:Stmt:=top 37
abbrev zbw:Stmt:=top 38
abbrev za0:Stmt:=top 39
abbrev zaI:Stmt:=top 40
abbrev zaF:Stmt:=top 41
abbrev zaJ:Stmt:=top 42
abbrev zh9:Stmt:=top 43
abbrev zaP:Stmt:=zh8 (top 32) 0
abbrev za8:Stmt:=zh8 (top 32) 1
abbrev zbi:Stmt:=zh8 (top 32) 2
abbrev zaQ:Stmt:=zh8 (top 32) 3
abbrev zaA:Stmt:=zh8 (top 32) 4
abbrev zaM:Stmt:=zh8 (top 32) 5
theorem zfc:FnScope ["hand"] ["hand"] (zag za6):=⟨rfl,rfl,rfl,by decide +kernel,rfl,by decide +kernel,by decide +kernel⟩
theorem sc_patch_of:FnScope ["board", "marks", "start", "found", "waiting", "point", "beside"] ["board", "marks", "start"] (zag zbu):=⟨rfl,rfl,rfl,by decide +kernel,rfl,by decide +kernel,by decide +kernel⟩
theorem sc_patches:FnScope ["board", "marks", "met", "found", "start", "points", "point"] ["board", "marks"] (zag zbL):=⟨rfl,rfl,rfl,by decide +kernel,rfl,by decide +kernel,by decide +kernel⟩
theorem zlg:FnScope ["board", "stand", "point"] ["board", "stand", "point"] (zag zda):=⟨rfl,rfl,rfl,by decide +kernel,rfl,by decide +kernel,by decide +kernel⟩
theorem znu:FnScope ["board", "stand"] ["board", "stand"] (zag zeb):=⟨rfl,rfl,rfl,by decide +kernel,rfl,by decide +kernel,by decide +kernel⟩
theorem sc_points_beside:FnScope ["board", "points", "found", "point", "beside"] ["board", "points"] (zag zaT):=⟨rfl,rfl,rfl,by decide +kernel,rfl,by decide +kernel,by decide +kernel⟩
theorem zia:FnScope ["board", "stand", "row"] ["board", "stand", "row"] (zag zbE):=⟨rfl,rfl,rfl,by decide +kernel,rfl,by decide +kernel,by decide +kernel⟩
theorem sc_filled:FnScope ["stand", "points", "what", "changed", "point"] ["stand", "points", "what"] (zag zcq):=⟨rfl,rfl,rfl,by decide +kernel,rfl,by decide +kernel,by decide +kernel⟩
theorem sc_breathless:FnScope ["board", "stand", "hand", "found", "row"] ["board", "stand", "hand"] (zag za7):=⟨rfl,rfl,rfl,by decide +kernel,rfl,by decide +kernel,by decide +kernel⟩
theorem sc_laid:FnScope ["board", "stand", "hand", "point", "full", "taken", "behind"] ["board", "stand", "hand", "point"] (zag zeI):=⟨rfl,rfl,rfl,by decide +kernel,rfl,by decide +kernel,by decide +kernel⟩
theorem sc_lays_on:FnScope ["board", "stand", "hand", "points", "found", "point", "told"] ["board", "stand", "hand", "points"] (zag zbM):=⟨rfl,rfl,rfl,by decide +kernel,rfl,by decide +kernel,by decide +kernel⟩
theorem zgy:FnScope ["board", "came", "hand", "points"] ["board", "came", "hand", "points"] (zag zbg):=⟨rfl,rfl,rfl,by decide +kernel,rfl,by decide +kernel,by decide +kernel⟩
theorem sc_steps:FnScope ["board", "came", "hand", "found"] ["board", "came", "hand"] (zag zcJ):=⟨rfl,rfl,rfl,by decide +kernel,rfl,by decide +kernel,by decide +kernel⟩
theorem zdc:FnScope ["self", "deeds"] ["self", "deeds"] (zag zaQ):=⟨rfl,rfl,rfl,by decide +kernel,rfl,by decide +kernel,by decide +kernel⟩
theorem zcK:FnScope ["self", "stand"] ["self", "stand"] (zag zaM):=⟨rfl,rfl,rfl,by decide +kernel,rfl,by decide +kernel,by decide +kernel⟩
theorem sc_Chase_hunter_lays:FnScope ["self", "came", "lays"] ["self", "came"] (zag zaA):=⟨rfl,rfl,rfl,by decide +kernel,rfl,by decide +kernel,by decide +kernel⟩
theorem sc_Chase_hunt:FnScope ["self", "came", "deeds", "freeing", "lay", "told"] ["self", "came", "deeds"] (zag za8):=⟨rfl,rfl,rfl,by decide +kernel,rfl,by decide +kernel,by decide +kernel⟩
theorem sc_Chase_run:FnScope ["self", "came", "deeds", "catching", "step", "told"] ["self", "came", "deeds"] (zag zbi):=⟨rfl,rfl,rfl,by decide +kernel,rfl,by decide +kernel,by decide +kernel⟩
theorem zdd:FnScope ["self", "board", "hunter", "point", "most"] ["self", "board", "hunter", "point", "most"] (zag zaP):=⟨rfl,rfl,rfl,by decide +kernel,rfl,by decide +kernel,by decide +kernel⟩
theorem zlh:FnScope ["board", "stand", "hunter", "point", "most"] ["board", "stand", "hunter", "point", "most"] (zag zdb):=⟨rfl,rfl,rfl,by decide +kernel,rfl,by decide +kernel,by decide +kernel⟩
theorem zec:FnScope ["_law_script", "_law_k"] ["_law_script", "_law_k"] (zag zaZ):=⟨rfl,rfl,rfl,by decide +kernel,rfl,by decide +kernel,by decide +kernel⟩
theorem sc__law_mix:FnScope ["_law_cell", "_law_k", "_law_one"] ["_law_cell", "_law_k"] (zag zbv):=⟨rfl,rfl,rfl,by decide +kernel,rfl,by decide +kernel,by decide +kernel⟩
theorem sc__law_line:FnScope ["_law_many", "_law_ring", "_law_joined", "_law_k"] ["_law_many", "_law_ring"] (zag za1):=⟨rfl,rfl,rfl,by decide +kernel,rfl,by decide +kernel,by decide +kernel⟩
theorem zfX:FnScope ["_law_many"] ["_law_many"] (zag zbh):=⟨rfl,rfl,rfl,by decide +kernel,rfl,by decide +kernel,by decide +kernel⟩
theorem sc__law_put:FnScope ["_law_many", "_law_told", "_law_stand", "_law_point", "_law_hand"] ["_law_many", "_law_told"] (zag zbw):=⟨rfl,rfl,rfl,by decide +kernel,rfl,by decide +kernel,by decide +kernel⟩
theorem sc__law_refused:FnScope ["_law_board", "_law_stand", "_law_hunter", "_law_point", "_law_most", "_law_caught", "error", "_law_others"] ["_law_board", "_law_stand", "_law_hunter", "_law_point", "_law_most"] (zag za0):=⟨rfl,rfl,rfl,by decide +kernel,rfl,by decide +kernel,by decide +kernel⟩
theorem sc__law_one_breath:FnScope ["_law_cell", "_law_hand", "_law_most", "_law_many", "_law_board", "_law_size", "_law_stand"] ["_law_cell", "_law_hand", "_law_most"] (zag zaI):=⟨rfl,rfl,rfl,by decide +kernel,rfl,by decide +kernel,by decide +kernel⟩
theorem sc__law_two_breaths:FnScope ["_law_cell", "_law_hand", "_law_many", "_law_board", "_law_size", "_law_first", "_law_stand"] ["_law_cell", "_law_hand"] (zag zaF):=⟨rfl,rfl,rfl,by decide +kernel,rfl,by decide +kernel,by decide +kernel⟩
theorem sc__law_many_breaths:FnScope ["_law_cell", "_law_hand", "_law_most", "_law_many"] ["_law_cell", "_law_hand", "_law_most"] (zag zaJ):=⟨rfl,rfl,rfl,by decide +kernel,rfl,by decide +kernel,by decide +kernel⟩
theorem sc_law:FnScope ["_law_script", "_law_k", "_law_cell", "_law_hand", "_law_most", "_law_many", "_law_stand"] ["_law_script"] (zag zh9):=⟨rfl,rfl,rfl,by decide +kernel,rfl,by decide +kernel,by decide +kernel⟩
set_option genInjectivity false in
set_option genSizeOfSpec false in
structure Adr where
 f_other_hand:Addr
 d_other_hand:FuncData
 f_patch_of:Addr
 d_patch_of:FuncData
 f_patches:Addr
 d_patches:FuncData
 f_patch:Addr
 d_patch:FuncData
 f_rows:Addr
 d_rows:FuncData
 f_breaths:Addr
 d_breaths:FuncData
 f_points_beside:Addr
 d_points_beside:FuncData
 f_laid:Addr
 d_laid:FuncData
 f_lays_on:Addr
 d_lays_on:FuncData
 f_new_lays:Addr
 d_new_lays:FuncData
 f_steps:Addr
 d_steps:FuncData
 f_filled:Addr
 d_filled:FuncData
 f_breathless:Addr
 d_breathless:FuncData
 f_chase:Addr
 d_chase:FuncData
 f__law_cell_at:Addr
 d__law_cell_at:FuncData
 f__law_mix:Addr
 d__law_mix:FuncData
 f__law_line:Addr
 d__law_line:FuncData
 f__law_star:Addr
 d__law_star:FuncData
 f__law_put:Addr
 d__law_put:FuncData
 f__law_refused:Addr
 d__law_refused:FuncData
 f__law_one_breath:Addr
 d__law_one_breath:FuncData
 f__law_two_breaths:Addr
 d__law_two_breaths:FuncData
 f__law_many_breaths:Addr
 d__law_many_breaths:FuncData
 f_law:Addr
 d_law:FuncData
 f_Chase___init__:Addr
 d_Chase___init__:FuncData
 f_Chase_hunt:Addr
 d_Chase_hunt:FuncData
 f_Chase_run:Addr
 d_Chase_run:FuncData
 f_Chase_is_spent:Addr
 d_Chase_is_spent:FuncData
 f_Chase_hunter_lays:Addr
 d_Chase_hunter_lays:FuncData
 f_Chase_breaths_at:Addr
 d_Chase_breaths_at:FuncData
structure Txt (K:PySem.W.Frag) (mg:Str->Option Value) (A:Adr):Prop where
 g_other_hand:mg "other_hand" = some (.ref A.f_other_hand)
 F_other_hand:Fun K "other_hand" "other_hand" za6 A.f_other_hand A.d_other_hand
 b_other_hand:Binds K A.d_other_hand ["hand"] []
 g_patch_of:mg "patch_of" = some (.ref A.f_patch_of)
 F_patch_of:Fun K "patch_of" "patch_of" zbu A.f_patch_of A.d_patch_of
 b_patch_of:Binds K A.d_patch_of ["board", "marks", "start"] []
 g_patches:mg "patches" = some (.ref A.f_patches)
 F_patches:Fun K "patches" "patches" zbL A.f_patches A.d_patches
 b_patches:Binds K A.d_patches ["board", "marks"] []
 g_patch:mg "patch" = some (.ref A.f_patch)
 F_patch:Fun K "patch" "patch" zda A.f_patch A.d_patch
 b_patch:Binds K A.d_patch ["board", "stand", "point"] []
 g_rows:mg "rows" = some (.ref A.f_rows)
 F_rows:Fun K "rows" "rows" zeb A.f_rows A.d_rows
 b_rows:Binds K A.d_rows ["board", "stand"] []
 g_breaths:mg "breaths" = some (.ref A.f_breaths)
 F_breaths:Fun K "breaths" "breaths" zbE A.f_breaths A.d_breaths
 b_breaths:Binds K A.d_breaths ["board", "stand", "row"] []
 g_points_beside:mg "points_beside" = some (.ref A.f_points_beside)
 F_points_beside:Fun K "points_beside" "points_beside" zaT A.f_points_beside A.d_points_beside
 b_points_beside:Binds K A.d_points_beside ["board", "points"] []
 g_laid:mg "laid" = some (.ref A.f_laid)
 F_laid:Fun K "laid" "laid" zeI A.f_laid A.d_laid
 b_laid:Binds K A.d_laid ["board", "stand", "hand", "point"] []
 g_lays_on:mg "lays_on" = some (.ref A.f_lays_on)
 F_lays_on:Fun K "lays_on" "lays_on" zbM A.f_lays_on A.d_lays_on
 b_lays_on:Binds K A.d_lays_on ["board", "stand", "hand", "points"] []
 g_new_lays:mg "new_lays" = some (.ref A.f_new_lays)
 F_new_lays:Fun K "new_lays" "new_lays" zbg A.f_new_lays A.d_new_lays
 b_new_lays:Binds K A.d_new_lays ["board", "came", "hand", "points"] []
 g_steps:mg "steps" = some (.ref A.f_steps)
 F_steps:Fun K "steps" "steps" zcJ A.f_steps A.d_steps
 b_steps:Binds K A.d_steps ["board", "came", "hand"] []
 g_filled:mg "filled" = some (.ref A.f_filled)
 F_filled:Fun K "filled" "filled" zcq A.f_filled A.d_filled
 b_filled:Binds K A.d_filled ["stand", "points", "what"] []
 g_breathless:mg "breathless" = some (.ref A.f_breathless)
 F_breathless:Fun K "breathless" "breathless" za7 A.f_breathless A.d_breathless
 b_breathless:Binds K A.d_breathless ["board", "stand", "hand"] []
 g_chase:mg "chase" = some (.ref A.f_chase)
 F_chase:Fun K "chase" "chase" zdb A.f_chase A.d_chase
 b_chase:Binds K A.d_chase ["board", "stand", "hunter", "point", "most"] []
 g__law_cell_at:mg "_law_cell_at" = some (.ref A.f__law_cell_at)
 F__law_cell_at:Fun K "_law_cell_at" "_law_cell_at" zaZ A.f__law_cell_at A.d__law_cell_at
 b__law_cell_at:Binds K A.d__law_cell_at ["_law_script", "_law_k"] []
 g__law_mix:mg "_law_mix" = some (.ref A.f__law_mix)
 F__law_mix:Fun K "_law_mix" "_law_mix" zbv A.f__law_mix A.d__law_mix
 b__law_mix:Binds K A.d__law_mix ["_law_cell", "_law_k"] []
 g__law_line:mg "_law_line" = some (.ref A.f__law_line)
 F__law_line:Fun K "_law_line" "_law_line" za1 A.f__law_line A.d__law_line
 b__law_line:Binds K A.d__law_line ["_law_many", "_law_ring"] []
 g__law_star:mg "_law_star" = some (.ref A.f__law_star)
 F__law_star:Fun K "_law_star" "_law_star" zbh A.f__law_star A.d__law_star
 b__law_star:Binds K A.d__law_star ["_law_many"] []
 g__law_put:mg "_law_put" = some (.ref A.f__law_put)
 F__law_put:Fun K "_law_put" "_law_put" zbw A.f__law_put A.d__law_put
 b__law_put:Binds K A.d__law_put ["_law_many", "_law_told"] []
 g__law_refused:mg "_law_refused" = some (.ref A.f__law_refused)
 F__law_refused:Fun K "_law_refused" "_law_refused" za0 A.f__law_refused A.d__law_refused
 b__law_refused:Binds K A.d__law_refused ["_law_board", "_law_stand", "_law_hunter", "_law_point", "_law_most"] []
 g__law_one_breath:mg "_law_one_breath" = some (.ref A.f__law_one_breath)
 F__law_one_breath:Fun K "_law_one_breath" "_law_one_breath" zaI A.f__law_one_breath A.d__law_one_breath
 b__law_one_breath:Binds K A.d__law_one_breath ["_law_cell", "_law_hand", "_law_most"] []
 g__law_two_breaths:mg "_law_two_breaths" = some (.ref A.f__law_two_breaths)
 F__law_two_breaths:Fun K "_law_two_breaths" "_law_two_breaths" zaF A.f__law_two_breaths A.d__law_two_breaths
 b__law_two_breaths:Binds K A.d__law_two_breaths ["_law_cell", "_law_hand"] []
 g__law_many_breaths:mg "_law_many_breaths" = some (.ref A.f__law_many_breaths)
 F__law_many_breaths:Fun K "_law_many_breaths" "_law_many_breaths" zaJ A.f__law_many_breaths A.d__law_many_breaths
 b__law_many_breaths:Binds K A.d__law_many_breaths ["_law_cell", "_law_hand", "_law_most"] []
 g_law:mg "law" = some (.ref A.f_law)
 F_law:Fun K "law" "law" zh9 A.f_law A.d_law
 b_law:Binds K A.d_law ["_law_script"] []
 mt_Chase___init__:L2.Meth K (clOf K "Chase") "__init__" A.f_Chase___init__
 F_Chase___init__:Fun K "__init__" "Chase.__init__" zaP A.f_Chase___init__ A.d_Chase___init__
 b_Chase___init__:Binds K A.d_Chase___init__ ["self", "board", "hunter", "point", "most"] []
 mt_Chase_hunt:L2.Meth K (clOf K "Chase") "hunt" A.f_Chase_hunt
 F_Chase_hunt:Fun K "hunt" "Chase.hunt" za8 A.f_Chase_hunt A.d_Chase_hunt
 b_Chase_hunt:Binds K A.d_Chase_hunt ["self", "came", "deeds"] []
 mt_Chase_run:L2.Meth K (clOf K "Chase") "run" A.f_Chase_run
 F_Chase_run:Fun K "run" "Chase.run" zbi A.f_Chase_run A.d_Chase_run
 b_Chase_run:Binds K A.d_Chase_run ["self", "came", "deeds"] []
 mt_Chase_is_spent:L2.Meth K (clOf K "Chase") "is_spent" A.f_Chase_is_spent
 F_Chase_is_spent:Fun K "is_spent" "Chase.is_spent" zaQ A.f_Chase_is_spent A.d_Chase_is_spent
 b_Chase_is_spent:Binds K A.d_Chase_is_spent ["self", "deeds"] []
 mt_Chase_hunter_lays:L2.Meth K (clOf K "Chase") "hunter_lays" A.f_Chase_hunter_lays
 F_Chase_hunter_lays:Fun K "hunter_lays" "Chase.hunter_lays" zaA A.f_Chase_hunter_lays A.d_Chase_hunter_lays
 b_Chase_hunter_lays:Binds K A.d_Chase_hunter_lays ["self", "came"] []
 mt_Chase_breaths_at:L2.Meth K (clOf K "Chase") "breaths_at" A.f_Chase_breaths_at
 F_Chase_breaths_at:Fun K "breaths_at" "Chase.breaths_at" zaM A.f_Chase_breaths_at A.d_Chase_breaths_at
 b_Chase_breaths_at:Binds K A.d_Chase_breaths_at ["self", "stand"] []
 cls_Chase:L2.Cls K (clOf K "Chase")
 mk_Chase:L2.Mk K (clOf K "Chase") A.f_Chase___init__
 gc_Chase:mg "Chase" = some (.ref (clOf K "Chase"))
 na_Chase_hunter:L2.NoAttr K (clOf K "Chase") "hunter"
 na_Chase_joined:L2.NoAttr K (clOf K "Chase") "joined"
 na_Chase_most:L2.NoAttr K (clOf K "Chase") "most"
 na_Chase_runner:L2.NoAttr K (clOf K "Chase") "runner"
 na_Chase_stone:L2.NoAttr K (clOf K "Chase") "stone"
 c_MOST_POINTS:∃t,mg "MOST_POINTS" = some (.int 16 t)
 n_ValueError:mg "ValueError" = none
 n_int:mg "int" = none
 n_isinstance:mg "isinstance" = none
 n_len:mg "len" = none
 n_list:mg "list" = none
 n_range:mg "range" = none
 n_sorted:mg "sorted" = none
 n_tuple:mg "tuple" = none
 xt:XT K mg XTB
 nl:noL K=true
section
seal L2.PSs L2.PS L2.PE L2.PT L2.PW L2.PA L2.PI L2.PG L2.PGs L2.PO L2.PIfs
variable {P:Program} {w:World} {K:PySem.W.Frag} {mg:Str->Option Value} {base:Heap} {A:Adr}
abbrev Gx(K:PySem.W.Frag):Ga:=Gy K
abbrev spD(K:PySem.W.Frag)(n:Nat)(d:List W->M W):Sp:=spV (Gx K) (fun E=>E) n d
set_option maxHeartbeats 0 in
theorem zc1(fu:Nat)(T:Txt K mg A):FnOk P w K mg base (CXx P w) 1 A.f_other_hand A.d_other_hand ["hand"] (spD K 1 (d_other_hand fu)):=by
 refine T.F_other_hand.okX (k:=0) zfc (fun vs H Q E h=>h.1) (fun cdv Ar outer s H vs Q E hr h=>?_)
 obtain⟨_,F,as,ws,ce,S,rs,Pf⟩:=h
 refine⟨toTS (Gx K) E _,(zal (zaE (zb9 zak (zab 0)))),?_⟩
 exact zaC (G:=Gx K) (E:=E) zbU ["hand"] S rs Pf
set_option maxHeartbeats 0 in
theorem zed(fu:Nat)(T:Txt K mg A):FnOk P w K mg base (CXx P w) 1 A.f_patch_of A.d_patch_of ["board", "marks", "start"] (spD K 3 (d_patch_of fu)):=by
 refine T.F_patch_of.okX (k:=0) sc_patch_of (fun vs H Q E h=>h.1) (fun cdv Ar outer s H vs Q E hr h=>?_)
 obtain⟨_,F,as,ws,ce,S,rs,Pf⟩:=h
 refine⟨toTS (Gx K) E _,(zai (zaD (i:=3) sc_patch_of.nd rfl (Or.inl rfl) (zkT (zab 2) zdW))
   (zai (zaD (i:=4) sc_patch_of.nd rfl (Or.inl rfl) (zcG (zaa (zab 2) zaf)))
   (zai (zkN fu PassesOwn.leaving (ziY (zab 4)) (zai (zaD (i:=5) sc_patch_of.nd rfl (Or.inl rfl) (zoW PySem.F.slot_list_pop PySem.F.type_list_pop zos zqV (zab 4)))
   (zal (zbJ PassesOwn.leaving rfl (zrt (zaW (zab 0) (zab 5) (fun _ _=>rfl))) (zbb (i:=6) sc_patch_of.nd rfl (Or.inl rfl))
   (zal (zcr (PW.pt (zlC (zfA (hr.cmp 1) (zab 6) (zab 3) (by with_unfolding_all rfl)) (zi4 (zge (hr.cmp 8) (zaW (zab 1) (zab 6) (fun _ _=>rfl)) (zaW (zab 1) (zab 2) (fun _ _=>rfl)))))) (zai (zjc (hr.cmp 1) (zab 3) (zab 6) zdW)
   (zal (zbT (zeW PySem.F.slot_list_append PySem.F.type_list_append zbI zhY (zab 4) (zaa (zab 6) zaf))))) za3))))))
   (zal (zaE (zbl (zkQ rfl rfl) (zkR K zmL) rfl T.n_sorted PyProof.Rows.boot_sorted (zaa (zab 3) zaf))))))),?_⟩
 exact zaC (G:=Gx K) (E:=E) zfE ["board", "marks", "start", "found", "waiting", "point", "beside"] S rs Pf
set_option maxHeartbeats 0 in
theorem zib(fu:Nat)(T:Txt K mg A):FnOk P w K mg base (CXx P w) 2 A.f_patches A.d_patches ["board", "marks"] (spD K 2 (d_patches fu)):=by
 have G_patch_of:FnOk P w K mg base (CXx P w) 1 A.f_patch_of A.d_patch_of ["board", "marks", "start"] (spD K 3 (d_patch_of fu)):=zed fu T
 refine T.F_patches.okX (k:=1) sc_patches (fun vs H Q E h=>h.1) (fun cdv Ar outer s H vs Q E hr h=>?_)
 obtain⟨_,F,as,ws,ce,S,rs,Pf⟩:=h
 refine⟨toTS (Gx K) E _,(zai (zaD (i:=2) sc_patches.nd rfl (Or.inl rfl) zi9)
   (zai (zaD (i:=3) sc_patches.nd rfl (Or.inl rfl) (zcG zaf))
   (zai (zbJ PassesOwn.leaving rfl (zhT rfl T.n_range (zaa (zbl (zhU rfl) (zhV K) rfl T.n_len PySem.boot_len (zaa (zab 0) zaf)) zaf)) (zbb (i:=4) sc_patches.nd rfl (Or.inl rfl))
   (zal (zcr (zfA (hr.cmp 1) (zab 4) (zab 2) (by with_unfolding_all rfl)) (zai (zaD (i:=5) sc_patches.nd rfl (Or.inl rfl) (zap (zcd G_patch_of) (hr.mono (by decide)) rfl T.g_patch_of T.F_patch_of.kp T.b_patch_of (flies_cxOf.passes rfl) (zaa (zab 0) (zaa (zab 1) (zaa (zab 4) zaf)))))
   (zai (zbT (zeW PySem.F.slot_list_append PySem.F.type_list_append zbI zhY (zab 3) (zaa (zab 5) zaf)))
   (zal (zbJ PassesOwn.leaving rfl (zgU (zab 5)) (zbb (i:=6) sc_patches.nd rfl (Or.inl rfl))
   (zal (zjc (hr.cmp 1) (zab 2) (zab 6) zdW)))))) za3)))
   (zal (zaE (zab 3)))))),?_⟩
 exact zaC (G:=Gx K) (E:=E) zfE ["board", "marks", "met", "found", "start", "points", "point"] S rs Pf
set_option maxHeartbeats 0 in
theorem zhc(fu:Nat)(T:Txt K mg A):FnOk P w K mg base (CXx P w) 2 A.f_patch A.d_patch ["board", "stand", "point"] (spD K 3 (d_patch fu)):=by
 have G_patch_of:FnOk P w K mg base (CXx P w) 1 A.f_patch_of A.d_patch_of ["board", "marks", "start"] (spD K 3 (d_patch_of fu)):=zed fu T
 refine T.F_patch.okX (k:=1) zlg (fun vs H Q E h=>h.1) (fun cdv Ar outer s H vs Q E hr h=>?_)
 obtain⟨_,F,as,ws,ce,S,rs,Pf⟩:=h
 refine⟨toTS (Gx K) E _,(zal (zaE (zap G_patch_of (hr.mono (by decide)) rfl T.g_patch_of T.F_patch_of.kp T.b_patch_of (flies_cxOf.passes rfl) (zaa (zab 0) (zaa (zab 1) (zaa (zab 2) zaf)))))),?_⟩
 exact zaC (G:=Gx K) (E:=E) zfE ["board", "stand", "point"] S rs Pf
set_option maxHeartbeats 0 in
theorem znv(fu:Nat)(T:Txt K mg A):FnOk P w K mg base (CXx P w) 3 A.f_rows A.d_rows ["board", "stand"] (spD K 2 (d_rows fu)):=by
 have G_patches:FnOk P w K mg base (CXx P w) 2 A.f_patches A.d_patches ["board", "marks"] (spD K 2 (d_patches fu)):=zib fu T
 refine T.F_rows.okX (k:=2) znu (fun vs H Q E h=>h.1) (fun cdv Ar outer s H vs Q E hr h=>?_)
 obtain⟨_,F,as,ws,ce,S,rs,Pf⟩:=h
 refine⟨toTS (Gx K) E _,(zal (zaE (zgj zfB (zcS (N:=["board", "stand"]) (psc:=zag zeb) (js:=[1]) (N':=["points", "stand"]) (by decide +kernel)) rfl rfl (zgU (zap (zcd G_patches) (hr.mono (by decide)) rfl T.g_patches T.F_patches.kp T.b_patches (flies_cxOf.passes rfl) (zaa (zab 0) (zaa (zab 1) zaf)))) (fun _ _ _ _=>(zdA (zoF (hr.cmp 8) (zaW (zab 1) (zaW (zab 0) zak (fun _ _=>rfl)) (fun _ _=>rfl)) zak))) (fun _ _ _ _=>(zab 0))))),?_⟩
 exact zaC (G:=Gx K) (E:=E) zbU ["board", "stand"] S rs Pf
set_option maxHeartbeats 0 in
theorem zdt(fu:Nat)(T:Txt K mg A):FnOk P w K mg base (CXx P w) 1 A.f_points_beside A.d_points_beside ["board", "points"] (spD K 2 (d_points_beside fu)):=by
 refine T.F_points_beside.okX (k:=0) sc_points_beside (fun vs H Q E h=>h.1) (fun cdv Ar outer s H vs Q E hr h=>?_)
 obtain⟨_,F,as,ws,ce,S,rs,Pf⟩:=h
 refine⟨toTS (Gx K) E _,(zai (zaD (i:=2) sc_points_beside.nd rfl (Or.inl rfl) zi9)
   (zai (zbJ PassesOwn.leaving rfl (zgU (zab 1)) (zbb (i:=3) sc_points_beside.nd rfl (Or.inl rfl))
   (zal (zbJ PassesOwn.leaving rfl (zrt (zaW (zab 0) (zab 3) (fun _ _=>rfl))) (zbb (i:=4) sc_points_beside.nd rfl (Or.inl rfl))
   (zal (zjc (hr.cmp 1) (zab 2) (zab 4) zdW)))))
   (zal (zaE (zbl (zkQ rfl rfl) (zkR K zmL) rfl T.n_sorted PyProof.Rows.boot_sorted (zaa (zab 2) zaf)))))),?_⟩
 exact zaC (G:=Gx K) (E:=E) zfE ["board", "points", "found", "point", "beside"] S rs Pf
set_option maxHeartbeats 0 in
theorem zde(fu:Nat)(T:Txt K mg A):FnOk P w K mg base (CXx P w) 2 A.f_breaths A.d_breaths ["board", "stand", "row"] (spD K 3 (d_breaths fu)):=by
 have G_points_beside:FnOk P w K mg base (CXx P w) 1 A.f_points_beside A.d_points_beside ["board", "points"] (spD K 2 (d_points_beside fu)):=zdt fu T
 refine T.F_breaths.okX (k:=1) zia (fun vs H Q E h=>h.1) (fun cdv Ar outer s H vs Q E hr h=>?_)
 obtain⟨_,F,as,ws,ce,S,rs,Pf⟩:=h
 refine⟨toTS (Gx K) E _,(zal (zaE (zgj zmL (zcS (N:=["board", "stand", "row"]) (psc:=zag zbE) (js:=[1]) (N':=["point", "stand"]) (by decide +kernel)) rfl rfl (zgU (zap (zcd G_points_beside) (hr.mono (by decide)) rfl T.g_points_beside T.F_points_beside.kp T.b_points_beside (flies_cxOf.passes rfl) (zaa (zab 0) (zaa (zab 2) zaf)))) (fun _ _ _ _=>(zdA (zge (hr.cmp 8) (zaW (zab 1) (zab 0) (fun _ _=>rfl)) zak))) (fun _ _ _ _=>(zab 0))))),?_⟩
 exact zaC (G:=Gx K) (E:=E) zfE ["board", "stand", "row"] S rs Pf
set_option maxHeartbeats 0 in
theorem zjO(fu:Nat)(T:Txt K mg A):FnOk P w K mg base (CXx P w) 1 A.f_filled A.d_filled ["stand", "points", "what"] (spD K 3 (d_filled fu)):=by
 refine T.F_filled.okX (k:=0) sc_filled (fun vs H Q E h=>h.1) (fun cdv Ar outer s H vs Q E hr h=>?_)
 obtain⟨_,F,as,ws,ce,S,rs,Pf⟩:=h
 refine⟨toTS (Gx K) E _,(zai (zaD (i:=3) sc_filled.nd rfl (Or.inl rfl) (zbB (zoT rfl rfl) (zoU K zmL) rfl T.n_list PyProof.Rows.boot_list (zaa (zab 0) zaf)))
   (zai (zbJ PassesOwn.leaving rfl (zgU (zab 1)) (zbb (i:=4) sc_filled.nd rfl (Or.inl rfl))
   (zal (zlE (zab 2) (zjb (E:=E0) (zab 3) (zab 4)))))
   (zal (zaE (zbB (zfu K) (zd1 K) rfl T.n_tuple PyProof.Rows.boot_tuple (zaa (zab 3) zaf)))))),?_⟩
 exact zaC (G:=Gx K) (E:=E) zbU ["stand", "points", "what", "changed", "point"] S rs Pf
set_option maxHeartbeats 0 in
theorem zfd(fu:Nat)(T:Txt K mg A):FnOk P w K mg base (CXx P w) 4 A.f_breathless A.d_breathless ["board", "stand", "hand"] (spD K 3 (d_breathless fu)):=by
 have G_rows:FnOk P w K mg base (CXx P w) 3 A.f_rows A.d_rows ["board", "stand"] (spD K 2 (d_rows fu)):=znv fu T
 have G_breaths:FnOk P w K mg base (CXx P w) 2 A.f_breaths A.d_breaths ["board", "stand", "row"] (spD K 3 (d_breaths fu)):=zde fu T
 refine T.F_breathless.okX (k:=3) sc_breathless (fun vs H Q E h=>h.1) (fun cdv Ar outer s H vs Q E hr h=>?_)
 obtain⟨_,F,as,ws,ce,S,rs,Pf⟩:=h
 refine⟨toTS (Gx K) E _,(zai (zaD (i:=3) sc_breathless.nd rfl (Or.inl rfl) (zcG zaf))
   (zai (zbJ PassesOwn.leaving rfl (zgU (zap G_rows (hr.mono (by decide)) rfl T.g_rows T.F_rows.kp T.b_rows (flies_cxOf.passes rfl) (zaa (zab 0) (zaa (zab 1) zaf)))) (zbb (i:=4) sc_breathless.nd rfl (Or.inl rfl))
   (zal (zcr (PW.pt (zlC (zge (hr.cmp 8) (zaW (zab 1) (zaW (zab 4) zak (fun _ _=>rfl)) (fun _ _=>rfl)) (zab 2)) (zi4 (zdl (ziY (zap (zcd G_breaths) (hr.mono (by decide)) rfl T.g_breaths T.F_breaths.kp T.b_breaths (flies_cxOf.passes rfl) (zaa (zab 0) (zaa (zab 1) (zaa (zab 4) zaf))))))))) (zal (zbT (zeW PySem.F.slot_list_extend PySem.F.type_list_extend zgl zmU (zab 3) (zaa (zab 4) zaf)))) za3)))
   (zal (zaE (zbl (zkQ rfl rfl) (zkR K zmL) rfl T.n_sorted PyProof.Rows.boot_sorted (zaa (zab 3) zaf)))))),?_⟩
 exact zaC (G:=Gx K) (E:=E) zfE ["board", "stand", "hand", "found", "row"] S rs Pf
set_option maxHeartbeats 0 in
theorem znw(fu:Nat)(T:Txt K mg A):FnOk P w K mg base (CXx P w) 5 A.f_laid A.d_laid ["board", "stand", "hand", "point"] (spD K 4 (d_laid fu)):=by
 have G_filled:FnOk P w K mg base (CXx P w) 1 A.f_filled A.d_filled ["stand", "points", "what"] (spD K 3 (d_filled fu)):=zjO fu T
 have G_breathless:FnOk P w K mg base (CXx P w) 4 A.f_breathless A.d_breathless ["board", "stand", "hand"] (spD K 3 (d_breathless fu)):=zfd fu T
 have G_other_hand:FnOk P w K mg base (CXx P w) 1 A.f_other_hand A.d_other_hand ["hand"] (spD K 1 (d_other_hand fu)):=zc1 fu T
 have G_breaths:FnOk P w K mg base (CXx P w) 2 A.f_breaths A.d_breaths ["board", "stand", "row"] (spD K 3 (d_breaths fu)):=zde fu T
 have G_patch:FnOk P w K mg base (CXx P w) 2 A.f_patch A.d_patch ["board", "stand", "point"] (spD K 3 (d_patch fu)):=zhc fu T
 refine T.F_laid.okX (k:=4) sc_laid (fun vs H Q E h=>h.1) (fun cdv Ar outer s H vs Q E hr h=>?_)
 obtain⟨_,F,as,ws,ce,S,rs,Pf⟩:=h
 refine⟨toTS (Gx K) E _,(zai (zcr (zoF (hr.cmp 8) (zaW (zab 1) (zab 3) (fun _ _=>rfl)) zak) (zal (ze7 (l:=[3]) flies_cxOf rfl T.xt rfl rfl rfl hr.hd (zgv (zbs zeD (zbs (zlV 3) (zbs zeD zgu)))) (fun _ h=>⟨trivial,h 3 (by decide),trivial,trivial⟩))) za3)
   (zai (zaD (i:=4) sc_laid.nd rfl (Or.inl rfl) (zap G_filled (hr.mono (by decide)) rfl T.g_filled T.F_filled.kp T.b_filled (flies_cxOf.passes rfl) (zaa (zab 1) (zaa (zbe (zaa (zab 3) zaf)) (zaa (zab 2) zaf)))))
   (zai (zaD (i:=5) sc_laid.nd rfl (Or.inl rfl) (zap (zcd G_breathless) (hr.mono (by decide)) rfl T.g_breathless T.F_breathless.kp T.b_breathless (flies_cxOf.passes rfl) (zaa (zab 0) (zaa (zab 4) (zaa (zap G_other_hand (hr.mono (by decide)) rfl T.g_other_hand T.F_other_hand.kp T.b_other_hand (flies_cxOf.passes rfl) (zaa (zab 2) zaf)) zaf)))))
   (zai (zaD (i:=6) sc_laid.nd rfl (Or.inl rfl) (zap G_filled (hr.mono (by decide)) rfl T.g_filled T.F_filled.kp T.b_filled (flies_cxOf.passes rfl) (zaa (zab 4) (zaa (zab 5) (zaa zak zaf)))))
   (zai (zcr (zdl (ziY (zap (zcd G_breaths) (hr.mono (by decide)) rfl T.g_breaths T.F_breaths.kp T.b_breaths (flies_cxOf.passes rfl) (zaa (zab 0) (zaa (zab 6) (zaa (zap (zcd G_patch) (hr.mono (by decide)) rfl T.g_patch T.F_patch.kp T.b_patch (flies_cxOf.passes rfl) (zaa (zab 0) (zaa (zab 6) (zaa (zab 3) zaf)))) zaf)))))) (zal (ze7 (l:=[3]) flies_cxOf rfl T.xt rfl rfl rfl hr.hd (zgv (zbs zeD (zbs (zlV 3) (zbs zeD zgu)))) (fun _ h=>⟨trivial,h 3 (by decide),trivial,trivial⟩))) za3)
   (zal (zaE (zaS (zaa (zab 6) (zaa (zab 5) zaf)))))))))),?_⟩
 exact zaC (G:=Gx K) (E:=E) zbU ["board", "stand", "hand", "point", "full", "taken", "behind"] S rs Pf
set_option maxHeartbeats 0 in
theorem zic(fu:Nat)(T:Txt K mg A):FnOk P w K mg base (CXx P w) 6 A.f_lays_on A.d_lays_on ["board", "stand", "hand", "points"] (spD K 4 (d_lays_on fu)):=by
 have G_laid:FnOk P w K mg base (CXx P w) 5 A.f_laid A.d_laid ["board", "stand", "hand", "point"] (spD K 4 (d_laid fu)):=znw fu T
 refine T.F_lays_on.okX (k:=5) sc_lays_on (fun vs H Q E h=>h.1) (fun cdv Ar outer s H vs Q E hr h=>?_)
 obtain⟨_,F,as,ws,ce,S,rs,Pf⟩:=h
 refine⟨toTS (Gx K) E _,(zai (zaD (i:=4) sc_lays_on.nd rfl (Or.inl rfl) (zcG zaf))
   (zai (zbJ PassesOwn.leaving rfl (zgU (zab 3)) (zbb (i:=5) sc_lays_on.nd rfl (Or.inl rfl))
   (zai (znl (i:=6) rfl rfl rfl sc_lays_on.nd rfl (Or.inl rfl) G_laid (hr.mono (by decide)) rfl T.g_laid T.F_laid.kp T.b_laid (zaa (zab 0) (zaa (zab 1) (zaa (zab 2) (zaa (zab 5) zaf)))) (zpy rfl T.xt rfl rfl rfl rfl (fun _=>(zal zgh))))
   (zal (zbT (zeW PySem.F.slot_list_append PySem.F.type_list_append zbI zhY (zab 4) (zaa (zaS (zaa (zab 5) (zaa (zaW (zab 6) zak (fun _ _=>rfl)) (zaa (zaW (zab 6) zak (fun _ _=>rfl)) zaf)))) zaf))))))
   (zal (zaE (zab 4))))),?_⟩
 exact zaC (G:=Gx K) (E:=E) zfE ["board", "stand", "hand", "points", "found", "point", "told"] S rs Pf
set_option maxHeartbeats 0 in
theorem zee(fu:Nat)(T:Txt K mg A):FnOk P w K mg base (CXx P w) 7 A.f_new_lays A.d_new_lays ["board", "came", "hand", "points"] (spD K 4 (d_new_lays fu)):=by
 have G_lays_on:FnOk P w K mg base (CXx P w) 6 A.f_lays_on A.d_lays_on ["board", "stand", "hand", "points"] (spD K 4 (d_lays_on fu)):=zic fu T
 refine T.F_new_lays.okX (k:=6) zgy (fun vs H Q E h=>h.1) (fun cdv Ar outer s H vs Q E hr h=>?_)
 obtain⟨_,F,as,ws,ce,S,rs,Pf⟩:=h
 refine⟨toTS (Gx K) E _,(zal (zaE (zgj zfB (zcS (N:=["board", "came", "hand", "points"]) (psc:=zag zbg) (js:=[1]) (N':=["lay", "came"]) (by decide +kernel)) rfl rfl (zgU (zap (zcd G_lays_on) (hr.mono (by decide)) rfl T.g_lays_on T.F_lays_on.kp T.b_lays_on (flies_cxOf.passes rfl) (zaa (zab 0) (zaa (zaW (zab 1) (ziX zak) (fun _ _=>rfl)) (zaa (zab 2) (zaa (zab 3) zaf)))))) (fun _ _ _ _=>(zdA (zkI (hr.cmp 9) (zaW (zab 0) zak (fun _ _=>rfl)) (zab 1) (by with_unfolding_all rfl)))) (fun _ _ _ _=>(zab 0))))),?_⟩
 exact zaC (G:=Gx K) (E:=E) zbU ["board", "came", "hand", "points"] S rs Pf
set_option maxHeartbeats 0 in
theorem zli(fu:Nat)(T:Txt K mg A):FnOk P w K mg base (CXx P w) 8 A.f_steps A.d_steps ["board", "came", "hand"] (spD K 3 (d_steps fu)):=by
 have G_new_lays:FnOk P w K mg base (CXx P w) 7 A.f_new_lays A.d_new_lays ["board", "came", "hand", "points"] (spD K 4 (d_new_lays fu)):=zee fu T
 refine T.F_steps.okX (k:=7) sc_steps (fun vs H Q E h=>h.1) (fun cdv Ar outer s H vs Q E hr h=>?_)
 obtain⟨_,F,as,ws,ce,S,rs,Pf⟩:=h
 refine⟨toTS (Gx K) E _,(zai (zoQ (k:=3) zmL (zcS (N:=["board", "came", "hand", "found"]) (psc:=zag zcJ) (js:=[]) (N':=["lay"]) (by decide +kernel)) rfl rfl (zgU (zap G_new_lays (hr.mono (by decide)) rfl T.g_new_lays T.F_new_lays.kp T.b_new_lays (flies_cxOf.passes rfl) (zaa (zab 0) (zaa (zab 1) (zaa (zab 2) (zaa (zmS zfB rfl rfl T.n_list rfl T.n_range (zaa (zbl (zhU rfl) (zhV K) rfl T.n_len PySem.boot_len (zaa (zab 0) zaf)) zaf)) zaf)))))) (fun _ _ _ _=>zcU) (fun _ _ _ _=>(zaS (zaa (zaW (zab 0) zak (fun _ _=>rfl)) (zaa (zaW (zab 0) zak (fun _ _=>rfl)) zaf)))) sc_steps.nd rfl rfl (by with_unfolding_all rfl))
   (zai (zbT (zeW PySem.F.slot_list_append PySem.F.type_list_append zbI zhY (zab 3) (zaa (zaS (zaa zlx (zaa (zaW (zab 1) (ziX zak) (fun _ _=>rfl)) zaf))) zaf)))
   (zal (zaE (zab 3))))),?_⟩
 exact zaC (G:=Gx K) (E:=E) zfE ["board", "came", "hand", "found"] S rs Pf
set_option maxHeartbeats 0 in
theorem zbN(fu:Nat)(T:Txt K mg A):FnOk P w K mg base (CXx P w) 1 A.f_Chase_is_spent A.d_Chase_is_spent ["self", "deeds"] (spD K 2 (d_Chase_is_spent fu)):=by
 refine T.F_Chase_is_spent.okX (k:=0) zdc (fun vs H Q E h=>h.1) (fun cdv Ar outer s H vs Q E hr h=>?_)
 obtain⟨_,F,as,ws,ce,S,rs,Pf⟩:=h
 refine⟨toTS (Gx K) E _,(zal (zaE (zqL (zoB (za9 (zbl (zhU rfl) (zhV K) rfl T.n_len PySem.boot_len (zaa (zab 1) zaf)) zak) zak) (zcB T.cls_Chase T.na_Chase_most (zab 0))))),?_⟩
 exact zaC (G:=Gx K) (E:=E) zbU ["self", "deeds"] S rs Pf
set_option maxHeartbeats 0 in
theorem zcL(fu:Nat)(T:Txt K mg A):FnOk P w K mg base (CXx P w) 3 A.f_Chase_breaths_at A.d_Chase_breaths_at ["self", "stand"] (spD K 2 (d_Chase_breaths_at fu)):=by
 have G_breaths:FnOk P w K mg base (CXx P w) 2 A.f_breaths A.d_breaths ["board", "stand", "row"] (spD K 3 (d_breaths fu)):=zde fu T
 have G_patch:FnOk P w K mg base (CXx P w) 2 A.f_patch A.d_patch ["board", "stand", "point"] (spD K 3 (d_patch fu)):=zhc fu T
 refine T.F_Chase_breaths_at.okX (k:=2) zcK (fun vs H Q E h=>h.1) (fun cdv Ar outer s H vs Q E hr h=>?_)
 obtain⟨_,F,as,ws,ce,S,rs,Pf⟩:=h
 refine⟨toTS (Gx K) E _,(zal (zaE (zap (zcd G_breaths) (hr.mono (by decide)) rfl T.g_breaths T.F_breaths.kp T.b_breaths (flies_cxOf.passes rfl) (zaa (zcB T.cls_Chase T.na_Chase_joined (zab 0)) (zaa (zab 1) (zaa (zap (zcd G_patch) (hr.mono (by decide)) rfl T.g_patch T.F_patch.kp T.b_patch (flies_cxOf.passes rfl) (zaa (zcB T.cls_Chase T.na_Chase_joined (zab 0)) (zaa (zab 1) (zaa (zcB T.cls_Chase T.na_Chase_stone (zab 0)) zaf)))) zaf)))))),?_⟩
 exact zaC (G:=Gx K) (E:=E) zbU ["self", "stand"] S rs Pf
set_option maxHeartbeats 0 in
theorem zct(fu:Nat)(T:Txt K mg A):FnOk P w K mg base (CXx P w) 8 A.f_Chase_hunter_lays A.d_Chase_hunter_lays ["self", "came"] (spD K 2 (d_Chase_hunter_lays fu)):=by
 have G_new_lays:FnOk P w K mg base (CXx P w) 7 A.f_new_lays A.d_new_lays ["board", "came", "hand", "points"] (spD K 4 (d_new_lays fu)):=zee fu T
 have G_Chase_breaths_at:FnOk P w K mg base (CXx P w) 3 A.f_Chase_breaths_at A.d_Chase_breaths_at ["self", "stand"] (spD K 2 (d_Chase_breaths_at fu)):=zcL fu T
 refine T.F_Chase_hunter_lays.okX (k:=7) sc_Chase_hunter_lays (fun vs H Q E h=>h.1) (fun cdv Ar outer s H vs Q E hr h=>?_)
 obtain⟨_,F,as,ws,ce,S,rs,Pf⟩:=h
 refine⟨toTS (Gx K) E _,(zai (zaD (i:=2) sc_Chase_hunter_lays.nd rfl (Or.inl rfl) (zap G_new_lays (hr.mono (by decide)) rfl T.g_new_lays T.F_new_lays.kp T.b_new_lays (flies_cxOf.passes rfl) (zaa (zcB T.cls_Chase T.na_Chase_joined (zab 0)) (zaa (zab 1) (zaa (zcB T.cls_Chase T.na_Chase_hunter (zab 0)) (zaa (zci T.cls_Chase T.mt_Chase_breaths_at G_Chase_breaths_at (hr.mono (by decide)) T.b_Chase_breaths_at (flies_cxOf.passes rfl) (zab 0) (zaa (zaW (zab 1) (ziX zak) (fun _ _=>rfl)) zaf)) zaf))))))
   (zal (zaE (zgj zfB (zcS (N:=["self", "came", "lays"]) (psc:=zag zaA) (js:=[0]) (N':=["lay", "self"]) (by decide +kernel)) rfl rfl (zgU (zab 2)) (fun _ _ _ _=>(zdA (zpu (PW.pt (zkK (zge (hr.cmp 8) (zaW (zaW (zab 0) zak (fun _ _=>rfl)) (zcB T.cls_Chase T.na_Chase_stone (zab 1)) (fun _ _=>rfl)) zak) (zi5 (zqO (zbl (zhU rfl) (zhV K) rfl T.n_len PySem.boot_len (zaa (zci T.cls_Chase T.mt_Chase_breaths_at G_Chase_breaths_at (hr.mono (by decide)) T.b_Chase_breaths_at zng (zab 1) (zaa (zaW (zab 0) zak (fun _ _=>rfl)) zaf)) zaf)) zak))))))) (fun _ _ _ _=>(zab 0)))))),?_⟩
 exact zaC (G:=Gx K) (E:=E) zbU ["self", "came", "lays"] S rs Pf
set_option maxHeartbeats 0 in
theorem ok_Chase_hunt_F(fu:Nat)(T:Txt K mg A)(j:Nat){r_Chase_hunt:List W->M W}{r_Chase_run:List W->M W}(G_Chase_hunt:FnOk P w K mg base (CXx P w) (8+j) A.f_Chase_hunt A.d_Chase_hunt ["self", "came", "deeds"] (spD K 3 r_Chase_hunt))(G_Chase_run:FnOk P w K mg base (CXx P w) (8+j) A.f_Chase_run A.d_Chase_run ["self", "came", "deeds"] (spD K 3 r_Chase_run)):FnOk P w K mg base (CXx P w) (8+j+1) A.f_Chase_hunt A.d_Chase_hunt ["self", "came", "deeds"] (spD K 3 (za4 fu r_Chase_hunt r_Chase_run)):=by
 have G_Chase_is_spent:FnOk P w K mg base (CXx P w) (1) A.f_Chase_is_spent A.d_Chase_is_spent ["self", "deeds"] (spD K 2 (d_Chase_is_spent fu)):=zbN fu T
 have G_Chase_hunter_lays:FnOk P w K mg base (CXx P w) (8) A.f_Chase_hunter_lays A.d_Chase_hunter_lays ["self", "came"] (spD K 2 (d_Chase_hunter_lays fu)):=zct fu T
 refine T.F_Chase_hunt.okX (k:=8+j) sc_Chase_hunt (fun vs H Q E h=>h.1) (fun cdv Ar outer s H vs Q E hr h=>?_)
 obtain⟨_,F,as,ws,ce,S,rs,Pf⟩:=h
 refine⟨toTS (Gx K) E _,(zai (zcr (zdk (zci T.cls_Chase T.mt_Chase_is_spent G_Chase_is_spent (hr.mono (by omega)) T.b_Chase_is_spent (flies_cxOf.passes rfl) (zab 0) (zaa (zab 2) zaf))) (zal (zaE (zaS (zaa zb2 (zaa (zbe zaf) zaf))))) za3)
   (zai (zaD (i:=3) sc_Chase_hunt.nd rfl (Or.inl rfl) (zcG zaf))
   (zai (zbJ PassesOwn.leaving rfl (zgU (zci T.cls_Chase T.mt_Chase_hunter_lays G_Chase_hunter_lays (hr.mono (by omega)) T.b_Chase_hunter_lays (flies_cxOf.passes rfl) (zab 0) (zaa (zab 1) zaf))) (zbb (i:=4) sc_Chase_hunt.nd rfl (Or.inl rfl))
   (zai (zcr (zge (hr.cmp 8) (zaW (zaW (zab 4) zak (fun _ _=>rfl)) (zcB T.cls_Chase T.na_Chase_stone (zab 0)) (fun _ _=>rfl)) zak) (zal (zaE (zaS (zaa zb2 (zaa (zbe (zaa (zaS (zaa (zab 2) (zaa (zaW (zab 4) zak (fun _ _=>rfl)) zaf))) zaf)) zaf))))) za3)
   (zai (zaD (i:=5) sc_Chase_hunt.nd rfl (Or.inl rfl) (zci T.cls_Chase T.mt_Chase_run (zgt G_Chase_run) (hr.mono (by omega)) T.b_Chase_run (flies_cxOf.passes rfl) (zab 0) (zaa (zdZ zfB (zab 1) (zbe (zaa (zaW (zab 4) zak (fun _ _=>rfl)) zaf))) (zaa (zjE (zab 2) (zaS (zaa (zaW (zab 4) zak (fun _ _=>rfl)) zaf))) zaf))))
   (zai (zcr (zge (hr.cmp 8) (zaW (zab 5) zak (fun _ _=>rfl)) zb2) (zal (zaE (zaS (zaa zb2 (zaa (zdZ zfB (zbe (zaa (zaS (zaa (zab 2) (zaa (zaW (zab 4) zak (fun _ _=>rfl)) zaf))) zaf)) (zaW (zab 5) zak (fun _ _=>rfl))) zaf))))) za3)
   (zal (zbT (zeW PySem.F.slot_list_extend PySem.F.type_list_extend zgl zmU (zab 3) (zaa (zaW (zab 5) zak (fun _ _=>rfl)) zaf))))))))
   (zal (zaE (zaS (zaa zb2 (zaa (zab 3) zaf)))))))),?_⟩
 exact zaC (G:=Gx K) (E:=E) zmQ ["self", "came", "deeds", "freeing", "lay", "told"] S rs Pf
set_option maxHeartbeats 0 in
theorem zep(fu:Nat)(T:Txt K mg A)(j:Nat){r_Chase_hunt:List W->M W}{r_Chase_run:List W->M W}(G_Chase_hunt:FnOk P w K mg base (CXx P w) (8+j) A.f_Chase_hunt A.d_Chase_hunt ["self", "came", "deeds"] (spD K 3 r_Chase_hunt))(G_Chase_run:FnOk P w K mg base (CXx P w) (8+j) A.f_Chase_run A.d_Chase_run ["self", "came", "deeds"] (spD K 3 r_Chase_run)):FnOk P w K mg base (CXx P w) (8+j+1) A.f_Chase_run A.d_Chase_run ["self", "came", "deeds"] (spD K 3 (zbd fu r_Chase_hunt r_Chase_run)):=by
 have G_Chase_is_spent:FnOk P w K mg base (CXx P w) (1) A.f_Chase_is_spent A.d_Chase_is_spent ["self", "deeds"] (spD K 2 (d_Chase_is_spent fu)):=zbN fu T
 have G_steps:FnOk P w K mg base (CXx P w) (8) A.f_steps A.d_steps ["board", "came", "hand"] (spD K 3 (d_steps fu)):=zli fu T
 refine T.F_Chase_run.okX (k:=8+j) sc_Chase_run (fun vs H Q E h=>h.1) (fun cdv Ar outer s H vs Q E hr h=>?_)
 obtain⟨_,F,as,ws,ce,S,rs,Pf⟩:=h
 refine⟨toTS (Gx K) E _,(zai (zcr (zdk (zci T.cls_Chase T.mt_Chase_is_spent G_Chase_is_spent (hr.mono (by omega)) T.b_Chase_is_spent (flies_cxOf.passes rfl) (zab 0) (zaa (zab 2) zaf))) (zal (zaE (zaS (zaa zb2 (zaa (zbe zaf) zaf))))) za3)
   (zai (zaD (i:=3) sc_Chase_run.nd rfl (Or.inl rfl) (zcG zaf))
   (zai (zbJ PassesOwn.leaving rfl (zgU (zap (zcd G_steps) (hr.mono (by omega)) rfl T.g_steps T.F_steps.kp T.b_steps (flies_cxOf.passes rfl) (zaa (zcB T.cls_Chase T.na_Chase_joined (zab 0)) (zaa (zab 1) (zaa (zcB T.cls_Chase T.na_Chase_runner (zab 0)) zaf))))) (zbb (i:=4) sc_Chase_run.nd rfl (Or.inl rfl))
   (zai (zaD (i:=5) sc_Chase_run.nd rfl (Or.inl rfl) (zci T.cls_Chase T.mt_Chase_hunt (zgt G_Chase_hunt) (hr.mono (by omega)) T.b_Chase_hunt (flies_cxOf.passes rfl) (zab 0) (zaa (zdZ zfB (zab 1) (zbe (zaa (zaW (zab 4) zak (fun _ _=>rfl)) zaf))) (zaa (zjE (zab 2) (zaS (zaa (zaW (zab 4) zak (fun _ _=>rfl)) zaf))) zaf))))
   (zai (zcr (zge (hr.cmp 8) (zaW (zab 5) zak (fun _ _=>rfl)) zb2) (zal (zaE (zaS (zaa zb2 (zaa (zdZ zfB (zbe (zaa (zaS (zaa (zab 2) (zaa (zaW (zab 4) zak (fun _ _=>rfl)) zaf))) zaf)) (zaW (zab 5) zak (fun _ _=>rfl))) zaf))))) za3)
   (zal (zbT (zeW PySem.F.slot_list_extend PySem.F.type_list_extend zgl zmU (zab 3) (zaa (zaW (zab 5) zak (fun _ _=>rfl)) zaf)))))))
   (zal (zaE (zaS (zaa zb2 (zaa (zab 3) zaf)))))))),?_⟩
 exact zaC (G:=Gx K) (E:=E) zmQ ["self", "came", "deeds", "catching", "step", "told"] S rs Pf
theorem zbO(fu:Nat)(T:Txt K mg A):∀j:Nat,(FnOk P w K mg base (CXx P w) (8+j) A.f_Chase_hunt A.d_Chase_hunt ["self", "came", "deeds"] (spD K 3 (zan fu j).1))/\(FnOk P w K mg base (CXx P w) (8+j) A.f_Chase_run A.d_Chase_run ["self", "came", "deeds"] (spD K 3 (zan fu j).2))
 | 0=>⟨fn_never rfl,fn_never rfl⟩
 | j+1=>by
  obtain⟨h0,h1⟩:=zbO fu T j
  exact⟨ok_Chase_hunt_F fu T j h0 h1,zep fu T j h0 h1⟩
theorem zfe(fu:Nat)(T:Txt K mg A):FnOk P w K mg base (CXx P w) (18) A.f_Chase_hunt A.d_Chase_hunt ["self", "came", "deeds"] (spD K 3 (d_Chase_hunt fu)):=(zbO fu T 10).1
set_option maxHeartbeats 0 in
theorem zdf(fu:Nat)(T:Txt K mg A):FnOk P w K mg base (CXx P w) 2 A.f_Chase___init__ A.d_Chase___init__ ["self", "board", "hunter", "point", "most"] (spD K 5 (d_Chase___init__ fu)):=by
 have G_other_hand:FnOk P w K mg base (CXx P w) 1 A.f_other_hand A.d_other_hand ["hand"] (spD K 1 (d_other_hand fu)):=zc1 fu T
 refine T.F_Chase___init__.okX (k:=1) zdd (fun vs H Q E h=>h.1) (fun cdv Ar outer s H vs Q E hr h=>?_)
 obtain⟨_,F,as,ws,ce,S,rs,Pf⟩:=h
 refine⟨toTS (Gx K) E _,(zai (zfV T.cls_Chase T.na_Chase_joined (zab 0) (zab 1))
   (zai (zfV T.cls_Chase T.na_Chase_hunter (zab 0) (zab 2))
   (zai (zfV T.cls_Chase T.na_Chase_runner (zab 0) (zap G_other_hand (hr.mono (by decide)) rfl T.g_other_hand T.F_other_hand.kp T.b_other_hand (flies_cxOf.passes rfl) (zaa (zab 2) zaf)))
   (zai (zfV T.cls_Chase T.na_Chase_stone (zab 0) (zab 3))
   (zal (zfV T.cls_Chase T.na_Chase_most (zab 0) (zab 4))))))),?_⟩
 exact zaC (G:=Gx K) (E:=E) zmQ ["self", "board", "hunter", "point", "most"] S rs Pf
set_option maxHeartbeats 0 in
theorem zdI(fu:Nat)(T:Txt K mg A):FnOk P w K mg base (CXx P w) 19 A.f_chase A.d_chase ["board", "stand", "hunter", "point", "most"] (spD K 5 (d_chase fu)):=by
 have G_Chase_hunt:FnOk P w K mg base (CXx P w) 18 A.f_Chase_hunt A.d_Chase_hunt ["self", "came", "deeds"] (spD K 3 (d_Chase_hunt fu)):=zfe fu T
 have G_Chase___init__:FnOk P w K mg base (CXx P w) 2 A.f_Chase___init__ A.d_Chase___init__ ["self", "board", "hunter", "point", "most"] (spD K 5 (d_Chase___init__ fu)):=zdf fu T
 refine T.F_chase.okX (k:=18) zlh (fun vs H Q E h=>h.1) (fun cdv Ar outer s H vs Q E hr h=>?_)
 obtain⟨_,F,as,ws,ce,S,rs,Pf⟩:=h
 refine⟨toTS (Gx K) E _,(zai (zcr (zqP (zbl (zhU rfl) (zhV K) rfl T.n_len PySem.boot_len (zaa (zab 0) zaf)) (zkS rfl T.c_MOST_POINTS)) (zal (ze7 (l:=[]) flies_cxOf rfl T.xt rfl rfl rfl hr.hd (zgv (zbs zeD (zbs (znh rfl T.c_MOST_POINTS) (zbs zeD zgu)))) (fun _ h=>⟨trivial,trivial,trivial,trivial⟩))) za3)
   (zal (zaE (zci T.cls_Chase T.mt_Chase_hunt (zgt G_Chase_hunt) (hr.mono (by decide)) T.b_Chase_hunt (flies_cxOf.passes rfl) (znq T.mk_Chase G_Chase___init__ (hr.mono (by decide)) rfl T.gc_Chase T.b_Chase___init__ (flies_cxOf.passes rfl) (zaa (zab 0) (zaa (zab 2) (zaa (zab 3) (zaa (zab 4) zaf))))) (zaa (zbe (zaa (zab 1) zaf)) (zaa (zaS zaf) zaf)))))),?_⟩
 exact zaC (G:=Gx K) (E:=E) zbU ["board", "stand", "hunter", "point", "most"] S rs Pf
set_option maxHeartbeats 0 in
theorem zef(fu:Nat)(T:Txt K mg A):FnOk P w K mg base (CXx P w) 1 A.f__law_cell_at A.d__law_cell_at ["_law_script", "_law_k"] (spD K 2 (d__law_cell_at fu)):=by
 refine T.F__law_cell_at.okX (k:=0) zec (fun vs H Q E h=>h.1) (fun cdv Ar outer s H vs Q E hr h=>?_)
 obtain⟨_,F,as,ws,ce,S,rs,Pf⟩:=h
 refine⟨toTS (Gx K) E _,(zai (zcr (zqN (zab 1) (zbl (zhU rfl) (zhV K) rfl T.n_len PySem.boot_len (zaa (zab 0) zaf))) (zal (zaE (zaW (zab 0) (zab 1) (fun _ _=>rfl)))) za3)
   (zal (zaE (za9 (zdj (zdj zak (zab 1)) (zab 1)) (zdj zak (zab 1)))))),?_⟩
 exact zaC (G:=Gx K) (E:=E) zbU ["_law_script", "_law_k"] S rs Pf
set_option maxHeartbeats 0 in
theorem zb0(fu:Nat)(T:Txt K mg A):FnOk P w K mg base (CXx P w) 1 A.f__law_mix A.d__law_mix ["_law_cell", "_law_k"] (spD K 2 (d__law_mix fu)):=by
 refine T.F__law_mix.okX (k:=0) sc__law_mix (fun vs H Q E h=>h.1) (fun cdv Ar outer s H vs Q E hr h=>?_)
 obtain⟨_,F,as,ws,ce,S,rs,Pf⟩:=h
 refine⟨toTS (Gx K) E _,(zai (zaD (i:=2) sc__law_mix.nd rfl (Or.inl rfl) (zba (zdj (za9 (zba (zab 0) zak) zak) (za9 zak (zdj (zdj zak (zab 1)) (zab 1)))) zak))
   (zal (zaE (zba (za9 (zdj (zab 2) (zab 2)) (zdj zak (zab 1))) zak)))),?_⟩
 exact zaC (G:=Gx K) (E:=E) zbU ["_law_cell", "_law_k", "_law_one"] S rs Pf
set_option maxHeartbeats 0 in
theorem zcl(fu:Nat)(T:Txt K mg A):FnOk P w K mg base (CXx P w) 1 A.f__law_line A.d__law_line ["_law_many", "_law_ring"] (spD K 2 (d__law_line fu)):=by
 refine T.F__law_line.okX (k:=0) sc__law_line (fun vs H Q E h=>h.1) (fun cdv Ar outer s H vs Q E hr h=>?_)
 obtain⟨_,F,as,ws,ce,S,rs,Pf⟩:=h
 refine⟨toTS (Gx K) E _,(zai (zoQ (k:=2) zfB (zcS (N:=["_law_many", "_law_ring", "_law_joined", "_law_k"]) (psc:=zag za1) (js:=[]) (N':=["_law_k"]) (by decide +kernel)) rfl rfl (zhT rfl T.n_range (zaa (zab 0) zaf)) (fun _ _ _ _=>zcU) (fun _ _ _ _=>(zcG zaf)) sc__law_line.nd rfl rfl (by with_unfolding_all rfl))
   (zai (zbJ PassesOwn.leaving rfl (zhT rfl T.n_range (zaa (za9 (zb9 (zab 0) zak) (zbB ziA zrb rfl T.n_int PyProof.Rows.boot_int (zaa (zab 1) zaf))) zaf)) (zbb (i:=3) sc__law_line.nd rfl (Or.inl rfl))
   (zai (zbT (zeW PySem.F.slot_list_append PySem.F.type_list_append zbI zhY (zaW (zab 2) (zab 3) (fun _ _=>rfl)) (zaa (zba (za9 (zab 3) zak) (zab 0)) zaf)))
   (zal (zbT (zeW PySem.F.slot_list_append PySem.F.type_list_append zbI zhY (zaW (zab 2) (zba (za9 (zab 3) zak) (zab 0)) (fun _ _=>rfl)) (zaa (zab 3) zaf))))))
   (zal (zaE (zbB (zfu K) (zd1 K) rfl T.n_tuple PyProof.Rows.boot_tuple (zaa (zgj zfB (zcS (N:=["_law_many", "_law_ring", "_law_joined", "_law_k"]) (psc:=zag za1) (js:=[]) (N':=["_law_row"]) (by decide +kernel)) rfl rfl (zgU (zab 2)) (fun _ _ _ _=>zcU) (fun _ _ _ _=>(zbB (zfu K) (zd1 K) rfl T.n_tuple PyProof.Rows.boot_tuple (zaa (zbl (zkQ rfl rfl) (zkR K zfB) rfl T.n_sorted PyProof.Rows.boot_sorted (zaa (zab 0) zaf)) zaf)))) zaf)))))),?_⟩
 exact zaC (G:=Gx K) (E:=E) zbU ["_law_many", "_law_ring", "_law_joined", "_law_k"] S rs Pf
set_option maxHeartbeats 0 in
theorem zfY(fu:Nat)(T:Txt K mg A):FnOk P w K mg base (CXx P w) 1 A.f__law_star A.d__law_star ["_law_many"] (spD K 1 (d__law_star fu)):=by
 refine T.F__law_star.okX (k:=0) zfX (fun vs H Q E h=>h.1) (fun cdv Ar outer s H vs Q E hr h=>?_)
 obtain⟨_,F,as,ws,ce,S,rs,Pf⟩:=h
 refine⟨toTS (Gx K) E _,(zal (zaE (zbB (zfu K) (zd1 K) rfl T.n_tuple PyProof.Rows.boot_tuple (zaa (zdZ zfB (zbe (zaa (znt rfl rfl T.n_tuple rfl T.n_range (zaa zak (zaa (zab 0) zaf))) zaf)) (zjg zfB (zaa (zaS (zaa zak zaf)) zaf) (zb9 (zab 0) zak))) zaf)))),?_⟩
 exact zaC (G:=Gx K) (E:=E) zbU ["_law_many"] S rs Pf
set_option maxHeartbeats 0 in
theorem zb1(fu:Nat)(T:Txt K mg A):FnOk P w K mg base (CXx P w) 1 A.f__law_put A.d__law_put ["_law_many", "_law_told"] (spD K 2 (d__law_put fu)):=by
 refine T.F__law_put.okX (k:=0) sc__law_put (fun vs H Q E h=>h.1) (fun cdv Ar outer s H vs Q E hr h=>?_)
 obtain⟨_,F,as,ws,ce,S,rs,Pf⟩:=h
 refine⟨toTS (Gx K) E _,(zai (zaD (i:=2) sc__law_put.nd rfl (Or.inl rfl) (zjg zmL (zaa zak zaf) (zab 0)))
   (zai (zbJ PassesOwn.leaving rfl (zgU (zab 1)) (zoN rfl (zgS (zbb (i:=3) sc__law_put.nd rfl (Or.inl rfl)) (zgS (zbb (i:=4) sc__law_put.nd rfl (Or.inl rfl)) zmO)))
   (zal (zlE (zab 4) (zjb (E:=E0) (zab 2) (zba (zab 3) (zab 0))))))
   (zal (zaE (zbB (zfu K) (zd1 K) rfl T.n_tuple PyProof.Rows.boot_tuple (zaa (zab 2) zaf)))))),?_⟩
 exact zaC (G:=Gx K) (E:=E) zbU ["_law_many", "_law_told", "_law_stand", "_law_point", "_law_hand"] S rs Pf
set_option maxHeartbeats 0 in
theorem zeg(fu:Nat)(T:Txt K mg A):FnOk P w K mg base (CXx P w) 20 A.f__law_refused A.d__law_refused ["_law_board", "_law_stand", "_law_hunter", "_law_point", "_law_most"] (spD K 5 (d__law_refused fu)):=by
 have G_chase:FnOk P w K mg base (CXx P w) 19 A.f_chase A.d_chase ["board", "stand", "hunter", "point", "most"] (spD K 5 (d_chase fu)):=zdI fu T
 refine T.F__law_refused.okX (k:=19) sc__law_refused (fun vs H Q E h=>h.1) (fun cdv Ar outer s H vs Q E hr h=>?_)
 obtain⟨_,F,as,ws,ce,S,rs,Pf⟩:=h
 refine⟨toTS (Gx K) E _,(zai (zaD (i:=5) sc__law_refused.nd rfl (Or.inl rfl) zlx)
   (zai (znk rfl rfl rfl G_chase (hr.mono (by decide)) rfl T.g_chase T.F_chase.kp T.b_chase (zaa (zab 0) (zaa (zab 1) (zaa (zab 2) (zaa (zab 3) (zaa (zab 4) zaf))))) (zri (i:=6) rfl T.xt rfl sc__law_refused.nd rfl rfl rfl (fun _=>(zal (zaD (i:=5) sc__law_refused.nd rfl (Or.inl rfl) (zab 6))))))
   (zai (zcr (PW.pt (zkK (zoG (zab 5)) (zkK (zdl (zdk (zbD rfl T.xt rfl (zab 5) rfl T.n_isinstance rfl))) (zi5 (zdl (zdk (znm rfl T.xt (zab 5) rfl T.n_isinstance rfl T.n_ValueError))))))) (zal (zaE zdW)) za3)
   (zai (zaD (i:=7) sc__law_refused.nd rfl (Or.inl rfl) (zbe (zaa (zbD rfl T.xt rfl (zab 5) rfl T.n_isinstance rfl) (zaa (zbD rfl T.xt rfl (zab 5) rfl T.n_isinstance rfl) (zaa (zbD rfl T.xt rfl (zab 5) rfl T.n_isinstance rfl) zaf)))))
   (zai (zaD (i:=7) sc__law_refused.nd rfl (Or.inl rfl) (zdZ zfB (zab 7) (zbe (zaa (zbD rfl T.xt rfl (zab 5) rfl T.n_isinstance rfl) (zaa (zbD rfl T.xt rfl (zab 5) rfl T.n_isinstance rfl) (zaa (zbD rfl T.xt rfl (zab 5) rfl T.n_isinstance rfl) zaf))))))
   (zai (zaD (i:=7) sc__law_refused.nd rfl (Or.inl rfl) (zdZ zfB (zab 7) (zbe (zaa (zbD rfl T.xt rfl (zab 5) rfl T.n_isinstance rfl) (zaa (zbD rfl T.xt rfl (zab 5) rfl T.n_isinstance rfl) (zaa (zbD rfl T.xt rfl (zab 5) rfl T.n_isinstance rfl) zaf))))))
   (zal (zaE (zoJ (zkH (hr.cmp 9) zdW (zab 7) (by with_unfolding_all rfl)) (zoI (zoK (zbD rfl T.xt rfl (zab 5) rfl T.n_isinstance rfl)))))))))))),?_⟩
 exact zaC (G:=Gx K) (E:=E) zbU ["_law_board", "_law_stand", "_law_hunter", "_law_point", "_law_most", "_law_caught", "error", "_law_others"] S rs Pf
set_option maxHeartbeats 0 in
theorem zc2(fu:Nat)(T:Txt K mg A):FnOk P w K mg base (CXx P w) 20 A.f__law_one_breath A.d__law_one_breath ["_law_cell", "_law_hand", "_law_most"] (spD K 3 (d__law_one_breath fu)):=by
 have G__law_line:FnOk P w K mg base (CXx P w) 1 A.f__law_line A.d__law_line ["_law_many", "_law_ring"] (spD K 2 (d__law_line fu)):=zcl fu T
 have G__law_put:FnOk P w K mg base (CXx P w) 1 A.f__law_put A.d__law_put ["_law_many", "_law_told"] (spD K 2 (d__law_put fu)):=zb1 fu T
 have G_chase:FnOk P w K mg base (CXx P w) 19 A.f_chase A.d_chase ["board", "stand", "hunter", "point", "most"] (spD K 5 (d_chase fu)):=zdI fu T
 have G__law_mix:FnOk P w K mg base (CXx P w) 1 A.f__law_mix A.d__law_mix ["_law_cell", "_law_k"] (spD K 2 (d__law_mix fu)):=zb0 fu T
 refine T.F__law_one_breath.okX (k:=19) sc__law_one_breath (fun vs H Q E h=>h.1) (fun cdv Ar outer s H vs Q E hr h=>?_)
 obtain⟨_,F,as,ws,ce,S,rs,Pf⟩:=h
 refine⟨toTS (Gx K) E _,(zai (zaD (i:=3) sc__law_one_breath.nd rfl (Or.inl rfl) (za9 zak (zba (zap G__law_mix (hr.mono (by decide)) rfl T.g__law_mix T.F__law_mix.kp T.b__law_mix (flies_cxOf.passes rfl) (zaa (zab 0) (zaa zak zaf))) zak)))
   (zai (zaD (i:=4) sc__law_one_breath.nd rfl (Or.inl rfl) (zap G__law_line (hr.mono (by decide)) rfl T.g__law_line T.F__law_line.kp T.b__law_line (flies_cxOf.passes rfl) (zaa (zab 3) (zaa zdW zaf))))
   (zai (zaD (i:=5) sc__law_one_breath.nd rfl (Or.inl rfl) (za9 zak (zba (zap G__law_mix (hr.mono (by decide)) rfl T.g__law_mix T.F__law_mix.kp T.b__law_mix (flies_cxOf.passes rfl) (zaa (zab 0) (zaa zak zaf))) (zb9 (zab 3) zak))))
   (zai (zaD (i:=6) sc__law_one_breath.nd rfl (Or.inl rfl) (zap G__law_put (hr.mono (by decide)) rfl T.g__law_put T.F__law_put.kp T.b__law_put (flies_cxOf.passes rfl) (zaa (zab 3) (zaa (zgj zfB (zcS (N:=["_law_cell", "_law_hand", "_law_most", "_law_many", "_law_board", "_law_size", "_law_stand"]) (psc:=zag zaI) (js:=[1]) (N':=["_law_k", "_law_hand"]) (by decide +kernel)) rfl rfl (zhT rfl T.n_range (zaa (zab 5) zaf)) (fun _ _ _ _=>zcU) (fun _ _ _ _=>(zaS (zaa (zab 0) (zaa (zab 1) zaf))))) zaf))))
   (zal (zaE (zjH (hr.cmp 8) (zap G_chase (hr.mono (by decide)) rfl T.g_chase T.F_chase.kp T.b_chase (flies_cxOf.passes rfl) (zaa (zab 4) (zaa (zab 6) (zaa (zb9 zak (zab 1)) (zaa (zba (zap G__law_mix (hr.mono (by decide)) rfl T.g__law_mix T.F__law_mix.kp T.b__law_mix (flies_cxOf.passes rfl) (zaa (zab 0) (zaa zak zaf))) (zab 5)) (zaa (zab 2) zaf)))))) (zaS (zaa zb2 (zaa (zbe (zaa (zaS (zaa (zaS zaf) (zaa (zab 5) zaf))) zaf)) zaf)))))))))),?_⟩
 exact zaC (G:=Gx K) (E:=E) zbU ["_law_cell", "_law_hand", "_law_most", "_law_many", "_law_board", "_law_size", "_law_stand"] S rs Pf
set_option maxHeartbeats 0 in
theorem zcM(fu:Nat)(T:Txt K mg A):FnOk P w K mg base (CXx P w) 20 A.f__law_two_breaths A.d__law_two_breaths ["_law_cell", "_law_hand"] (spD K 2 (d__law_two_breaths fu)):=by
 have G__law_line:FnOk P w K mg base (CXx P w) 1 A.f__law_line A.d__law_line ["_law_many", "_law_ring"] (spD K 2 (d__law_line fu)):=zcl fu T
 have G__law_put:FnOk P w K mg base (CXx P w) 1 A.f__law_put A.d__law_put ["_law_many", "_law_told"] (spD K 2 (d__law_put fu)):=zb1 fu T
 have G_chase:FnOk P w K mg base (CXx P w) 19 A.f_chase A.d_chase ["board", "stand", "hunter", "point", "most"] (spD K 5 (d_chase fu)):=zdI fu T
 have G__law_mix:FnOk P w K mg base (CXx P w) 1 A.f__law_mix A.d__law_mix ["_law_cell", "_law_k"] (spD K 2 (d__law_mix fu)):=zb0 fu T
 refine T.F__law_two_breaths.okX (k:=19) sc__law_two_breaths (fun vs H Q E h=>h.1) (fun cdv Ar outer s H vs Q E hr h=>?_)
 obtain⟨_,F,as,ws,ce,S,rs,Pf⟩:=h
 refine⟨toTS (Gx K) E _,(zai (zaD (i:=2) sc__law_two_breaths.nd rfl (Or.inl rfl) (za9 zak (zba (zap G__law_mix (hr.mono (by decide)) rfl T.g__law_mix T.F__law_mix.kp T.b__law_mix (flies_cxOf.passes rfl) (zaa (zab 0) (zaa zak zaf))) zak)))
   (zai (zaD (i:=3) sc__law_two_breaths.nd rfl (Or.inl rfl) (zap G__law_line (hr.mono (by decide)) rfl T.g__law_line T.F__law_line.kp T.b__law_line (flies_cxOf.passes rfl) (zaa (zab 2) (zaa (zlJ (zba (zap G__law_mix (hr.mono (by decide)) rfl T.g__law_mix T.F__law_mix.kp T.b__law_mix (flies_cxOf.passes rfl) (zaa (zab 0) (zaa zak zaf))) zak) zak) zaf))))
   (zai (zaD (i:=4) sc__law_two_breaths.nd rfl (Or.inl rfl) (za9 zak (zba (zap G__law_mix (hr.mono (by decide)) rfl T.g__law_mix T.F__law_mix.kp T.b__law_mix (flies_cxOf.passes rfl) (zaa (zab 0) (zaa zak zaf))) (zb9 (zab 2) zak))))
   (zai (zaD (i:=5) sc__law_two_breaths.nd rfl (Or.inr rfl) (za9 zak (zba (zap G__law_mix (hr.mono (by decide)) rfl T.g__law_mix T.F__law_mix.kp T.b__law_mix (flies_cxOf.passes rfl) (zaa (zab 0) (zaa zak zaf))) (zb9 (zb9 (zab 2) (zab 4)) zak))))
   (zai (zaD (i:=6) sc__law_two_breaths.nd rfl (Or.inl rfl) (zap G__law_put (hr.mono (by decide)) rfl T.g__law_put T.F__law_put.kp T.b__law_put (flies_cxOf.passes rfl) (zaa (zab 2) (zaa (zgj zfB (zcS (N:=["_law_cell", "_law_hand", "_law_many", "_law_board", "_law_size", "_law_first", "_law_stand"]) (psc:=zag zaF) (js:=[1,5]) (N':=["_law_k", "_law_hand", "_law_first"]) (by decide +kernel)) rfl rfl (zhT rfl T.n_range (zaa (zab 4) zaf)) (fun _ _ _ _=>zcU) (fun _ _ _ _=>(zaS (zaa (za9 (zab 2) (zab 0)) (zaa (zab 1) zaf))))) zaf))))
   (zal (zaE (zjH (hr.cmp 8) (zap G_chase (hr.mono (by decide)) rfl T.g_chase T.F_chase.kp T.b_chase (flies_cxOf.passes rfl) (zaa (zab 3) (zaa (zab 6) (zaa (zb9 zak (zab 1)) (zaa (za9 (zab 5) (zba (zap G__law_mix (hr.mono (by decide)) rfl T.g__law_mix T.F__law_mix.kp T.b__law_mix (flies_cxOf.passes rfl) (zaa (zab 0) (zaa zak zaf))) (zab 4))) (zaa zak zaf)))))) (zaS (zaa zb2 (zaa (zbe zaf) zaf))))))))))),?_⟩
 exact zaC (G:=Gx K) (E:=E) zbU ["_law_cell", "_law_hand", "_law_many", "_law_board", "_law_size", "_law_first", "_law_stand"] S rs Pf
set_option maxHeartbeats 0 in
theorem zcu(fu:Nat)(T:Txt K mg A):FnOk P w K mg base (CXx P w) 20 A.f__law_many_breaths A.d__law_many_breaths ["_law_cell", "_law_hand", "_law_most"] (spD K 3 (d__law_many_breaths fu)):=by
 have G_chase:FnOk P w K mg base (CXx P w) 19 A.f_chase A.d_chase ["board", "stand", "hunter", "point", "most"] (spD K 5 (d_chase fu)):=zdI fu T
 have G__law_mix:FnOk P w K mg base (CXx P w) 1 A.f__law_mix A.d__law_mix ["_law_cell", "_law_k"] (spD K 2 (d__law_mix fu)):=zb0 fu T
 have G__law_star:FnOk P w K mg base (CXx P w) 1 A.f__law_star A.d__law_star ["_law_many"] (spD K 1 (d__law_star fu)):=zfY fu T
 have G__law_put:FnOk P w K mg base (CXx P w) 1 A.f__law_put A.d__law_put ["_law_many", "_law_told"] (spD K 2 (d__law_put fu)):=zb1 fu T
 refine T.F__law_many_breaths.okX (k:=19) sc__law_many_breaths (fun vs H Q E h=>h.1) (fun cdv Ar outer s H vs Q E hr h=>?_)
 obtain⟨_,F,as,ws,ce,S,rs,Pf⟩:=h
 refine⟨toTS (Gx K) E _,(zai (zaD (i:=3) sc__law_many_breaths.nd rfl (Or.inl rfl) (za9 zak (zba (zap G__law_mix (hr.mono (by decide)) rfl T.g__law_mix T.F__law_mix.kp T.b__law_mix (flies_cxOf.passes rfl) (zaa (zab 0) (zaa zak zaf))) zak)))
   (zal (zaE (zjH (hr.cmp 8) (zap G_chase (hr.mono (by decide)) rfl T.g_chase T.F_chase.kp T.b_chase (flies_cxOf.passes rfl) (zaa (zap G__law_star (hr.mono (by decide)) rfl T.g__law_star T.F__law_star.kp T.b__law_star (flies_cxOf.passes rfl) (zaa (zab 3) zaf)) (zaa (zap G__law_put (hr.mono (by decide)) rfl T.g__law_put T.F__law_put.kp T.b__law_put (flies_cxOf.passes rfl) (zaa (zab 3) (zaa (zbe (zaa (zaS (zaa zak (zaa (zab 1) zaf))) zaf)) zaf))) (zaa (zb9 zak (zab 1)) (zaa zak (zaa (zab 2) zaf)))))) (zaS (zaa zb2 (zaa (zbe zaf) zaf))))))),?_⟩
 exact zaC (G:=Gx K) (E:=E) zbU ["_law_cell", "_law_hand", "_law_most", "_law_many"] S rs Pf
set_option maxHeartbeats 0 in
theorem zpB(fu:Nat)(T:Txt K mg A):FnOk P w K mg base (CXx P w) 21 A.f_law A.d_law ["_law_script"] (spD K 1 (d_law fu)):=by
 have G__law_cell_at:FnOk P w K mg base (CXx P w) 1 A.f__law_cell_at A.d__law_cell_at ["_law_script", "_law_k"] (spD K 2 (d__law_cell_at fu)):=zef fu T
 have G__law_put:FnOk P w K mg base (CXx P w) 1 A.f__law_put A.d__law_put ["_law_many", "_law_told"] (spD K 2 (d__law_put fu)):=zb1 fu T
 have G__law_two_breaths:FnOk P w K mg base (CXx P w) 20 A.f__law_two_breaths A.d__law_two_breaths ["_law_cell", "_law_hand"] (spD K 2 (d__law_two_breaths fu)):=zcM fu T
 have G__law_refused:FnOk P w K mg base (CXx P w) 20 A.f__law_refused A.d__law_refused ["_law_board", "_law_stand", "_law_hunter", "_law_point", "_law_most"] (spD K 5 (d__law_refused fu)):=zeg fu T
 have G__law_mix:FnOk P w K mg base (CXx P w) 1 A.f__law_mix A.d__law_mix ["_law_cell", "_law_k"] (spD K 2 (d__law_mix fu)):=zb0 fu T
 have G__law_one_breath:FnOk P w K mg base (CXx P w) 20 A.f__law_one_breath A.d__law_one_breath ["_law_cell", "_law_hand", "_law_most"] (spD K 3 (d__law_one_breath fu)):=zc2 fu T
 have G__law_many_breaths:FnOk P w K mg base (CXx P w) 20 A.f__law_many_breaths A.d__law_many_breaths ["_law_cell", "_law_hand", "_law_most"] (spD K 3 (d__law_many_breaths fu)):=zcu fu T
 have G__law_line:FnOk P w K mg base (CXx P w) 1 A.f__law_line A.d__law_line ["_law_many", "_law_ring"] (spD K 2 (d__law_line fu)):=zcl fu T
 refine T.F_law.okX (k:=20) sc_law (fun vs H Q E h=>h.1) (fun cdv Ar outer s H vs Q E hr h=>?_)
 obtain⟨_,F,as,ws,ce,S,rs,Pf⟩:=h
 refine⟨toTS (Gx K) E _,(zai (zbJ PassesOwn.leaving rfl (zhT rfl T.n_range (zaa zak zaf)) (zbb (i:=1) sc_law.nd rfl (Or.inl rfl))
   (zai (zaD (i:=2) sc_law.nd rfl (Or.inl rfl) (zap G__law_cell_at (hr.mono (by decide)) rfl T.g__law_cell_at T.F__law_cell_at.kp T.b__law_cell_at (flies_cxOf.passes rfl) (zaa (zab 0) (zaa (zab 1) zaf))))
   (zai (zaD (i:=3) sc_law.nd rfl (Or.inl rfl) (za9 zak (zba (zap G__law_mix (hr.mono (by decide)) rfl T.g__law_mix T.F__law_mix.kp T.b__law_mix (flies_cxOf.passes rfl) (zaa (zab 2) (zaa zak zaf))) zak)))
   (zai (zaD (i:=4) sc_law.nd rfl (Or.inl rfl) (za9 zak (zba (zap G__law_mix (hr.mono (by decide)) rfl T.g__law_mix T.F__law_mix.kp T.b__law_mix (flies_cxOf.passes rfl) (zaa (zab 2) (zaa zak zaf))) zak)))
   (zai (zcr (PW.pt (zkK (zdl (zdk (zap G__law_one_breath (hr.mono (by decide)) rfl T.g__law_one_breath T.F__law_one_breath.kp T.b__law_one_breath (flies_cxOf.passes rfl) (zaa (zab 2) (zaa (zab 3) (zaa (zab 4) zaf)))))) (zi5 (zdl (zdk (zap G__law_many_breaths (hr.mono (by decide)) rfl T.g__law_many_breaths T.F__law_many_breaths.kp T.b__law_many_breaths (flies_cxOf.passes rfl) (zaa (zab 2) (zaa (zab 3) (zaa (zab 4) zaf))))))))) (zal (zaE zdW)) za3)
   (zai (zcr (zdl (zdk (zap G__law_two_breaths (hr.mono (by decide)) rfl T.g__law_two_breaths T.F__law_two_breaths.kp T.b__law_two_breaths (flies_cxOf.passes rfl) (zaa (zab 2) (zaa (zab 3) zaf))))) (zal (zaE zdW)) za3)
   (zai (zaD (i:=5) sc_law.nd rfl (Or.inl rfl) (za9 zak (zba (zap G__law_mix (hr.mono (by decide)) rfl T.g__law_mix T.F__law_mix.kp T.b__law_mix (flies_cxOf.passes rfl) (zaa (zab 2) (zaa zak zaf))) zak)))
   (zai (zaD (i:=6) sc_law.nd rfl (Or.inl rfl) (zap G__law_put (hr.mono (by decide)) rfl T.g__law_put T.F__law_put.kp T.b__law_put (flies_cxOf.passes rfl) (zaa (zab 5) (zaa (zbe (zaa (zaS (zaa zak (zaa (zab 3) zaf))) zaf)) zaf))))
   (zal (zcr (zdl (zdk (zap G__law_refused (hr.mono (by decide)) rfl T.g__law_refused T.F__law_refused.kp T.b__law_refused (flies_cxOf.passes rfl) (zaa (zap G__law_line (hr.mono (by decide)) rfl T.g__law_line T.F__law_line.kp T.b__law_line (flies_cxOf.passes rfl) (zaa (zab 5) (zaa (zlJ (zba (zap G__law_mix (hr.mono (by decide)) rfl T.g__law_mix T.F__law_mix.kp T.b__law_mix (flies_cxOf.passes rfl) (zaa (zab 2) (zaa zak zaf))) zak) zak) zaf))) (zaa (zab 6) (zaa (zb9 zak (zab 3)) (zaa zak (zaa (zab 4) zaf)))))))) (zal (zaE zdW)) za3))))))))))
   (zal (zaE zdW))),?_⟩
 exact zaC (G:=Gx K) (E:=E) zbU ["_law_script", "_law_k", "_law_cell", "_law_hand", "_law_most", "_law_many", "_law_stand"] S rs Pf
end
set_option maxHeartbeats 0 in
theorem all_mk{K:PySem.W.Frag}{h:Heap}{mg:Str->Option Value}{fa:Addr}(X:K.In h)(G:h.Ns mainGlobals mg)(hfa:mg "law" = some (.ref fa)){f0:Addr}{od0 an0:Option Addr}{sl0:Array (Option Value)}{oc0 kV0 dc0 pm0 cd0 ct0:Value}{f1:Addr}{od1 an1:Option Addr}{sl1:Array (Option Value)}{oc1 kV1 dc1 pm1 cd1 ct1:Value}{f2:Addr}{od2 an2:Option Addr}{sl2:Array (Option Value)}{oc2 kV2 dc2 pm2 cd2 ct2:Value}{f3:Addr}{od3 an3:Option Addr}{sl3:Array (Option Value)}{oc3 kV3 dc3 pm3 cd3 ct3:Value}{f4:Addr}{od4 an4:Option Addr}{sl4:Array (Option Value)}{oc4 kV4 dc4 pm4 cd4 ct4:Value}{f5:Addr}{od5 an5:Option Addr}{sl5:Array (Option Value)}{oc5 kV5 dc5 pm5 cd5 ct5:Value}{f6:Addr}{od6 an6:Option Addr}{sl6:Array (Option Value)}{oc6 kV6 dc6 pm6 cd6 ct6:Value}{f7:Addr}{od7 an7:Option Addr}{sl7:Array (Option Value)}{oc7 kV7 dc7 pm7 cd7 ct7:Value}{f8:Addr}{od8 an8:Option Addr}{sl8:Array (Option Value)}{oc8 kV8 dc8 pm8 cd8 ct8:Value}{f9:Addr}{od9 an9:Option Addr}{sl9:Array (Option Value)}{oc9 kV9 dc9 pm9 cd9 ct9:Value}{f10:Addr}{od10 an10:Option Addr}{sl10:Array (Option Value)}{oc10 kV10 dc10 pm10 cd10 ct10:Value}{f11:Addr}{od11 an11:Option Addr}{sl11:Array (Option Value)}{oc11 kV11 dc11 pm11 cd11 ct11:Value}{f12:Addr}{od12 an12:Option Addr}{sl12:Array (Option Value)}{oc12 kV12 dc12 pm12 cd12 ct12:Value}{f13:Addr}{od13 an13:Option Addr}{sl13:Array (Option Value)}{oc13 kV13 dc13 pm13 cd13 ct13:Value}{f14:Addr}{od14 an14:Option Addr}{sl14:Array (Option Value)}{oc14 kV14 dc14 pm14 cd14 ct14:Value}{f15:Addr}{od15 an15:Option Addr}{sl15:Array (Option Value)}{oc15 kV15 dc15 pm15 cd15 ct15:Value}{f16:Addr}{od16 an16:Option Addr}{sl16:Array (Option Value)}{oc16 kV16 dc16 pm16 cd16 ct16:Value}{f17:Addr}{od17 an17:Option Addr}{sl17:Array (Option Value)}{oc17 kV17 dc17 pm17 cd17 ct17:Value}{f18:Addr}{od18 an18:Option Addr}{sl18:Array (Option Value)}{oc18 kV18 dc18 pm18 cd18 ct18:Value}{f19:Addr}{od19 an19:Option Addr}{sl19:Array (Option Value)}{oc19 kV19 dc19 pm19 cd19 ct19:Value}{f20:Addr}{od20 an20:Option Addr}{sl20:Array (Option Value)}{oc20 kV20 dc20 pm20 cd20 ct20:Value}{f21:Addr}{od21 an21:Option Addr}{sl21:Array (Option Value)}{oc21 kV21 dc21 pm21 cd21 ct21:Value}{f22:Addr}{od22 an22:Option Addr}{sl22:Array (Option Value)}{oc22 kV22 dc22 pm22 cd22 ct22:Value}{f23:Addr}{od23 an23:Option Addr}{sl23:Array (Option Value)}{oc23 kV23 dc23 pm23 cd23 ct23:Value}{f24:Addr}{od24 an24:Option Addr}{sl24:Array (Option Value)}{oc24 kV24 dc24 pm24 cd24 ct24:Value}{f25:Addr}{od25 an25:Option Addr}{sl25:Array (Option Value)}{oc25 kV25 dc25 pm25 cd25 ct25:Value}{f26:Addr}{od26 an26:Option Addr}{sl26:Array (Option Value)}{oc26 kV26 dc26 pm26 cd26 ct26:Value}{f27:Addr}{od27 an27:Option Addr}{sl27:Array (Option Value)}{oc27 kV27 dc27 pm27 cd27 ct27:Value}{f28:Addr}{od28 an28:Option Addr}{sl28:Array (Option Value)}{oc28 kV28 dc28 pm28 cd28 ct28:Value}{f29:Addr}{od29 an29:Option Addr}{sl29:Array (Option Value)}{oc29 kV29 dc29 pm29 cd29 ct29:Value}{C_Chase:Addr}(ac_Chase:PySem.W.nsIn K mainGlobals "Chase" = some (some (.ref C_Chase)))(pg_Chase:PySem.W.plainGet K C_Chase Str.empty=true)(hd_Chase:PySem.W.hasDictIn K C_Chase=true)(po_Chase:PySem.W.plainOver K C_Chase=true)(sa_Chase:PySem.W.findIn K (.ref C_Chase) "__setattr__" = some (some (.builtin "object.__setattr__")))(mi_Chase:PySem.W.makesIn K C_Chase=true)(kc_Chase:PySem.W.keepIn K (.ref C_Chase)=true)(na_Chase_hunter:PySem.W.findIn K (.ref C_Chase) "hunter" = some none)(na_Chase_joined:PySem.W.findIn K (.ref C_Chase) "joined" = some none)(na_Chase_most:PySem.W.findIn K (.ref C_Chase) "most" = some none)(na_Chase_runner:PySem.W.findIn K (.ref C_Chase) "runner" = some none)(na_Chase_stone:PySem.W.findIn K (.ref C_Chase) "stone" = some none)(a0:PySem.W.nsIn K mainGlobals "other_hand" = some (some (.ref f0)))(l0:K.lookup f0=some ⟨oc0,od0,.func (PySem.W.fnOf "other_hand" "other_hand" (zaw za6) (zas za6) (zag za6) .none kV0 dc0 pm0 an0 cd0 ct0),sl0⟩)(c0:PySem.W.codeIn K cd0 "other_hand" = true)(k0:PySem.W.keepIn K (.ref f0)=true)(a1:PySem.W.nsIn K mainGlobals "patch_of" = some (some (.ref f1)))(l1:K.lookup f1=some ⟨oc1,od1,.func (PySem.W.fnOf "patch_of" "patch_of" (zaw zbu) (zas zbu) (zag zbu) .none kV1 dc1 pm1 an1 cd1 ct1),sl1⟩)(c1:PySem.W.codeIn K cd1 "patch_of" = true)(k1:PySem.W.keepIn K (.ref f1)=true)(a2:PySem.W.nsIn K mainGlobals "patches" = some (some (.ref f2)))(l2:K.lookup f2=some ⟨oc2,od2,.func (PySem.W.fnOf "patches" "patches" (zaw zbL) (zas zbL) (zag zbL) .none kV2 dc2 pm2 an2 cd2 ct2),sl2⟩)(c2:PySem.W.codeIn K cd2 "patches" = true)(k2:PySem.W.keepIn K (.ref f2)=true)(a3:PySem.W.nsIn K mainGlobals "patch" = some (some (.ref f3)))(l3:K.lookup f3=some ⟨oc3,od3,.func (PySem.W.fnOf "patch" "patch" (zaw zda) (zas zda) (zag zda) .none kV3 dc3 pm3 an3 cd3 ct3),sl3⟩)(c3:PySem.W.codeIn K cd3 "patch" = true)(k3:PySem.W.keepIn K (.ref f3)=true)(a4:PySem.W.nsIn K mainGlobals "rows" = some (some (.ref f4)))(l4:K.lookup f4=some ⟨oc4,od4,.func (PySem.W.fnOf "rows" "rows" (zaw zeb) (zas zeb) (zag zeb) .none kV4 dc4 pm4 an4 cd4 ct4),sl4⟩)(c4:PySem.W.codeIn K cd4 "rows" = true)(k4:PySem.W.keepIn K (.ref f4)=true)(a5:PySem.W.nsIn K mainGlobals "breaths" = some (some (.ref f5)))(l5:K.lookup f5=some ⟨oc5,od5,.func (PySem.W.fnOf "breaths" "breaths" (zaw zbE) (zas zbE) (zag zbE) .none kV5 dc5 pm5 an5 cd5 ct5),sl5⟩)(c5:PySem.W.codeIn K cd5 "breaths" = true)(k5:PySem.W.keepIn K (.ref f5)=true)(a6:PySem.W.nsIn K mainGlobals "points_beside" = some (some (.ref f6)))(l6:K.lookup f6=some ⟨oc6,od6,.func (PySem.W.fnOf "points_beside" "points_beside" (zaw zaT) (zas zaT) (zag zaT) .none kV6 dc6 pm6 an6 cd6 ct6),sl6⟩)(c6:PySem.W.codeIn K cd6 "points_beside" = true)(k6:PySem.W.keepIn K (.ref f6)=true)(a7:PySem.W.nsIn K mainGlobals "laid" = some (some (.ref f7)))(l7:K.lookup f7=some ⟨oc7,od7,.func (PySem.W.fnOf "laid" "laid" (zaw zeI) (zas zeI) (zag zeI) .none kV7 dc7 pm7 an7 cd7 ct7),sl7⟩)(c7:PySem.W.codeIn K cd7 "laid" = true)(k7:PySem.W.keepIn K (.ref f7)=true)(a8:PySem.W.nsIn K mainGlobals "lays_on" = some (some (.ref f8)))(l8:K.lookup f8=some ⟨oc8,od8,.func (PySem.W.fnOf "lays_on" "lays_on" (zaw zbM) (zas zbM) (zag zbM) .none kV8 dc8 pm8 an8 cd8 ct8),sl8⟩)(c8:PySem.W.codeIn K cd8 "lays_on" = true)(k8:PySem.W.keepIn K (.ref f8)=true)(a9:PySem.W.nsIn K mainGlobals "new_lays" = some (some (.ref f9)))(l9:K.lookup f9=some ⟨oc9,od9,.func (PySem.W.fnOf "new_lays" "new_lays" (zaw zbg) (zas zbg) (zag zbg) .none kV9 dc9 pm9 an9 cd9 ct9),sl9⟩)(c9:PySem.W.codeIn K cd9 "new_lays" = true)(k9:PySem.W.keepIn K (.ref f9)=true)(a10:PySem.W.nsIn K mainGlobals "steps" = some (some (.ref f10)))(l10:K.lookup f10=some ⟨oc10,od10,.func (PySem.W.fnOf "steps" "steps" (zaw zcJ) (zas zcJ) (zag zcJ) .none kV10 dc10 pm10 an10 cd10 ct10),sl10⟩)(c10:PySem.W.codeIn K cd10 "steps" = true)(k10:PySem.W.keepIn K (.ref f10)=true)(a11:PySem.W.nsIn K mainGlobals "filled" = some (some (.ref f11)))(l11:K.lookup f11=some ⟨oc11,od11,.func (PySem.W.fnOf "filled" "filled" (zaw zcq) (zas zcq) (zag zcq) .none kV11 dc11 pm11 an11 cd11 ct11),sl11⟩)(c11:PySem.W.codeIn K cd11 "filled" = true)(k11:PySem.W.keepIn K (.ref f11)=true)(a12:PySem.W.nsIn K mainGlobals "breathless" = some (some (.ref f12)))(l12:K.lookup f12=some ⟨oc12,od12,.func (PySem.W.fnOf "breathless" "breathless" (zaw za7) (zas za7) (zag za7) .none kV12 dc12 pm12 an12 cd12 ct12),sl12⟩)(c12:PySem.W.codeIn K cd12 "breathless" = true)(k12:PySem.W.keepIn K (.ref f12)=true)(a13:PySem.W.nsIn K mainGlobals "chase" = some (some (.ref f13)))(l13:K.lookup f13=some ⟨oc13,od13,.func (PySem.W.fnOf "chase" "chase" (zaw zdb) (zas zdb) (zag zdb) .none kV13 dc13 pm13 an13 cd13 ct13),sl13⟩)(c13:PySem.W.codeIn K cd13 "chase" = true)(k13:PySem.W.keepIn K (.ref f13)=true)(a14:PySem.W.nsIn K mainGlobals "_law_cell_at" = some (some (.ref f14)))(l14:K.lookup f14=some ⟨oc14,od14,.func (PySem.W.fnOf "_law_cell_at" "_law_cell_at" (zaw zaZ) (zas zaZ) (zag zaZ) .none kV14 dc14 pm14 an14 cd14 ct14),sl14⟩)(c14:PySem.W.codeIn K cd14 "_law_cell_at" = true)(k14:PySem.W.keepIn K (.ref f14)=true)(a15:PySem.W.nsIn K mainGlobals "_law_mix" = some (some (.ref f15)))(l15:K.lookup f15=some ⟨oc15,od15,.func (PySem.W.fnOf "_law_mix" "_law_mix" (zaw zbv) (zas zbv) (zag zbv) .none kV15 dc15 pm15 an15 cd15 ct15),sl15⟩)(c15:PySem.W.codeIn K cd15 "_law_mix" = true)(k15:PySem.W.keepIn K (.ref f15)=true)(a16:PySem.W.nsIn K mainGlobals "_law_line" = some (some (.ref f16)))(l16:K.lookup f16=some ⟨oc16,od16,.func (PySem.W.fnOf "_law_line" "_law_line" (zaw za1) (zas za1) (zag za1) .none kV16 dc16 pm16 an16 cd16 ct16),sl16⟩)(c16:PySem.W.codeIn K cd16 "_law_line" = true)(k16:PySem.W.keepIn K (.ref f16)=true)(a17:PySem.W.nsIn K mainGlobals "_law_star" = some (some (.ref f17)))(l17:K.lookup f17=some ⟨oc17,od17,.func (PySem.W.fnOf "_law_star" "_law_star" (zaw zbh) (zas zbh) (zag zbh) .none kV17 dc17 pm17 an17 cd17 ct17),sl17⟩)(c17:PySem.W.codeIn K cd17 "_law_star" = true)(k17:PySem.W.keepIn K (.ref f17)=true)(a18:PySem.W.nsIn K mainGlobals "_law_put" = some (some (.ref f18)))(l18:K.lookup f18=some ⟨oc18,od18,.func (PySem.W.fnOf "_law_put" "_law_put" (zaw zbw) (zas zbw) (zag zbw) .none kV18 dc18 pm18 an18 cd18 ct18),sl18⟩)(c18:PySem.W.codeIn K cd18 "_law_put" = true)(k18:PySem.W.keepIn K (.ref f18)=true)(a19:PySem.W.nsIn K mainGlobals "_law_refused" = some (some (.ref f19)))(l19:K.lookup f19=some ⟨oc19,od19,.func (PySem.W.fnOf "_law_refused" "_law_refused" (zaw za0) (zas za0) (zag za0) .none kV19 dc19 pm19 an19 cd19 ct19),sl19⟩)(c19:PySem.W.codeIn K cd19 "_law_refused" = true)(k19:PySem.W.keepIn K (.ref f19)=true)(a20:PySem.W.nsIn K mainGlobals "_law_one_breath" = some (some (.ref f20)))(l20:K.lookup f20=some ⟨oc20,od20,.func (PySem.W.fnOf "_law_one_breath" "_law_one_breath" (zaw zaI) (zas zaI) (zag zaI) .none kV20 dc20 pm20 an20 cd20 ct20),sl20⟩)(c20:PySem.W.codeIn K cd20 "_law_one_breath" = true)(k20:PySem.W.keepIn K (.ref f20)=true)(a21:PySem.W.nsIn K mainGlobals "_law_two_breaths" = some (some (.ref f21)))(l21:K.lookup f21=some ⟨oc21,od21,.func (PySem.W.fnOf "_law_two_breaths" "_law_two_breaths" (zaw zaF) (zas zaF) (zag zaF) .none kV21 dc21 pm21 an21 cd21 ct21),sl21⟩)(c21:PySem.W.codeIn K cd21 "_law_two_breaths" = true)(k21:PySem.W.keepIn K (.ref f21)=true)(a22:PySem.W.nsIn K mainGlobals "_law_many_breaths" = some (some (.ref f22)))(l22:K.lookup f22=some ⟨oc22,od22,.func (PySem.W.fnOf "_law_many_breaths" "_law_many_breaths" (zaw zaJ) (zas zaJ) (zag zaJ) .none kV22 dc22 pm22 an22 cd22 ct22),sl22⟩)(c22:PySem.W.codeIn K cd22 "_law_many_breaths" = true)(k22:PySem.W.keepIn K (.ref f22)=true)(a23:PySem.W.nsIn K mainGlobals "law" = some (some (.ref f23)))(l23:K.lookup f23=some ⟨oc23,od23,.func (PySem.W.fnOf "law" "law" (zaw zh9) (zas zh9) (zag zh9) .none kV23 dc23 pm23 an23 cd23 ct23),sl23⟩)(c23:PySem.W.codeIn K cd23 "law" = true)(k23:PySem.W.keepIn K (.ref f23)=true)(a24:PySem.W.findIn K (.ref C_Chase) "__init__" = some (some (.ref f24)))(fn24:PySem.W.isFn K (.ref f24)=true)(l24:K.lookup f24=some ⟨oc24,od24,.func (PySem.W.fnOf "__init__" "Chase.__init__" (zaw zaP) (zas zaP) (zag zaP) .none kV24 dc24 pm24 an24 cd24 ct24),sl24⟩)(c24:PySem.W.codeIn K cd24 "Chase.__init__" = true)(k24:PySem.W.keepIn K (.ref f24)=true)(a25:PySem.W.findIn K (.ref C_Chase) "hunt" = some (some (.ref f25)))(fn25:PySem.W.isFn K (.ref f25)=true)(l25:K.lookup f25=some ⟨oc25,od25,.func (PySem.W.fnOf "hunt" "Chase.hunt" (zaw za8) (zas za8) (zag za8) .none kV25 dc25 pm25 an25 cd25 ct25),sl25⟩)(c25:PySem.W.codeIn K cd25 "Chase.hunt" = true)(k25:PySem.W.keepIn K (.ref f25)=true)(a26:PySem.W.findIn K (.ref C_Chase) "run" = some (some (.ref f26)))(fn26:PySem.W.isFn K (.ref f26)=true)(l26:K.lookup f26=some ⟨oc26,od26,.func (PySem.W.fnOf "run" "Chase.run" (zaw zbi) (zas zbi) (zag zbi) .none kV26 dc26 pm26 an26 cd26 ct26),sl26⟩)(c26:PySem.W.codeIn K cd26 "Chase.run" = true)(k26:PySem.W.keepIn K (.ref f26)=true)(a27:PySem.W.findIn K (.ref C_Chase) "is_spent" = some (some (.ref f27)))(fn27:PySem.W.isFn K (.ref f27)=true)(l27:K.lookup f27=some ⟨oc27,od27,.func (PySem.W.fnOf "is_spent" "Chase.is_spent" (zaw zaQ) (zas zaQ) (zag zaQ) .none kV27 dc27 pm27 an27 cd27 ct27),sl27⟩)(c27:PySem.W.codeIn K cd27 "Chase.is_spent" = true)(k27:PySem.W.keepIn K (.ref f27)=true)(a28:PySem.W.findIn K (.ref C_Chase) "hunter_lays" = some (some (.ref f28)))(fn28:PySem.W.isFn K (.ref f28)=true)(l28:K.lookup f28=some ⟨oc28,od28,.func (PySem.W.fnOf "hunter_lays" "Chase.hunter_lays" (zaw zaA) (zas zaA) (zag zaA) .none kV28 dc28 pm28 an28 cd28 ct28),sl28⟩)(c28:PySem.W.codeIn K cd28 "Chase.hunter_lays" = true)(k28:PySem.W.keepIn K (.ref f28)=true)(a29:PySem.W.findIn K (.ref C_Chase) "breaths_at" = some (some (.ref f29)))(fn29:PySem.W.isFn K (.ref f29)=true)(l29:K.lookup f29=some ⟨oc29,od29,.func (PySem.W.fnOf "breaths_at" "Chase.breaths_at" (zaw zaM) (zas zaM) (zag zaM) .none kV29 dc29 pm29 an29 cd29 ct29),sl29⟩)(c29:PySem.W.codeIn K cd29 "Chase.breaths_at" = true)(k29:PySem.W.keepIn K (.ref f29)=true){t0:Tok}(q0:PySem.W.nsIn K mainGlobals "MOST_POINTS" = some (some (.int 16 t0)))(z_ValueError:PySem.W.nsIn K mainGlobals "ValueError" = some none)(z_int:PySem.W.nsIn K mainGlobals "int" = some none)(z_isinstance:PySem.W.nsIn K mainGlobals "isinstance" = some none)(z_len:PySem.W.nsIn K mainGlobals "len" = some none)(z_list:PySem.W.nsIn K mainGlobals "list" = some none)(z_range:PySem.W.nsIn K mainGlobals "range" = some none)(z_sorted:PySem.W.nsIn K mainGlobals "sorted" = some none)(z_tuple:PySem.W.nsIn K mainGlobals "tuple" = some none)(xt:zrf K XTB=true)(nl:noL K=true)
  : ∃A:Adr,Txt K mg A/\fa=A.f_law/\∀(s:Shared) (v:Value),BindsTo s A.d_law ⟨[v],[]⟩ [("_law_script",v)]:=by
 have e:=hfa.symm.trans (PySem.W.mg_of X G a23)
 cases e
 have ec_Chase:C_Chase=clOf K "Chase" := by unfold VS.clOf;rw[ac_Chase]
 subst ec_Chase
 have F0:=zaO (st:=za6) l0 c0 k0
 have b0:=F0.binds (ps:=["hand"]) fun _ _ _ _ _ _ us hl=>VS.us1 (fun _=>rfl) us hl
 have F1:=zaO (st:=zbu) l1 c1 k1
 have b1:=F1.binds (ps:=["board", "marks", "start"]) fun _ _ _ _ _ _ us hl=>VS.us3 (fun _ _ _=>rfl) us hl
 have F2:=zaO (st:=zbL) l2 c2 k2
 have b2:=F2.binds (ps:=["board", "marks"]) fun _ _ _ _ _ _ us hl=>VS.us2 (fun _ _=>rfl) us hl
 have F3:=zaO (st:=zda) l3 c3 k3
 have b3:=F3.binds (ps:=["board", "stand", "point"]) fun _ _ _ _ _ _ us hl=>VS.us3 (fun _ _ _=>rfl) us hl
 have F4:=zaO (st:=zeb) l4 c4 k4
 have b4:=F4.binds (ps:=["board", "stand"]) fun _ _ _ _ _ _ us hl=>VS.us2 (fun _ _=>rfl) us hl
 have F5:=zaO (st:=zbE) l5 c5 k5
 have b5:=F5.binds (ps:=["board", "stand", "row"]) fun _ _ _ _ _ _ us hl=>VS.us3 (fun _ _ _=>rfl) us hl
 have F6:=zaO (st:=zaT) l6 c6 k6
 have b6:=F6.binds (ps:=["board", "points"]) fun _ _ _ _ _ _ us hl=>VS.us2 (fun _ _=>rfl) us hl
 have F7:=zaO (st:=zeI) l7 c7 k7
 have b7:=F7.binds (ps:=["board", "stand", "hand", "point"]) fun _ _ _ _ _ _ us hl=>VS.us4 (fun _ _ _ _=>rfl) us hl
 have F8:=zaO (st:=zbM) l8 c8 k8
 have b8:=F8.binds (ps:=["board", "stand", "hand", "points"]) fun _ _ _ _ _ _ us hl=>VS.us4 (fun _ _ _ _=>rfl) us hl
 have F9:=zaO (st:=zbg) l9 c9 k9
 have b9:=F9.binds (ps:=["board", "came", "hand", "points"]) fun _ _ _ _ _ _ us hl=>VS.us4 (fun _ _ _ _=>rfl) us hl
 have F10:=zaO (st:=zcJ) l10 c10 k10
 have b10:=F10.binds (ps:=["board", "came", "hand"]) fun _ _ _ _ _ _ us hl=>VS.us3 (fun _ _ _=>rfl) us hl
 have F11:=zaO (st:=zcq) l11 c11 k11
 have b11:=F11.binds (ps:=["stand", "points", "what"]) fun _ _ _ _ _ _ us hl=>VS.us3 (fun _ _ _=>rfl) us hl
 have F12:=zaO (st:=za7) l12 c12 k12
 have b12:=F12.binds (ps:=["board", "stand", "hand"]) fun _ _ _ _ _ _ us hl=>VS.us3 (fun _ _ _=>rfl) us hl
 have F13:=zaO (st:=zdb) l13 c13 k13
 have b13:=F13.binds (ps:=["board", "stand", "hunter", "point", "most"]) fun _ _ _ _ _ _ us hl=>VS.us5 (fun _ _ _ _ _=>rfl) us hl
 have F14:=zaO (st:=zaZ) l14 c14 k14
 have b14:=F14.binds (ps:=["_law_script", "_law_k"]) fun _ _ _ _ _ _ us hl=>VS.us2 (fun _ _=>rfl) us hl
 have F15:=zaO (st:=zbv) l15 c15 k15
 have b15:=F15.binds (ps:=["_law_cell", "_law_k"]) fun _ _ _ _ _ _ us hl=>VS.us2 (fun _ _=>rfl) us hl
 have F16:=zaO (st:=za1) l16 c16 k16
 have b16:=F16.binds (ps:=["_law_many", "_law_ring"]) fun _ _ _ _ _ _ us hl=>VS.us2 (fun _ _=>rfl) us hl
 have F17:=zaO (st:=zbh) l17 c17 k17
 have b17:=F17.binds (ps:=["_law_many"]) fun _ _ _ _ _ _ us hl=>VS.us1 (fun _=>rfl) us hl
 have F18:=zaO (st:=zbw) l18 c18 k18
 have b18:=F18.binds (ps:=["_law_many", "_law_told"]) fun _ _ _ _ _ _ us hl=>VS.us2 (fun _ _=>rfl) us hl
 have F19:=zaO (st:=za0) l19 c19 k19
 have b19:=F19.binds (ps:=["_law_board", "_law_stand", "_law_hunter", "_law_point", "_law_most"]) fun _ _ _ _ _ _ us hl=>VS.us5 (fun _ _ _ _ _=>rfl) us hl
 have F20:=zaO (st:=zaI) l20 c20 k20
 have b20:=F20.binds (ps:=["_law_cell", "_law_hand", "_law_most"]) fun _ _ _ _ _ _ us hl=>VS.us3 (fun _ _ _=>rfl) us hl
 have F21:=zaO (st:=zaF) l21 c21 k21
 have b21:=F21.binds (ps:=["_law_cell", "_law_hand"]) fun _ _ _ _ _ _ us hl=>VS.us2 (fun _ _=>rfl) us hl
 have F22:=zaO (st:=zaJ) l22 c22 k22
 have b22:=F22.binds (ps:=["_law_cell", "_law_hand", "_law_most"]) fun _ _ _ _ _ _ us hl=>VS.us3 (fun _ _ _=>rfl) us hl
 have F23:=zaO (st:=zh9) l23 c23 k23
 have b23:=F23.binds (ps:=["_law_script"]) fun _ _ _ _ _ _ us hl=>VS.us1 (fun _=>rfl) us hl
 have F24:=zaO (st:=zaP) l24 c24 k24
 have b24:=F24.binds (ps:=["self", "board", "hunter", "point", "most"]) fun _ _ _ _ _ _ us hl=>VS.us5 (fun _ _ _ _ _=>rfl) us hl
 have F25:=zaO (st:=za8) l25 c25 k25
 have b25:=F25.binds (ps:=["self", "came", "deeds"]) fun _ _ _ _ _ _ us hl=>VS.us3 (fun _ _ _=>rfl) us hl
 have F26:=zaO (st:=zbi) l26 c26 k26
 have b26:=F26.binds (ps:=["self", "came", "deeds"]) fun _ _ _ _ _ _ us hl=>VS.us3 (fun _ _ _=>rfl) us hl
 have F27:=zaO (st:=zaQ) l27 c27 k27
 have b27:=F27.binds (ps:=["self", "deeds"]) fun _ _ _ _ _ _ us hl=>VS.us2 (fun _ _=>rfl) us hl
 have F28:=zaO (st:=zaA) l28 c28 k28
 have b28:=F28.binds (ps:=["self", "came"]) fun _ _ _ _ _ _ us hl=>VS.us2 (fun _ _=>rfl) us hl
 have F29:=zaO (st:=zaM) l29 c29 k29
 have b29:=F29.binds (ps:=["self", "stand"]) fun _ _ _ _ _ _ us hl=>VS.us2 (fun _ _=>rfl) us hl
 refine⟨⟨_,_,_,_,_,_,_,_,_,_,_,_,_,_,_,_,_,_,_,_,_,_,_,_,_,_,_,_,_,_,_,_,_,_,_,_,_,_,_,_,_,_,_,_,_,_,_,_,_,_,_,_,_,_,_,_,_,_,_,_⟩,⟨PySem.W.mg_of X G a0,F0,b0,PySem.W.mg_of X G a1,F1,b1,PySem.W.mg_of X G a2,F2,b2,PySem.W.mg_of X G a3,F3,b3,PySem.W.mg_of X G a4,F4,b4,PySem.W.mg_of X G a5,F5,b5,PySem.W.mg_of X G a6,F6,b6,PySem.W.mg_of X G a7,F7,b7,PySem.W.mg_of X G a8,F8,b8,PySem.W.mg_of X G a9,F9,b9,PySem.W.mg_of X G a10,F10,b10,PySem.W.mg_of X G a11,F11,b11,PySem.W.mg_of X G a12,F12,b12,PySem.W.mg_of X G a13,F13,b13,PySem.W.mg_of X G a14,F14,b14,PySem.W.mg_of X G a15,F15,b15,PySem.W.mg_of X G a16,F16,b16,PySem.W.mg_of X G a17,F17,b17,PySem.W.mg_of X G a18,F18,b18,PySem.W.mg_of X G a19,F19,b19,PySem.W.mg_of X G a20,F20,b20,PySem.W.mg_of X G a21,F21,b21,PySem.W.mg_of X G a22,F22,b22,PySem.W.mg_of X G a23,F23,b23,⟨a24,fn24,k24⟩,F24,b24,⟨a25,fn25,k25⟩,F25,b25,⟨a26,fn26,k26⟩,F26,b26,⟨a27,fn27,k27⟩,F27,b27,⟨a28,fn28,k28⟩,F28,b28,⟨a29,fn29,k29⟩,F29,b29,⟨pg_Chase,hd_Chase,po_Chase,sa_Chase⟩,⟨mi_Chase,a24,fn24,kc_Chase⟩,PySem.W.mg_of X G ac_Chase,na_Chase_hunter,na_Chase_joined,na_Chase_most,na_Chase_runner,na_Chase_stone,⟨_,PySem.W.mg_of X G q0⟩,PySem.W.mg_none_of X G z_ValueError,PySem.W.mg_none_of X G z_int,PySem.W.mg_none_of X G z_isinstance,PySem.W.mg_none_of X G z_len,PySem.W.mg_none_of X G z_list,PySem.W.mg_none_of X G z_range,PySem.W.mg_none_of X G z_sorted,PySem.W.mg_none_of X G z_tuple,zrg X G xt,nl⟩,rfl,fun s v=>.of_eq rfl⟩
end K40
namespace K40
open L2 VS
def FU:Nat:=1000
local macro_rules|`(tactic| trivial)=>`(tactic| repeat' (first
 | with_reducible (refine zam (by repeat (first|exact SetAt.zero|apply SetAt.succ)) ?_)
 | with_reducible (refine id (α:=_=some (R.ok _ _)) ?_;assumption)
 | (with_reducible apply zae);rfl
 | with_reducible exact zaK
 | with_reducible apply zaH
 | with_reducible apply zhb
 | with_reducible apply zaL
 | with_reducible apply zeC
 | with_reducible apply zay
 | with_reducible apply zac
 | with_reducible exact zaj
 | with_reducible apply zcf
 | with_reducible apply zjs
 | with_reducible apply zfP
 | with_reducible apply zbX
 | with_reducible exact ev_yes
 | with_reducible apply zpi
 | with_reducible apply zkY
 | with_reducible apply zjt
 | with_reducible exact eqI0
 | with_reducible exact eqE0
 | with_reducible exact eqE1
 | with_reducible exact eqEN0
 | with_reducible exact eqEN1
 | with_reducible exact zsx
 | with_reducible exact inS0
 | with_reducible exact inS1
 | with_reducible exact inSL0
 | with_reducible exact inSL1
 | with_reducible exact inL0
 | with_reducible exact inL1
 | with_reducible (apply inC0;assumption)
 | with_reducible (apply inC1;assumption)
 | with_reducible (apply dinC0;assumption)
 | with_reducible (apply zq9;assumption)
 | ((with_reducible apply lcFyI);trivial;done)
 | with_reducible apply zp1
 | with_reducible apply zrQ
 | with_reducible apply zq8
 | with_reducible apply lcF
 | with_reducible apply zrP
 | with_reducible apply lcC
 | with_reducible apply zh1
 | with_reducible apply zgo
 | with_reducible apply zjx
 | with_reducible apply zpm
 | with_reducible apply zjy
 | with_reducible apply SrcFix.is
 | with_reducible (refine id (α:=LstOf _ _ _) ?_;first|assumption|exact .fr _|exact .cl (by assumption))
 | with_reducible apply zh0
 | with_reducible apply zph
 | with_reducible apply zd3
 | with_reducible apply zbf
 | with_reducible apply zaU
 | with_reducible apply zk1
 | with_reducible exact lf_isB0
 | with_reducible exact lf_isB1
 | with_reducible exact eqB0
 | with_reducible exact eqB1
 | with_reducible exact isiB
 | with_reducible exact lf_all
 | with_reducible (apply zm8;assumption)
 | with_reducible exact zm1
 | with_reducible apply zjq
 | with_reducible apply zjr
 | with_reducible apply ev_ifE
 | with_reducible apply zpk
 | with_reducible apply run_set
 | with_reducible apply zax
 | with_reducible apply zfO
 | with_reducible apply ze0
 | with_reducible apply zg0
 | with_reducible apply zav
 | with_reducible apply zlQ
 | with_reducible apply zm2
 | with_reducible apply zbo
 | with_reducible apply seq_seq
 | with_reducible apply za2
 | with_reducible apply zcH
 | with_reducible (refine id (α:=_=_) ?_;assumption)
 | (refine id (α:=(_:Nat)<_) ?_;first|assumption|omega)
 | (refine id (α:=(_:Nat)<=_) ?_;first|assumption|omega|decide|(simp only[List.length_cons,List.length_nil];decide))
 | with_reducible (apply zpl;first|assumption|omega)
 | with_reducible (apply zcV;first|assumption|omega)
 | with_reducible (apply zlR;first|assumption|omega)
 | with_reducible (apply lf_ixC;assumption;first|assumption|omega)
 | with_reducible (apply zcx;assumption)
 | with_reducible (apply zjv;assumption;first|assumption|omega)
 | with_reducible (apply lf_sortCF;assumption;first|assumption|omega)
 | with_reducible (apply tupCN;assumption;first|assumption|omega)
 | with_reducible (apply tupCB;assumption;first|assumption|omega)
 | with_reducible (apply zm5;assumption;first|assumption|omega)
 | with_reducible (apply tupLN;first|assumption|omega)
 | with_reducible (apply zm6;first|assumption|omega)
 | with_reducible (apply tupLS;first|assumption|omega)
 | ((with_reducible apply zbY);rfl;rfl;first|assumption|exact mul_small (.inr (by omega))|exact mul_small (.inl (by omega)))
 | with_reducible (apply lf_listL;first|assumption|omega)
 | with_reducible (apply lf_sortS;first|assumption|omega)
 | with_reducible exact eqLL0
 | with_reducible exact eqLL1
 | with_reducible (apply eqLC1;assumption)
 | with_reducible (apply eqSC1;assumption)
 | with_reducible exact ze2
 | with_reducible exact lf_lenS
 | with_reducible exact zju
 | with_reducible (apply lf_lenC;assumption)
 | intro _
 | ((with_reducible apply zgp)<;>rfl)
 | ((with_reducible apply zjA)<;>rfl)
 | ((with_reducible apply zjB)<;>rfl)
 | ((with_reducible apply lf_fLe)<;>rfl)
 | ((with_reducible apply lf_fGt)<;>rfl)
 | ((with_reducible apply lf_fGe)<;>rfl)
 | ((with_reducible apply zgq)<;>rfl)
 | ((with_reducible apply lf_fNeI)<;>rfl)
 | ((with_reducible apply lf_fNeg);rfl)
 | ((with_reducible apply zpn);rfl)
 | with_reducible exact isiN
 | with_reducible exact isiNB
 | with_reducible exact isiI
 | with_reducible exact isiIB
 | ((with_reducible apply lf_min)<;>rfl)
 | ((with_reducible apply lf_max)<;>rfl)
 | ((with_reducible apply zgr);rfl;rfl;omega)
 | ((with_reducible apply zjC);rfl;rfl;omega)
 | (refine id (α:=(_:Nat)=_) ?_;rfl)
 | with_reducible rfl))
def rC(r:List Nat):C:=.lst (r.map nW)
def upR(rows:List (List Nat))(p q:Nat):List (List Nat):=rows.set p (rows.getD p []++[q])
def zl1(rows:List (List Nat))(p q:Nat):List (List Nat):=upR (upR rows p q) q p
theorem zgz(rows:List (List Nat))(p q:Nat):(upR rows p q).length=rows.length:=by simp[upR]
theorem zhd(rows:List (List Nat))(p q:Nat):(zl1 rows p q).length=rows.length:=by simp[zl1,zgz]
theorem zdg{rows:List (List Nat)}{p:Nat}(hp:p<rows.length)(q i:Nat):(upR rows p q).getD i []=if i=p then rows.getD p []++[q] else rows.getD i []:=by
 unfold upR
 simp only[List.getD_eq_getElem?_getD]
 by_cases h:i=p
 ·subst h;simp[hp]
 ·rw[List.getElem?_set_ne (Ne.symm h)];simp[h]
structure Rows (n:Nat) (rows:List (List Nat)):Prop where
 len:rows.length=n
 bd:∀i j,j∈rows.getD i []->j<n
 sym:∀i j,j∈rows.getD i []->i∈rows.getD j []
section
variable {ce:Ce} {n mS:Nat} {rows:List (List Nat)} {gs:Ce}
abbrev zjP(ce:Ce)(n:Nat):W:=.lst ((List.range n).map fun i=>W.cel (ce.length+i))
abbrev bC(ce:Ce)(rows:List (List Nat))(gs:Ce):Ce:=ce++(rows.map rC++gs)
theorem zl2{p:Nat}(hp:p<rows.length):(bC ce rows gs)[ce.length+p]?=some (rC (rows.getD p [])):=by
 rw[zp0,List.getElem?_append_left (by simpa using hp),List.getElem?_map,List.getD_eq_getElem?_getD]
 simp[hp]
theorem zpC{p q:Nat}(hp:p<rows.length):(bC ce rows gs).set (ce.length+p) (.lst ((rows.getD p []).map nW++[nW q]))=bC ce (upR rows p q) gs:=by
 rw[zrv,List.set_append_left _ _ (by simpa using hp)]
 show _=ce++((rows.set p (rows.getD p []++[q])).map rC++gs)
 rw[List.map_set]
 have e:C.lst ((rows.getD p []).map nW++[nW q])=rC (rows.getD p []++[q]):=by simp only[rC,List.map_append,List.map_cons,List.map_nil]
 rw[e]
theorem zpD(c:Ce){p:Nat}(hp:p<n):ixW c (zjP ce n) (nW p)=some (W.cel (ce.length+p)):=by
 rw[zjl (xs:=(List.range n).map fun i=>W.cel (ce.length+i)) rfl,List.getElem?_map]
 simp[hp]
theorem zid{p:Nat}(hp:p<rows.length)(h:(rows.getD p []).length<=60)(cs:Sl):dBi zbz (zad (dBi (za5 zb6) (zad (zah 0) zao)) zao) (some (W.cel (ce.length+p))::cs) (bC ce rows gs)=some (.ok (wT (zce (rows.getD p []))) (bC ce rows gs)):=by
 have g:=zl2 (ce:=ce) (gs:=gs) hp
 have hz:(61:Nat)<PySem.sizeLine:=by decide
 have l1:(srt (toI (rows.getD p []))).length=(rows.getD p []).length:=by rw[(zbk _).length_eq,zbK]
 have so:za5 zb6 [W.cel (ce.length+p)] (bC ce rows gs)=some (.ok (.lst ((zce (rows.getD p [])).map nW)) (bC ce rows gs)):=by
  simp only[za5,zcx (xs:=(rows.getD p []).map nW) g,zgX,zbK]
  rw[if_pos (by omega),zji _ (by rw[List.length_map,l1];omega),zdC]
 have tu:zbz [.lst ((zce (rows.getD p [])).map nW)] (bC ce rows gs)=some (.ok (wT (zce (rows.getD p []))) (bC ce rows gs)):=by
  have e:((zce (rows.getD p [])).map nW).length=(rows.getD p []).length:=by rw[<- zdC,List.length_map,l1]
  show zoM _ _=_
  rw[zo6 _ (by rw[e];omega)]
  rfl
 generalize bC ce rows gs=c1 at *
 simp only[zq3,zo3,zmX,zlK,List.getElem?_cons_zero,zo5,zqY,so,tu]
theorem zfZ(hr:rows.length=n)(h36:n<=36)(h:∀i,(rows.getD i []).length<=60){sl:Sl}(h4:sl[mS]?=some (some (zjP ce n))) :
  dLC zb6 [] (dIL (zah mS)) zeS (dBi zbz (zad (dBi (za5 zb6) (zad (zah 0) zao)) zao)) sl (bC ce rows gs)=some (.ok (.lst (((List.range n).map fun i=>zce (rows.getD i [])).map wT)) (bC ce rows gs)):=by
 have hz:=zfk
 have hi:dIL (zah mS) sl (bC ce rows gs)=some (.ok (.lst ((List.range n).map fun i=>W.cel (ce.length+i))) (bC ce rows gs)):=by
  show bnd (zah mS sl) (fun w=>look fun ce=>zgT ce w) (bC ce rows gs)=_
  rw[zbF (a:=zjP ce n) (ce':=bC ce rows gs) (by simp only[zlK,h4])]
  rfl
 obtain⟨zs,e,pz⟩:=zpc (mk:=zb6) (js:=[]) (s:=.lst ((List.range n).map fun i=>W.cel (ce.length+i))) (e:=dBi zbz (zad (dBi (za5 zb6) (zad (zah 0) zao)) zao)) hi trivial (fun x y=>∃i,i<n/\x=W.cel (ce.length+i)/\y=wT (zce (rows.getD i []))) (fun x hx=>by
  simp only[Src.items,List.mem_map,List.mem_range] at hx
  obtain⟨i,hi,rfl⟩:=hx
  exact⟨_,⟨i,hi,rfl,rfl⟩,zid (by omega) (h i) _⟩) (by simp only[Src.items,List.length_map,List.length_range];omega)
 rw[e]
 obtain⟨hl,hn⟩:=VS.Paired.nth pz
 simp only[Src.items,List.length_map,List.length_range] at hl
 have ez:zs=((List.range n).map fun i=>zce (rows.getD i [])).map wT:=by
  apply List.ext_getElem?
  intro i
  by_cases hi:i<n
  ·have h1:((List.range n).map fun i=>W.cel (ce.length+i))[i]?=some (W.cel (ce.length+i)):=by simp[hi]
   have h2:zs[i]?=some (zs[i]'(by omega)):=List.getElem?_eq_getElem _
   obtain⟨j,_,q1,q2⟩:=hn i _ _ h1 h2
   have hij:i=j:=by
    injection q1 with q1
    omega
   subst hij
   rw[h2,q2]
   simp[hi]
  ·rw[List.getElem?_eq_none (by omega),List.getElem?_eq_none (by simp;omega)]
 rw[zji _ (by rw[<- hl];omega),ez]
theorem zlj{di:Sl->M Src}{sl:Sl}(hi:di sl ce=some (.ok (.rng 0 n) ce))(h36:n<=36):dLC zb6 [] di zeS (zcb zao) sl ce=some (.ok (zjP ce n) (bC ce (List.replicate n []) [])):=by
 have hz:=zfk
 show bnd (di sl) (fun s=>bnd (lcL s (zdn [] sl) zeS (zcb zao) s.items []) zb6) ce=_
 have al:=zfN (s:=.rng 0 n) (cs:=zdn [] sl) (fun _=>trivial) (Src.rng 0 n).items [] ce (by rw[zd2];simp;omega)
 rw[zbF hi,zbF al,zd2,zji _ (by simp;omega)]
 simp[bC,rC,zjP]
end
theorem zie{fin:Ce->Ce->W->Option (R W)}{n:Nat}{body:DS}{ws:List W}{ce:Ce}{P:W->Ce->Prop}(sl:Sl)(e:ws.map some++List.replicate (n-ws.length) none=sl)(h:Run body sl ce (Rt fun v ce'=>∃w c',fin ce ce' v=some (.ok w c')/\P w c')):∃w c',dFn fin n body ws ce=some (.ok w c')/\P w c':=by
 subst e
 obtain⟨o,e,q⟩:=h
 cases o with
 | ex x c=>exact q.elim
 | go f sl c=>cases f with
  | rt w =>
   obtain⟨w',c',h1,h2⟩:=q
   exact⟨w',c',zlO e h1,h2⟩
  | nx=>exact q.elim
  | bk=>exact q.elim
  | ct=>exact q.elim
theorem zjQ{d r:List Nat}{p n:Nat}(e:d++p::r=List.range n):d=List.range p:=by
 have hl:d.length<n:=by have:=congrArg List.length e;simp at this;omega
 have h1:(List.range n)[d.length]?=some p:=by rw[<- e];simp
 rw[List.getElem?_range hl] at h1
 cases h1
 have h2:(List.range n).take d.length=d:=by rw[<- e];simp
 rw[<- h2,List.take_range,Nat.min_eq_left (Nat.le_of_lt hl)]
 simp
structure LsOk (n:Nat) (ls:List (Nat×Nat)):Prop where
 nd:ls.Nodup
 lt:∀p∈ls,p.1<p.2/\p.2<n
theorem zdh{sl:Sl}{ce c1 c2:Ce}{a b:Sl->M W}{x y:W}{xs ys:List W}(ha:a sl ce=some (.ok x c1))(hb:b sl c1=some (.ok y c2))(hx:zdX c2 x=some xs)(hy:zdX c2 y=some ys)(hz:xs.length+ys.length<=PySem.sizeLine) :
  zja zb6 a b sl ce=some (.ok (.lst (xs++ys)) c2):=by
 simp only[zja,bnd,ha,hb,zqQ,hx,hy,if_pos hz]
 exact ze1 (by rw[List.length_append];exact hz)
def adj(ls:List (Nat×Nat))(i:Nat):List Nat:=ls.filterMap fun p=>if p.1=i then some p.2 else if p.2=i then some p.1 else none
theorem zff{ls:List (Nat×Nat)}{n:Nat}(h:LsOk n ls){i j:Nat}:j∈adj ls i↔(i,j)∈ls\/(j,i)∈ls:=by
 unfold adj
 rw[List.mem_filterMap]
 constructor
 ·rintro⟨⟨a,b⟩,hp,e⟩
  simp only at e
  split at e
  ·cases e;rename_i h1;subst h1;exact .inl hp
  ·split at e
   ·cases e;simp_all
   ·cases e
 ·rintro(hp|hp)
  ·exact⟨(i,j),hp,by simp⟩
  ·have:=(h.lt _ hp).1
   simp only at this
   refine⟨(j,i),hp,?_⟩
   simp only
   rw[if_neg (by omega)]
   simp
theorem zl3{ls:List (Nat×Nat)}{n:Nat}(h:LsOk n ls)(i:Nat):(adj ls i).Nodup:=by
 unfold adj
 refine List.Pairwise.filterMap _ ?_ (List.Pairwise.and_mem.mp h.nd)
 rintro⟨a,b⟩ ⟨c,d⟩ ⟨h1,h2,hne⟩ x hx y hy e
 subst e
 have l1:=(h.lt _ h1).1
 have l2:=(h.lt _ h2).1
 simp only at hx hy l1 l2
 apply hne
 split at hx<;>split at hy
 ·cases hx;cases hy;simp_all
 ·split at hy
  ·cases hx;cases hy;simp_all;omega
  ·cases hy
 ·split at hx
  ·cases hx;cases hy;simp_all;omega
  ·cases hx
 ·split at hx
  ·split at hy
   ·cases hx;cases hy;simp_all
   ·cases hy
  ·cases hx
theorem zhe{ls:List (Nat×Nat)}{n:Nat}(h:LsOk n ls){i j:Nat}(hj:j∈adj ls i):j<n/\i<n:=by
 rcases(zff h).mp hj with hp|hp<;>(have:=h.lt _ hp;simp only at this;omega)
def zdr(n:Nat)(ls:List (Nat×Nat)):List (List Nat):=(List.range n).map fun i=>zce (adj ls i)
theorem zdJ(n:Nat)(ls:List (Nat×Nat))(i:Nat):(zdr n ls).getD i []=if i<n then zce (adj ls i) else []:=by
 unfold zdr
 rw[List.getD_eq_getElem?_getD,List.getElem?_map]
 by_cases h:i<n
 ·simp[h]
 ·rw[List.getElem?_eq_none (by simp;omega)];simp[h]
structure Brd (b:List (List Nat)):Prop where
 bd:Bd b
 sym:Sym b
 h36:b.length<=36
 pos:0<b.length
 row:∀i,(b.getD i []).length<=36
 srt:∀i,zce (b.getD i [])=b.getD i []
theorem zif{l m:List Nat}(h:l.Perm m):zce l=zce m:=by unfold zce;rw[zjk h]
theorem zjR(l:List Nat):(zce l).Perm l:=by
 have h:(zce l).Perm ((toI l).map Int.toNat):=(zbk (toI l)).map _
 have e:(toI l).map Int.toNat=l:=by
  unfold toI
  rw[List.map_map]
  conv=>rhs;rw[<- List.map_id l]
  apply List.map_congr_left
  intro x _
  simp
 rwa [e] at h
theorem zjS(l:List Nat):zce (zce l)=zce l:=zif (zjR l)
theorem bdOf_ok{n:Nat}{ls:List (Nat×Nat)}(h:LsOk n ls)(h0:0<n)(h36:n<=36):Brd (zdr n ls):=by
 have hl:(zdr n ls).length=n:=by simp[zdr]
 refine⟨fun r hr x hx=>?_,fun i j hj=>?_,by omega,by omega,fun i=>?_,fun i=>?_⟩
 ·obtain⟨i,hi,rfl⟩:=List.mem_map.mp hr
  rw[hl]
  exact(zhe h ((zdD _ _).mp hx)).1
 ·rw[zdJ] at hj ⊢
  split at hj
  ·have hj:=(zdD _ _).mp hj
   rw[if_pos (zhe h hj).1]
   exact(zdD _ _).mpr ((zff h).mpr ((zff h).mp hj).symm)
  ·simp at hj
 ·rw[zdJ]
  split
  ·rw[zdF]
   exact Nat.le_trans (zaX (zl3 h i) fun x hx=>(zhe h hx).1) h36
  ·simp
 ·rw[zdJ]
  split
  ·exact zjS _
  ·exact List.length_eq_zero_iff.mp (zdF [])
theorem znx(d:List (Nat×Nat))(p q i:Nat)(hpq:p≠q):adj (d++[(p,q)]) i=adj d i++((if i=p then [q] else [])++(if i=q then [p] else [])):=by
 unfold adj
 rw[List.filterMap_append]
 congr 1
 by_cases h1:i=p
 ·subst h1
  have:¬i=q:=hpq
  simp[this]
 ·by_cases h2:i=q
  ·subst h2
   simp[h1,hpq]
  ·have h1':¬p=i:=fun e=>h1 e.symm
   have h2':¬q=i:=fun e=>h2 e.symm
   simp[h1,h2,h1',h2']
theorem zhf(n:Nat)(d:List (Nat×Nat)){p q:Nat}(hp:p<n)(hq:q<n)(hpq:p≠q):zl1 ((List.range n).map (adj d)) p q=(List.range n).map (adj (d++[(p,q)])):=by
 have gd:∀(e:List (Nat×Nat)) (i:Nat),i<n->((List.range n).map (adj e)).getD i []=adj e i:=fun e i hi=>by simp[List.getD_eq_getElem?_getD,hi]
 apply List.ext_getElem?
 intro i
 by_cases hi:i<n
 ·have e1:∀(l:List (List Nat)),l.length=n->l[i]?=some (l.getD i []):=fun l hl=>by
   rw[List.getD_eq_getElem?_getD,List.getElem?_eq_getElem (by omega)];rfl
  rw[e1 _ (by rw[zhd];simp),e1 _ (by simp),gd _ i hi,znx d p q i hpq]
  unfold zl1
  rw[zdg (by rw[zgz];simpa using hq),zdg (by simpa using hp),zdg (by simpa using hp),gd _ _ hp,gd _ _ hq,gd _ _ hi]
  congr 1
  by_cases h1:i=q
  ·subst h1
   rw[if_pos rfl,if_neg (Ne.symm hpq),if_pos rfl,if_neg (Ne.symm hpq)]
   simp
  ·rw[if_neg h1,if_neg h1]
   by_cases h2:i=p
   ·subst h2;simp
   ·simp[h2]
 ·rw[List.getElem?_eq_none (by rw[zhd];simp;omega),List.getElem?_eq_none (by simp;omega)]
section
variable {b:List (List Nat)} {mk:W} {vl:Nat->Int} {s:Nat} {ce:Ce}
def Mk(b:List (List Nat))(mk:W)(vl:Nat->Int):Prop:=∀(ce:Ce) (x y:Nat),x<b.length->y<b.length->∃wx wy,ixW ce mk (nW x)=some wx/\ixW ce mk (nW y)=some wy/\eqW false ce wx wy=some (.bl (decide (vl x=vl y)))
theorem zrS{is:List Int}(h:is.length=b.length):Mk b (wS is) (fun x=>is.getD x 0):=fun ce x y hx hy=>⟨_,_,zcV (by omega),zcV (by omega),eqI0⟩
theorem zeh(fu:Nat)(hfu:200<=fu)(hm:Mk b mk vl)(hb:Bd b)(h36:b.length<=36)(hs:s<b.length) :
  d_patch_of fu [wB b,mk,nW s] ce=some (.ok (.cel ce.length) (ce++[.lst ((cpt b vl s).map nW)])):=by
 have hz:=zfk
 unfold d_patch_of
 refine zbC [some (wB b),some mk,some (nW s),none,none,none,none] rfl ?_
 trivial
 have O0:=((Own.start ce).alloc (C.dct (kvs [s]))).alloc (C.lst ([s].map nW))
 refine(?_:Run _ _ ((ce++[C.dct (kvs [s])])++[C.lst ([s].map nW)]) _)
 generalize h4:(ce++[C.dct (kvs [s])]).length=k4 at O0
 have h4':∀x:Key×W,(ce++[C.dct [x]]).length=k4:=fun x=>by rw[<- h4];simp
 rw[h4']
 generalize h3:ce.length=k3 at O0 ⊢
 generalize (ce++[C.dct (kvs [s])])++[C.lst ([s].map nW)]=c0 at O0 ⊢
 refine zjD (σ:=List Nat×List Nat) (fun st sl c=>∃x5 x6,sl=[some (wB b),some mk,some (nW s),some (.cel k3),some (.cel k4),x5,x6]/\Own ce c [(k4,C.lst (st.2.map nW)),(k3,C.dct (kvs st.1))]/\st.1.Nodup/\s∈st.1/\(∀x∈st.1,x<b.length)/\(∀x∈st.2,x∈st.1)/\st.2.length<=st.1.length/\(∀x∈st.1,Reach b (okV vl s) s x)/\∀x∈st.1,x∉st.2->∀y∈b.getD x [],okV vl s y->y∈st.1)
  (fun st=>st.2.length+2*(36-st.1.length)) ([s],[s]) ⟨_,_,rfl,O0,by simp,by simp,by simpa using hs,by simp,by simp,by simpa using Reach.refl,by simp⟩ (by show [s].length+2*(36-[s].length)<fu;simp;omega) ?_
 rintro⟨F,Wt⟩ sl c ⟨x5,x6,rfl,O,nd,hsF,lt,sub,hW,re,cl⟩
 have g4:=O.g0
 have g3:=O.g1
 dsimp only at g4 g3 O nd hsF lt sub hW re cl
 have hF36:F.length<=36:=Nat.le_trans (zaX nd lt) h36
 refine⟨!(Wt.map nW).isEmpty,by trivial,fun q=>?_,fun q=>?_⟩
 ·rcases List.eq_nil_or_concat Wt with rfl|⟨W0,p,hWt⟩
  ·simp at q
  ·rw[List.concat_eq_append] at hWt
   subst hWt
   have hpF:p∈F:=sub p (by simp)
   have hp:=lt p hpF
   have pp:=zpp (ys:=W0.map nW) (y:=nW p) g4 (by simp)
   have O1:=O.set0 (C.lst (W0.map nW))
   generalize c.set k4 (C.lst (W0.map nW))=c1 at O1 pp
   unfold zd9
   trivial
   refine ze4 (zs:=b.getD p []) (en:=nW) (zjx (by trivial)) (fun d sl c=>∃new x6,sl=[some (wB b),some mk,some (nW s),some (.cel k3),some (.cel k4),some (nW p),x6]/\Own ce c [(k4,C.lst ((W0++new).map nW)),(k3,C.dct (kvs (F++new)))]/\(F++new).Nodup/\(∀x∈new,x∈b.getD p []/\okV vl s x)/\∀x∈d,okV vl s x->x∈F++new)
    ⟨[],x6,rfl,by simpa using O1,by simpa using nd,by simp,by simp⟩ ?_ ?_
   ·rintro d y r sl c e hy ⟨new,x6,rfl,O,nd2,hnew,hd⟩
    have g4:=O.g0
    have g3:=O.g1
    have gd:=zjj g3
    have hy':=hb.get hy
    obtain⟨wx,wy,i1,i2,q1⟩:=hm c y s hy' hs
    have lt2:∀x∈F++new,x<b.length:=fun x hx=>by
     rcases List.mem_append.mp hx with hx|hx
     ·exact lt x hx
     ·exact hb.get (hnew x hx).1
    have hl2:=zaX nd2 lt2
    have hk:(kvs (F++new)).length<PySem.sizeLine:=by rw[zc6];omega
    have hw:((W0++new).map nW).length<PySem.sizeLine:=by
     rw[List.length_map,List.length_append]
     rw[List.length_append] at hl2
     simp only[List.length_append,List.length_cons,List.length_nil] at hW
     omega
    unfold zd8
    refine zg0 (p:=!decide (y∈F++new)&&decide (vl y=vl s)) (ce':=c) (by trivial) (fun q=>?_) (fun q=>?_)
    ·simp only[Bool.and_eq_true,Bool.not_eq_true',decide_eq_false_iff_not,decide_eq_true_eq] at q
     have O2:=O.set1 (C.dct (zhS (kvs (F++new)) (.inl (y:Int)) (.bl true)))
     rw[zgm _ _ q.1] at O2
     have g4:=O2.g0
     have e1:C.dct (kvs (F++new++[y]))=C.dct (zhS (kvs (F++new)) (.inl (y:Int)) (.bl true)):=by rw[zgm _ _ q.1]
     rw[e1] at g4
     trivial
     refine⟨new++[y],_,rfl,?_,?_,fun x hx=>?_,fun x hx o=>?_⟩
     ·have e2:(W0++(new++[y])).map nW=(W0++new).map nW++[nW y]:=by simp
      rw[<- e1,e2,<- List.append_assoc]
      exact O2.set0 _
     ·rw[<- List.append_assoc,List.nodup_append]
      exact⟨nd2,by simp,fun a ha c hc=>by rw[List.mem_singleton] at hc;subst hc;intro e;subst e;exact q.1 ha⟩
     ·rcases List.mem_append.mp hx with hx|hx
      ·exact hnew x hx
      ·rw[List.mem_singleton] at hx;subst hx;exact⟨hy,q.2⟩
     ·rw[<- List.append_assoc]
      rcases List.mem_append.mp hx with hx|hx
      ·exact List.mem_append_left _ (hd x hx o)
      ·rw[List.mem_singleton] at hx;subst hx;simp
    ·trivial
     refine⟨new,_,rfl,O,nd2,hnew,fun x hx o=>?_⟩
     rcases List.mem_append.mp hx with hx|hx
     ·exact hd x hx o
     ·rw[List.mem_singleton] at hx
      subst hx
      have o':vl x=vl s:=o
      simp only[o',decide_true,Bool.and_true,Bool.not_eq_false',decide_eq_true_eq] at q
      exact q
   ·rintro sl c ⟨new,x6,rfl,O,nd2,hnew,hd⟩
    have lt2:∀x∈F++new,x<b.length:=fun x hx=>by
     rcases List.mem_append.mp hx with hx|hx
     ·exact lt x hx
     ·exact hb.get (hnew x hx).1
    have hl2:=zaX nd2 lt2
    simp only[List.length_append] at hl2
    simp only[List.length_append,List.length_cons,List.length_nil] at hW
    refine⟨(F++new,W0++new),?_,_,_,rfl,O,nd2,List.mem_append_left _ hsF,lt2,fun x hx=>?_,?_,fun x hx=>?_,fun x hx hn y hy o=>?_⟩
    ·show(W0++new).length+2*(36-(F++new).length)<(W0++[p]).length+2*(36-F.length)
     simp only[List.length_append,List.length_cons,List.length_nil]
     omega
    ·rcases List.mem_append.mp hx with hx|hx
     ·exact List.mem_append_left _ (sub x (by simp[hx]))
     ·exact List.mem_append_right _ hx
    ·show(W0++new).length<=(F++new).length
     simp only[List.length_append]
     omega
    ·rcases List.mem_append.mp hx with hx|hx
     ·exact re x hx
     ·exact(re p hpF).step (hnew x hx).1 (hnew x hx).2
    ·rcases List.mem_append.mp hx with hx|hx
     ·by_cases hxp:x=p
      ·subst hxp;exact hd y hy o
      ·exact List.mem_append_left _ (cl x hx (fun q=>by rcases List.mem_append.mp q with q|q;exact hn (List.mem_append_left _ q);exact hxp (by simpa using q)) y hy o)
     ·exact absurd (List.mem_append_right _ hx) hn
 ·have hW0:Wt=[]:=by simpa using q
  subst hW0
  have comp:Comp b (okV vl s) s F:=⟨nd,hsF,lt,fun x hx y hy o=>cl x hx (by simp) y hy o,re⟩
  trivial
  ·rw[zg1 g3 (by omega),zc7 (by rw[List.length_map,zdF];omega)]
  ·rw[znc comp]
   subst h3
   exact(O.alloc _).finO (by simp only[zgk];exact bels_nW _ _)
theorem zpE(fu:Nat)(hfu:200<=fu)(hm:Mk b mk vl)(hb:Bd b)(h36:b.length<=36)(hs:s<b.length):zcP (d_patch_of fu) [wB b,mk,nW s] ce=some (.ok (wL (cpt b vl s)) ce) :=
 zbW (zeh fu hfu hm hb h36 hs) (bels_nW _ _)
end
section
variable {b:List (List Nat)} {mk:W} {vl:Nat->Int} {s:Nat} {ce:Ce}
theorem zig(fu:Nat)(hfu:200<=fu)(hm:Mk b mk vl)(hb:Bd b)(sym:Sym b)(h36:b.length<=36) :
  d_patches fu [wB b,mk] ce=some (.ok (.cel ce.length) (ce++[.lst ((ptc b vl).map wL)])):=by
 have hz:=zfk
 unfold d_patches
 refine zbC [some (wB b),some mk,none,none,none,none,none] rfl ?_
 trivial
 have O0:=((Own.start ce).alloc (C.dct (kvs []))).alloc (C.lst [])
 refine(?_:Run _ _ ((ce++[C.dct (kvs [])])++[C.lst []]) _)
 generalize h3:(ce++[C.dct []]).length=k3
 have h3':(ce++[C.dct (kvs [])]).length=k3:=h3
 rw[h3'] at O0
 generalize h2:ce.length=k2 at O0 ⊢
 generalize (ce++[C.dct (kvs [])])++[C.lst []]=c0 at O0 ⊢
 have hl':b.length<=1000:=by omega
 refine zcW (zs:=List.range b.length) (en:=nW) (zh1 (by trivial) hl')
  (fun d sl c=>∃S x4 x5 x6,sl=[some (wB b),some mk,some (.cel k2),some (.cel k3),x4,x5,x6]/\Own ce c [(k3,C.lst (((d.filter (zbr b vl)).map (cpt b vl)).map wL)),(k2,C.dct (kvs S))]/\S.Nodup/\(∀x∈S,x<b.length)/\∀x,x∈S↔∃y∈d,x∈cpt b vl y)
  ⟨[],_,_,_,rfl,O0,by simp,by simp,by simp⟩ ?_ ?_
 ·rintro d p r sl c e hp ⟨S,x4,x5,x6,rfl,O,nd,lt,mem⟩
  have hp':p<b.length:=List.mem_range.mp hp
  have hd:=zjQ e
  have g3:=O.g0
  have g2:=O.g1
  have key:p∈S↔¬zbr b vl p=true:=by
   rw[mem]
   constructor
   ·rintro⟨y,hy,hpy⟩ hl
    rw[hd] at hy
    have hy':=List.mem_range.mp hy
    unfold zbr at hl
    rw[List.all_eq_true] at hl
    have:=of_decide_eq_true (hl y (zg4 hb sym (by omega) hpy))
    omega
   ·intro hl
    unfold zbr at hl
    rw[List.all_eq_true] at hl
    obtain⟨y,hy⟩:=Classical.not_forall.mp hl
    obtain⟨hy,hn⟩:=Classical.not_imp.mp hy
    have hn':¬p<=y:=fun q=>hn (decide_eq_true q)
    exact⟨y,by rw[hd];exact List.mem_range.mpr (by omega),zg4 hb sym hp' hy⟩
  unfold zeG
  have hdl:d.length<b.length:=by have:=congrArg List.length e;simp at this;omega
  have hm3:(((d.filter (zbr b vl)).map (cpt b vl)).map wL).length<PySem.sizeLine:=by simp only[List.length_map];have:=List.length_filter_le (zbr b vl) d;omega
  have e1:=fun c=>zpE (ce:=c) fu hfu hm hb h36 hp'
  have e1c:=e1 c
  trivial
  ·rename_i q
   have q':p∉S:=by simpa using q
   have hl:zbr b vl p=true:=Classical.byContradiction fun h=>q' (key.mpr h)
   have O1:=O.set0 (C.lst (((d.filter (zbr b vl)).map (cpt b vl)).map wL++[wL (cpt b vl p)]))
   generalize c.set k3 (C.lst (((d.filter (zbr b vl)).map (cpt b vl)).map wL++[wL (cpt b vl p)]))=c1 at O1 ⊢
   have ef:((d++[p]).filter (zbr b vl)).map (cpt b vl)=(d.filter (zbr b vl)).map (cpt b vl)++[cpt b vl p]:=by rw[List.filter_append,List.filter_cons_of_pos hl];simp
   refine ze4 (zs:=cpt b vl p) (en:=nW) (zgo (by trivial)) (fun d' sl c=>∃S' x6,sl=[some (wB b),some mk,some (.cel k2),some (.cel k3),some (nW p),some (wL (cpt b vl p)),x6]/\Own ce c [(k3,C.lst ((((d++[p]).filter (zbr b vl)).map (cpt b vl)).map wL)),(k2,C.dct (kvs S'))]/\S'.Nodup/\(∀x∈S',x<b.length)/\∀x,x∈S'↔x∈S\/x∈d')
    ⟨S,x6,rfl,by rw[ef,List.map_append];exact O1,nd,lt,by simp⟩ ?_ ?_
   ·rintro d' y r' sl c e' hy ⟨S',x6,rfl,O,nd',lt',mem'⟩
    have gd:=zjj O.g1
    have hS:=zaX nd' lt'
    have hk:(kvs S').length<PySem.sizeLine:=by rw[zc6];omega
    unfold zeF
    trivial
    refine⟨ins S' y,_,rfl,by rw[zjw];exact O.set1 _,zlS nd',fun x hx=>?_,fun x=>?_⟩
    ·rcases ins_mem.mp hx with hx|rfl
     ·exact lt' x hx
     ·exact cpt_lt hy
    ·rw[ins_mem,mem',List.mem_append,List.mem_singleton,or_assoc]
   ·rintro sl c ⟨S',x6,rfl,O,nd',lt',mem'⟩
    refine⟨S',_,_,_,rfl,O,nd',lt',fun x=>?_⟩
    rw[mem',mem]
    constructor
    ·rintro(⟨y,hy,h⟩|h)
     ·exact⟨y,List.mem_append_left _ hy,h⟩
     ·exact⟨p,by simp,h⟩
    ·rintro⟨y,hy,h⟩
     rcases List.mem_append.mp hy with hy|hy
     ·exact .inl ⟨y,hy,h⟩
     ·rw[List.mem_singleton] at hy;subst hy;exact .inr h
  ·rename_i q
   have q':p∈S:=by simpa using q
   have hl:¬zbr b vl p=true:=key.mp q'
   refine⟨S,_,_,_,rfl,?_,nd,lt,fun x=>?_⟩
   ·rw[List.filter_append,List.filter_cons_of_neg hl,List.filter_nil,List.append_nil];exact O
   ·rw[mem]
    constructor
    ·rintro⟨y,hy,h⟩
     exact⟨y,List.mem_append_left _ hy,h⟩
    ·rintro⟨y,hy,h⟩
     rcases List.mem_append.mp hy with hy|hy
     ·exact⟨y,hy,h⟩
     ·rw[List.mem_singleton] at hy
      subst hy
      obtain⟨z,hz,hyz⟩:=(mem y).mp q'
      have hz':z<b.length:=by rw[hd] at hz;have:=List.mem_range.mp hz;omega
      exact⟨z,hz,by rw[<- zcA hb sym hz' hyz];exact h⟩
 ·rintro sl c ⟨S,x4,x5,x6,rfl,O,nd,lt,mem⟩
  trivial
  subst h2
  exact O.finO (by simp only[zgk];exact ze5 _ _)
theorem zpF(fu:Nat)(hfu:200<=fu)(hm:Mk b mk vl)(hb:Bd b)(sym:Sym b)(h36:b.length<=36):zcP (d_patches fu) [wB b,mk] ce=some (.ok (.lst ((ptc b vl).map wL)) ce) :=
 zbW (zig fu hfu hm hb sym h36) (ze5 _ _)
end
def zbH(b:List (List Nat))(row:List Nat):List Nat:=(List.range b.length).filter fun y=>row.any fun p=>decide (y∈b.getD p [])
section
variable {b:List (List Nat)} {b0 ce:Ce} {row:List Nat}
theorem zdu(fu:Nat)(hb:Bd b)(h36:b.length<=36){w1:W}(hw:LstOf ce w1 (row.map nW))(hr:∀p∈row,p<b.length) :
  d_points_beside fu [wB b,w1] ce=some (.ok (.cel ce.length) (ce++[.lst ((zbH b row).map nW)])):=by
 unfold d_points_beside
 have hz:=zfk
 refine zfm ?_
 simp only[List.map_cons,List.map_nil,List.cons_append,List.nil_append,List.length_cons,List.length_nil,List.replicate,Nat.reduceAdd,Nat.reduceSub]
 trivial
 have O0:=(Own.start ce).alloc (C.dct [])
 obtain⟨s,hs,hsi,_⟩:=hw.src
 have hst:∀{c1:Ce} {l:List (Nat×C)},Own ce c1 l->s.Stays c1:=by
  intro c1 l h
  obtain⟨t,rfl⟩:=h.cut
  cases hw with
  | fr=>simp only[zgT] at hs;cases hs;exact True.intro
  | cl g =>
   simp only[zgT,g] at hs
   cases hs
   show(ce++t)[_]?=_
   rw[List.getElem?_append_left (List.getElem?_eq_some_iff.mp g).1]
   exact g
 have hs':∀{c1:Ce} {l:List (Nat×C)},Own ce c1 l->zgT c1 w1=some s:=by
  intro c1 l h
  obtain⟨t,rfl⟩:=h.cut
  cases hw with
  | fr=>exact hs
  | cl g =>
   simp only[zgT,g] at hs ⊢
   rw[List.getElem?_append_left (List.getElem?_eq_some_iff.mp g).1,g]
   exact hs
 refine zgn (xs:=row) (en:=nW) (src:=s) (ce0:=ce++[C.dct []]) (by trivial;exact hs' O0) hsi
  (fun d sl c=>∃F x3 x4,sl=[some (wB b),some w1,some (.cel ce.length),x3,x4]/\Own ce c [(ce.length,C.dct (kvs F))]/\F.Nodup/\(∀x∈F,x<b.length)/\∀x,x∈F↔∃p∈d,x∈b.getD p [])
  ⟨[],none,none,rfl,O0,by simp,by simp,by simp⟩ ?_ (fun sl c h=>by obtain⟨_,_,_,_,O,_⟩:=h;exact hst O) ?_
 ·rintro d p r sl c e hp ⟨F,x3,x4,rfl,O,nd,lt,mem⟩
  refine⟨hst O,?_⟩
  have hp':=hr p hp
  unfold zb4
  refine ze4 (zs:=b.getD p []) (en:=nW) (zjx (by trivial))
   (fun d' sl c=>∃F x4,sl=[some (wB b),some w1,some (.cel ce.length),some (nW p),x4]/\Own ce c [(ce.length,C.dct (kvs F))]/\F.Nodup/\(∀x∈F,x<b.length)/\∀x,x∈F↔(∃p∈d,x∈b.getD p [])\/x∈d')
   ⟨F,x4,rfl,O,nd,lt,by simpa using mem⟩ ?_ ?_
  ·rintro d' y r' sl c e' hy ⟨F,x4,rfl,O,nd,lt,mem⟩
   unfold zb3
   have g:=zjj O.g0
   have hl:(kvs F).length<PySem.sizeLine:=by rw[zc6];have:=zaX nd lt;omega
   trivial
   refine⟨ins F y,some (nW y),rfl,?_,zlS nd,fun x hx=>?_,fun x=>?_⟩
   ·rw[zjw];exact O.set0 _
   ·rcases ins_mem.mp hx with hx|rfl
    ·exact lt x hx
    ·exact hb.get hy
   ·rw[ins_mem,mem,List.mem_append,List.mem_singleton,or_assoc]
  ·rintro sl c ⟨F,x4,rfl,O,nd,lt,mem⟩
   refine⟨F,some (nW p),x4,rfl,O,nd,lt,fun x=>?_⟩
   rw[mem]
   constructor
   ·rintro(⟨q,hq,h⟩|h)
    ·exact⟨q,List.mem_append_left _ hq,h⟩
    ·exact⟨p,by simp,h⟩
   ·rintro⟨q,hq,h⟩
    rcases List.mem_append.mp hq with hq|hq
    ·exact .inl ⟨q,hq,h⟩
    ·rw[List.mem_singleton] at hq;subst hq;exact .inr h
 ·rintro sl c ⟨F,x3,x4,rfl,O,nd,lt,mem⟩
  have hl:=zaX nd lt
  have es:zce F=zbH b row:=by
   rw[ze3 nd lt]
   unfold zbH
   apply List.filter_congr
   intro x _
   rw[Bool.eq_iff_iff]
   simp[mem]
  trivial
  ·rw[zg1 O.g0 (by omega),zc7 (by rw[es,List.length_map];unfold zbH;have:=List.length_filter_le (fun y=>row.any fun p=>decide (y∈b.getD p [])) (List.range b.length);rw[List.length_range] at this;omega)]
  ·rw[es]
   exact((O.alloc _).finO (by simp only[zgk];exact bels_nW _ _))
end
def brs(b:List (List Nat))(is:List Int)(row:List Nat):List Nat:=(zbH b row).filter fun p=>decide (is.getD p 0=0)
section
variable {b:List (List Nat)} {ce:Ce} {row:List Nat} {is:List Int}
theorem zeJ{y:Nat}(h:y∈zbH b row):y<b.length:=List.mem_range.mp (List.mem_filter.mp h).1
theorem zei:(zbH b row).length<=b.length:=by
 have:=List.length_filter_le (fun y=>row.any fun p=>decide (y∈b.getD p [])) (List.range b.length)
 rw[List.length_range] at this
 exact this
theorem zpG(fu:Nat)(hb:Bd b)(h36:b.length<=36){w1:W}(hw:LstOf ce w1 (row.map nW))(hr:∀p∈row,p<b.length):zcP (d_points_beside fu) [wB b,w1] ce=some (.ok (wL (zbH b row)) ce) :=
 zbW (zdu fu hb h36 hw hr) (bels_nW _ _)
theorem zeK(fu:Nat)(hb:Bd b)(h36:b.length<=36)(hl:is.length=b.length){w1:W}(hw:LstOf ce w1 (row.map nW))(hr:∀p∈row,p<b.length) :
  d_breaths fu [wB b,wS is,w1] ce=some (.ok (.cel ce.length) (ce++[.lst ((brs b is row).map nW)])):=by
 unfold d_breaths
 have hz:=zfk
 have e1:=zpG fu hb h36 hw hr
 have h2:=zei (b:=b) (row:=row)
 refine zbC [some (wB b),some (wS is),some w1] rfl ?_
 refine zax (zrQ (zs:=zbH b row) (en:=nW) (t:=fun p=>decide (is.getD p 0=0)) (by trivial) (by omega) (fun p hp=>?_)) ?_
 ·have:=zeJ hp
  have hp':p<is.length:=by omega
  trivial
 ·exact(((Own.start ce).alloc _).finO (by simp only[zgk];exact bels_nW _ _))
end
open Classical in
def vT(T:List Nat):Nat->Int:=fun x=>if x∈T then 0 else 1
theorem zpH{T:List Nat}{x:Nat}(h:x∈T):vT T x=0:=if_pos h
theorem zjT{T:List Nat}{s y:Nat}(hs:s∈T):okV (vT T) s y↔y∈T:=by
 unfold okV
 rw[zpH hs]
 constructor
 ·intro h
  by_cases hy:y∈T
  ·exact hy
  ·unfold vT at h;rw[if_neg hy] at h;omega
 ·exact zpH
def thr(is H:List Int):List Nat:=(List.range is.length).filter fun p=>decide (is.getD p 0∈H)
def lpt(b:List (List Nat))(T:List Nat):List (List Nat):=(T.filter (zbr b (vT T))).map (cpt b (vT T))
theorem zc3(is:List Int)(p q:Nat)(v:Int):(is.set p v).getD q 0=if p=q/\p<is.length then v else is.getD q 0:=by
 simp only[List.getD_eq_getElem?_getD,List.getElem?_set]
 by_cases h:p=q
 ·subst h
  by_cases h2:p<is.length
  ·simp[h2]
  ·simp[h2]
 ·simp[h]
abbrev vS(is:List Int):Nat->Int:=fun x=>is.getD x 0
abbrev vH(is:List Int)(h:Int):Nat->Int:=fun x=>if is.getD x 0=h then 1 else 0
theorem zbP{b:List (List Nat)}{ok ok':Nat->Prop}{s:Nat}(h:∀x y,Reach b ok s x->Reach b ok' s x->y∈b.getD x []->ok y->ok' y){x:Nat}(r:Reach b ok s x):Reach b ok' s x:=by
 induction r with
 | refl=>exact .refl
 | step r hy o ih=>exact ih.step hy (h _ _ r ih hy o)
open Classical in
theorem zjU{b:List (List Nat)}{vl vl':Nat->Int}{s:Nat}(e:∀y,Reach b (okV vl s) s y↔Reach b (okV vl' s) s y):cpt b vl s=cpt b vl' s:=by
 unfold cpt
 apply List.filter_congr
 intro y _
 rw[Bool.eq_iff_iff,decide_eq_true_eq,decide_eq_true_eq]
 exact e y
theorem zlk{b:List (List Nat)}{vl:Nat->Int}(hb:Bd b)(sym:Sym b){s t q:Nat}(hs:s<b.length)(ht:t<b.length)(h1:q∈cpt b vl s)(h2:q∈cpt b vl t):cpt b vl s=cpt b vl t:=by
 rw[<- zcA hb sym hs h1,<- zcA hb sym ht h2]
def zll(b:List (List Nat))(is:List Int)(h:Int):Prop:=∀s,s<b.length->is.getD s 0=h->∃x y,Reach b (okV (vS is) s) s x/\y∈b.getD x []/\is.getD y 0=0
theorem zbq{b:List (List Nat)}{is:List Int}{r:List Nat}(hb:Bd b){y:Nat}:y∈brs b is r↔(∃x∈r,y∈b.getD x [])/\is.getD y 0=0:=by
 unfold brs zbH
 rw[List.mem_filter,List.mem_filter,List.mem_range,List.any_eq_true,decide_eq_true_eq]
 constructor
 ·rintro⟨⟨_,x,hx,q⟩,h0⟩
  exact⟨⟨x,hx,of_decide_eq_true q⟩,h0⟩
 ·rintro⟨⟨x,hx,q⟩,h0⟩
  exact⟨⟨hb.get q,x,hx,decide_eq_true q⟩,h0⟩
theorem zjV{b:List (List Nat)}{is:List Int}{r:List Nat}(hb:Bd b):brs b is r=[]↔∀x∈r,∀y∈b.getD x [],is.getD y 0≠0:=by
 rw[List.eq_nil_iff_forall_not_mem]
 constructor
 ·intro h x hx y hy h0
  exact h y ((zbq hb).mpr ⟨⟨x,hx,hy⟩,h0⟩)
 ·intro h y hy
  obtain⟨⟨x,hx,hy⟩,h0⟩:=(zbq hb).mp hy
  exact h x hx y hy h0
structure Swp (b:List (List Nat)) (is:List Int) (h:Int) (d:List (List Nat)) (is':List Int) (D:List (List Nat)):Prop where
 len:is'.length=is.length
 sub:∀r∈D,r∈d
 zp:∀r∈D,∀q∈r,is'.getD q 0=0
 was:∀q,is'.getD q 0=is.getD q 0\/(is'.getD q 0=0/\∃r∈D,q∈r)
 fre:∀r∈d,r∈D\/∃x∈r,∃y∈b.getD x [],is'.getD y 0=0
 no:∀r∈D,∀x∈r,∀y∈b.getD x [],is.getD y 0≠0
theorem thr_mem{is:List Int}{h:Int}{p:Nat}:p∈thr is [h]↔p<is.length/\is.getD p 0=h:=by
 unfold thr
 rw[List.mem_filter,List.mem_range,decide_eq_true_eq,List.mem_singleton]
theorem zjW{b:List (List Nat)}{T:List Nat}(hb:Bd b)(sym:Sym b)(hT:∀x∈T,x<b.length){s:Nat}(hs:s∈T):cpt b (vT T) s∈lpt b T:=by
 obtain⟨m,h1,h2,h3⟩:=zfS (vl:=vT T) hb sym (hT s hs)
 have hm:m∈T:=(zjT hs).mp (cpt_val hb (hT s hs) h1)
 exact List.mem_map.mpr ⟨m,List.mem_filter.mpr ⟨hm,h2⟩,h3⟩
theorem zjX{b:List (List Nat)}{T:List Nat}{c:List Nat}(h:c∈lpt b T):∃s∈T,c=cpt b (vT T) s:=by
 obtain⟨s,hs,rfl⟩:=List.mem_map.mp h
 exact⟨s,(List.mem_filter.mp hs).1,rfl⟩
theorem zgA{b:List (List Nat)}{is:List Int}(hb:Bd b)(hl:is.length=b.length){s:Nat}(hs:s<b.length):cpt b (vT (thr is [is.getD s 0])) s=cpt b (vS is) s:=by
 have hT:s∈thr is [is.getD s 0]:=thr_mem.mpr ⟨by omega,rfl⟩
 refine zjU fun y=>⟨fun r=>zbP (fun x y _ _ _ o=>?_) r,fun r=>zbP (fun x y _ _ hy o=>?_) r⟩
 ·exact(thr_mem.mp ((zjT hT).mp o)).2
 ·exact(zjT hT).mpr (thr_mem.mpr ⟨by rw[hl];exact hb.get hy,o⟩)
section
variable {b:List (List Nat)} {is is':List Int} {h o:Int} {D:List (List Nat)}
theorem Swp.hand{d:List (List Nat)}(S:Swp b is h d is' D)(hb:Bd b)(hl:is.length=b.length)(hd:∀r∈d,r∈lpt b (thr is [h])){r:List Nat}(hr:r∈D){q:Nat}(hq:q∈r):is.getD q 0=h/\r=cpt b (vS is) q\/¬Sym b:=by
 by_cases sym:Sym b
 ·left
  obtain⟨s,hs,rfl⟩:=zjX (hd r (S.sub r hr))
  have hs':=thr_mem.mp hs
  have hsb:s<b.length:=by omega
  have e:=hs'.2
  subst e
  rw[zgA hb hl hsb] at hq ⊢
  exact⟨cpt_val hb hsb hq,(zcA hb sym hsb hq).symm⟩
 ·exact .inr sym
theorem Swp.hand'{d:List (List Nat)}(S:Swp b is h d is' D)(hb:Bd b)(sym:Sym b)(hl:is.length=b.length)(hd:∀r∈d,r∈lpt b (thr is [h])){r:List Nat}(hr:r∈D){q:Nat}(hq:q∈r):is.getD q 0=h/\r=cpt b (vS is) q:=(S.hand hb hl hd hr hq).resolve_right (fun n=>n sym)
theorem Swp.snd(S:Swp b is h (lpt b (thr is [h])) is' D)(hb:Bd b)(sym:Sym b)(hl:is.length=b.length)(h0:h≠0):zll b is' h:=by
 intro s hs e
 have es:is.getD s 0=h:=by
  rcases S.was s with q|q
  ·rw[<- q];exact e
  ·exact absurd (e.symm.trans q.1) h0
 have hr:cpt b (vS is) s∈lpt b (thr is [h]):=by
  have:=zjW (T:=thr is [is.getD s 0]) hb sym (fun x hx=>by have:=(thr_mem.mp hx).1;omega) (thr_mem.mpr ⟨by omega,rfl⟩:s∈_)
  rwa [zgA hb hl hs,es] at this
 have nD:cpt b (vS is) s∉D:=fun hD=>h0 (by rw[<- e];exact S.zp _ hD s (zbm hb hs))
 rcases S.fre _ hr with q|⟨x,hx,y,hy,hy0⟩
 ·exact absurd q nD
 ·refine⟨x,y,?_,hy,hy0⟩
  refine zbP (fun u z ru _ hz oz=>?_) ((zbZ hb hs).mp hx)
  have hzr:z∈cpt b (vS is) s:=(zbZ hb hs).mpr (ru.step hz oz)
  show is'.getD z 0=is'.getD s 0
  rw[e]
  rcases S.was z with q|⟨_,r,hrD,hzr2⟩
  ·rw[q];exact oz.trans es
  ·obtain⟨_,er⟩:=S.hand' hb sym hl (fun r hr=>hr) hrD hzr2
   rw[er,zcA hb sym hs hzr] at hrD
   exact absurd hrD nD
structure Pap (b:List (List Nat)) (is:List Int) (h:Int) (R C:List (List Nat)):Prop where
 row:∀r∈R,∃s,s<b.length/\is.getD s 0=h/\r=cpt b (vS is) s
 cl:∀c∈C,∃s,s<b.length/\is.getD s 0≠h/\c=cpt b (vH is h) s
 firm:∀r∈R,∃c1∈C,∃c2∈C,c1≠c2/\(∀p∈c1,is.getD p 0=0->p∈brs b is r)/\∀p∈c2,is.getD p 0=0->p∈brs b is r
 wall:∀c∈C,∀x∈c,∀y∈b.getD x [],is.getD y 0=h->∃r∈R,y∈r
structure LaidOk (b:List (List Nat)) (is:List Int) (h o:Int) (p:Nat) (is':List Int) (D:List (List Nat)):Prop where
 hl:is.length=b.length
 hp:p<b.length
 p0:is.getD p 0=0
 sw:Swp b (is.set p o) h (lpt b (thr (is.set p o) [h])) is' D
 br:∃x y,Reach b (okV (vS is') p) p x/\y∈b.getD x []/\is'.getD y 0=0
structure Hands (h o:Int):Prop where
 h0:h≠0
 o0:o≠0
 ho:o≠h
theorem LaidOk.set1{p:Nat}(L:LaidOk b is h o p is' D)(q:Nat):(is.set p o).getD q 0=if q=p then o else is.getD q 0:=by
 rw[zc3]
 by_cases e:q=p
 ·subst e;rw[if_pos ⟨rfl,by rw[L.hl];exact L.hp⟩,if_pos rfl]
 ·rw[if_neg (fun x=>e x.1.symm),if_neg e]
theorem LaidOk.val{p:Nat}(L:LaidOk b is h o p is' D)(hb:Bd b)(sym:Sym b)(H:Hands h o)(q:Nat):is'.getD q 0=(if q=p then o else is.getD q 0)\/(is'.getD q 0=0/\is.getD q 0=h/\q≠p/\∃r∈D,q∈r):=by
 rcases L.sw.was q with e|⟨e,r,hr,hq⟩
 ·left;rw[e,L.set1]
 ·obtain⟨e1,_⟩:=L.sw.hand' hb sym (by rw[List.length_set];exact L.hl) (fun r hr=>hr) hr hq
  rw[L.set1] at e1
  by_cases hqp:q=p
  ·rw[if_pos hqp] at e1;exact absurd e1 H.ho
  ·rw[if_neg hqp] at e1;exact .inr ⟨e,e1,hqp,r,hr,hq⟩
theorem LaidOk.isO{p:Nat}(L:LaidOk b is h o p is' D)(hb:Bd b)(sym:Sym b)(H:Hands h o){q:Nat}(e:is.getD q 0=o):is'.getD q 0=o:=by
 rcases L.val hb sym H q with v|v
 ·rw[v];split
  ·rfl
  ·exact e
 ·exact absurd (e.symm.trans v.2.1) H.ho
theorem LaidOk.isP{p:Nat}(L:LaidOk b is h o p is' D)(hb:Bd b)(sym:Sym b)(H:Hands h o):is'.getD p 0=o:=by
 rcases L.val hb sym H p with v|v
 ·rw[v,if_pos rfl]
 ·exact absurd rfl v.2.2.1
theorem LaidOk.is0{p:Nat}(L:LaidOk b is h o p is' D)(hb:Bd b)(sym:Sym b)(H:Hands h o){q:Nat}(e:is.getD q 0=0)(hq:q≠p):is'.getD q 0=0:=by
 rcases L.val hb sym H q with v|v
 ·rw[v,if_neg hq];exact e
 ·exact v.1
theorem LaidOk.snd{p:Nat}(L:LaidOk b is h o p is' D)(hb:Bd b)(sym:Sym b)(H:Hands h o)(N:zll b is o):zll b is' o:=by
 intro s hs e
 have eP:=L.isP hb sym H
 by_cases hsp:Reach b (okV (vS is') s) s p
 ·obtain⟨x,y,r,hy,h0⟩:=L.br
  refine⟨x,y,hsp.trans ?_,hy,h0⟩
  have:okV (vS is') s=okV (vS is') p:=zlT (vl:=vS is') (x:=s) (s:=p) (e.trans eP.symm)
  rw[this];exact r
 ·have hne:s≠p:=fun q=>hsp (by subst q;exact .refl)
  have es:is.getD s 0=o:=by
   rcases L.val hb sym H s with v|v
   ·rw[if_neg hne] at v;exact v.symm.trans e
   ·exact absurd (e.symm.trans v.1) H.o0
  obtain⟨x,y,r,hy,h0⟩:=N s hs es
  have r':Reach b (okV (vS is') s) s x:=zbP (fun u z _ _ _ oz=>by
   show is'.getD z 0=is'.getD s 0
   rw[e];exact L.isO hb sym H (oz.trans es)) r
  refine⟨x,y,r',hy,L.is0 hb sym H h0 fun q=>hsp ?_⟩
  subst q
  exact r'.step hy (eP.trans e.symm)
end
theorem zfg{n:Nat}{t:Nat->Bool}{x:Nat}:x∈(List.range n).filter t↔x<n/\t x=true:=by rw[List.mem_filter,List.mem_range]
def lD(b:List (List Nat))(is:List Int)(o:Int)(p:Nat):List (List Nat):=(lpt b (thr (is.set p o) [3-o])).filter fun r=>decide (brs b (is.set p o) r=[])
def lT(b:List (List Nat))(is:List Int)(o:Int)(p:Nat):List Nat:=(List.range b.length).filter fun q=>(lD b is o p).any fun r=>decide (q∈r)
def lS(b:List (List Nat))(is:List Int)(o:Int)(p:Nat):List Int:=(List.range is.length).map fun q=>if q=p then o else if q∈lT b is o p then 0 else is.getD q 0
structure LyA (b:List (List Nat)) (is:List Int) (o:Int) (p:Nat):Prop where
 bd:Bd b
 sym:Sym b
 hl:is.length=b.length
 hp:p<b.length
 p0:is.getD p 0=0
 H:Hands (3-o) o
 v:∀q,q<b.length->is.getD q 0=0\/is.getD q 0=3-o\/is.getD q 0=o
 nh:zll b is (3-o)
 no:zll b is o
section
variable {b:List (List Nat)} {is:List Int} {o:Int} {p:Nat}
theorem zej:(lS b is o p).length=is.length:=by simp[lS]
theorem LyA.s1(A:LyA b is o p)(q:Nat):(is.set p o).getD q 0=if q=p then o else is.getD q 0:=by
 rw[zc3]
 by_cases e:q=p
 ·subst e;rw[if_pos ⟨rfl,by rw[A.hl];exact A.hp⟩,if_pos rfl]
 ·rw[if_neg (fun x=>e x.1.symm),if_neg e]
theorem LyA.l1(A:LyA b is o p):(is.set p o).length=b.length:=by rw[List.length_set];exact A.hl
theorem LyA.get(A:LyA b is o p){q:Nat}(hq:q<b.length):(lS b is o p).getD q 0=if q=p then o else if q∈lT b is o p then 0 else is.getD q 0:=by
 unfold lS
 rw[List.getD_eq_getElem?_getD,List.getElem?_map,List.getElem?_range (by rw[A.hl];exact hq)]
 rfl
theorem LyA.far(A:LyA b is o p){q:Nat}(hq:¬q<b.length):(lS b is o p).getD q 0=0/\is.getD q 0=0:=by
 have h1:=A.hl
 constructor
 ·rw[List.getD_eq_getElem?_getD,List.getElem?_eq_none (by rw[zej];omega)];rfl
 ·rw[List.getD_eq_getElem?_getD,List.getElem?_eq_none (by omega)];rfl
theorem LyA.dead(A:LyA b is o p){r:List Nat}:r∈lD b is o p↔∃s,s<b.length/\is.getD s 0=3-o/\r=cpt b (vS is) s/\∀x∈r,∀y∈b.getD x [],is.getD y 0=0->y=p:=by
 have hT:∀{s},s∈thr (is.set p o) [3-o]↔s<b.length/\is.getD s 0=3-o:=fun {s}=>by
  rw[thr_mem,A.l1,A.s1]
  constructor
  ·rintro⟨h1,h2⟩
   by_cases e:s=p
   ·rw[if_pos e] at h2;exact absurd h2 A.H.ho
   ·rw[if_neg e] at h2;exact⟨h1,h2⟩
  ·rintro⟨h1,h2⟩
   have e:s≠p:=fun e=>by subst e;exact A.H.h0 (h2.symm.trans A.p0)
   exact⟨h1,by rw[if_neg e];exact h2⟩
 have hc:∀{s},s<b.length->is.getD s 0=3-o->cpt b (vT (thr (is.set p o) [3-o])) s=cpt b (vS is) s:=fun {s} hs es=>by
  have hsT:=hT.mpr ⟨hs,es⟩
  refine zjU fun y=>⟨fun r=>zbP (fun u z _ _ hz oz=>?_) r,fun r=>zbP (fun u z _ _ hz oz=>?_) r⟩
  ·exact(hT.mp ((zjT hsT).mp oz)).2.trans es.symm
  ·exact(zjT hsT).mpr (hT.mpr ⟨A.bd.get hz,Eq.trans oz es⟩)
 have hb1:∀{r:List Nat},brs b (is.set p o) r=[]↔∀x∈r,∀y∈b.getD x [],is.getD y 0=0->y=p:=fun {r}=>by
  rw[zjV A.bd]
  constructor
  ·intro h x hx y hy y0
   apply Classical.byContradiction
   intro hne
   exact h x hx y hy (by rw[A.s1,if_neg hne];exact y0)
  ·intro h x hx y hy
   rw[A.s1]
   by_cases e:y=p
   ·rw[if_pos e];exact A.H.o0
   ·rw[if_neg e];exact fun y0=>e (h x hx y hy y0)
 unfold lD
 rw[List.mem_filter,decide_eq_true_eq,hb1]
 constructor
 ·rintro⟨h1,h2⟩
  obtain⟨s,hs,rfl⟩:=zjX h1
  obtain⟨q1,q2⟩:=hT.mp hs
  rw[hc q1 q2] at h2 ⊢
  exact⟨s,q1,q2,rfl,h2⟩
 ·rintro⟨s,q1,q2,rfl,h2⟩
  refine⟨?_,h2⟩
  have:=zjW (T:=thr (is.set p o) [3-o]) A.bd A.sym (fun x hx=>(hT.mp hx).1) (hT.mpr ⟨q1,q2⟩)
  rwa [hc q1 q2] at this
theorem LyA.tk(A:LyA b is o p){q:Nat}:q∈lT b is o p↔∃r∈lD b is o p,q∈r:=by
 unfold lT
 rw[zfg,List.any_eq_true]
 constructor
 ·rintro⟨_,r,hr,hq⟩;exact⟨r,hr,of_decide_eq_true hq⟩
 ·rintro⟨r,hr,hq⟩
  obtain⟨s,hs,_,rfl,_⟩:=A.dead.mp hr
  exact⟨cpt_lt hq,_,hr,decide_eq_true hq⟩
theorem LyA.tkh(A:LyA b is o p){q:Nat}(h:q∈lT b is o p):q<b.length/\is.getD q 0=3-o/\q≠p:=by
 obtain⟨r,hr,hq⟩:=A.tk.mp h
 obtain⟨s,hs,es,rfl,_⟩:=A.dead.mp hr
 have e:is.getD q 0=3-o:=(cpt_val A.bd hs hq).trans es
 exact⟨cpt_lt hq,e,fun e'=>by subst e';exact A.H.h0 (e.symm.trans A.p0)⟩
theorem LyA.near(A:LyA b is o p){q:Nat}:q∈lT b is o p↔∃y∈b.getD p [],is.getD y 0=3-o/\(brs b is (cpt b (vS is) y)).erase p=[]/\q∈cpt b (vS is) y:=by
 have nd:∀r,(brs b is r).Nodup:=fun r=>List.Pairwise.filter _ (List.Pairwise.filter _ List.nodup_range)
 have er:∀y,y<b.length->((brs b is (cpt b (vS is) y)).erase p=[]↔∀x∈cpt b (vS is) y,∀z∈b.getD x [],is.getD z 0=0->z=p):=fun y hy=>by
  rw[List.eq_nil_iff_forall_not_mem]
  constructor
  ·intro h x hx z hz z0
   apply Classical.byContradiction
   intro hne
   exact h z (((nd _).mem_erase_iff).mpr ⟨hne,(zbq A.bd).mpr ⟨⟨x,hx,hz⟩,z0⟩⟩)
  ·intro h z hz
   obtain⟨h1,h2⟩:=((nd _).mem_erase_iff).mp hz
   obtain⟨⟨x,hx,hz⟩,z0⟩:=(zbq A.bd).mp h2
   exact h1 (h x hx z hz z0)
 rw[A.tk]
 constructor
 ·rintro⟨r,hr,hq⟩
  obtain⟨s,hs,es,rfl,hd⟩:=A.dead.mp hr
  obtain⟨u,w,ru,hw,w0⟩:=A.nh s hs es
  have hu:u∈cpt b (vS is) s:=(zbZ A.bd hs).mpr ru
  have e:=hd u hu w hw w0
  subst e
  have hub:=cpt_lt hu
  refine⟨u,A.sym _ _ hw,(cpt_val A.bd hs hu).trans es,?_,?_⟩
  ·rw[er u hub,zcA A.bd A.sym hs hu];exact hd
  ·rw[zcA A.bd A.sym hs hu];exact hq
 ·rintro⟨y,hy,ey,h1,hq⟩
  have hyb:=A.bd.get hy
  exact⟨_,A.dead.mpr ⟨y,hyb,ey,rfl,(er y hyb).mp h1⟩,hq⟩
theorem LyA.swp(A:LyA b is o p):Swp b (is.set p o) (3-o) (lpt b (thr (is.set p o) [3-o])) (lS b is o p) (lD b is o p):=by
 have low:∀y,(is.set p o).getD y 0=0->(lS b is o p).getD y 0=0:=fun y h0=>by
  by_cases hy:y<b.length
  ·rw[A.s1] at h0
   rw[A.get hy]
   by_cases e:y=p
   ·rw[if_pos e] at h0;exact absurd h0 A.H.o0
   ·rw[if_neg e] at h0 ⊢
    split
    ·rfl
    ·exact h0
  ·exact(A.far hy).1
 refine⟨by rw[zej,List.length_set],fun r hr=>(List.mem_filter.mp hr).1,fun r hr q hq=>?_,fun q=>?_,fun r hr=>?_,fun r hr=>?_⟩
 ·have ht:=A.tk.mpr ⟨r,hr,hq⟩
  obtain⟨h1,_,h3⟩:=A.tkh ht
  rw[A.get h1,if_neg h3,if_pos ht]
 ·by_cases hq:q<b.length
  ·rw[A.get hq,A.s1]
   by_cases e:q=p
   ·rw[if_pos e,if_pos e];exact .inl rfl
   ·rw[if_neg e,if_neg e]
    by_cases ht:q∈lT b is o p
    ·rw[if_pos ht];exact .inr ⟨rfl,A.tk.mp ht⟩
    ·rw[if_neg ht];exact .inl rfl
  ·left
   rw[(A.far hq).1,A.s1,if_neg (fun e=>hq (by rw[e];exact A.hp)),(A.far hq).2]
 ·by_cases e:brs b (is.set p o) r=[]
  ·exact .inl (List.mem_filter.mpr ⟨hr,decide_eq_true e⟩)
  ·obtain⟨y,hy⟩:=List.exists_mem_of_ne_nil _ e
   obtain⟨⟨x,hx,hy⟩,h0⟩:=(zbq A.bd).mp hy
   exact .inr ⟨x,hx,y,hy,low y h0⟩
 ·exact(zjV A.bd).mp (of_decide_eq_true (List.mem_filter.mp hr).2)
def Frb(b:List (List Nat))(is:List Int)(o:Int)(p:Nat):Prop:=brs b (lS b is o p) (cpt b (vS (lS b is o p)) p)≠[]
theorem LyA.laid(A:LyA b is o p)(h:Frb b is o p):LaidOk b is (3-o) o p (lS b is o p) (lD b is o p):=by
 refine⟨A.hl,A.hp,A.p0,A.swp,?_⟩
 obtain⟨y,hy⟩:=List.exists_mem_of_ne_nil _ h
 obtain⟨⟨x,hx,hy⟩,h0⟩:=(zbq A.bd).mp hy
 exact⟨x,y,(zbZ A.bd A.hp).mp hx,hy,h0⟩
theorem LyA.atP(A:LyA b is o p):(lS b is o p).getD p 0=o:=by rw[A.get A.hp,if_pos rfl]
theorem LyA.brT(A:LyA b is o p)(ht:lT b is o p≠[]):Frb b is o p:=by
 have selfP:=zbm (vl:=vS (lS b is o p)) A.bd A.hp
 obtain⟨q,hq⟩:=List.exists_mem_of_ne_nil _ ht
 obtain⟨y,hy,ey,h1,_⟩:=A.near.mp hq
 have hyb:=A.bd.get hy
 have ty:y∈lT b is o p:=A.near.mpr ⟨y,hy,ey,h1,zbm A.bd hyb⟩
 refine List.ne_nil_of_mem ((zbq A.bd).mpr ⟨⟨p,selfP,hy⟩,?_⟩)
 rw[A.get hyb,if_neg (A.tkh ty).2.2,if_pos ty]
theorem LyA.snd(A:LyA b is o p)(h:Frb b is o p):zll b (lS b is o p) o/\zll b (lS b is o p) (3-o) :=
 ⟨(A.laid h).snd A.bd A.sym A.H A.no,A.swp.snd A.bd A.sym A.l1 A.H.h0⟩
theorem LyA.vals(A:LyA b is o p):∀q,q<b.length->(lS b is o p).getD q 0=0\/(lS b is o p).getD q 0=3-o\/(lS b is o p).getD q 0=o:=fun q hq=>by
 rw[A.get hq]
 split
 ·exact .inr (.inr rfl)
 ·split
  ·exact .inl rfl
  ·exact A.v q hq
end
structure PosA (b:List (List Nat)) (is:List Int) (o:Int):Prop where
 bd:Bd b
 sym:Sym b
 hl:is.length=b.length
 H:Hands (3-o) o
 v:∀q,q<b.length->is.getD q 0=0\/is.getD q 0=3-o\/is.getD q 0=o
 nh:zll b is (3-o)
 no:zll b is o
section
variable {b:List (List Nat)} {is:List Int} {o:Int} {p:Nat}
theorem PosA.ly(P:PosA b is o)(hp:p<b.length)(p0:is.getD p 0=0):LyA b is o p:=⟨P.bd,P.sym,P.hl,hp,p0,P.H,P.v,P.nh,P.no⟩
theorem PosA.next(P:PosA b is o)(A:LyA b is o p)(f:Frb b is o p):PosA b (lS b is o p) o :=
 ⟨P.bd,P.sym,by rw[zej];exact P.hl,P.H,A.vals,(A.snd f).2,(A.snd f).1⟩
inductive Way (b:List (List Nat)) (o:Int):List Int->List Int->Prop where
 | refl {is:List Int}:Way b o is is
 | step {is is':List Int} {p:Nat} (A:LyA b is o p) (f:Frb b is o p) (w:Way b o (lS b is o p) is'):Way b o is is'
structure Att (b:List (List Nat)) (o:Int) (q:Nat) (i0 is:List Int):Prop where
 hs:∀z,is.getD z 0=3-o->i0.getD z 0=3-o
 row:∀z,is.getD z 0=3-o->∀y∈cpt b (vS i0) z,is.getD y 0=3-o
 chg:∀z,is.getD z 0≠i0.getD z 0->is.getD z 0≠3-o/\∃u∈cpt b (vS i0) q,∃w∈b.getD u [],is.getD w 0≠3-o/\Reach b (okV (vH is (3-o)) z) z w
theorem LyA.tk0(A:LyA b is o p){z:Nat}(ht:z∈lT b is o p):(lS b is o p).getD z 0=0:=by
 obtain⟨h1,_,h3⟩:=A.tkh ht
 rw[A.get h1,if_neg h3,if_pos ht]
structure Cap (b:List (List Nat)) (o:Int) (q:Nat) (i0 is:List Int):Prop where
 q0:is.getD q 0=0
 hs:∀z,is.getD z 0=3-o->i0.getD z 0=3-o
 row:∀z,is.getD z 0=3-o->∀y∈cpt b (vS i0) z,is.getD y 0=3-o
 chg:∀z,is.getD z 0≠i0.getD z 0->is.getD z 0≠3-o/\Reach b (okV (vH is (3-o)) z) z q
end
section
variable {b:List (List Nat)} {is:List Int} {o:Int} {p:Nat} {ce:Ce}
theorem zpI(hb:Bd b){vl:Nat->Int}:(ptc b vl).Nodup:=by
 unfold ptc
 refine List.Pairwise.map _ ?_ (List.Pairwise.and_mem.mp (List.Pairwise.filter _ List.nodup_range))
 rintro s t ⟨hs,ht,hne⟩ e
 obtain⟨s1,s2⟩:=List.mem_filter.mp hs
 obtain⟨t1,t2⟩:=List.mem_filter.mp ht
 have a:=zdG (vl:=vl) hb (List.mem_range.mp s1) s2
 rw[e,zdG hb (List.mem_range.mp t1) t2] at a
 exact hne a.symm
theorem zjY(hb:Bd b){vl:Nat->Int}{c:List Nat}(h:c∈ptc b vl):0<c.length/\c.length<=b.length/\∀p∈c,p<b.length:=by
 obtain⟨s,hs,_,rfl⟩:=(zd4 hb).mp h
 exact⟨List.length_pos_of_mem (zbm hb hs),znb,fun p hp=>cpt_lt hp⟩
theorem zjZ{c:List Nat}{n:Nat}(h0:0<c.length)(h:∀p∈c,p<n):c.getD 0 0<n:=by
 rw[List.getD_eq_getElem?_getD,List.getElem?_eq_getElem h0]
 exact h _ (List.getElem_mem h0)
theorem zl4{c:List Nat}(h0:0<c.length):ixW ce (wL c) (.int 0)=some (nW (c.getD 0 0)):=zlR (p:=0) h0
def zek(b:List (List Nat))(is:List Int):List (List Nat):=(ptc b (vS is)).filter fun c=>!decide (is.getD (c.getD 0 0) 0=0)
theorem zny(fu:Nat)(hfu:200<=fu)(B:Brd b)(hl:is.length=b.length):d_rows fu [wB b,wS is] ce=some (.ok (.lst ((zek b is).map wL)) ce):=by
 have hz:=zfk
 have h36:=B.h36
 have e1:=zpF (ce:=ce) fu hfu (zrS hl) B.bd B.sym h36
 have hzl:(ptc b (vS is)).length<=PySem.sizeLine:=by have:=znd (b:=b) (vl:=vS is);omega
 unfold d_rows
 refine zbC [some (wB b),some (wS is)] rfl ?_
 refine zax (zp1 (zs:=ptc b (vS is)) (en:=wL) (t:=fun c=>!decide (is.getD (c.getD 0 0) 0=0)) (zjy (zay (ws:=[wB b,wS is]) (by trivial) rfl e1) (.fr _)) hzl (fun c hc=>?_)) ?_
 ·obtain⟨p0,_,p2⟩:=zjY B.bd hc
  have hh:c.getD 0 0<is.length:=by rw[hl];exact zjZ p0 p2
  have i1:=zl4 (ce:=ce) p0
  have i2:=zcV (ce:=ce) hh
  trivial
 ·exact zaN (by simp only[Bel];exact ze5 _ _)
end
section
variable {b:List (List Nat)} {is:List Int} {ce:Ce}
theorem zpJ(fu:Nat)(B:Brd b)(hl:is.length=b.length){r:List Nat}(hr:∀p∈r,p<b.length):zcP (d_breaths fu) [wB b,wS is,wL r] ce=some (.ok (wL (brs b is r)) ce):=zbW (zeK fu B.bd B.h36 hl (.fr _) hr) (bels_nW _ _)
end
theorem zf0{x y:List Int}(hl:x.length=y.length)(h:∀i,i<x.length->x.getD i 0=y.getD i 0):x=y:=by
 apply List.ext_getElem hl
 intro i h1 h2
 have:=h i h1
 rw[List.getD_eq_getElem?_getD,List.getD_eq_getElem?_getD,List.getElem?_eq_getElem h1,List.getElem?_eq_getElem h2] at this
 exact this
section
variable {b:List (List Nat)} {is:List Int} {o:Int} {p:Nat} {ce:Ce}
theorem zhg(fu:Nat)(h:Int):d_other_hand fu [.int h] ce=some (.ok (.int (3-h)) ce):=by
 unfold d_other_hand
 refine zbC [some (.int h)] rfl ?_
 refine zax (w:=.int (3-h)) (ce':=ce) (by trivial) (zaN (by simp only[Bel]))
theorem zih(fu:Nat){pts:List Nat}{v:Int}{w1:W}(hw:LstOf ce w1 (pts.map nW))(hl:is.length<=36)(hp:∀q∈pts,q<is.length):∃is',d_filled fu [wS is,w1,.int v] ce=some (.ok (wS is') ce)/\is'.length=is.length/\(∀q∈pts,is'.getD q 0=v)/\∀q,q∉pts->is'.getD q 0=is.getD q 0:=by
 have hz:=zfk
 suffices hs:∃w c',d_filled fu [wS is,w1,.int v] ce=some (.ok w c')/\∃is',w=wS is'/\c'=ce/\is'.length=is.length/\(∀q∈pts,is'.getD q 0=v)/\∀q,q∉pts->is'.getD q 0=is.getD q 0 by
  obtain⟨w,c',e,is',rfl,rfl,h⟩:=hs
  exact⟨is',e,h⟩
 obtain⟨s,hs,hsi,_⟩:=hw.src
 have hst:∀{c1:Ce} {l:List (Nat×C)},Own ce c1 l->s.Stays c1:=by
  intro c1 l h
  obtain⟨t,rfl⟩:=h.cut
  cases hw with
  | fr=>simp only[zgT] at hs;cases hs;exact True.intro
  | cl g =>
   simp only[zgT,g] at hs
   cases hs
   show(ce++t)[_]?=_
   rw[List.getElem?_append_left (List.getElem?_eq_some_iff.mp g).1]
   exact g
 have hs':∀{c1:Ce} {l:List (Nat×C)},Own ce c1 l->zgT c1 w1=some s:=by
  intro c1 l h
  obtain⟨t,rfl⟩:=h.cut
  cases hw with
  | fr=>exact hs
  | cl g =>
   simp only[zgT,g] at hs ⊢
   rw[List.getElem?_append_left (List.getElem?_eq_some_iff.mp g).1,g]
   exact hs
 unfold d_filled
 refine zie [some (wS is),some w1,some (.int v),none,none] rfl ?_
 refine zav (w:=.cel ce.length) (ce':=ce++[.lst (is.map W.int)]) (zcf (zac (by trivial) zaj) (by rw[zm4 (xs:=is.map W.int) rfl,zc7 (by rw[List.length_map];omega)])) ?_
 refine zam (by repeat (first|exact SetAt.zero|apply SetAt.succ)) ?_
 have O0:=(Own.start ce).alloc (C.lst (is.map W.int))
 generalize hk:ce.length=k3 at O0 ⊢
 generalize ce++[C.lst (is.map W.int)]=c0 at O0 ⊢
 refine zgn (xs:=pts) (en:=nW) (src:=s) (ce0:=c0) (zkY (zae rfl) (hs' O0)) hsi
  (fun d sl c=>∃is' x4,sl=[some (wS is),some w1,some (.int v),some (.cel k3),x4]/\Own ce c [(k3,C.lst (is'.map W.int))]/\is'.length=is.length/\(∀q∈d,is'.getD q 0=v)/\∀q,q∉d->is'.getD q 0=is.getD q 0)
  ⟨is,_,rfl,O0,rfl,by simp,fun _ _=>rfl⟩ ?_ (fun sl c h=>by obtain⟨_,_,_,O,_⟩:=h;exact hst O) ?_
 ·rintro d u r sl c e hu ⟨is',x4,rfl,O,l',z1,z2⟩
  refine⟨hst O,?_⟩
  have hul:u<is'.length:=by rw[l'];exact hp u hu
  unfold zfW
  refine zam (by repeat (first|exact SetAt.zero|apply SetAt.succ)) ?_
  refine zg8 (w:=.int v) (k:=k3) (ij:=u) (j:=u) (by trivial) (by trivial) (by trivial) O.g0 (zjI (by rw[List.length_map];exact hul)) ?_
  refine⟨is'.set u v,_,rfl,by rw[List.map_set];exact O.set0 _,by rw[List.length_set];exact l',fun q hq=>?_,fun q hq=>?_⟩
  ·rw[zc3]
   split
   ·rfl
   ·rename_i hn
    rcases List.mem_append.mp hq with hq|hq
    ·exact z1 q hq
    ·rw[List.mem_singleton] at hq;exact absurd ⟨hq.symm,hul⟩ hn
  ·rw[zc3,if_neg (fun x=>hq (by rw[<- x.1];simp))]
   exact z2 q fun x=>hq (List.mem_append_left _ x)
 ·rintro sl c ⟨is',x4,rfl,O,l',z1,z2⟩
  refine zax (w:=wS is') (ce':=c) (zcf (zac (by trivial) zaj) (zm5 O.g0 (by omega))) ?_
  subst hk
  exact⟨_,_,O.finC (by simp only[Bel];exact belInts _ _),is',rfl,rfl,l',z1,z2⟩
theorem zf1(fu:Nat){pts:List Nat}{v:Int}(hl:is.length<=36)(hp:∀q∈pts,q<is.length):∃is',d_filled fu [wS is,wL pts,.int v] ce=some (.ok (wS is') ce)/\is'.length=is.length/\(∀q∈pts,is'.getD q 0=v)/\∀q,q∉pts->is'.getD q 0=is.getD q 0:=zih fu (.fr _) hl hp
theorem zj0{l:List Nat}:zgb ce (wL l)=some (!decide (l=[])):=by
 show some (!(l.map nW).isEmpty)=_
 cases l<;>simp
theorem zfh(fu:Nat)(hfu:200<=fu)(B:Brd b)(hl:is.length=b.length){h:Int}(h0:h≠0):d_breathless fu [wB b,wS is,.int h] ce=some (.ok (.cel ce.length) (ce++[.lst (((List.range b.length).filter fun q=>(zek b is).any fun r=>decide (is.getD (r.getD 0 0) 0=h)&&(decide (brs b is r=[])&&decide (q∈r))).map nW)])):=by
 have hz:=zfk
 have h36:=B.h36
 have e1:=zny (ce:=ce++[C.lst []]) fu hfu B hl
 have rok:∀r∈zek b is,0<r.length/\r.length<=b.length/\∀p∈r,p<b.length:=fun r hr=>zjY B.bd (List.mem_filter.mp hr).1
 have rnd:(zek b is).Nodup:=List.Pairwise.filter _ (zpI B.bd)
 have rnd1:∀r∈zek b is,r.Nodup:=fun r hr=>by
  obtain⟨s,hs,_,rfl⟩:=(zd4 B.bd).mp (List.mem_filter.mp hr).1
  exact zpq
 have rmeet:∀r∈zek b is,∀r'∈zek b is,∀q,q∈r->q∈r'->r=r':=fun r hr r' hr' q h1 h2=>by
  obtain⟨s,hs,_,rfl⟩:=(zd4 B.bd).mp (List.mem_filter.mp hr).1
  obtain⟨t,ht,_,rfl⟩:=(zd4 B.bd).mp (List.mem_filter.mp hr').1
  exact zlk B.bd B.sym hs ht h1 h2
 unfold d_breathless
 refine zbC [some (wB b),some (wS is),some (.int h),none,none] rfl ?_
 refine zav (zd3 zaj (Nat.zero_le _)) ?_
 refine zam (by repeat (first|exact SetAt.zero|apply SetAt.succ)) ?_
 have O0:=(Own.start ce).alloc (C.lst (([]:List Nat).map nW))
 refine(?_:Run _ _ (ce++[C.lst []]) _)
 generalize hk:ce.length=k3 at O0 ⊢
 generalize hc0:ce++[C.lst []]=c0 at e1 ⊢
 have O0:Own ce c0 [(k3,C.lst (([]:List Nat).map nW))]:=by rw[<- hc0];exact O0
 generalize zek b is=R at *
 refine zcW (zs:=R) (en:=wL) (c1:=c0) (zgo (by trivial))
  (fun d sl c=>∃F x4,sl=[some (wB b),some (wS is),some (.int h),some (.cel k3),x4]/\Own ce c [(k3,C.lst (F.map nW))]/\F.Nodup/\(∀x∈F,x<b.length)/\∀x,x∈F↔∃r∈d,is.getD (r.getD 0 0) 0=h/\brs b is r=[]/\x∈r)
  ⟨[],_,rfl,O0,by simp,by simp,by simp⟩ ?_ ?_
 ·rintro d r zdv sl c e hr ⟨F,x4,rfl,O,nd,lt,mem⟩
  obtain⟨r0,r1,r2⟩:=rok r hr
  have hh:r.getD 0 0<is.length:=by rw[hl];exact zjZ r0 r2
  have i1:=zl4 (ce:=c) r0
  have i2:=zcV (ce:=c) hh
  have e2:=zpJ (ce:=c) fu B hl r2
  have t2:=zj0 (ce:=c) (l:=brs b is r)
  have hdr:∀r'∈d,r'≠r:=fun r' hr' e'=>by
   subst e'
   rw[<- e] at rnd
   exact(List.nodup_append.mp rnd).2.2 r' hr' r' (by simp) rfl
  have hdR:∀r'∈d,r'∈R:=fun r' hr'=>by rw[<- e];exact List.mem_append_left _ hr'
  unfold zcZ
  refine zam (by repeat (first|exact SetAt.zero|apply SetAt.succ)) ?_
  refine zg0 (p:=decide (is.getD (r.getD 0 0) 0=h)&&!(!decide (brs b is r=[]))) (ce':=c) (zjs (by trivial) (fun _=>zbX (zjr (zay (ws:=[wB b,wS is,wL r]) (by trivial) rfl e2) t2))) (fun q=>?_) (fun q=>?_)
  ·simp only[Bool.not_not,Bool.and_eq_true,decide_eq_true_eq] at q
   have nd2:(F++r).Nodup:=by
    rw[List.nodup_append]
    refine⟨nd,?_,fun a ha b' hb' e'=>?_⟩
    ·exact rnd1 r hr
    ·subst e'
     obtain⟨r',hr',_,_,h3⟩:=(mem a).mp ha
     exact hdr r' hr' (rmeet r' (hdR r' hr') r hr a h3 hb')
   have lt2:∀x∈F++r,x<b.length:=fun x hx=>by
    rcases List.mem_append.mp hx with hx|hx
    ·exact lt x hx
    ·exact r2 x hx
   have hl2:=zaX nd2 lt2
   rw[List.length_append] at hl2
   refine zfO (w:=.non) (ce':=c.set k3 (.lst (F.map nW++r.map nW))) (zh0 (ws:=[wL r]) (by trivial) (zcx O.g0) (by trivial) (zgs O.g0 (ys:=r.map nW) rfl (by rw[List.length_map,List.length_map];omega))) ?_
   refine⟨F++r,_,rfl,by rw[List.map_append];exact O.set0 _,nd2,lt2,fun x=>?_⟩
   rw[List.mem_append,mem]
   constructor
   ·rintro(⟨r',hr',h⟩|hx)
    ·exact⟨r',List.mem_append_left _ hr',h⟩
    ·exact⟨r,by simp,q.1,q.2,hx⟩
   ·rintro⟨r',hr',h⟩
    rcases List.mem_append.mp hr' with hr'|hr'
    ·exact .inl ⟨r',hr',h⟩
    ·rw[List.mem_singleton] at hr';subst hr';exact .inr h.2.2
  ·refine ze0 ?_
   refine⟨F,_,rfl,O,nd,lt,fun x=>?_⟩
   rw[mem]
   constructor
   ·rintro⟨r',hr',h⟩;exact⟨r',List.mem_append_left _ hr',h⟩
   ·rintro⟨r',hr',h⟩
    rcases List.mem_append.mp hr' with hr'|hr'
    ·exact⟨r',hr',h⟩
    ·rw[List.mem_singleton] at hr'
     subst hr'
     rw[decide_eq_true h.1,decide_eq_true h.2.1] at q
     cases q
 ·rintro sl c ⟨F,x4,rfl,O,nd,lt,mem⟩
  have hl':=zaX nd lt
  have es:zce F=(List.range b.length).filter fun q=>R.any fun r=>decide (is.getD (r.getD 0 0) 0=h)&&(decide (brs b is r=[])&&decide (q∈r)):=by
   rw[ze3 nd lt]
   apply List.filter_congr
   intro x _
   rw[Bool.eq_iff_iff,List.any_eq_true,decide_eq_true_eq,mem]
   simp only[Bool.and_eq_true,decide_eq_true_eq]
  rw[<- es]
  refine zax (zcf (zac (by trivial) zaj) ((zkZ (mk:=zgg) O.g0 (by omega)).trans (zc7 (by rw[List.length_map,zdF];omega)))) ?_
  subst hk
  exact(O.alloc _).finO (by simp only[zgk];exact bels_nW _ _)
theorem zhh(fu:Nat)(hfu:200<=fu)(B:Brd b)(hl:is.length=b.length)(hp:p<b.length):zcP (d_patch fu) [wB b,wS is,nW p] ce=some (.ok (wL (cpt b (vS is) p)) ce):=by
 refine zbW ?_ (bels_nW _ _)
 have e1:=zeh (ce:=ce) fu hfu (zrS hl) B.bd B.h36 hp
 unfold d_patch
 refine zbC [some (wB b),some (wS is),some (nW p)] rfl ?_
 refine zax (zay (ws:=[wB b,wS is,nW p]) (by trivial) rfl e1) ?_
 exact((Own.start ce).alloc _).finO (by simp only[zgk];exact bels_nW _ _)
theorem LyA.rows(A:LyA b is o p){r:List Nat}:(r∈zek b (is.set p o)/\(is.set p o).getD (r.getD 0 0) 0=3-o)↔r∈lpt b (thr (is.set p o) [3-o]):=by
 have hT:∀{s},s∈thr (is.set p o) [3-o]↔s<b.length/\(is.set p o).getD s 0=3-o:=fun {s}=>by rw[thr_mem,A.l1]
 have hc:∀{s},s<b.length->(is.set p o).getD s 0=3-o->cpt b (vT (thr (is.set p o) [3-o])) s=cpt b (vS (is.set p o)) s:=fun {s} hs es=>by
  have:=zgA (is:=is.set p o) A.bd A.l1 hs
  rwa [es] at this
 unfold zek
 rw[List.mem_filter,zd4 A.bd]
 constructor
 ·rintro⟨⟨⟨s,hs,hm,rfl⟩,_⟩,q⟩
  rw[zdG A.bd hs hm] at q
  have:=zjW (T:=thr (is.set p o) [3-o]) A.bd A.sym (fun x hx=>(hT.mp hx).1) (hT.mpr ⟨hs,q⟩)
  rwa [hc hs q] at this
 ·intro h
  obtain⟨s,hs,rfl⟩:=zjX h
  obtain⟨q1,q2⟩:=hT.mp hs
  rw[hc q1 q2]
  obtain⟨m,h1,h2,h3⟩:=zfS (vl:=vS (is.set p o)) A.bd A.sym q1
  have hm:=cpt_lt h1
  have em:(is.set p o).getD m 0=3-o:=(cpt_val A.bd q1 h1).trans q2
  rw[<- h3,zdG A.bd hm h2,em]
  have h0:=A.H.h0
  exact⟨⟨⟨m,hm,h2,rfl⟩,by simp[h0]⟩,rfl⟩
theorem LyA.blist(A:LyA b is o p):((List.range b.length).filter fun q=>(zek b (is.set p o)).any fun r=>decide ((is.set p o).getD (r.getD 0 0) 0=3-o)&&(decide (brs b (is.set p o) r=[])&&decide (q∈r)))=lT b is o p:=by
 unfold lT
 apply List.filter_congr
 intro q _
 rw[Bool.eq_iff_iff,List.any_eq_true,List.any_eq_true]
 simp only[Bool.and_eq_true,decide_eq_true_eq]
 constructor
 ·rintro⟨r,h1,h2,h3,h4⟩
  exact⟨r,List.mem_filter.mpr ⟨A.rows.mp ⟨h1,h2⟩,decide_eq_true h3⟩,h4⟩
 ·rintro⟨r,h1,h4⟩
  obtain⟨h1,h3⟩:=List.mem_filter.mp h1
  obtain⟨h1,h2⟩:=A.rows.mpr h1
  exact⟨r,h1,h2,of_decide_eq_true h3,h4⟩
theorem zpK{sl:Sl}{i p:Nat}(h:sl[i]?=some (some (nW p)))(hp:p<1000):[i].all (sml sl)=true:=by
 simp only[List.all_cons,List.all_nil,Bool.and_true,sml,h,nW]
 exact decide_eq_true (by simpa using hp)
theorem zhi(fu:Nat)(hfu:200<=fu)(B:Brd b)(P:PosA b is o)(hp:p<b.length)(p0:is.getD p 0=0){Q:O->Prop}(h:Run (zaG (dIf (zcF (zki (zar 3 (zcP (d_breaths fu)) (zad (zah 0) (zad (zah 6) (zad (zar 3 (zcP (d_patch fu)) (zad (zah 0) (zad (zah 6) (zad (zah 3) zao)))) zao)))))) (zch "NoBreath" [3]) zby) (zbt (zbQ (zad (zah 6) (zad (zah 5) zao)))))
   [some (wB b),some (wS is),some (.int o),some (nW p),some (wS (is.set p o)),some (wL (lT b is o p)),some (wS (lS b is o p))] ce Q) :
  Run (zaG (dIf (dB (zaY (eqW true) (zaY ixW (zah 1) (zah 3)) (dC (.int 0)))) (zch "NoLay" [3]) zby)
   (zaG (zbp 4 (zar 3 (d_filled fu) (zad (zah 1) (zad (zdm (zad (zah 3) zao)) (zad (zah 2) zao)))))
   (zaG (zbp 5 (zar 3 (zcP (d_breathless fu)) (zad (zah 0) (zad (zah 4) (zad (zar 1 (d_other_hand fu) (zad (zah 2) zao)) zao)))))
   (zaG (zbp 6 (zar 3 (d_filled fu) (zad (zah 4) (zad (zah 5) (zad (dC (.int 0)) zao)))))
   (zaG (dIf (zcF (zki (zar 3 (zcP (d_breaths fu)) (zad (zah 0) (zad (zah 6) (zad (zar 3 (zcP (d_patch fu)) (zad (zah 0) (zad (zah 6) (zad (zah 3) zao)))) zao)))))) (zch "NoBreath" [3]) zby)
   (zbt (zbQ (zad (zah 6) (zad (zah 5) zao)))))))))
   [some (wB b),some (wS is),some (.int o),some (nW p),none,none,none] ce Q:=by
 have hz:=zfk
 have A:=P.ly hp p0
 have h36:=B.h36
 have hl:=P.hl
 have jp:=zcV (ce:=ce) (is:=is) (p:=p) (by omega)
 refine zbo (p:=!decide (is.getD p 0=0)) (ce':=ce) (by trivial) (fun q=>by rw[decide_eq_true p0] at q;cases q) (fun _=>?_)
 refine za2 ?_
 obtain⟨is1,e1,l1,a1,b1⟩:=zf1 (ce:=ce) (is:=is) fu (pts:=[p]) (v:=o) (by omega) (fun q hq=>by rw[List.mem_singleton] at hq;subst hq;omega)
 have ei1:is1=is.set p o:=zf0 (by rw[l1,List.length_set]) fun q _=>by
  rw[A.s1]
  by_cases e:q=p
  ·rw[if_pos e,e];exact a1 p (by simp)
  ·rw[if_neg e];exact b1 q (by simpa using e)
 subst ei1
 have z1:1<=PySem.sizeLine:=by decide
 refine zav (w:=wS (is.set p o)) (ce':=ce) (zay (ws:=[wS is,wL [p],.int o]) (zac (by trivial) (zac (zbf (ws:=[nW p]) (by trivial) z1) (by trivial))) rfl e1) ?_
 refine zam (by repeat (first|exact SetAt.zero|apply SetAt.succ)) ?_
 have e2:=zfh (ce:=ce) (is:=is.set p o) fu hfu B A.l1 (h:=3-o) A.H.h0
 rw[A.blist] at e2
 have e2f:=zbW e2 (bels_nW _ _)
 have e3:=zhg (ce:=ce) fu o
 refine zav (w:=wL (lT b is o p)) (ce':=ce) (zay (ws:=[wB b,wS (is.set p o),.int (3-o)]) (by trivial) rfl e2f) ?_
 refine zam (by repeat (first|exact SetAt.zero|apply SetAt.succ)) ?_
 obtain⟨is2,e4,l2,a2,b2⟩:=zf1 (ce:=ce) (is:=is.set p o) fu (pts:=lT b is o p) (v:=0) (by rw[A.l1];omega) (fun q hq=>by rw[A.l1];exact(A.tkh hq).1)
 have ei2:is2=lS b is o p:=zf0 (by rw[l2,List.length_set,zej]) fun q hq=>by
  rw[l2,A.l1] at hq
  rw[A.get hq]
  by_cases e:q=p
  ·rw[if_pos e,b2 q (fun h=>(A.tkh h).2.2 e),A.s1,if_pos e]
  ·rw[if_neg e]
   by_cases ht:q∈lT b is o p
   ·rw[if_pos ht];exact a2 q ht
   ·rw[if_neg ht,b2 q ht,A.s1,if_neg e]
 subst ei2
 refine zav (w:=wS (lS b is o p)) (ce':=ce) (zay (ws:=[wS (is.set p o),wL (lT b is o p),.int 0]) (by trivial) rfl e4) ?_
 refine zam (by repeat (first|exact SetAt.zero|apply SetAt.succ)) ?_
 exact h
theorem zj1(fu:Nat)(hfu:200<=fu)(B:Brd b)(P:PosA b is o)(hp:p<b.length){x1 x2 x4 x5:Option W} :
  zcF (zki (zar 3 (zcP (d_breaths fu)) (zad (zah 0) (zad (zah 6) (zad (zar 3 (zcP (d_patch fu)) (zad (zah 0) (zad (zah 6) (zad (zah 3) zao)))) zao))))) [some (wB b),x1,x2,some (nW p),x4,x5,some (wS (lS b is o p))] ce=some (.ok (!(!decide (brs b (lS b is o p) (cpt b (vS (lS b is o p)) p)=[]))) ce):=by
 have hl:(lS b is o p).length=b.length:=by rw[zej];exact P.hl
 have e1:=zhh (ce:=ce) fu hfu B hl hp
 have e2:=zpJ (ce:=ce) (is:=lS b is o p) fu B hl (r:=cpt b (vS (lS b is o p)) p) (fun x hx=>cpt_lt hx)
 exact zbX (zjr (zay (ws:=[wB b,wS (lS b is o p),wL (cpt b (vS (lS b is o p)) p)]) (zac (by trivial) (zac (by trivial) (zac (zay (ws:=[wB b,wS (lS b is o p),nW p]) (by trivial) rfl e1) zaj))) rfl e2) zj0)
theorem znz(fu:Nat)(P:PosA b is o)(h36:b.length<=36)(hp:p<b.length)(p0:¬is.getD p 0=0):d_laid fu [wB b,wS is,.int o,nW p] ce=some (.ex ⟨"NoLay",none⟩ ce):=by
 have hl:=P.hl
 have jp:=zcV (ce:=ce) (is:=is) (p:=p) (by omega)
 unfold d_laid
 refine ze8 [some (wB b),some (wS is),some (.int o),some (nW p),none,none,none] rfl ?_
 refine zbo (p:=!decide (is.getD p 0=0)) (ce':=ce) (by trivial) (fun _=>zd7 (zpK (p:=p) rfl (by omega)) ⟨rfl,[],by simp⟩) (fun q=>by rw[decide_eq_false p0] at q;cases q)
theorem znA(fu:Nat)(hfu:200<=fu)(B:Brd b)(P:PosA b is o)(hp:p<b.length)(p0:is.getD p 0=0)(nf:¬Frb b is o p):d_laid fu [wB b,wS is,.int o,nW p] ce=some (.ex ⟨"NoBreath",none⟩ ce):=by
 have h36:=B.h36
 have nf':brs b (lS b is o p) (cpt b (vS (lS b is o p)) p)=[]:=Classical.byContradiction nf
 have eb:=zj1 (ce:=ce) (o:=o) fu hfu B P hp (x1:=some (wS is)) (x2:=some (.int o)) (x4:=some (wS (is.set p o))) (x5:=some (wL (lT b is o p)))
 rw[decide_eq_true nf'] at eb
 unfold d_laid
 refine ze8 [some (wB b),some (wS is),some (.int o),some (nW p),none,none,none] rfl ?_
 refine zhi fu hfu B P hp p0 ?_
 exact zbo (p:=!(!true)) (ce':=ce) eb (fun _=>zd7 (zpK (p:=p) rfl (by omega)) ⟨rfl,[],by simp⟩) (fun q=>by cases q)
theorem znB(fu:Nat)(hfu:200<=fu)(B:Brd b)(P:PosA b is o)(hp:p<b.length)(p0:is.getD p 0=0)(nf:Frb b is o p):d_laid fu [wB b,wS is,.int o,nW p] ce=some (.ok (.tup [wS (lS b is o p),wL (lT b is o p)]) ce):=by
 have z2:2<=PySem.sizeLine:=by decide
 have nf':¬brs b (lS b is o p) (cpt b (vS (lS b is o p)) p)=[]:=nf
 have eb:=zj1 (ce:=ce) (o:=o) fu hfu B P hp (x1:=some (wS is)) (x2:=some (.int o)) (x4:=some (wS (is.set p o))) (x5:=some (wL (lT b is o p)))
 rw[decide_eq_false nf'] at eb
 unfold d_laid
 refine zbC [some (wB b),some (wS is),some (.int o),some (nW p),none,none,none] rfl ?_
 refine zhi fu hfu B P hp p0 ?_
 refine zbo (p:=!(!false)) (ce':=ce) eb (fun q=>by cases q) (fun _=>za2 ?_)
 refine zax (w:=.tup [wS (lS b is o p),wL (lT b is o p)]) (ce':=ce) (zaU (ws:=[wS (lS b is o p),wL (lT b is o p)]) (zac (zae rfl) (zac (zae rfl) zaj)) z2) ?_
 exact zaN (by simp only[Bel,zcO];exact⟨belInts _ _,bels_nW _ _,trivial⟩)
end
theorem zhj{c:Sl->M W}{put:Option Nat}{ok:Exn->Bool}{hd:Exn->DS}{b:DS}{x:Exn}{sl sl':Sl}{ce c1 c2:Ce}{Q:O->Prop}(h:c sl ce=some (.ex x c1))(hok:ok x=true)(e:hd x sl c1=some (.go .ct sl' c2))(q:Q (.go .ct sl' c2)):Run (zaG (zir c put ok hd) b) sl ce Q :=
 ⟨_,by simp only[zaG,zir,h,hok,if_true,e],q⟩
section
variable {b:List (List Nat)} {is:List Int} {o:Int} {p q:Nat} {ce:Ce}
def zeL(b:List (List Nat))(is:List Int)(o:Int)(p:Nat):W:=.tup [nW p,wS (lS b is o p),wL (lT b is o p)]
open Classical in
def zhk(b:List (List Nat))(is:List Int)(o:Int)(p:Nat):Bool:=decide (is.getD p 0=0/\Frb b is o p)
open Classical in
theorem canL_iff:zhk b is o p=true↔is.getD p 0=0/\Frb b is o p:=by unfold zhk;exact decide_eq_true_iff
theorem zdK(n:Nat)(p:Nat):Bel n (zeL b is o p):=by simp only[Bel,zcO,zeL,nW];exact⟨trivial,belInts _ _,bels_nW _ _,trivial⟩
theorem bels_map{α:Type}{f:α->W}(n:Nat)(h:∀x,Bel n (f x)):∀l:List α,zcO n (l.map f)
 | []=>by simp only[List.map_nil,zcO]
 | x::l=>by simp only[List.map_cons,zcO];exact⟨h x,bels_map n h l⟩
theorem zii(fu:Nat)(hfu:200<=fu)(B:Brd b)(P:PosA b is o){pts:List Nat}(hlt:∀p∈pts,p<b.length)(hlen:pts.length<=100) :
  zcP (d_lays_on fu) [wB b,wS is,.int o,wL pts] ce=some (.ok (.lst ((pts.filter (zhk b is o)).map (zeL b is o))) ce):=by
 have hz:=zfk
 have z200:200<PySem.sizeLine:=by decide
 have z3:3<=PySem.sizeLine:=by decide
 have h36:=B.h36
 refine zbW ?_ (bels_map _ (zdK _) _)
 unfold d_lays_on
 refine zbC [some (wB b),some (wS is),some (.int o),some (wL pts),none,none,none] rfl ?_
 refine zav (zd3 zaj (Nat.zero_le _)) ?_
 refine zam (by repeat (first|exact SetAt.zero|apply SetAt.succ)) ?_
 have O0:=(Own.start ce).alloc (C.lst [])
 refine zcW (zs:=pts) (en:=nW) (c1:=ce++[.lst []]) (zgo (zae rfl))
  (fun d sl c=>∃x5 x6,sl=[some (wB b),some (wS is),some (.int o),some (wL pts),some (.cel ce.length),x5,x6]/\Own ce c [(ce.length,C.lst ((d.filter (zhk b is o)).map (zeL b is o)))])
  ⟨_,_,rfl,O0⟩ ?_ ?_
 ·rintro d x r sl c e hx ⟨x5,x6,rfl,O⟩
  have hxb:=hlt x hx
  have hdl:d.length<100:=by
   have:=congrArg List.length e
   simp only[List.length_append,List.length_cons] at this
   omega
  have go:zar 4 (d_laid fu) (zh3 (zad (zah 0) (zad (zah 1) (zad (zah 2) (zad (zah 5) zao))))) [some (wB b),some (wS is),some (.int o),some (wL pts),some (.cel ce.length),some (nW x),x6] c=d_laid fu [wB b,wS is,.int o,nW x] c:=by
   have:zh3 (zad (zah 0) (zad (zah 1) (zad (zah 2) (zad (zah 5) zao)))) [some (wB b),some (wS is),some (.int o),some (wL pts),some (.cel ce.length),some (nW x),x6] c=some (.ok [wB b,wS is,.int o,nW x] c):=zhb (zac (zae rfl) (zac (zae rfl) (zac (zae rfl) (zac (zae rfl) zaj))))
   simp only[zar,bnd,this]
   rfl
  unfold zeH
  refine zam (by repeat (first|exact SetAt.zero|apply SetAt.succ)) ?_
  by_cases p0:is.getD x 0=0
  ·by_cases hf:Frb b is o x
   ·have ec:zhk b is o x=true:=canL_iff.mpr ⟨p0,hf⟩
    refine zla (go.trans (znB (ce:=c) fu hfu B P hxb p0 hf)) ?_
    have ea:=zjv (y:=zeL b is o x) O.g0 (by rw[List.length_map];exact Nat.lt_of_le_of_lt (List.length_filter_le _ _) (by omega))
    refine zfO (w:=.non) (zh0 (zae rfl) (zcx O.g0) (zac (zaU (ws:=[nW x,wS (lS b is o x),wL (lT b is o x)]) (zac (zae rfl) (zac (zaH (zae rfl) zaK (zhZ (xs:=[wS (lS b is o x),wL (lT b is o x)]) (j:=0) rfl rfl)) (zac (zaH (zae rfl) zaK (zhZ (xs:=[wS (lS b is o x),wL (lT b is o x)]) (j:=1) rfl rfl)) zaj))) z3) zaj) ea) ?_
    refine⟨_,_,rfl,?_⟩
    rw[List.filter_append,List.filter_cons_of_pos ec,List.filter_nil,List.map_append]
    exact O.set0 _
   ·have ec:¬zhk b is o x=true:=by intro q;exact hf (canL_iff.mp q).2
    refine zhj (go.trans (znA (ce:=c) fu hfu B P hxb p0 hf)) (by decide +kernel) rfl ?_
    refine⟨_,_,rfl,?_⟩
    rw[List.filter_append,List.filter_cons_of_neg ec,List.filter_nil,List.append_nil]
    exact O
  ·have ec:¬zhk b is o x=true:=by intro q;exact p0 (canL_iff.mp q).1
   refine zhj (go.trans (znz (ce:=c) fu P h36 hxb p0)) (by decide +kernel) rfl ?_
   refine⟨_,_,rfl,?_⟩
   rw[List.filter_append,List.filter_cons_of_neg ec,List.filter_nil,List.append_nil]
   exact O
 ·rintro sl c ⟨x5,x6,rfl,O⟩
  exact zax (w:=.cel ce.length) (ce':=c) (zae rfl) (O.finO (by simp only[zgk];exact bels_map _ (zdK _) _))
def cmW(l:List (List Int)):W:=.lst (l.map wS)
theorem zl5(x y:List Int):peq (wS x) (wS y)=decide (x=y):=by simp only[wS,peq,zfM]
theorem zpL(ng:Bool)(x:List Int)(l:List (List Int)):inW ng ce (wS x) (cmW l)=some (.bl (if ng then !decide (x∈l) else decide (x∈l))):=by
 have h1:cln 8 (drf ce (wS x))=true:=zgY x 7
 have h2:(l.map wS).all (cln 8)=true:=by
  rw[List.all_eq_true]
  intro w hw
  obtain⟨y,_,rfl⟩:=List.mem_map.mp hw
  exact zgY y 7
 have h3:(l.map wS).any (peq · (wS x))=decide (x∈l):=by
  rw[Bool.eq_iff_iff,List.any_eq_true,decide_eq_true_eq]
  constructor
  ·rintro⟨w,hw,e⟩
   obtain⟨y,hy,rfl⟩:=List.mem_map.mp hw
   rw[zl5,decide_eq_true_eq] at e
   subst e
   exact hy
  ·exact fun h=>⟨wS x,List.mem_map.mpr ⟨x,h,rfl⟩,by rw[zl5];simp⟩
 have h4:drf ce (wS x)=wS x:=rfl
 simp only[inW,cmW,zhP,zdX,h4] at *
 simp only[h1,h2,h3,Bool.and_self,if_true]
open Classical in
def zkl(b:List (List Nat))(cm:List (List Int))(is:List Int)(o:Int)(pts:List Nat):List Nat:=pts.filter fun p=>zhk b is o p&&!decide (lS b is o p∈cm)
theorem zgB{l:List (List Int)}:ixW ce (cmW (l++[is])) (.int (-1))=some (wS is):=by
 have:zhP ce (cmW (l++[is]))=some ((l++[is]).map wS):=rfl
 have hl:((l++[is]).map wS).length=l.length+1:=by simp
 have hi:L2.ixN (l.length+1) (-1)=some l.length:=by
  unfold L2.ixN
  rw[if_neg (by omega),if_pos (by omega)]
  congr 1
  omega
 simp only[ixW,this,L2.atI,hl,hi,Option.bind_some]
 simp
theorem zl6(fu:Nat)(hfu:200<=fu)(B:Brd b)(P:PosA b is o){pts:List Nat}{l:List (List Int)}(hlt:∀p∈pts,p<b.length)(hlen:pts.length<=100) :
  d_new_lays fu [wB b,cmW (l++[is]),.int o,wL pts] ce=some (.ok (.lst ((zkl b (l++[is]) is o pts).map (zeL b is o))) ce):=by
 have z200:200<PySem.sizeLine:=by decide
 have e1:=zii (ce:=ce) fu hfu B P hlt hlen
 unfold d_new_lays
 refine zbC [some (wB b),some (cmW (l++[is])),some (.int o),some (wL pts)] rfl ?_
 refine zax (w:=.lst ((zkl b (l++[is]) is o pts).map (zeL b is o))) (ce':=ce) ?_ (zaN (by simp only[Bel];exact bels_map _ (zdK _) _))
 have:=zp1 (zs:=pts.filter (zhk b is o)) (en:=zeL b is o) (c1:=ce) (js:=[1]) (sl:=[some (wB b),some (cmW (l++[is])),some (.int o),some (wL pts)]) (ce:=ce) (di:=dIL (zar 4 (zcP (d_lays_on fu)) (zad (zah 0) (zad (zaY ixW (zah 1) (dUn zmG (dC (.int 1)))) (zad (zah 2) (zad (zah 3) zao)))))) (c:=dB (zaY (inW true) (zaY ixW (zah 0) (dC (.int 1))) (zah 1))) (t:=fun p=>!decide (lS b is o p∈l++[is]))
  (zjy (zay (ws:=[wB b,wS is,.int o,wL pts]) (zac (zae rfl) (zac (zaH (zae rfl) (zjq zaK rfl) zgB) (zac (zae rfl) (zac (zae rfl) zaj)))) rfl e1) (.fr _)) (Nat.le_trans (List.length_filter_le _ _) (by omega)) (fun p hp=>zeC (zaH (zaH (zae rfl) zaK (zhZ (xs:=[nW p,wS (lS b is o p),wL (lT b is o p)]) (j:=1) rfl rfl)) (zae rfl) (zpL true _ _)))
 rw[this,List.filter_filter]
 unfold zkl
 simp only[Bool.and_comm]
end
def dW:Option Nat->W
 | none=>.non
 | some p=>nW p
def dsW(l:List (Option Nat)):W:=.tup (l.map dW)
abbrev Web:=List (List (Option Nat)×Option Nat)
def wrW(p:List (Option Nat)×Option Nat):W:=.tup [dsW p.1,dW p.2]
def wbW(l:Web):W:=.lst (l.map wrW)
def wd:Bool->PySem.Str
 | true => "caught"
 | false => "free"
theorem dW_bel(n:Nat)(d:Option Nat):Bel n (dW d):=by cases d<;>simp only[dW,nW,Bel]
theorem znC(n:Nat)(p:List (Option Nat)×Option Nat):Bel n (wrW p):=by
 simp only[wrW,dsW,Bel,zcO]
 exact⟨bels_map n (dW_bel n) _,dW_bel n _,trivial⟩
section
variable {b:List (List Nat)} {o:Int} {q:Nat} {most:Nat}
def brq(b:List (List Nat))(q:Nat)(is:List Int):List Nat:=brs b is (cpt b (vS is) q)
open Classical in
def hlP(b:List (List Nat))(o:Int)(q:Nat)(cm:List (List Int))(is:List Int):List Nat :=
 (zkl b cm is o (brq b q is)).filter fun p=>decide ((lS b is o p).getD q 0=0)||decide (((brq b q (lS b is o p)).length:Int)<=1)
def stM(b:List (List Nat))(h:Int)(cm:List (List Int))(is:List Int):List (Option Nat×List Int) :=
 (zkl b cm is h (List.range b.length)).map (fun p=>(some p,lS b is h p))++[(none,is)]
def huL(g:Nat->Bool)(f:Nat->Bool×Web)(ds:List (Option Nat)):List Nat->Web->Bool×Web
 | [],acc=>(false,acc)
 | p::ps,acc=>if g p=true then (true,[(ds,some p)]) else if (f p).1=true then (true,(ds,some p)::(f p).2) else huL g f ds ps (acc++(f p).2)
def ruL(f:Option Nat×List Int->Bool×Web)(ds:List (Option Nat)):List (Option Nat×List Int)->Web->Bool×Web
 | [],acc=>(true,acc)
 | st::ss,acc=>if (f st).1=false then (false,(ds,st.1)::(f st).2) else ruL f ds ss (acc++(f st).2)
def cha(b:List (List Nat))(o:Int)(q most:Nat):Nat->Bool->List (List Int)->List Int->List (Option Nat)->Bool×Web
 | 0,_,_,_,_=>(false,[])
 | r+1,true,pre,is,ds=>if most<=(ds.length+1) / 2 then (false,[]) else huL (fun p=>decide ((lS b is o p).getD q 0=0)) (fun p=>cha b o q most r false (pre++[is]) (lS b is o p) (ds++[some p])) ds (hlP b o q (pre++[is]) is) []
 | r+1,false,pre,is,ds=>if most<=(ds.length+1) / 2 then (false,[]) else ruL (fun st=>cha b o q most r true (pre++[is]) st.2 (ds++[st.1])) ds (stM b (3-o) (pre++[is]) is) []
def lF:Nat->Bool->Nat
 | 0,_=>0
 | r+1,true=>16*lF r false
 | r+1,false=>lF r true+1
def lC:Nat->Bool->Nat
 | 0,_=>0
 | r+1,true=>lC r false+1
 | r+1,false=>17*lC r true
theorem zj2{g:Nat->Bool}{f:Nat->Bool×Web}{ds:List (Option Nat)}{F C:Nat}(hf:∀p,(f p).1=false->(f p).2.length<=F)(hc:∀p,(f p).1=true->(f p).2.length<=C):∀(l:List Nat) (acc:Web),
  ((huL g f ds l acc).1=false->(huL g f ds l acc).2.length<=acc.length+l.length*F)/\((huL g f ds l acc).1=true->(huL g f ds l acc).2.length<=C+1)
 | [],acc=>⟨fun _=>by simp[huL],fun h=>by simp[huL] at h⟩
 | p::ps,acc=>by
  unfold huL
  split
  ·exact⟨fun h=>by simp at h,fun _=>by simp⟩
  ·split
   ·rename_i _ h
    exact⟨fun h'=>by simp at h',fun _=>by have:=hc p h;simp;omega⟩
   ·rename_i _ h
    have h':(f p).1=false:=by cases e:(f p).1<;>simp_all
    obtain⟨i1,i2⟩:=zj2 hf hc ps (acc++(f p).2)
    refine⟨fun q=>Nat.le_trans (i1 q) ?_,i2⟩
    have:=hf p h'
    rw[List.length_append,List.length_cons,Nat.succ_mul]
    omega
theorem zj3{f:Option Nat×List Int->Bool×Web}{ds:List (Option Nat)}{F C:Nat}(hf:∀p,(f p).1=false->(f p).2.length<=F)(hc:∀p,(f p).1=true->(f p).2.length<=C):∀(l:List (Option Nat×List Int)) (acc:Web),
  ((ruL f ds l acc).1=true->(ruL f ds l acc).2.length<=acc.length+l.length*C)/\((ruL f ds l acc).1=false->(ruL f ds l acc).2.length<=F+1)
 | [],acc=>⟨fun _=>by simp[ruL],fun h=>by simp[ruL] at h⟩
 | p::ps,acc=>by
  unfold ruL
  split
  ·rename_i h
   exact⟨fun h'=>by simp at h',fun _=>by have:=hf p h;simp;omega⟩
  ·rename_i h
   have h':(f p).1=true:=by cases e:(f p).1<;>simp_all
   obtain⟨i1,i2⟩:=zj3 hf hc ps (acc++(f p).2)
   refine⟨fun q=>Nat.le_trans (i1 q) ?_,i2⟩
   have:=hc p h'
   rw[List.length_append,List.length_cons,Nat.succ_mul]
   omega
theorem zdL{cm:List (List Int)}{is:List Int}{h:Int}{l:List Nat}:(zkl b cm is h l).length<=l.length:=List.length_filter_le _ _
theorem zj4{is:List Int}:(brq b q is).length<=b.length:=Nat.le_trans (List.length_filter_le _ _) zei
theorem zj5{cm:List (List Int)}{is:List Int}:(hlP b o q cm is).length<=b.length:=Nat.le_trans (List.length_filter_le _ _) (Nat.le_trans zdL zj4)
theorem zj6{cm:List (List Int)}{is:List Int}{h:Int}:(stM b h cm is).length<=b.length+1:=by
 unfold stM
 rw[List.length_append,List.length_map]
 have:=zdL (b:=b) (cm:=cm) (is:=is) (h:=h) (l:=List.range b.length)
 rw[List.length_range] at this
 simp only[List.length_cons,List.length_nil]
 omega
theorem zcm(h16:b.length<=16):∀(r:Nat) (t:Bool) (pre:List (List Int)) (is:List Int) (ds:List (Option Nat)),
  ((cha b o q most r t pre is ds).1=false->(cha b o q most r t pre is ds).2.length<=lF r t)/\((cha b o q most r t pre is ds).1=true->(cha b o q most r t pre is ds).2.length<=lC r t)
 | 0,t,pre,is,ds=>⟨fun _=>by simp[cha],fun h=>by simp[cha] at h⟩
 | r+1,true,pre,is,ds=>by
  unfold cha
  split
  ·exact⟨fun _=>by simp,fun h=>by simp at h⟩
  ·obtain⟨i1,i2⟩:=zj2 (g:=fun p=>decide ((lS b is o p).getD q 0=0)) (ds:=ds) (f:=fun p=>cha b o q most r false (pre++[is]) (lS b is o p) (ds++[some p])) (F:=lF r false) (C:=lC r false) (fun p=>(zcm h16 r false _ _ _).1) (fun p=>(zcm h16 r false _ _ _).2) (hlP b o q (pre++[is]) is) []
   refine⟨fun h=>Nat.le_trans (i1 h) ?_,i2⟩
   have:=zj5 (b:=b) (o:=o) (q:=q) (cm:=pre++[is]) (is:=is)
   simp only[lF,List.length_nil,Nat.zero_add]
   exact Nat.mul_le_mul_right _ (by omega)
 | r+1,false,pre,is,ds=>by
  unfold cha
  split
  ·exact⟨fun _=>by simp,fun h=>by simp at h⟩
  ·obtain⟨i1,i2⟩:=zj3 (ds:=ds) (f:=fun st:Option Nat×List Int=>cha b o q most r true (pre++[is]) st.2 (ds++[st.1])) (F:=lF r true) (C:=lC r true) (fun p=>(zcm h16 r true _ _ _).1) (fun p=>(zcm h16 r true _ _ _).2) (stM b (3-o) (pre++[is]) is) []
   refine⟨i2,fun h=>Nat.le_trans (i1 h) ?_⟩
   have:=zj6 (b:=b) (h:=3-o) (cm:=pre++[is]) (is:=is)
   simp only[lC,List.length_nil,Nat.zero_add]
   exact Nat.mul_le_mul_right _ (by omega)
end
section
variable {b:List (List Nat)} {is:List Int} {o:Int} {p q most k:Nat} {c:Ce}
def chF(b:List (List Nat))(o:Int)(q most:Nat):List (PySem.Str×W):=[("joined",wB b),("hunter",.int o),("runner",.int (3-o)),("stone",nW q),("most",nW most)]
theorem PosA.flip(P:PosA b is o):PosA b is (3-o):=by
 have e:3-(3-o)=o:=by omega
 refine⟨P.bd,P.sym,P.hl,⟨by rw[e];exact P.H.o0,P.H.h0,by rw[e];exact fun h=>P.H.ho h.symm⟩,fun q hq=>?_,by rw[e];exact P.no,P.nh⟩
 rw[e]
 rcases P.v q hq with h|h|h
 ·exact .inl h
 ·exact .inr (.inr h)
 ·exact .inr (.inl h)
theorem PosA.back(P:PosA b is (3-o)):PosA b is o:=by
 have:=P.flip
 rwa [show 3-(3-o)=o by omega] at this
theorem zhl(P:PosA b is o)(hp:p<b.length)(h:zhk b is o p=true):PosA b (lS b is o p) o:=by
 obtain⟨p0,f⟩:=canL_iff.mp h
 exact P.next (P.ly hp p0) f
theorem zhm{cm:List (List Int)}{l:List Nat}{p:Nat}(h:p∈zkl b cm is o l):p∈l/\zhk b is o p=true:=by
 obtain⟨h1,h2⟩:=List.mem_filter.mp h
 rw[Bool.and_eq_true] at h2
 exact⟨h1,h2.1⟩
theorem brq_lt{p:Nat}(h:p∈brq b q is):p<b.length:=zeJ (List.mem_filter.mp h).1
theorem zgC{cm:List (List Int)}{p:Nat}(h:p∈hlP b o q cm is):p<b.length/\zhk b is o p=true:=by
 obtain⟨h1,h2⟩:=zhm (List.mem_filter.mp h).1
 exact⟨brq_lt h1,h2⟩
theorem zhn(fu:Nat)(g:c[k]?=some (.ins "Chase" (chF b o q most)))(ds:List (Option Nat)):d_Chase_is_spent fu [.cel k,dsW ds] c=some (.ok (.bl (decide (most<=(ds.length+1) / 2))) c):=by
 have l1:zf2 [dsW ds] c=some (.ok (nW ds.length) c):=by simp[zf2,dsW];rfl
 have e1:zcE (nW ds.length) (.int 1)=some (nW (ds.length+1)):=by simp[zcE,i2,nW]
 have e2:znL (nW (ds.length+1)) (.int 2)=some (nW ((ds.length+1) / 2)):=by
  rw[show(nW ((ds.length+1) / 2))=W.int (((ds.length+1:Nat):Int) / 2) by simp[nW]]
  exact zjC rfl rfl (by omega)
 have e3:fGe (nW ((ds.length+1) / 2)) (nW most)=some (.bl (decide (most<=(ds.length+1) / 2))):=by
  show some (W.bl (decide ((most:Int)<=(((ds.length+1) / 2:Nat):Int))))=_
  rw[show decide ((most:Int)<=(((ds.length+1) / 2:Nat):Int))=decide (most<=(ds.length+1) / 2) by rw[Bool.eq_iff_iff,decide_eq_true_eq,decide_eq_true_eq];omega]
 unfold d_Chase_is_spent
 refine zbC [some (.cel k),some (dsW ds)] rfl ?_
 exact zax (zaL (zaL (zaL (zcf (ws:=[dsW ds]) (zac (zae rfl) zaj) l1) zaK e1) zaK e2) (zcC (zae rfl) g rfl) e3) (zaN (by simp only[Bel]))
theorem zj7(fu:Nat)(hfu:200<=fu)(B:Brd b)(hl:is.length=b.length)(hq:q<b.length)(g:c[k]?=some (.ins "Chase" (chF b o q most))):d_Chase_breaths_at fu [.cel k,wS is] c=some (.ok (wL (brq b q is)) c):=by
 have e1:=zhh (ce:=c) fu hfu B hl hq
 have e2:=zbW (zeK (ce:=c) (row:=cpt b (vS is) q) fu B.bd B.h36 hl (.fr _) (fun p hp=>cpt_lt hp)) (bels_nW _ _)
 unfold d_Chase_breaths_at
 refine zbC [some (.cel k),some (wS is)] rfl ?_
 exact zax (zay (ws:=[wB b,wS is,wL (cpt b (vS is) q)]) (zac (zcC (zae rfl) g rfl) (zac (zae rfl) (zac (zay (ws:=[wB b,wS is,nW q]) (zac (zcC (zae rfl) g rfl) (zac (zae rfl) (zac (zcC (zae rfl) g rfl) zaj))) rfl e1) zaj))) rfl e2) (zaN (by simp only[Bel];exact bels_nW _ _))
theorem zlm(fu:Nat)(hfu:200<=fu)(B:Brd b)(P:PosA b is o)(hq:q<b.length){pre:List (List Int)}(g:c[k]?=some (.ins "Chase" (chF b o q most))) :
  d_Chase_hunter_lays fu [.cel k,cmW (pre++[is])] c=some (.ok (.lst ((hlP b o q (pre++[is]) is).map (zeL b is o))) c):=by
 have z200:200<PySem.sizeLine:=by decide
 have h36:=B.h36
 have bl:=zj4 (b:=b) (q:=q) (is:=is)
 have e1:=zj7 (c:=c) (is:=is) fu hfu B P.hl hq g
 have e2:=zl6 (ce:=c) (l:=pre) fu hfu B P (pts:=brq b q is) (fun p hp=>brq_lt hp) (by omega)
 have nl:=zdL (b:=b) (cm:=pre++[is]) (is:=is) (h:=o) (l:=brq b q is)
 unfold d_Chase_hunter_lays
 refine zbC [some (.cel k),some (cmW (pre++[is])),none] rfl ?_
 refine zav (zay (ws:=[wB b,cmW (pre++[is]),.int o,wL (brq b q is)]) (zac (zcC (zae rfl) g rfl) (zac (zae rfl) (zac (zcC (zae rfl) g rfl) (zac (zcj (ws:=[wS is]) (zae rfl) g rfl (zac (zaH (zae rfl) (zjq zaK rfl) zgB) zaj) rfl e1) zaj)))) rfl e2) ?_
 refine zam (by repeat (first|exact SetAt.zero|apply SetAt.succ)) ?_
 refine zax (zp1 (zs:=zkl b (pre++[is]) is o (brq b q is)) (en:=zeL b is o) (c1:=c) (t:=fun p=>decide ((lS b is o p).getD q 0=0)||decide (((brq b q (lS b is o p)).length:Int)<=1)) (zjy (zae rfl) (.fr _)) (by omega) (fun p hp=>?_)) (zaN (by simp only[Bel];exact bels_map _ (zdK _) _))
 have hl':(lS b is o p).length=b.length:=by rw[zej];exact P.hl
 have e3:=zj7 (c:=c) (is:=lS b is o p) fu hfu B hl' hq g
 have i1:ixW c (zeL b is o p) (.int 1)=some (wS (lS b is o p)):=zhZ (xs:=[nW p,wS (lS b is o p),wL (lT b is o p)]) (j:=1) rfl rfl
 have i2:=zcV (ce:=c) (is:=lS b is o p) (p:=q) (by omega)
 have l1:=zju (ce:=c) (l:=brq b q (lS b is o p))
 refine zhb (zfP (zeC (zaH (zaH (zaH (x:=zeL b is o p) (zae rfl) zaK i1) (zcC (k:=k) (zae rfl) g rfl) i2) zaK eqI0)) (fun _=>zeC (zaL (zcf (ws:=[wL (brq b q (lS b is o p))]) (zac (zcj (k:=k) (ws:=[wS (lS b is o p)]) (zae rfl) g rfl (zac (zaH (x:=zeL b is o p) (zae rfl) zaK i1) zaj) rfl e3) zaj) l1) zaK rfl)))
def stW(st:Option Nat×List Int):W:=.tup [dW st.1,wS st.2]
theorem zj8(n:Nat)(st:Option Nat×List Int):Bel n (stW st):=by simp only[stW,Bel,zcO];exact⟨dW_bel n _,belInts _ _,trivial⟩
theorem znD{n:Nat}(h:n<=1000):zhW zb6 [nW n] c=some (.ok (wL (List.range n)) c):=by
 have z:2000<PySem.sizeLine:=by decide
 have r1:zkj [nW n]=some (.rng 0 n):=by
  simp only[zkj,nW]
  rw[if_pos ⟨by omega,by omega⟩,Int.toNat_natCast]
 simp only[zhW,r1]
 rw[if_pos (by omega)]
 have e:(List.range n).map (fun(i:Nat)=>W.int (0+(i:Int)))=(List.range n).map nW:=by
  apply List.map_congr_left
  intro i _
  simp[nW]
 rw[e,ze1 (by rw[List.length_map,List.length_range];omega)]
theorem zln(fu:Nat)(hfu:200<=fu)(B:Brd b)(P:PosA b is o){pre:List (List Int)}:zcP (d_steps fu) [wB b,cmW (pre++[is]),.int o] c=some (.ok (.lst ((stM b o (pre++[is]) is).map stW)) c):=by
 have z200:200<PySem.sizeLine:=by decide
 have z2:2<=PySem.sizeLine:=by decide
 have h36:=B.h36
 have e1:=zl6 (ce:=c) (l:=pre) fu hfu B P (pts:=List.range b.length) (fun p hp=>List.mem_range.mp hp) (by simp;omega)
 have nl:=zdL (b:=b) (cm:=pre++[is]) (is:=is) (h:=o) (l:=List.range b.length)
 rw[List.length_range] at nl
 refine zbW ?_ (bels_map _ (zj8 _) _)
 unfold d_steps
 refine zbC [some (wB b),some (cmW (pre++[is])),some (.int o),none] rfl ?_
 have e0:zhW zb6 [nW b.length] c=some (.ok (wL (List.range b.length)) c):=znD (by omega)
 generalize hN:zkl b (pre++[is]) is o (List.range b.length)=N at *
 refine zav (w:=.cel c.length) (ce':=c++[.lst (N.map fun p=>stW (some p,lS b is o p))]) (zrP (zs:=N) (en:=zeL b is o) (g:=fun p=>stW (some p,lS b is o p)) (zjy (zay (ws:=[wB b,cmW (pre++[is]),.int o,wL (List.range b.length)]) (zac (zae rfl) (zac (zae rfl) (zac (zae rfl) (zac (zcf (ws:=[nW b.length]) (zac (zcf (ws:=[wB b]) (zac (zae rfl) zaj) ze2) zaj) e0) zaj)))) rfl e1) (.fr _)) (by omega) (fun p hp=>zaU (ws:=[nW p,wS (lS b is o p)]) (zac (zaH (x:=zeL b is o p) (zae rfl) zaK (zhZ (xs:=[nW p,wS (lS b is o p),wL (lT b is o p)]) (j:=0) rfl rfl)) (zac (zaH (x:=zeL b is o p) (zae rfl) zaK (zhZ (xs:=[nW p,wS (lS b is o p),wL (lT b is o p)]) (j:=1) rfl rfl)) zaj)) z2)) ?_
 refine zam (by repeat (first|exact SetAt.zero|apply SetAt.succ)) ?_
 have O0:=(Own.start c).alloc (C.lst (N.map fun p=>stW (some p,lS b is o p)))
 have ea:=zjv (y:=stW (none,is)) O0.g0 (by rw[List.length_map];omega)
 refine zlQ (w:=.non) (zh0 (zae rfl) (zcx O0.g0) (zac (zaU (ws:=[.non,wS is]) (zac zaK (zac (zaH (zae rfl) (zjq zaK rfl) zgB) zaj)) z2) zaj) ea) ?_
 have O1:=O0.set0 (C.lst ((N.map fun p=>stW (some p,lS b is o p))++[stW (none,is)]))
 have es:(stM b o (pre++[is]) is).map stW=(N.map fun p=>stW (some p,lS b is o p))++[stW (none,is)]:=by
  unfold stM
  rw[hN,List.map_append,List.map_map]
  rfl
 rw[es]
 refine zax (w:=.cel c.length) (zae rfl) (O1.finO (by
  simp only[zgk]
  rw[<- es]
  exact bels_map _ (zj8 _) _))
theorem zc4{α:Type}{f:α->W}{n d:Nat}{c:Ce}(h:∀x,zd5 n c d (f x)=some (f x)):∀l:List α,zcs n c d (l.map f)=some (l.map f)
 | []=>by simp only[List.map_nil,zcs]
 | x::l=>by simp only[List.map_cons,zcs,h x,zc4 h l]
theorem zj9(n d:Nat)(c:Ce)(x:Option Nat):zd5 n c d (dW x)=some (dW x):=by cases x<;>cases d<;>simp only[dW,nW,zd5]
theorem zka(n d:Nat)(c:Ce)(x:List (Option Nat)×Option Nat):zd5 n c (d+2) (wrW x)=some (wrW x):=by
 simp only[wrW,dsW,zd5,zcs,zc4 (zj9 n d c),zj9,Option.map_some]
theorem zho{n j:Nat}{c:Ce}{w:PySem.Str}{l:Web}(hn:n<=j)(g:c[j]?=some (.lst (l.map wrW))):zd5 n c 6 (.tup [.str w,.cel j])=some (.tup [.str w,wbW l]):=by
 have h:¬j<n:=by omega
 simp only[zd5,zcs,if_neg h,g,zc4 (zka n 2 c),Option.map_some,wbW]
theorem zcn{n:Nat}{c:Ce}{w:PySem.Str}{l:Web}:zd5 n c 6 (.tup [.str w,wbW l])=some (.tup [.str w,wbW l]):=by
 simp only[wbW,zd5,zcs,zc4 (zka n 2 c),Option.map_some]
def toW(h:Bool×Web):W:=.tup [.str (wd h.1),wbW h.2]
theorem lim:∀r,r<=9->∀t,17*lF r t+17<PySem.sizeLine/\17*lC r t+17<PySem.sizeLine:=by decide +kernel
theorem zpM(x y:PySem.Str):eqW false c (.str x) (.str y)=some (.bl (x==y)):=by simp[eqW,drf,cln,peq]
theorem zkb(t:Bool):(wd t==("caught" : PySem.Str))=t:=by cases t<;>decide +kernel
theorem znE(t:Bool):(wd t==("free" : PySem.Str))=!t:=by cases t<;>decide +kernel
theorem zrT(h:Bool×Web):ixW c (toW h) (.int 0)=some (.str (wd h.1)):=zhZ (xs:=[.str (wd h.1),wbW h.2]) (j:=0) rfl rfl
theorem zp3(h:Bool×Web):ixW c (toW h) (.int 1)=some (wbW h.2):=zhZ (xs:=[.str (wd h.1),wbW h.2]) (j:=1) rfl rfl
theorem zl7{sl:Sl}{d1 d2:Sl->M W}{l:List (List Int)}(h1:d1 sl c=some (.ok (cmW l) c))(h2:d2 sl c=some (.ok (wS is) c))(hl:l.length<=1000):zja zb6 d1 (zdm (zad d2 zao)) sl c=some (.ok (cmW (l++[is])) c):=by
 have z:2000<PySem.sizeLine:=by decide
 have z1:1<=PySem.sizeLine:=by decide
 have:=zdh (sl:=sl) (ce:=c) (a:=d1) (b:=zdm (zad d2 zao)) h1 (zbf (ws:=[wS is]) (zac h2 zaj) z1) (xs:=l.map wS) (ys:=[wS is]) rfl rfl (by rw[List.length_map];show l.length+1<=_;omega)
 rw[this]
 simp only[cmW,List.map_append,List.map_cons,List.map_nil]
theorem zl8{sl:Sl}{d1 d2:Sl->M W}{l:List (Option Nat)}{x:Option Nat}(h1:d1 sl c=some (.ok (dsW l) c))(h2:d2 sl c=some (.ok (dW x) c))(hl:l.length<=1000):zh2 d1 (zbQ (zad d2 zao)) sl c=some (.ok (dsW (l++[x])) c):=by
 have z:2000<PySem.sizeLine:=by decide
 have z1:1<=PySem.sizeLine:=by decide
 have:=zm9 (c1:=c) (xs:=l.map dW) (ys:=[dW x]) h1 (zaU (ws:=[dW x]) (zac h2 zaj) z1) (by rw[List.length_map];show l.length+1<=_;omega)
 rw[this]
 simp only[dsW,List.map_append,List.map_cons,List.map_nil]
end
section
variable {b:List (List Nat)} {o:Int} {q most:Nat}
theorem znF{is:List Int}{cm:List (List Int)}(P:PosA b is o){st:Option Nat×List Int}(h:st∈stM b (3-o) cm is):PosA b st.2 o:=by
 unfold stM at h
 rcases List.mem_append.mp h with h|h
 ·obtain⟨p,hp,rfl⟩:=List.mem_map.mp h
  obtain⟨h1,h2⟩:=zhm hp
  exact(zhl P.flip (List.mem_range.mp h1) h2).back
 ·rw[List.mem_singleton] at h
  subst h
  exact P
theorem zkc{α:Type}{zs d r:List α}{x:α}(e:d++x::r=zs):zs.drop d.length=x::r/\zs.drop (d++[x]).length=r:=by
 subst e
 constructor
 ·simp
 ·rw[show d++x::r=(d++[x])++r by simp]
  simp only[List.drop_left]
set_option maxHeartbeats 1000000 in
theorem zkd(fu:Nat)(hfu:200<=fu)(B:Brd b)(h16:b.length<=16)(hq:q<b.length):∀(r:Nat) (t:Bool) (pre:List (List Int)) (is:List Int) (ds:List (Option Nat)) (c:Ce) (k:Nat),r<=10->PosA b is o->c[k]?=some (.ins "Chase" (chF b o q most)) ->
  2*most<=ds.length+r->ds.length<2*most->pre.length=ds.length->ds.length+r<=100 ->
  zjG (if t=true then (zan fu r).1 else (zan fu r).2) [.cel k,cmW (pre++[is]),dsW ds] c=some (.ok (toW (cha b o q most r t pre is ds)) c)
 | 0,t,pre,is,ds,c,k,_,_,_,h1,h2,_,_=>by omega
 | r+1,true,pre,is,ds,c,k,hr,P,g,h1,h2,h3,h4=>by
  have z2:2<=PySem.sizeLine:=by decide
  have z1:1<=PySem.sizeLine:=by decide
  obtain⟨lm1,lm2⟩:=lim r (by omega) false
  have hk:k<c.length:=(List.getElem?_eq_some_iff.mp g).1
  rw[if_pos rfl]
  show zjG (za4 fu (zan fu r).1 (zan fu r).2) _ c=_
  suffices hs:∃w c',za4 fu (zan fu r).1 (zan fu r).2 [.cel k,cmW (pre++[is]),dsW ds] c=some (.ok w c')/\∃l,Own c c' l/\zd5 c.length c' 6 w=some (toW (cha b o q most (r+1) true pre is ds)) by
   obtain⟨w,c',e,l,O,ht⟩:=hs
   exact Own.frzD' e O (Chg.refl c) ht
  unfold za4
  refine zie [some (.cel k),some (cmW (pre++[is])),some (dsW ds),none,none,none] rfl ?_
  refine zbo (p:=decide (most<=(ds.length+1) / 2)) (ce':=c) (zeC (zcj (ws:=[dsW ds]) (zae rfl) g rfl (zac (zae rfl) zaj) rfl (zhn fu g ds))) (fun sp=>?_) (fun sp=>?_)
  ·have e0:cha b o q most (r+1) true pre is ds=(false,[]):=by unfold cha;rw[if_pos (of_decide_eq_true sp)]
   rw[e0]
   refine zcH (zax (w:=.tup [.str "free",.lst []]) (ce':=c) (zaU (ws:=[.str "free",.lst []]) (zac zaK (zac (zbf (ws:=[]) zaj (Nat.zero_le _)) zaj)) z2) ?_)
   exact⟨_,_,rfl,[],Own.start c,zcn (w := "free") (l:=[])⟩
  have nsp:=of_decide_eq_false sp
  have e0:cha b o q most (r+1) true pre is ds=huL (fun p=>decide ((lS b is o p).getD q 0=0)) (fun p=>cha b o q most r false (pre++[is]) (lS b is o p) (ds++[some p])) ds (hlP b o q (pre++[is]) is) []:=by
   rw[cha];rw[if_neg nsp]
  rw[e0]
  generalize hG:(fun p=>decide ((lS b is o p).getD q 0=0))=G
  generalize hF:(fun p=>cha b o q most r false (pre++[is]) (lS b is o p) (ds++[some p]))=F
  have fF:∀p,(F p).1=false->(F p).2.length<=lF r false:=fun p=>by rw[<- hF];exact(zcm h16 r false _ _ _).1
  have fC:∀p,(F p).1=true->(F p).2.length<=lC r false:=fun p=>by rw[<- hF];exact(zcm h16 r false _ _ _).2
  refine za2 ?_
  refine zav (zd3 zaj (Nat.zero_le _)) ?_
  refine zam (by repeat (first|exact SetAt.zero|apply SetAt.succ)) ?_
  have O0:=(Own.start c).alloc (C.lst (([]:Web).map wrW))
  refine(?_:Run _ _ (c++[C.lst (([]:Web).map wrW)]) _)
  have gO:∀{c':Ce} {l:List (Nat×C)},Own c c' l->c'[k]?=some (.ins "Chase" (chF b o q most)):=fun {c' l} O=>by
   obtain⟨t,rfl⟩:=O.cut
   rw[List.getElem?_append_left hk]
   exact g
  generalize c++[C.lst (([]:Web).map wrW)]=c1 at O0 ⊢
  have eh:=zlm (c:=c1) (pre:=pre) fu hfu B P hq (gO O0)
  have hll:=zj5 (b:=b) (o:=o) (q:=q) (cm:=pre++[is]) (is:=is)
  have hlm:∀p∈hlP b o q (pre++[is]) is,p<b.length/\zhk b is o p=true:=fun p hp=>zgC hp
  generalize hlP b o q (pre++[is]) is=zs at eh hll hlm
  refine zfR (zs:=zs) (en:=zeL b is o) (c1:=c1) (zgo (zcj (ws:=[cmW (pre++[is])]) (zae rfl) (gO O0) rfl (zac (zae rfl) zaj) rfl eh))
   (fun d sl c'=>∃x4 x5 acc,sl=[some (.cel k),some (cmW (pre++[is])),some (dsW ds),some (.cel c.length),x4,x5]/\Own c c' [(c.length,C.lst (acc.map wrW))]/\acc.length<=d.length*lF r false/\huL G F ds zs []=huL G F ds (zs.drop d.length) acc)
   (fun w c'=>∃w2 c2,znP c c' w=some (.ok w2 c2)/\∃l,Own c c2 l/\zd5 c.length c2 6 w2=some (toW (huL G F ds zs [])))
   ⟨_,_,[],rfl,O0,by simp,by simp⟩ ?_ (fun w sl c' h=>h) ?_
  ·rintro d p zdv sl c' e hp ⟨x4,x5,acc,rfl,O,al,eq⟩
   have gk:=gO O
   obtain⟨hpb,hcan⟩:=hlm p hp
   have Pn:=zhl P hpb hcan
   have hdl:d.length<16:=by
    have:=congrArg List.length e
    simp only[List.length_append,List.length_cons] at this
    omega
   obtain⟨d1,d2⟩:=zkc e
   rw[d1] at eq
   have i0:ixW c' (zeL b is o p) (.int 0)=some (dW (some p)):=zhZ (xs:=[nW p,wS (lS b is o p),wL (lT b is o p)]) (j:=0) rfl rfl
   have i1:ixW c' (zeL b is o p) (.int 1)=some (wS (lS b is o p)):=zhZ (xs:=[nW p,wS (lS b is o p),wL (lT b is o p)]) (j:=1) rfl rfl
   have i2:=zcV (ce:=c') (is:=lS b is o p) (p:=q) (by rw[zej,P.hl];exact hq)
   have eg:G p=decide ((lS b is o p).getD q 0=0):=by rw[<- hG]
   unfold zc0
   refine zam (by repeat (first|exact SetAt.zero|apply SetAt.succ)) ?_
   have row:∀x5',zbQ (zad (zah 2) (zad (zaY ixW (zah 4) (dC (.int 0))) zao)) [some (.cel k),some (cmW (pre++[is])),some (dsW ds),some (.cel c.length),some (zeL b is o p),x5'] c'=some (.ok (wrW (ds,some p)) c'):=fun x5'=>zaU (ws:=[dsW ds,dW (some p)]) (zac (zae rfl) (zac (zaH (zae rfl) zaK i0) zaj)) z2
   refine zbo (p:=G p) (ce':=c') (by rw[eg];exact zeC (zaH (zaH (zaH (zae rfl) zaK i1) (zcC (zae rfl) gk rfl) i2) zaK eqI0)) (fun q1=>?_) (fun q1=>?_)
   ·refine zcH (zax (w:=.tup [.str "caught",.lst [wrW (ds,some p)]]) (ce':=c') (zaU (ws:=[.str "caught",.lst [wrW (ds,some p)]]) (zac zaK (zac (zbf (ws:=[wrW (ds,some p)]) (zac (row _) zaj) z1) zaj)) z2) ?_)
    refine⟨_,_,rfl,_,O,?_⟩
    rw[eq,huL,if_pos q1]
    exact zcn (w := "caught") (l:=[(ds,some p)])
   refine za2 ?_
   have eF:F p=cha b o q most r false (pre++[is]) (lS b is o p) (ds++[some p]):=by rw[<- hF]
   have ih:=zkd fu hfu B h16 hq r false (pre++[is]) (lS b is o p) (ds++[some p]) c' k (by omega) Pn gk (by simp only[List.length_append,List.length_cons,List.length_nil];omega) (by simp only[List.length_append,List.length_cons,List.length_nil];omega) (by simp only[List.length_append,List.length_cons,List.length_nil];omega) (by simp only[List.length_append,List.length_cons,List.length_nil];omega)
   rw[if_neg Bool.false_ne_true,<- eF] at ih
   refine zav (w:=toW (F p)) (ce':=c') (zcj (ws:=[cmW (pre++[is]++[lS b is o p]),dsW (ds++[some p])]) (zae rfl) gk rfl (zac (zl7 (zae rfl) (zaH (zae rfl) zaK i1) (by simp only[List.length_append,List.length_cons,List.length_nil];omega)) (zac (zl8 (zae rfl) (zaH (zae rfl) zaK i0) (by omega)) zaj)) rfl ih) ?_
   refine zam (by repeat (first|exact SetAt.zero|apply SetAt.succ)) ?_
   refine zbo (p:=(F p).1) (ce':=c') (zeC (zaH (zaH (zae rfl) zaK (zrT _)) zaK ((zpM _ _).trans (by rw[zkb])))) (fun q2=>?_) (fun q2=>?_)
   ·have hc:=fC p q2
    refine zcH (zax (w:=.tup [.str "caught",wbW ((ds,some p)::(F p).2)]) (ce':=c') (zaU (ws:=[.str "caught",wbW ((ds,some p)::(F p).2)]) (zac zaK (zac (zdh (zbf (ws:=[wrW (ds,some p)]) (zac (row _) zaj) z1) (zaH (zae rfl) zaK (zp3 _)) (xs:=[wrW (ds,some p)]) (ys:=(F p).2.map wrW) rfl rfl (by rw[List.length_map];simp only[List.length_cons,List.length_nil];omega)) zaj)) z2) ?_)
    refine⟨_,_,rfl,_,O,?_⟩
    rw[eq,huL,if_neg (by rw[q1];exact Bool.false_ne_true),if_pos q2]
    exact zcn
   ·have hf:=fF p q2
    refine za2 ?_
    have hm:d.length*lF r false<=16*lF r false:=Nat.mul_le_mul_right _ (by omega)
    refine zfO (w:=.non) (ce':=c'.set c.length (.lst (acc.map wrW++(F p).2.map wrW))) (zh0 (ws:=[wbW (F p).2]) (zae rfl) (zcx O.g0) (zac (zaH (zae rfl) zaK (zp3 _)) zaj) (zgs O.g0 (ys:=(F p).2.map wrW) rfl (by rw[List.length_map,List.length_map];omega))) ?_
    refine⟨_,_,acc++(F p).2,rfl,by rw[List.map_append];exact O.set0 _,?_,?_⟩
    ·rw[List.length_append,List.length_append,List.length_cons,List.length_nil,Nat.add_mul]
     omega
    ·rw[eq,d2,huL,if_neg (by rw[q1];exact Bool.false_ne_true),if_neg (by rw[q2];exact Bool.false_ne_true)]
  ·rintro sl c' ⟨x4,x5,acc,rfl,O,al,eq⟩
   rw[List.drop_length] at eq
   refine zax (w:=.tup [.str "free",.cel c.length]) (ce':=c') (zaU (ws:=[.str "free",.cel c.length]) (zac zaK (zac (zae rfl) zaj)) z2) ?_
   refine⟨_,_,rfl,_,O,?_⟩
   rw[eq,huL]
   exact zho (w := "free") (Nat.le_refl _) O.g0
 | r+1,false,pre,is,ds,c,k,hr,P,g,h1,h2,h3,h4=>by
  have z2:2<=PySem.sizeLine:=by decide
  have z1:1<=PySem.sizeLine:=by decide
  obtain⟨lm1,lm2⟩:=lim r (by omega) true
  have hk:k<c.length:=(List.getElem?_eq_some_iff.mp g).1
  rw[if_neg Bool.false_ne_true]
  show zjG (zbd fu (zan fu r).1 (zan fu r).2) _ c=_
  suffices hs:∃w c',zbd fu (zan fu r).1 (zan fu r).2 [.cel k,cmW (pre++[is]),dsW ds] c=some (.ok w c')/\∃l,Own c c' l/\zd5 c.length c' 6 w=some (toW (cha b o q most (r+1) false pre is ds)) by
   obtain⟨w,c',e,l,O,ht⟩:=hs
   exact Own.frzD' e O (Chg.refl c) ht
  unfold zbd
  refine zie [some (.cel k),some (cmW (pre++[is])),some (dsW ds),none,none,none] rfl ?_
  refine zbo (p:=decide (most<=(ds.length+1) / 2)) (ce':=c) (zeC (zcj (ws:=[dsW ds]) (zae rfl) g rfl (zac (zae rfl) zaj) rfl (zhn fu g ds))) (fun sp=>?_) (fun sp=>?_)
  ·have e0:cha b o q most (r+1) false pre is ds=(false,[]):=by unfold cha;rw[if_pos (of_decide_eq_true sp)]
   rw[e0]
   refine zcH (zax (w:=.tup [.str "free",.lst []]) (ce':=c) (zaU (ws:=[.str "free",.lst []]) (zac zaK (zac (zbf (ws:=[]) zaj (Nat.zero_le _)) zaj)) z2) ?_)
   exact⟨_,_,rfl,[],Own.start c,zcn (w := "free") (l:=[])⟩
  have nsp:=of_decide_eq_false sp
  have e0:cha b o q most (r+1) false pre is ds=ruL (fun st=>cha b o q most r true (pre++[is]) st.2 (ds++[st.1])) ds (stM b (3-o) (pre++[is]) is) []:=by
   rw[cha];rw[if_neg nsp]
  rw[e0]
  generalize hF:(fun st:Option Nat×List Int=>cha b o q most r true (pre++[is]) st.2 (ds++[st.1]))=F
  have fF:∀p,(F p).1=false->(F p).2.length<=lF r true:=fun p=>by rw[<- hF];exact(zcm h16 r true _ _ _).1
  have fC:∀p,(F p).1=true->(F p).2.length<=lC r true:=fun p=>by rw[<- hF];exact(zcm h16 r true _ _ _).2
  refine za2 ?_
  refine zav (zd3 zaj (Nat.zero_le _)) ?_
  refine zam (by repeat (first|exact SetAt.zero|apply SetAt.succ)) ?_
  have O0:=(Own.start c).alloc (C.lst (([]:Web).map wrW))
  refine(?_:Run _ _ (c++[C.lst (([]:Web).map wrW)]) _)
  have gO:∀{c':Ce} {l:List (Nat×C)},Own c c' l->c'[k]?=some (.ins "Chase" (chF b o q most)):=fun {c' l} O=>by
   obtain⟨t,rfl⟩:=O.cut
   rw[List.getElem?_append_left hk]
   exact g
  generalize c++[C.lst (([]:Web).map wrW)]=c1 at O0 ⊢
  have eh:=zln (c:=c1) (pre:=pre) fu hfu B P.flip
  have hll:=zj6 (b:=b) (h:=3-o) (cm:=pre++[is]) (is:=is)
  have hlm:∀st∈stM b (3-o) (pre++[is]) is,PosA b st.2 o:=fun st hs=>znF P hs
  generalize stM b (3-o) (pre++[is]) is=zs at eh hll hlm
  refine zfR (zs:=zs) (en:=stW) (c1:=c1) (zgo (zay (ws:=[wB b,cmW (pre++[is]),.int (3-o)]) (zac (zcC (zae rfl) (gO O0) rfl) (zac (zae rfl) (zac (zcC (zae rfl) (gO O0) rfl) zaj))) rfl eh))
   (fun d sl c'=>∃x4 x5 acc,sl=[some (.cel k),some (cmW (pre++[is])),some (dsW ds),some (.cel c.length),x4,x5]/\Own c c' [(c.length,C.lst (acc.map wrW))]/\acc.length<=d.length*lC r true/\ruL F ds zs []=ruL F ds (zs.drop d.length) acc)
   (fun w c'=>∃w2 c2,znP c c' w=some (.ok w2 c2)/\∃l,Own c c2 l/\zd5 c.length c2 6 w2=some (toW (ruL F ds zs [])))
   ⟨_,_,[],rfl,O0,by simp,by simp⟩ ?_ (fun w sl c' h=>h) ?_
  ·rintro d st zdv sl c' e hst ⟨x4,x5,acc,rfl,O,al,eq⟩
   have gk:=gO O
   have Pn:=hlm st hst
   have hdl:d.length<17:=by
    have:=congrArg List.length e
    simp only[List.length_append,List.length_cons] at this
    omega
   obtain⟨d1,d2⟩:=zkc e
   rw[d1] at eq
   have i0:ixW c' (stW st) (.int 0)=some (dW st.1):=zhZ (xs:=[dW st.1,wS st.2]) (j:=0) rfl rfl
   have i1:ixW c' (stW st) (.int 1)=some (wS st.2):=zhZ (xs:=[dW st.1,wS st.2]) (j:=1) rfl rfl
   unfold zdp
   refine zam (by repeat (first|exact SetAt.zero|apply SetAt.succ)) ?_
   have row:∀x5',zbQ (zad (zah 2) (zad (zaY ixW (zah 4) (dC (.int 0))) zao)) [some (.cel k),some (cmW (pre++[is])),some (dsW ds),some (.cel c.length),some (stW st),x5'] c'=some (.ok (wrW (ds,st.1)) c'):=fun x5'=>zaU (ws:=[dsW ds,dW st.1]) (zac (zae rfl) (zac (zaH (zae rfl) zaK i0) zaj)) z2
   have eF:F st=cha b o q most r true (pre++[is]) st.2 (ds++[st.1]):=by rw[<- hF]
   have ih:=zkd fu hfu B h16 hq r true (pre++[is]) st.2 (ds++[st.1]) c' k (by omega) Pn gk (by simp only[List.length_append,List.length_cons,List.length_nil];omega) (by simp only[List.length_append,List.length_cons,List.length_nil];omega) (by simp only[List.length_append,List.length_cons,List.length_nil];omega) (by simp only[List.length_append,List.length_cons,List.length_nil];omega)
   rw[if_pos rfl,<- eF] at ih
   refine zav (w:=toW (F st)) (ce':=c') (zcj (ws:=[cmW (pre++[is]++[st.2]),dsW (ds++[st.1])]) (zae rfl) gk rfl (zac (zl7 (zae rfl) (zaH (zae rfl) zaK i1) (by simp only[List.length_append,List.length_cons,List.length_nil];omega)) (zac (zl8 (zae rfl) (zaH (zae rfl) zaK i0) (by omega)) zaj)) rfl ih) ?_
   refine zam (by repeat (first|exact SetAt.zero|apply SetAt.succ)) ?_
   refine zbo (p:=!(F st).1) (ce':=c') (zeC (zaH (zaH (zae rfl) zaK (zrT _)) zaK ((zpM _ _).trans (by rw[znE])))) (fun q2=>?_) (fun q2=>?_)
   ·have q2:(F st).1=false:=by simpa using q2
    have hc:=fF st q2
    refine zcH (zax (w:=.tup [.str "free",wbW ((ds,st.1)::(F st).2)]) (ce':=c') (zaU (ws:=[.str "free",wbW ((ds,st.1)::(F st).2)]) (zac zaK (zac (zdh (zbf (ws:=[wrW (ds,st.1)]) (zac (row _) zaj) z1) (zaH (zae rfl) zaK (zp3 _)) (xs:=[wrW (ds,st.1)]) (ys:=(F st).2.map wrW) rfl rfl (by rw[List.length_map];simp only[List.length_cons,List.length_nil];omega)) zaj)) z2) ?_)
    refine⟨_,_,rfl,_,O,?_⟩
    rw[eq,ruL,if_pos q2]
    exact zcn
   ·have q2:(F st).1=true:=by simpa using q2
    have hf:=fC st q2
    refine za2 ?_
    have hm:d.length*lC r true<=16*lC r true:=Nat.mul_le_mul_right _ (by omega)
    refine zfO (w:=.non) (ce':=c'.set c.length (.lst (acc.map wrW++(F st).2.map wrW))) (zh0 (ws:=[wbW (F st).2]) (zae rfl) (zcx O.g0) (zac (zaH (zae rfl) zaK (zp3 _)) zaj) (zgs O.g0 (ys:=(F st).2.map wrW) rfl (by rw[List.length_map,List.length_map];omega))) ?_
    refine⟨_,_,acc++(F st).2,rfl,by rw[List.map_append];exact O.set0 _,?_,?_⟩
    ·rw[List.length_append,List.length_append,List.length_cons,List.length_nil,Nat.add_mul]
     omega
    ·rw[eq,d2,ruL,if_neg (by rw[q2];simp)]
  ·rintro sl c' ⟨x4,x5,acc,rfl,O,al,eq⟩
   rw[List.drop_length] at eq
   refine zax (w:=.tup [.str "caught",.cel c.length]) (ce':=c') (zaU (ws:=[.str "caught",.cel c.length]) (zac zaK (zac (zae rfl) zaj)) z2) ?_
   refine⟨_,_,rfl,_,O,?_⟩
   rw[eq,ruL]
   exact zho (w := "caught") (Nat.le_refl _) O.g0
theorem zfi(fu:Nat)(hfu:200<=fu)(B:Brd b)(h16:b.length<=16)(hq:q<b.length){is:List Int}(P:PosA b is o)(m1:1<=most)(m5:most<=5)(c:Ce):d_chase fu [wB b,wS is,.int o,nW q,nW most] c=some (.ok (toW (cha b o q most 10 true [] is [])) c):=by
 have z1:1<=PySem.sizeLine:=by decide
 have i1:d_Chase___init__ fu [.cel c.length,wB b,.int o,nW q,nW most] (c++[.ins "Chase" []])=some (.ok .non (c++[.ins "Chase" (chF b o q most)])):=by
  have eo:=zhg (ce:=c++[.ins "Chase" [("joined",wB b),("hunter",.int o)]]) fu o
  have sl1:∀(x y:C),(c++[x]).set c.length y=c++[y]:=fun x y=>by simp
  unfold d_Chase___init__
  refine zrj [some (.cel c.length),some (wB b),some (.int o),some (nW q),some (nW most)] rfl ?_
  refine zdH (w:=wB b) (k:=c.length) (zae rfl) (zae rfl) (zcy _ _) (Nat.lt_of_le_of_lt (Nat.le_refl 0) (by decide)) ?_
  rw[sl1]
  refine zdH (w:=.int o) (k:=c.length) (zae rfl) (zae rfl) (zcy _ _) (Nat.lt_of_le_of_lt (zfb (Nat.le_refl 0)) (by decide)) ?_
  rw[sl1]
  refine zdH (w:=.int (3-o)) (k:=c.length) (zay (ws:=[.int o]) (zac (zae rfl) zaj) rfl eo) (zae rfl) (zcy _ _) (Nat.lt_of_le_of_lt (Nat.le_refl 2) (by decide)) ?_
  rw[sl1]
  refine zdH (w:=nW q) (k:=c.length) (zae rfl) (zae rfl) (zcy _ _) (Nat.lt_of_le_of_lt (zfb (Nat.le_refl 2)) (by decide)) ?_
  rw[sl1]
  refine zlf (w:=nW most) (k:=c.length) (zae rfl) (zae rfl) (zcy _ _) (Nat.lt_of_le_of_lt (zfb (zfb (Nat.le_refl 2))) (by decide)) ?_
  rw[sl1]
  exact⟨_,_,rfl,rfl⟩
 have e2:=zkd (most:=most) (o:=o) fu hfu B h16 hq 10 true [] is [] (c++[.ins "Chase" (chF b o q most)]) c.length (by omega) P (zcy _ _) (by simp;omega) (by simp;omega) rfl (by simp)
 rw[if_pos rfl] at e2
 have e2':zjG (d_Chase_hunt fu) [.cel c.length,cmW ([]++[is]),dsW []] (c++[.ins "Chase" (chF b o q most)])=some (.ok (toW (cha b o q most 10 true [] is [])) (c++[.ins "Chase" (chF b o q most)])):=e2
 unfold d_chase
 refine zbC [some (wB b),some (wS is),some (.int o),some (nW q),some (nW most)] rfl ?_
 refine zbo (p:=false) (ce':=c) (zeC (zaL (zcf (ws:=[wB b]) (zac (zae rfl) zaj) ze2) zaK (by show some (W.bl (decide ((16:Int)<(b.length:Int))))=_;rw[decide_eq_false (by omega)]))) (fun q=>by cases q) (fun _=>za2 ?_)
 refine zax (w:=toW (cha b o q most 10 true [] is [])) (ce':=c++[.ins "Chase" (chF b o q most)]) (zcj (k:=c.length) (ws:=[cmW ([]++[is]),dsW []]) (zns (ws:=[wB b,.int o,nW q,nW most]) (by trivial) rfl i1) (zcy _ _) rfl (zac (zbf (ws:=[wS is]) (zac (zae rfl) zaj) z1) (zac (zaU zaj (Nat.zero_le _)) zaj)) rfl e2') (zc8 (zdB ?_))
 simp only[toW,Bel,zcO,wbW]
 exact⟨trivial,bels_map _ (znC _) _,trivial⟩
end
section
variable {ce:Ce}
theorem znG{x y:Sl->M W}{sl:Sl}{c1:Ce}{p q:Bool}(ha:x sl ce=some (.ok (.bl p) c1))(hb:p=true->y sl c1=some (.ok (.bl q) c1)):zoH x y sl ce=some (.ok (.bl (p&&q)) c1):=by
 cases p with
 | true=>simp only[zoH,bnd,ha,hb rfl,Bool.true_and]
 | false=>simp only[zoH,bnd,ha,ret,Bool.false_and]
theorem zpN{ns:List Int}{p:Nat}(h:p<ns.length)(c:Ce){i:Int}(ei:i=(p:Int)):ixW c (sW ns) (.int i)=some (.int (ns.getD p 0)):=by
 subst ei
 show ixW c (.lst (ns.map W.int)) (nW p)=_
 rw[zjl (xs:=ns.map W.int) rfl,List.getElem?_map,List.getD_eq_getElem?_getD,List.getElem?_eq_getElem h];rfl
theorem znH(fu:Nat){ns:List Int}{k:Nat}(hk:k<=10000):∃v,d__law_cell_at fu [sW ns,nW k] ce=some (.ok (.int v) ce):=by
 have l1:zf2 [sW ns] ce=some (.ok (nW ns.length) ce):=by simp[zf2];rfl
 by_cases h:k<ns.length
 ·refine⟨ns.getD k 0,?_⟩
  unfold d__law_cell_at
  refine zbC [some (sW ns),some (nW k)] rfl ?_
  refine zbo (p:=true) (ce':=ce) (zeC (zaL (zae rfl) (zcf (ws:=[sW ns]) (zac (zae rfl) zaj) l1) ((zjB (i:=k) (j:=ns.length) rfl rfl).trans (by rw[decide_eq_true (by omega)])))) (fun _=>?_) (fun q=>by cases q)
  exact zcH (zax (zaH (zae rfl) (zae rfl) (zpN h ce rfl)) (zaN (by simp only[Bel])))
 ·have m1:CMul 71 (k:Int):=.inl (by omega)
  have m2:CMul (71*(k:Int)) (k:Int):=.inl (by omega)
  have m3:CMul 7 (k:Int):=.inl (by omega)
  refine⟨71*(k:Int)*(k:Int)+7*(k:Int),?_⟩
  unfold d__law_cell_at
  refine zbC [some (sW ns),some (nW k)] rfl ?_
  refine zbo (p:=false) (ce':=ce) (zeC (zaL (zae rfl) (zcf (ws:=[sW ns]) (zac (zae rfl) zaj) l1) ((zjB (i:=k) (j:=ns.length) rfl rfl).trans (by rw[decide_eq_false (by omega)])))) (fun q=>by cases q) (fun _=>za2 ?_)
  exact zax (zaL (zaL (zaL zaK (zae rfl) (zbY rfl rfl m1)) (zae rfl) (zbY rfl rfl m2)) (zaL zaK (zae rfl) (zbY rfl rfl m3)) rfl) (zaN (by simp only[Bel]))
theorem zpO(fu:Nat)(cc:Int){k:Nat}(hk:k<=10000):∃v:Nat,v<65519/\d__law_mix fu [.int cc,nW k] ce=some (.ok (nW v) ce):=by
 have m1:CMul 2018 (k:Int):=.inl (by omega)
 have m2:CMul (2018*(k:Int)) (k:Int):=.inl (by omega)
 have m3:CMul (cc % 99991+1) (48271+2018*(k:Int)*(k:Int)):=.inl (by omega)
 have m4:CMul 7919 (k:Int):=.inl (by omega)
 generalize hone:(cc % 99991+1)*(48271+2018*(k:Int)*(k:Int)) % 65521=one
 have m5:CMul one one:=.inl (by omega)
 obtain⟨v,hv,ev⟩:=zjn (one*one+7919*(k:Int)) (n:=65519) (by omega)
 have e1:zcN (.int (one*one+7919*(k:Int))) (.int 65519)=some (nW v):=zgZ (n:=65519) (by omega) ev
 refine⟨v,hv,?_⟩
 unfold d__law_mix
 refine zbC [some (.int cc),some (nW k),none] rfl ?_
 refine zav (w:=.int one) (ce':=ce) (zaL (zaL (zaL (zaL (zae rfl) zaK (zgr rfl rfl (by omega))) zaK rfl) (zaL zaK (zaL (zaL zaK (zae rfl) (zbY rfl rfl m1)) (zae rfl) (zbY rfl rfl m2)) rfl) (zbY rfl rfl m3)) zaK ((zgr rfl rfl (by omega)).trans (by rw[hone]))) ?_
 refine zam (by repeat (first|exact SetAt.zero|apply SetAt.succ)) ?_
 exact zax (zaL (zaL (zaL (zae rfl) (zae rfl) (zbY rfl rfl m5)) (zaL zaK (zae rfl) (zbY rfl rfl m4)) rfl) zaK e1) (zaN (by simp only[Bel,nW]))
theorem zij(fu:Nat)(cc:Int){k:Nat}(hk:k<=10000){m:Nat}(hm:0<m):∃v:Nat,v<m/\∀(sl:Sl) (a b:Sl->M W),a sl ce=some (.ok (.int cc) ce)->b sl ce=some (.ok (nW k) ce)->∀d:Sl->M W,d sl ce=some (.ok (nW m) ce)->dOp zcN (zar 2 (d__law_mix fu) (zad a (zad b zao))) d sl ce=some (.ok (nW v) ce):=by
 obtain⟨u,_,e⟩:=zpO (ce:=ce) fu cc hk
 obtain⟨v,hv,ev⟩:=zjn (u:Int) (n:=m) hm
 exact⟨v,hv,fun sl a b ha hb d hd=>zaL (zay (ws:=[.int cc,nW k]) (zac ha (zac hb zaj)) rfl e) hd (zgZ hm ev)⟩
theorem zke{rows:List (List Nat)}{p q:Nat}(hp:p<rows.length)(hq:q<rows.length)(hpq:p≠q):zl1 rows p q=zl1 rows q p:=by
 unfold zl1
 have e1:(upR rows p q).getD q []=rows.getD q []:=by rw[zdg hp,if_neg (fun h=>hpq h.symm)]
 have e2:(upR rows q p).getD p []=rows.getD p []:=by rw[zdg hq,if_neg hpq]
 show(upR rows p q).set q ((upR rows p q).getD q []++[p])=(upR rows q p).set p ((upR rows q p).getD p []++[q])
 rw[e1,e2]
 unfold upR
 exact List.set_comm _ _ hpq
theorem zlo(n:Nat):(List.range n).map (adj [])=List.replicate n []:=by
 apply List.ext_getElem?
 intro i
 by_cases hi:i<n
 ·simp[hi,adj]
 ·rw[List.getElem?_eq_none (by simp;omega),List.getElem?_eq_none (by simp;omega)]
theorem znI{n:Nat}{ls:List (Nat×Nat)}:((List.range n).map fun i=>zce (((List.range n).map (adj ls)).getD i []))=zdr n ls:=by
 unfold zdr
 apply List.map_congr_left
 intro i hi
 have hi:=List.mem_range.mp hi
 simp[List.getD_eq_getElem?_getD,hi]
end
section
variable {b:List (List Nat)} {is:List Int} {ce:Ce} {n:Nat}
theorem zhp{α:Type}(n:Nat)(x:α):(List.replicate n [x]).flatten=List.replicate n x:=by
 induction n with
 | zero=>rfl
 | succ m ih=>simp only[List.replicate_succ,List.flatten_cons,ih];rfl
theorem zlp{ra:Sl->M (List W)}{bb:Sl->M W}{sl:Sl}{xs:List W}{c1 c2:Ce}(ha:ra sl ce=some (.ok xs c1))(hl:xs.length<=PySem.sizeLine)(hb:bb sl c1=some (.ok (nW n) c2))(hz:xs.length*n<=PySem.sizeLine)(h63:n<=100000):zfJ zb6 ra bb sl ce=some (.ok (.lst (List.replicate n xs).flatten) c2):=by
 have t:((n:Int)).toNat=n:=Int.toNat_natCast n
 simp only[zfJ,bnd,ha,zpZ,if_pos hl,hb,zoZ,nW,t]
 rw[if_pos ⟨by omega,by omega,hz⟩]
 exact ze1 (by rw[L2.len_rep,Nat.mul_comm];exact hz)
end
section
variable {ce:Ce}
theorem zrU{n mS:Nat}{rows:List (List Nat)}{gs:Ce}{sl:Sl}{ea eb:Sl->M W}{p q:Nat}(h4:sl[mS]?=some (some (zjP ce n)))(ha:ea sl (bC ce rows gs)=some (.ok (nW p) (bC ce rows gs)))(hb:eb sl (bC ce rows gs)=some (.ok (nW q) (bC ce rows gs)))(hr:rows.length=n)(hp:p<n)(hz:(rows.getD p []).length<PySem.sizeLine) :
  dEx (dMt zhX (zaY ixW (zah mS) ea) (zad eb zao)) sl (bC ce rows gs)=some (.go .nx sl (bC ce (upR rows p q) gs)):=by
 have hp':p<rows.length:=by omega
 have g:=zl2 (ce:=ce) (gs:=gs) hp'
 have e1:zaY ixW (zah mS) ea sl (bC ce rows gs)=some (.ok (W.cel (ce.length+p)) (bC ce rows gs)):=zaH (zae h4) ha (zpD _ hp)
 have e2:zad eb zao sl (bC ce rows gs)=some (.ok [nW q] (bC ce rows gs)):=zac hb zaj
 have lq:zkk (bC ce rows gs) (W.cel (ce.length+p))=some ():=by
  unfold zkk
  rw[zcx (xs:=(rows.getD p []).map nW) g]
  rfl
 have ap:zhX (W.cel (ce.length+p)) [nW q] (bC ce rows gs)=some (.ok .non (bC ce (upR rows p q) gs)):=by
  rw[zo7 (zfL (xs:=(rows.getD p []).map nW) g) (by rw[List.length_map];exact hz),zpC hp']
 generalize bC ce rows gs=c1 at *
 generalize bC ce (upR rows p q) gs=c2 at *
 simp only[zq2,zq7,zo3,zqX,zo4,e1,e2,lq,ap,Option.map_some]
def lsJ(n j:Nat):List (Nat×Nat):=(List.range j).map fun k=>if k+1<n then (k,k+1) else (0,k)
theorem zhq{n j:Nat}(n3:3<=n)(hj:j<=n):LsOk n (lsJ n j):=by
 refine⟨?_,fun p hp=>?_⟩
 ·unfold lsJ
  refine List.pairwise_map.mpr (List.Pairwise.imp_of_mem (fun {a c} ha hc hne e=>hne ?_) List.nodup_range)
  have ha:=List.mem_range.mp ha
  have hc:=List.mem_range.mp hc
  split at e<;>split at e<;>(simp only[Prod.mk.injEq] at e;omega)
 ·obtain⟨k,hk,rfl⟩:=List.mem_map.mp hp
  have hk:=List.mem_range.mp hk
  split<;>(simp only;omega)
theorem zlq(n j:Nat):lsJ n (j+1)=lsJ n j++[if j+1<n then (j,j+1) else (0,j)]:=by
 unfold lsJ
 rw[List.range_succ,List.map_append]
 rfl
theorem zl9{n:Nat}{ls:List (Nat×Nat)}(n36:n<=36)(L:LsOk n ls)(i:Nat):(((List.range n).map (adj ls)).getD i []).length<=60:=by
 by_cases hi:i<n
 ·have:((List.range n).map (adj ls)).getD i []=adj ls i:=by simp[List.getD_eq_getElem?_getD,hi]
  rw[this]
  have:=zaX (zl3 L i) fun x hx=>(zhe L hx).1
  omega
 ·rw[List.getD_eq_getElem?_getD,List.getElem?_eq_none (by simp;omega)];simp
def rgN(t:Bool):Nat:=if t then 1 else 0
theorem zgD(fu:Nat){n:Nat}(n3:3<=n)(n36:n<=36)(t:Bool):d__law_line fu [nW n,.bl t] ce=some (.ok (wB (zdr n (lsJ n (n-1+rgN t)))) ce):=by
 have hz:=zfk
 have z100:100<PySem.sizeLine:=by decide
 have rg:rgN t<=1:=by unfold rgN;split<;>omega
 suffices hs:∃w c,d__law_line fu [nW n,.bl t] ce=some (.ok w c)/\w=wB (zdr n (lsJ n (n-1+rgN t)))/\c=ce by
  obtain⟨w,c,e,rfl,rfl⟩:=hs
  exact e
 unfold d__law_line
 refine zie [some (nW n),some (.bl t),none,none] rfl ?_
 refine zav (zlj (ce:=ce) (n:=n) (zjt (zac (zae rfl) zaj) (by omega)) (by omega)) ?_
 refine zam (by repeat (first|exact SetAt.zero|apply SetAt.succ)) ?_
 generalize hc0:bC ce (List.replicate n []) []=c0
 have em:dOp zcE (dOp zeA (zah 0) (dC (.int 1))) (dBi zpr (zad (zah 1) zao)) [some (nW n),some (.bl t),some (zjP ce n),none] c0=some (.ok (nW (n-1+rgN t)) c0):=by
  have e1:zpr [.bl t] c0=some (.ok (.int (if t then 1 else 0)) c0):=rfl
  have e2:zeA (nW n) (.int 1)=some (.int ((n:Int)-1)):=rfl
  have e3:zcE (.int ((n:Int)-1)) (.int (if t then 1 else 0))=some (nW (n-1+rgN t)):=by
   show some (W.int ((n:Int)-1+(if t then 1 else 0)))=some (W.int ((n-1+rgN t:Nat):Int))
   congr 2
   unfold rgN
   cases t<;>simp<;>omega
  exact zaL (zaL (zae rfl) zaK e2) (zcf (ws:=[.bl t]) (zac (zae rfl) zaj) e1) e3
 refine zcW (zs:=List.range (n-1+rgN t)) (en:=nW) (c1:=c0) (zh1 (zac em zaj) (by omega))
  (fun d sl c=>∃x3,sl=[some (nW n),some (.bl t),some (zjP ce n),x3]/\c=bC ce ((List.range n).map (adj (lsJ n d.length))) [])
  ⟨_,rfl,by rw[<- hc0];unfold lsJ;rw[List.length_nil,List.range_zero,List.map_nil,zlo]⟩ ?_ ?_
 ·rintro d k r sl c e hk ⟨x3,rfl,rfl⟩
  have hk:=List.mem_range.mp hk
  have ed:=zjQ e
  have edl:d.length=k:=by rw[ed,List.length_range]
  rw[edl]
  have L:=zhq (j:=k) n3 (by omega)
  have eq:zcN (nW (k+1)) (nW n)=some (nW ((k+1) % n)):=zgZ (k:=((k+1:Nat):Int)) (n:=n) (by omega) (by simp)
  have a1:zcE (nW k) (.int 1)=some (nW (k+1)):=zgp (i:=k) (j:=1) rfl rfl
  have hqn:(k+1) % n<n:=Nat.mod_lt _ (by omega)
  have hq:(k+1) % n=if k+1<n then k+1 else 0:=by
   split
   ·exact Nat.mod_eq_of_lt (by assumption)
   ·have:k+1=n:=by omega
    rw[this,Nat.mod_self]
  have h60:=zl9 n36 L
  have go:=zrU (ce:=ce) (n:=n) (mS:=2) (rows:=(List.range n).map (adj (lsJ n k))) (gs:=[]) (sl:=[some (nW n),some (.bl t),some (zjP ce n),some (nW k)]) (ea:=zah 3) (eb:=dOp zcN (dOp zcE (zah 3) (dC (.int 1))) (zah 0)) (p:=k) (q:=(k+1) % n) rfl (zae rfl) (zaL (zaL (zae rfl) zaK a1) (zae rfl) eq) (by simp) (by omega) (by have:=h60 k;omega)
  have go2:=zrU (ce:=ce) (n:=n) (mS:=2) (rows:=upR ((List.range n).map (adj (lsJ n k))) k ((k+1) % n)) (gs:=[]) (sl:=[some (nW n),some (.bl t),some (zjP ce n),some (nW k)]) (ea:=dOp zcN (dOp zcE (zah 3) (dC (.int 1))) (zah 0)) (eb:=zah 3) (p:=(k+1) % n) (q:=k) rfl (zaL (zaL (zae rfl) zaK a1) (zae rfl) eq) (zae rfl) (by rw[zgz];simp) hqn (by
   rw[zdg (by simp;omega)]
   split
   ·have:=h60 k;rw[List.length_append,List.length_singleton];omega
   ·have:=h60 ((k+1) % n);omega)
  unfold zdq
  refine zam (by repeat (first|exact SetAt.zero|apply SetAt.succ)) ?_
  refine⟨_,(zjh go).trans go2,_,rfl,?_⟩
  rw[show(d++[k]).length=k+1 by rw[List.length_append,edl];rfl,zlq]
  show bC ce (zl1 ((List.range n).map (adj (lsJ n k))) k ((k+1) % n)) []=_
  rw[hq]
  split
  ·rw[zhf n _ (by omega) (by omega) (by omega)]
  ·rw[zke (by simp;omega) (by simp;omega) (by omega),zhf n _ (by omega) (by omega) (by omega)]
 ·rintro sl c ⟨x3,rfl,rfl⟩
  rw[List.length_range]
  have L:=zhq (j:=n-1+rgN t) n3 (by omega)
  generalize lsJ n (n-1+rgN t)=ls at L
  have er:=zfZ (ce:=ce) (gs:=[]) (mS:=2) (rows:=(List.range n).map (adj ls)) (n:=n) (by simp) (by omega) (zl9 n36 L) (sl:=[some (nW n),some (.bl t),some (zjP ce n),x3]) rfl
  rw[znI] at er
  have hlb:(zdr n ls).length<=PySem.sizeLine:=by simp[zdr];omega
  refine zax (zcf (zac er zaj) (zm6 hlb)) ?_
  have Oe:Own ce (bC ce ((List.range n).map (adj ls)) []) []:=⟨⟨_,rfl⟩,by simp,by simp,by simp⟩
  exact⟨_,_,Oe.finC (zlP _ _),rfl,rfl⟩
def stB(n:Nat):List (List Nat):=((List.range (n-1)).map fun i=>1+i)::List.replicate (n-1) [0]
theorem znJ(fu:Nat){n:Nat}(n1:1<=n)(n36:n<=36):d__law_star fu [nW n] ce=some (.ok (wB (stB n)) ce):=by
 have hz:=zfk
 have z1:1<=PySem.sizeLine:=by decide
 unfold d__law_star
 refine zbC [some (nW n)] rfl ?_
 have e1:zh7 [.int 1,nW n] ce=some (.ok (wT ((List.range (n-1)).map fun i=>1+i)) ce):=by
  have r:zpY [.int 1,nW n]=some (.rng 1 (n-1)):=by
   simp only[zpY,nW]
   rw[if_pos (by omega)]
   congr 2
   omega
  simp only[zh7,r]
  rw[if_pos (by omega)]
  have e:(List.range (n-1)).map (fun(i:Nat)=>W.int (1+(i:Int)))=((List.range (n-1)).map fun i=>1+i).map nW:=by
   rw[List.map_map]
   apply List.map_congr_left
   intro i _
   simp[nW]
  rw[e]
  exact zna (by rw[List.length_map,List.length_map,List.length_range];omega)
 have e2:dOp zeA (zah 0) (dC (.int 1)) [some (nW n)] ce=some (.ok (nW (n-1)) ce):=zaL (zae rfl) zaK (by
  show some (W.int ((n:Int)-1))=some (W.int ((n-1:Nat):Int))
  congr 2
  omega)
 have e3:=zlp (n:=n-1) (ra:=zad (zbQ (zad (dC (.int 0)) zao)) zao) (bb:=dOp zeA (zah 0) (dC (.int 1))) (sl:=[some (nW n)]) (ce:=ce) (c1:=ce) (c2:=ce) (xs:=[wT [0]]) (zac (zaU (ws:=[.int 0]) (zac zaK zaj) z1) zaj) z1 e2 (by simp only[List.length_cons,List.length_nil];omega) (by omega)
 rw[zhp] at e3
 have hB:W.lst ([wT ((List.range (n-1)).map fun i=>1+i)]++List.replicate (n-1) (wT [0]))=.lst ((stB n).map wT):=by
  unfold stB
  rw[List.map_cons,List.map_replicate]
  rfl
 have e4:=zdh (a:=zdm (zad (dBi zh7 (zad (dC (.int 1)) (zad (zah 0) zao))) zao)) (b:=zfJ zb6 (zad (zbQ (zad (dC (.int 0)) zao)) zao) (dOp zeA (zah 0) (dC (.int 1)))) (sl:=[some (nW n)]) (ce:=ce) (c1:=ce) (c2:=ce) (xs:=[wT ((List.range (n-1)).map fun i=>1+i)]) (ys:=List.replicate (n-1) (wT [0])) (zbf (ws:=[wT ((List.range (n-1)).map fun i=>1+i)]) (zac (zcf (ws:=[.int 1,nW n]) (zac zaK (zac (zae rfl) zaj)) e1) zaj) z1) e3 rfl rfl (by rw[List.length_replicate];simp only[List.length_cons,List.length_nil];omega)
 rw[hB] at e4
 refine zax (zcf (zac e4 zaj) (zm6 (by simp[stB];omega))) ?_
 exact zc8 (zaN (zlP _ _))
theorem zhr(fu:Nat){n:Nat}(n1:0<n)(n36:n<=36)(h:Int)(pts:List Nat)(hp:∀p∈pts,p<n):∃is,d__law_put fu [nW n,.lst (pts.map fun p=>.tup [nW p,.int h])] ce=some (.ok (wS is) ce)/\is.length=n/\∀p,p<n->is.getD p 0=if p∈pts then h else 0:=by
 have hz:=zfk
 have z1:1<=PySem.sizeLine:=by decide
 suffices hs:∃w c,d__law_put fu [nW n,.lst (pts.map fun p=>.tup [nW p,.int h])] ce=some (.ok w c)/\∃is,w=wS is/\c=ce/\is.length=n/\∀p,p<n->is.getD p 0=if p∈pts then h else 0 by
  obtain⟨w,c,e,b',rfl,rfl,h⟩:=hs
  exact⟨b',e,h⟩
 unfold d__law_put
 refine zie [some (nW n),some (.lst (pts.map fun p=>.tup [nW p,.int h])),none,none,none] rfl ?_
 have e0:=znf (k:=0) (n:=n) (ra:=zad (dC (.int 0)) zao) (b:=zah 0) (sl:=[some (nW n),some (.lst (pts.map fun p=>.tup [nW p,.int h])),none,none,none]) (ce:=ce) (c1:=ce) (c2:=ce) (xs:=[.int 0]) (zac zaK zaj) z1 (zae rfl) (by simp only[List.length_cons,List.length_nil];omega) (by omega)
 rw[zhp] at e0
 have er:List.replicate n (W.int 0)=(List.replicate n (0:Int)).map W.int:=by simp
 rw[er] at e0
 refine zav e0 ?_
 refine zam (by repeat (first|exact SetAt.zero|apply SetAt.succ)) ?_
 have O0:=(Own.start ce).alloc (C.lst ((List.replicate n (0:Int)).map W.int))
 generalize hk:ce.length=k2 at O0 ⊢
 generalize ce++[C.lst ((List.replicate n (0:Int)).map W.int)]=c0 at O0 ⊢
 refine zk3 (zs:=pts) (fa:=nW) (fb:=fun _=>.int h) (c1:=c0) (zgo (zae rfl))
  (fun d sl c=>∃(R:List Int) (x3 x4:Option W),sl=[some (nW n),some (.lst (pts.map fun p=>.tup [nW p,.int h])),some (.cel k2),x3,x4]/\Own ce c [(k2,C.lst (R.map W.int))]/\R.length=n/\∀p,p<n->R.getD p 0=if p∈d then h else 0)
  ⟨_,_,_,rfl,O0,by simp,fun p hp=>by simp[List.getD_eq_getElem?_getD,List.getElem?_replicate,hp]⟩ ?_ ?_
 ·rintro d p r sl c e hpm ⟨R,x3,x4,rfl,Oc,lR,hR⟩
  have hpn:=hp p hpm
  have eq:zcN (nW p) (nW n)=some (nW p):=zgZ (k:=((p:Nat):Int)) (n:=n) (by omega) (by rw[<- Int.natCast_emod,Nat.mod_eq_of_lt hpn])
  unfold zea
  refine(?_:Run _ [some (nW n),some (.lst (pts.map fun p=>.tup [nW p,.int h])),some (.cel k2),some (nW p),some (.int h)] c _)
  refine zg8 (w:=.int h) (k:=k2) (ij:=(p:Nat)) (j:=p) (zae rfl) (zae rfl) (zaL (zae rfl) (zae rfl) eq) Oc.g0 (zjI (by rw[List.length_map,lR];exact hpn)) ?_
  refine⟨R.set p h,_,_,rfl,by rw[List.map_set];exact Oc.set0 _,by rw[List.length_set];exact lR,fun i hi=>?_⟩
  rw[zc3,lR]
  by_cases hip:p=i
  ·subst hip;rw[if_pos ⟨rfl,hpn⟩,if_pos (by simp)]
  ·rw[if_neg (fun z=>hip z.1),hR i hi]
   by_cases hd:i∈d
   ·rw[if_pos hd,if_pos (List.mem_append_left _ hd)]
   ·rw[if_neg hd,if_neg (fun z=>by
     rcases List.mem_append.mp z with z|z
     ·exact hd z
     ·rw[List.mem_singleton] at z;exact hip z.symm)]
 ·rintro sl c ⟨R,x3,x4,rfl,Oc,lR,hR⟩
  refine zax (w:=wS R) (ce':=c) (zcf (ws:=[.cel k2]) (zac (zae rfl) zaj) (zm5 Oc.g0 (by omega))) ?_
  subst hk
  exact⟨_,_,Oc.finC (by simp only[Bel];exact belInts _ _),R,rfl,rfl,lR,hR⟩
end
section
variable {b:List (List Nat)} {is:List Int} {h:Int} {n a m:Nat}
theorem zgE{l:List Nat}(hl:l.Pairwise (·<·)):zce l=l:=by
 have e:=zje (ms:=toI l) (ns:=toI l) (List.Perm.refl _) (by
  unfold toI
  exact List.pairwise_map.mpr (hl.imp fun {x y} hxy=>by show(x:Int)<=(y:Int);omega))
 unfold zce
 rw[<- e]
 unfold toI
 rw[List.map_map]
 conv=>rhs;rw[<- List.map_id l]
 exact List.map_congr_left fun x _=>by simp
theorem zgF(n1:1<=n)(i:Nat):(stB n).getD i []=if i=0 then (List.range (n-1)).map (fun i=>1+i) else if i<n then [0] else []:=by
 unfold stB
 cases i with
 | zero=>simp
 | succ k =>
  rw[List.getD_eq_getElem?_getD,List.getElem?_cons_succ,List.getElem?_replicate]
  by_cases hk:k<n-1
  ·rw[if_pos hk,if_neg (by omega),if_pos (by omega)];rfl
  ·rw[if_neg hk,if_neg (by omega),if_neg (by omega)];rfl
theorem zel(n1:1<=n):(stB n).length=n:=by simp[stB];omega
theorem zdi(n1:1<=n){i j:Nat}:j∈(stB n).getD i []↔(i=0/\1<=j/\j<n)\/(j=0/\1<=i/\i<n):=by
 rw[zgF n1]
 split
 ·rename_i hi
  rw[List.mem_map]
  constructor
  ·rintro⟨k,hk,rfl⟩;have:=List.mem_range.mp hk;omega
  ·rintro(h|h)
   ·exact⟨j-1,List.mem_range.mpr (by omega),by omega⟩
   ·omega
 ·rename_i hi
  split
  ·rw[List.mem_singleton];omega
  ·constructor
   ·intro z;cases z
   ·omega
theorem stB_ok(n1:1<=n)(n36:n<=36):Brd (stB n):=by
 refine⟨fun r hr x hx=>?_,fun i j hj=>?_,by rw[zel n1];exact n36,by rw[zel n1];exact n1,fun i=>?_,fun i=>?_⟩
 ·obtain⟨j,hj,e⟩:=List.getElem_of_mem hr
  have:x∈(stB n).getD j []:=by rw[List.getD_eq_getElem?_getD,List.getElem?_eq_getElem hj,e];exact hx
  rw[zel n1]
  have:=(zdi n1).mp this
  omega
 ·rw[zdi n1] at hj ⊢;omega
 ·rw[zgF n1]
  split
  ·simp;omega
  ·split<;>simp
 ·rw[zgF n1]
  split
  ·refine zgE (List.pairwise_map.mpr ((List.pairwise_lt_range).imp fun {x y} hxy=>?_))
   omega
  ·split
   ·exact zgE (by simp)
   ·exact zgE (by simp)
theorem zdM{j:Nat}(n3:3<=n)(hj:j<=n){x y:Nat}:y∈(zdr n (lsJ n j)).getD x []↔x<n/\∃k,k<j/\((k+1<n/\((x=k/\y=k+1)\/(y=k/\x=k+1)))\/(¬k+1<n/\((x=0/\y=k)\/(y=0/\x=k)))):=by
 have L:=zhq (j:=j) n3 hj
 rw[zdJ]
 have mem:∀u v,(u,v)∈lsJ n j↔∃k,k<j/\((k+1<n/\u=k/\v=k+1)\/(¬k+1<n/\u=0/\v=k)):=fun u v=>by
  unfold lsJ
  rw[List.mem_map]
  constructor
  ·rintro⟨k,hk,e⟩
   refine⟨k,List.mem_range.mp hk,?_⟩
   split at e<;>(simp only[Prod.mk.injEq] at e;omega)
  ·rintro⟨k,hk,e⟩
   refine⟨k,List.mem_range.mpr hk,?_⟩
   split<;>(simp only[Prod.mk.injEq];omega)
 split
 ·rename_i hx
  rw[zdD,zff L,mem,mem]
  constructor
  ·rintro(⟨k,hk,e⟩|⟨k,hk,e⟩)
   ·exact⟨hx,k,hk,by omega⟩
   ·exact⟨hx,k,hk,by omega⟩
  ·rintro⟨_,k,hk,e⟩
   by_cases hkn:k+1<n
   ·rcases e with ⟨_,e|e⟩|⟨z,_⟩
    ·exact .inl ⟨k,hk,.inl ⟨hkn,e⟩⟩
    ·exact .inr ⟨k,hk,.inl ⟨hkn,e⟩⟩
    ·exact absurd hkn z
   ·rcases e with ⟨z,_⟩|⟨_,e|e⟩
    ·exact absurd z hkn
    ·exact .inl ⟨k,hk,.inr ⟨hkn,e⟩⟩
    ·exact .inr ⟨k,hk,.inr ⟨hkn,e⟩⟩
 ·rename_i hx
  constructor
  ·intro z;cases z
  ·exact fun z=>absurd z.1 hx
structure Seg (b:List (List Nat)) (is:List Int) (h:Int) (a m:Nat):Prop where
 B:Brd b
 hl:is.length=b.length
 hh:h=1\/h=2
 m1:1<=m
 fit:a+m<b.length
 at_:∀p,p<b.length->is.getD p 0=if a<=p/\p<a+m then h else 0
 up:∀i,a<=i->i<a+m->i+1∈b.getD i []/\i∈b.getD (i+1) []
namespace Seg
variable (S:Seg b is h a m)
include S
theorem inn{p:Nat}(h1:a<=p)(h2:p<a+m):is.getD p 0=h:=by rw[S.at_ p (by have:=S.fit;omega),if_pos ⟨h1,h2⟩]
theorem out{p:Nat}(hp:p<b.length)(h1:¬(a<=p/\p<a+m)):is.getD p 0=0:=by rw[S.at_ p hp,if_neg h1]
theorem ofv{p:Nat}(hp:p<b.length)(e:is.getD p 0≠0):a<=p/\p<a+m:=by
 by_cases z:a<=p/\p<a+m
 ·exact z
 ·exact absurd (S.out hp z) e
theorem reachU{s:Nat}(h1:a<=s)(h2:s<a+m):∀k,s+k<a+m->Reach b (okV (vS is) s) s (s+k)
 | 0,_=>.refl
 | k+1,hk=>(reachU h1 h2 k (by omega)).step (S.up (s+k) (by omega) (by omega)).1 (by
  show is.getD (s+k+1) 0=is.getD s 0
  rw[S.inn (by omega) (by omega),S.inn h1 h2])
theorem reachD{s:Nat}(h1:a<=s)(h2:s<a+m):∀k,a+k<=s->Reach b (okV (vS is) s) s (s-k)
 | 0,_=>.refl
 | k+1,hk=>by
  have e:=(S.up (s-(k+1)) (by omega) (by omega)).2
  rw[show s-(k+1)+1=s-k by omega] at e
  refine(reachD h1 h2 k (by omega)).step e ?_
  show is.getD (s-(k+1)) 0=is.getD s 0
  rw[S.inn (by omega) (by omega),S.inn h1 h2]
theorem reach{s x:Nat}(h1:a<=s)(h2:s<a+m)(h3:a<=x)(h4:x<a+m):x∈cpt b (vS is) s:=by
 have:=S.fit
 rw[zbZ S.B.bd (by omega)]
 by_cases z:s<=x
 ·have:=S.reachU h1 h2 (x-s) (by omega)
  rwa [show s+(x-s)=x by omega] at this
 ·have:=S.reachD h1 h2 (s-x) (by omega)
  rwa [show s-(s-x)=x by omega] at this
theorem inC{s x:Nat}(h1:a<=s)(h2:s<a+m)(hx:x∈cpt b (vS is) s):a<=x/\x<a+m:=by
 have:=S.fit
 have hv:is.getD x 0=is.getD s 0:=cpt_val (vl:=vS is) S.B.bd (by omega) hx
 rw[S.inn h1 h2] at hv
 exact S.ofv (cpt_lt hx) (by have:=S.hh;omega)
theorem pos:PosA b is (3-h):=by
 have hh:=S.hh
 have e:3-(3-h)=h:=by omega
 have fit:=S.fit
 refine⟨S.B.bd,S.B.sym,S.hl,⟨by omega,by omega,by omega⟩,fun q hq=>?_,fun s hs es=>?_,fun s hs es=>?_⟩
 ·rw[e,S.at_ q hq]
  split
  ·exact .inr (.inl rfl)
  ·exact .inl rfl
 ·rw[e] at es
  obtain⟨h1,h2⟩:=S.ofv hs (by omega)
  refine⟨a+m-1,a+m,?_,?_,S.out (by omega) (by omega)⟩
  ·exact(zbZ S.B.bd hs).mp (S.reach h1 h2 (by have:=S.m1;omega) (by have:=S.m1;omega))
  ·have:=(S.up (a+m-1) (by have:=S.m1;omega) (by have:=S.m1;omega)).1
   rwa [show a+m-1+1=a+m by have:=S.m1;omega] at this
 ·exfalso
  obtain⟨h1,h2⟩:=S.ofv hs (by omega)
  rw[S.inn h1 h2] at es
  omega
theorem brU{s:Nat}(h1:a<=s)(h2:s<a+m):a+m∈brs b is (cpt b (vS is) s):=by
 have:=S.m1
 have:=S.fit
 rw[zbq S.B.bd]
 refine⟨⟨a+m-1,S.reach h1 h2 (by omega) (by omega),?_⟩,S.out (by omega) (by omega)⟩
 have:=(S.up (a+m-1) (by omega) (by omega)).1
 rwa [show a+m-1+1=a+m by omega] at this
end Seg
theorem zpP{o:Int}{p q u v:Nat}(P:PosA b is o)(hp:p<b.length)(p0:is.getD p 0=0)(hq:q<b.length)(vq:is.getD q 0=3-o)(huv:u≠v)(hu:u∈brs b is (cpt b (vS is) q))(hv:v∈brs b is (cpt b (vS is) q)):(lS b is o p).getD q 0=3-o:=by
 have A:=P.ly hp p0
 have H:=P.H
 have nqp:q≠p:=fun z=>by rw[z,p0] at vq;exact H.h0 vq.symm
 rw[A.get hq,if_neg nqp]
 split
 ·rename_i ht
  exfalso
  obtain⟨y,hy,_,he,hc⟩:=A.near.mp ht
  have hyn:=P.bd.get hy
  have ec:=zcA (vl:=vS is) P.bd P.sym hyn hc
  rw[ec] at hu hv
  have em:∀w,w≠p->w∉brs b is (cpt b (vS is) y):=fun w hw hm=>by
   have:=(List.mem_erase_of_ne hw).mpr hm
   rw[he] at this
   cases this
  by_cases z:u=p
  ·exact em v (fun z'=>huv (by rw[z,z'])) hv
  ·exact em u z hu
 ·exact vq
theorem zhs{gg:Nat->Bool}{ff:Nat->Bool×Web}{ds:List (Option Nat)}:∀(l:List Nat),(∀p∈l,gg p=false/\ff p=(false,[]))->huL gg ff ds l []=(false,[])
 | [],_=>rfl
 | p::l,hl=>by
  obtain⟨h1,h2⟩:=hl p List.mem_cons_self
  unfold huL
  rw[h1,h2]
  simp only[Bool.false_eq_true,if_false,List.append_nil]
  exact zhs l fun p hp=>hl p (List.mem_cons_of_mem _ hp)
theorem Seg.free1(S:Seg b is h a m){q:Nat}(h1:a<=q)(h2:q<a+m){u:Nat}(hu:u∈brs b is (cpt b (vS is) q))(hne:u≠a+m):cha b (3-h) q 1 10 true [] is []=(false,[]):=by
 have fit:=S.fit
 have P:=S.pos
 have hh:=S.hh
 rw[cha,if_neg (by simp)]
 refine zhs _ fun p hp=>⟨?_,?_⟩
 ·obtain⟨hpb,hcan⟩:=zgC hp
  have:=zpP P hpb (canL_iff.mp hcan).1 (by omega) (by rw[S.inn h1 h2];omega) hne hu (S.brU h1 h2)
  rw[decide_eq_false_iff_not,this]
  omega
 ·rw[cha,if_pos (by simp)]
theorem zkf{l:List Nat}{x y:Nat}(hx:x∈l)(hy:y∈l)(hne:x≠y):¬((l.length:Int)<=1):=by
 intro hl
 match l,hx,hy,hl with
 | [],hx,_,_=>cases hx
 | [z],hx,hy,_=>rw[List.mem_singleton] at hx hy;exact hne (hx.trans hy.symm)
 | _::_::_,_,_,hl=>simp only[List.length_cons] at hl;omega
theorem zkg{most:Nat}(n4:4<=n)(n36:n<=36)(hm:1<=most)(hl:is.length=n)(hh:h=1\/h=2)(hv:∀p,p<n->is.getD p 0=if p=0 then h else 0)(P:PosA (stB n) is (3-h)):cha (stB n) (3-h) 0 most 10 true [] is []=(false,[]):=by
 have n1:1<=n:=by omega
 have sl:=zel n1
 have bd:=(stB_ok n1 n36).bd
 rw[cha,if_neg (by simp;omega)]
 have he:hlP (stB n) (3-h) 0 ([]++[is]) is=[]:=by
  refine List.eq_nil_iff_forall_not_mem.mpr fun p hp=>?_
  obtain⟨hpb,hcan⟩:=zgC hp
  have p0:=(canL_iff.mp hcan).1
  rw[sl] at hpb
  have hp1:p≠0:=fun z=>by rw[z,hv 0 (by omega),if_pos rfl] at p0;omega
  have v0:is.getD 0 0=3-(3-h):=by rw[hv 0 (by omega),if_pos rfl];omega
  have c0:(0:Nat)∈cpt (stB n) (vS is) 0:=zbm bd (by rw[sl];omega)
  have br:∀y,1<=y->y<n->y∈brs (stB n) is (cpt (stB n) (vS is) 0):=fun y y1 yn=>by
   rw[zbq bd]
   exact⟨⟨0,c0,(zdi n1).mpr (by omega)⟩,by rw[hv y yn,if_neg (by omega)]⟩
  have A:=P.ly (by rw[sl];exact hpb) p0
  have k0:(lS (stB n) is (3-h) p).getD 0 0=3-(3-h):=zpP P (by rw[sl];exact hpb) p0 (by rw[sl];omega) v0 (u:=1) (v:=2) (by omega) (br 1 (by omega) (by omega)) (br 2 (by omega) (by omega))
  have br2:∀y,1<=y->y<n->y≠p->y∈brq (stB n) 0 (lS (stB n) is (3-h) p):=fun y y1 yn yp=>by
   unfold brq
   rw[zbq bd]
   refine⟨⟨0,zbm bd (by rw[sl];omega),(zdi n1).mpr (by omega)⟩,?_⟩
   rw[A.get (by rw[sl];exact yn),if_neg yp]
   split
   ·rfl
   ·rw[hv y yn,if_neg (by omega)]
  have h2:=(List.mem_filter.mp hp).2
  rw[Bool.or_eq_true,decide_eq_true_eq,decide_eq_true_eq] at h2
  rcases h2 with z|z
  ·rw[k0] at z;omega
  ·by_cases p1:p=1
   ·exact zkf (br2 2 (by omega) (by omega) (by omega)) (br2 3 (by omega) (by omega) (by omega)) (by omega) z
   ·by_cases p2:p=2
    ·exact zkf (br2 1 (by omega) (by omega) (by omega)) (br2 3 (by omega) (by omega) (by omega)) (by omega) z
    ·exact zkf (br2 1 (by omega) (by omega) (by omega)) (br2 2 (by omega) (by omega) (by omega)) (by omega) z
 rw[he]
 rfl
theorem Seg.caught1{most:Nat}(S:Seg b is h 0 m)(hm:1<=most)(line:∀x y,y∈b.getD x []->y=x+1\/x=y+1){q:Nat}(h2:q<m):cha b (3-h) q most 10 true [] is []=(true,[([],some m)]):=by
 have fit:=S.fit
 have P:=S.pos
 have hh:=S.hh
 have mb:m<b.length:=by omega
 have eb:∀s,s<m->brs b is (cpt b (vS is) s)=[m]:=fun s hs=>by
  have hm':∀y,y∈brs b is (cpt b (vS is) s)↔y=m:=fun y=>by
   constructor
   ·intro hy
    rw[zbq S.B.bd] at hy
    obtain⟨⟨x,hx,hy⟩,y0⟩:=hy
    have hx:=S.inC (by omega) (by omega) hx
    rcases line x y hy with e|e
    ·by_cases z:y<m
     ·rw[S.inn (by omega) (by omega)] at y0;omega
     ·omega
    ·rw[S.inn (by omega) (by omega)] at y0;omega
   ·rintro rfl
    have:=S.brU (s:=s) (by omega) (by omega)
    rwa [Nat.zero_add] at this
  have nd:(brs b is (cpt b (vS is) s)).Nodup:=List.Pairwise.filter _ (List.Pairwise.filter _ List.nodup_range)
  generalize brs b is (cpt b (vS is) s)=l at hm' nd
  match l,hm',nd with
  | [],hm',_=>exact absurd ((hm' m).mpr rfl) (by simp)
  | [x],hm',_=>rw[(hm' x).mp (by simp)]
  | x::y::l,hm',nd =>
   exfalso
   have e1:=(hm' x).mp (by simp)
   have e2:=(hm' y).mp (by simp)
   rw[e1,e2] at nd
   simp at nd
 have m0:is.getD m 0=0:=S.out mb (by omega)
 have A:=P.ly mb m0
 have hT:q∈lT b is (3-h) m:=by
  rw[A.near]
  have u:=(S.up (m-1) (by omega) (by have:=S.m1;omega)).2
  rw[show m-1+1=m by have:=S.m1;omega] at u
  have m1:=S.m1
  refine⟨m-1,u,by rw[S.inn (by omega) (by omega)];omega,?_,S.reach (by omega) (by omega) (by omega) (by omega)⟩
  rw[eb _ (by omega)]
  simp
 have hF:Frb b is (3-h) m:=A.brT (fun z=>by rw[z] at hT;cases hT)
 have hcan:zhk b is (3-h) m=true:=canL_iff.mpr ⟨m0,hF⟩
 have hq0:(lS b is (3-h) m).getD q 0=0:=A.tk0 hT
 have hnew:lS b is (3-h) m∉[is]:=fun z=>by
  rw[List.mem_singleton] at z
  have:=A.atP
  rw[z,m0] at this
  omega
 rw[cha,if_neg (by simp;omega)]
 have hl:hlP b (3-h) q ([]++[is]) is=[m]:=by
  unfold hlP zkl brq
  rw[eb q h2,List.filter_cons_of_pos (by rw[hcan,decide_eq_false (show ¬lS b is (3-h) m∈[]++[is] from hnew)];rfl),List.filter_nil,List.filter_cons_of_pos (by rw[decide_eq_true hq0];rfl),List.filter_nil]
 rw[hl]
 unfold huL
 rw[if_pos (decide_eq_true hq0)]
end
section
variable {b:List (List Nat)} {is:List Int} {h:Int} {n a m:Nat} {ce:Ce}
theorem zb5{f:Ce->W->Option W}{d:Sl->M W}{sl:Sl}{c c1:Ce}{w w':W}(h:d sl c=some (.ok w c1))(hf:f c1 w=some w'):zfU f d sl c=some (.ok w' c1):=by simp only[zfU,bnd,h,look,hf,Option.map_some]
theorem zpQ(nm:PySem.Str):zh5 (ce++[.exn nm]) (.cel ce.length)=some nm:=by simp only[zh5,zcy]
theorem zht(n3:3<=n)(n36:n<=36)(t:Bool)(hh:h=1\/h=2)(m1:1<=m)(fit:a+m<n)(hl:is.length=n)(hat:∀p,p<n->is.getD p 0=if a<=p/\p<a+m then h else 0):Seg (zdr n (lsJ n (n-1+rgN t))) is h a m:=by
 have rg:rgN t<=1:=by unfold rgN;split<;>omega
 have L:=zhq (j:=n-1+rgN t) n3 (by omega)
 have lb:(zdr n (lsJ n (n-1+rgN t))).length=n:=by simp[zdr]
 refine⟨bdOf_ok L (by omega) n36,by rw[lb];exact hl,hh,m1,by rw[lb];exact fit,fun p hp=>hat p (by rw[lb] at hp;exact hp),fun i i1 i2=>⟨?_,?_⟩⟩
 ·rw[zdM n3 (by omega)]
  exact⟨by omega,i,by omega,.inl ⟨by omega,.inl ⟨rfl,rfl⟩⟩⟩
 ·rw[zdM n3 (by omega)]
  exact⟨by omega,i,by omega,.inl ⟨by omega,.inr ⟨rfl,rfl⟩⟩⟩
theorem zhu{w:W}(hd:znQ ce w=some w)(hc:cln 8 w=true):eqD false ce w w=some (.bl true):=by
 simp only[eqD,hd,hc,Bool.and_self,if_true,zgP 8 hc,Bool.false_eq_true,if_false]
theorem zeq{k:Int}{v:Nat}{j:Nat}(hk:k=(j:Int)):zcE (.int k) (nW v)=some (nW (j+v)):=by
 subst hk
 exact(zgp (x:=.int (j:Int)) (y:=nW v) (i:=j) (j:=v) rfl rfl).trans (by simp[nW])
theorem zlr{k:Int}{u j:Nat}(hk:k=(j:Int))(hj:j<=u):zeA (nW u) (.int k)=some (nW (u-j)):=by
 subst hk
 refine(zjA (x:=nW u) (y:=.int (j:Int)) (i:=u) (j:=j) rfl rfl).trans ?_
 show some (W.int ((u:Int)-(j:Int)))=some (W.int ((u-j:Nat):Int))
 rw[Int.ofNat_sub hj]
theorem zpR(fu:Nat)(hfu:200<=fu)(cc:Int)(hh:h=1\/h=2){most:Nat}(m1:1<=most)(m5:most<=5):d__law_one_breath fu [.int cc,.int h,nW most] ce=some (.ok (.bl true) ce):=by
 have hz:=zfk
 have z2:2<=PySem.sizeLine:=by decide
 have z1:1<=PySem.sizeLine:=by decide
 obtain⟨v3,hv3,e3⟩:=zij (ce:=ce) fu cc (k:=3) (by omega) (m:=13) (by omega)
 unfold d__law_one_breath
 refine zbC [some (.int cc),some (.int h),some (nW most),none,none,none,none] rfl ?_
 refine zav (w:=nW (4+v3)) (ce':=ce) (zaL zaK (e3 _ _ _ (zae rfl) zaK _ zaK) (zeq rfl)) ?_
 refine zam (by repeat (first|exact SetAt.zero|apply SetAt.succ)) ?_
 generalize hn:4+v3=n
 have n4:4<=n:=by omega
 have n16:n<=16:=by omega
 have el:=zgD (ce:=ce) fu (n:=n) (by omega) (by omega) false
 refine zav (ce':=ce) (zay (ws:=[nW n,.bl false]) (zac (zae rfl) (zac zaK zaj)) rfl el) ?_
 refine zam (by repeat (first|exact SetAt.zero|apply SetAt.succ)) ?_
 obtain⟨v4,hv4,e4⟩:=zij (ce:=ce) fu cc (k:=4) (by omega) (m:=n-3) (by omega)
 refine zav (w:=nW (1+v4)) (ce':=ce) (zaL zaK (e4 _ _ _ (zae rfl) zaK _ (zaL (zae rfl) zaK (zlr (j:=3) rfl (by omega)))) (zeq rfl)) ?_
 refine zam (by repeat (first|exact SetAt.zero|apply SetAt.succ)) ?_
 generalize hm:1+v4=m
 have m0:1<=m:=by omega
 have m3:m+3<=n:=by omega
 obtain⟨is,ep,il,iv⟩:=zhr (ce:=ce) fu (n:=n) (by omega) (by omega) h (List.range m) (fun p hp=>by have:=List.mem_range.mp hp;omega)
 have eL:=fun(sl:Sl) (s5:sl[5]?=some (some (nW m))) (s1:sl.getD 1 none=some (.int h))=>zq8 (zs:=List.range m) (en:=nW) (g:=fun p=>W.tup [nW p,.int h]) (js:=[1]) (di:=ziq (zad (zah 5) zao)) (e:=zbQ (zad (zah 0) (zad (zah 1) zao))) (sl:=sl) (ce:=ce) (c1:=ce) (zh1 (zac (zae s5) zaj) (by omega)).is (by rw[List.length_range];omega) (fun p hp=>zaU (ws:=[nW p,.int h]) (zac (zae rfl) (zac (zae (by show some (sl.getD 1 none)=_;rw[s1])) zaj)) z2)
 refine zav (w:=wS is) (ce':=ce) (zay (ws:=[nW n,.lst ((List.range m).map fun p=>.tup [nW p,.int h])]) (zac (zae rfl) (zac (eL _ rfl rfl) zaj)) rfl ep) ?_
 refine zam (by repeat (first|exact SetAt.zero|apply SetAt.succ)) ?_
 have S:=zht (a:=0) (m:=m) (by omega) (by omega) false hh m0 (by omega) il (fun p hp=>by
  rw[iv p hp]
  by_cases z:p<m
  ·rw[if_pos (List.mem_range.mpr z),if_pos (by omega)]
  ·rw[if_neg (fun y=>z (List.mem_range.mp y)),if_neg (by omega)])
 have line:∀x y,y∈(zdr n (lsJ n (n-1+rgN false))).getD x []->y=x+1\/x=y+1:=fun x y hy=>by
  rw[show n-1+rgN false=n-1 from rfl,zdM (by omega) (by omega)] at hy
  obtain⟨_,k,hk,e⟩:=hy
  omega
 have lb:(zdr n (lsJ n (n-1+rgN false))).length=n:=by simp[zdr]
 generalize zdr n (lsJ n (n-1+rgN false))=b at S line lb
 obtain⟨q,hq,e5⟩:=zij (ce:=ce) fu cc (k:=5) (by omega) (m:=m) (by omega)
 have ech:=zfi (most:=most) (q:=q) fu hfu S.B (by omega) (by omega) S.pos m1 m5 ce
 rw[S.caught1 m1 line hq] at ech
 have ee:eqD false ce (toW (true,[([],some m)])) (.tup [.str "caught",.lst [.tup [.tup [],nW m]]])=some (.bl true):=zhu (w:=.tup [.str "caught",.lst [.tup [.tup [],nW m]]]) (by simp only[znQ,zd5,zcs,nW,Option.map_some]) rfl
 refine zax (w:=.bl true) (ce':=ce) (zaH (zay (ws:=[wB b,wS is,.int (3-h),nW q,nW most]) (zac (zae rfl) (zac (zae rfl) (zac (zaL zaK (zae rfl) rfl) (zac (e5 _ _ _ (zae rfl) zaK _ (zae rfl)) (zac (zae rfl) zaj))))) rfl ech) (zaU (ws:=[.str "caught",.lst [.tup [.tup [],nW m]]]) (zac zaK (zac (zbf (ws:=[.tup [.tup [],nW m]]) (zac (zaU (ws:=[.tup [],nW m]) (zac (zaU zaj (Nat.zero_le _)) (zac (zae rfl) zaj)) z2) zaj) z1) zaj)) z2) ee) ?_
 exact zc8 (zaN (by simp only[Bel]))
theorem zkh:eqD false ce (toW (false,[])) (.tup [.str "free",.lst []])=some (.bl true):=zhu (w:=.tup [.str "free",.lst []]) (by simp only[znQ,zd5,zcs,Option.map_some]) rfl
theorem zpS(fu:Nat)(hfu:200<=fu)(cc:Int)(hh:h=1\/h=2):d__law_two_breaths fu [.int cc,.int h] ce=some (.ok (.bl true) ce):=by
 have hz:=zfk
 have z2:2<=PySem.sizeLine:=by decide
 have z1:1<=PySem.sizeLine:=by decide
 obtain⟨v3,hv3,e3⟩:=zij (ce:=ce) fu cc (k:=3) (by omega) (m:=12) (by omega)
 unfold d__law_two_breaths
 refine zbC [some (.int cc),some (.int h),none,none,none,none,none] rfl ?_
 refine zav (w:=nW (5+v3)) (ce':=ce) (zaL zaK (e3 _ _ _ (zae rfl) zaK _ zaK) (zeq rfl)) ?_
 refine zam (by repeat (first|exact SetAt.zero|apply SetAt.succ)) ?_
 generalize hn:5+v3=n
 have n5:5<=n:=by omega
 have n16:n<=16:=by omega
 obtain⟨v6,hv6,e6⟩:=zij (ce:=ce) fu cc (k:=6) (by omega) (m:=2) (by omega)
 have el:=zgD (ce:=ce) fu (n:=n) (by omega) (by omega) (decide ((v6:Int)=1))
 refine zav (ce':=ce) (zay (ws:=[nW n,.bl (decide ((v6:Int)=1))]) (zac (zae rfl) (zac (zaL (e6 _ _ _ (zae rfl) zaK _ zaK) zaK (zgq rfl rfl)) zaj)) rfl el) ?_
 refine zam (by repeat (first|exact SetAt.zero|apply SetAt.succ)) ?_
 generalize decide ((v6:Int)=1)=t
 obtain⟨v4,hv4,e4⟩:=zij (ce:=ce) fu cc (k:=4) (by omega) (m:=n-4) (by omega)
 refine zav (w:=nW (1+v4)) (ce':=ce) (zaL zaK (e4 _ _ _ (zae rfl) zaK _ (zaL (zae rfl) zaK (zlr (j:=4) rfl (by omega)))) (zeq rfl)) ?_
 refine zam (by repeat (first|exact SetAt.zero|apply SetAt.succ)) ?_
 generalize hm:1+v4=m
 have m0:1<=m:=by omega
 have m4:m+4<=n:=by omega
 obtain⟨v7,hv7,e7⟩:=zij (ce:=ce) fu cc (k:=7) (by omega) (m:=n-m-2) (by omega)
 refine zav (w:=nW (1+v7)) (ce':=ce) (zaL zaK (e7 _ _ _ (zae rfl) zaK _ (zaL (zaL (zae rfl) (zae rfl) (zlr (j:=m) rfl (by omega))) zaK (zlr (j:=2) rfl (by omega)))) (zeq rfl)) ?_
 refine zam (by repeat (first|exact SetAt.zero|apply SetAt.succ)) ?_
 generalize ha:1+v7=a
 have a1:1<=a:=by omega
 have am:a+m+2<=n:=by omega
 have pm:∀p,p∈(List.range m).map (a+·)↔a<=p/\p<a+m:=fun p=>by
  rw[List.mem_map]
  constructor
  ·rintro⟨k,hk,rfl⟩;have:=List.mem_range.mp hk;omega
  ·rintro⟨p1,p2⟩;exact⟨p-a,List.mem_range.mpr (by omega),by omega⟩
 obtain⟨is,ep,il,iv⟩:=zhr (ce:=ce) fu (n:=n) (by omega) (by omega) h ((List.range m).map (a+·)) (fun p hp=>by have:=(pm p).mp hp;omega)
 rw[List.map_map] at ep
 have eL:=fun(sl:Sl) (s4:sl[4]?=some (some (nW m))) (s1:sl.getD 1 none=some (.int h)) (s5:sl.getD 5 none=some (nW a))=>zq8 (zs:=List.range m) (en:=nW) (g:=(fun p=>W.tup [nW p,.int h])∘(a+·)) (js:=[1,5]) (di:=ziq (zad (zah 4) zao)) (e:=zbQ (zad (dOp zcE (zah 2) (zah 0)) (zad (zah 1) zao))) (sl:=sl) (ce:=ce) (c1:=ce) (zh1 (zac (zae s4) zaj) (by omega)).is (by rw[List.length_range];omega) (fun p hp=>zaU (ws:=[nW (a+p),.int h]) (zac (zaL (zae (by show some (sl.getD 5 none)=_;rw[s5];rfl)) (zae rfl) (zeq (k:=(a:Int)) rfl)) (zac (zae (by show some (sl.getD 1 none)=_;rw[s1])) zaj)) z2)
 refine zav (w:=wS is) (ce':=ce) (zay (ws:=[nW n,.lst ((List.range m).map ((fun p=>W.tup [nW p,.int h])∘(a+·)))]) (zac (zae rfl) (zac (eL _ rfl rfl rfl) zaj)) rfl ep) ?_
 refine zam (by repeat (first|exact SetAt.zero|apply SetAt.succ)) ?_
 have S:=zht (a:=a) (m:=m) (by omega) (by omega) t hh m0 (by omega) il (fun p hp=>by
  rw[iv p hp]
  by_cases z:a<=p/\p<a+m
  ·rw[if_pos ((pm p).mpr z),if_pos z]
  ·rw[if_neg (fun y=>z ((pm p).mp y)),if_neg z])
 have rg:rgN t<=1:=by unfold rgN;split<;>omega
 have low:a-1∈(zdr n (lsJ n (n-1+rgN t))).getD a []:=by
  rw[zdM (by omega) (by omega)]
  exact⟨by omega,a-1,by omega,.inl ⟨by omega,.inr ⟨rfl,by omega⟩⟩⟩
 have lb:(zdr n (lsJ n (n-1+rgN t))).length=n:=by simp[zdr]
 generalize zdr n (lsJ n (n-1+rgN t))=b at S low lb
 obtain⟨q,hq,e5⟩:=zij (ce:=ce) fu cc (k:=5) (by omega) (m:=m) (by omega)
 have ech:=zfi (most:=1) (q:=a+q) fu hfu S.B (by omega) (by omega) S.pos (by omega) (by omega) ce
 have bu:a-1∈brs b is (cpt b (vS is) (a+q)):=by
  rw[zbq S.B.bd]
  exact⟨⟨a,S.reach (by omega) (by omega) (by omega) (by omega),low⟩,S.out (by omega) (by omega)⟩
 rw[S.free1 (by omega) (by omega) bu (by omega)] at ech
 refine zax (w:=.bl true) (ce':=ce) (zaH (zay (ws:=[wB b,wS is,.int (3-h),nW (a+q),nW 1]) (zac (zae rfl) (zac (zae rfl) (zac (zaL zaK (zae rfl) rfl) (zac (zaL (zae rfl) (e5 _ _ _ (zae rfl) zaK _ (zae rfl)) (zeq rfl)) (zac zaK zaj))))) rfl ech) (zaU (ws:=[.str "free",.lst []]) (zac zaK (zac (zbf (ws:=[]) zaj (Nat.zero_le _)) zaj)) z2) zkh) ?_
 exact zc8 (zaN (by simp only[Bel]))
theorem znK(fu:Nat)(hfu:200<=fu)(cc:Int)(hh:h=1\/h=2){most:Nat}(m1:1<=most)(m5:most<=5):d__law_many_breaths fu [.int cc,.int h,nW most] ce=some (.ok (.bl true) ce):=by
 have hz:=zfk
 have z2:2<=PySem.sizeLine:=by decide
 have z1:1<=PySem.sizeLine:=by decide
 obtain⟨v3,hv3,e3⟩:=zij (ce:=ce) fu cc (k:=3) (by omega) (m:=13) (by omega)
 unfold d__law_many_breaths
 refine zbC [some (.int cc),some (.int h),some (nW most),none] rfl ?_
 refine zav (w:=nW (4+v3)) (ce':=ce) (zaL zaK (e3 _ _ _ (zae rfl) zaK _ zaK) (zeq rfl)) ?_
 refine zam (by repeat (first|exact SetAt.zero|apply SetAt.succ)) ?_
 generalize hn:4+v3=n
 have n4:4<=n:=by omega
 have n16:n<=16:=by omega
 have es:=znJ (ce:=ce) fu (n:=n) (by omega) (by omega)
 obtain⟨is,ep,il,iv⟩:=zhr (ce:=ce) fu (n:=n) (by omega) (by omega) h [0] (fun p hp=>by rw[List.mem_singleton] at hp;omega)
 have ep':d__law_put fu [nW n,.lst [.tup [.int 0,.int h]]] ce=some (.ok (wS is) ce):=ep
 have hv:∀p,p<n->is.getD p 0=if p=0 then h else 0:=fun p hp=>by rw[iv p hp];simp only[List.mem_singleton]
 have lb:=zel (n:=n) (by omega)
 have S:Seg (stB n) is h 0 1:=⟨stB_ok (by omega) (by omega),by rw[lb];exact il,hh,Nat.le_refl _,by rw[lb];omega,fun p hp=>by
  rw[lb] at hp
  rw[hv p hp]
  by_cases z:p=0
  ·rw[if_pos z,if_pos (by omega)]
  ·rw[if_neg z,if_neg (by omega)],fun i i1 i2=>⟨(zdi (by omega)).mpr (by omega),(zdi (by omega)).mpr (by omega)⟩⟩
 have ech:=zfi (most:=most) (q:=0) fu hfu S.B (by omega) (by omega) S.pos m1 m5 ce
 rw[zkg n4 (by omega) m1 il hh hv S.pos] at ech
 have ech':d_chase fu [wB (stB n),wS is,.int (3-h),.int 0,nW most] ce=some (.ok (toW (false,[])) ce):=ech
 refine zax (w:=.bl true) (ce':=ce) (zaH (zay (ws:=[wB (stB n),wS is,.int (3-h),.int 0,nW most]) (zac (zay (ws:=[nW n]) (zac (zae rfl) zaj) rfl es) (zac (zay (ws:=[nW n,.lst [.tup [.int 0,.int h]]]) (zac (zae rfl) (zac (zbf (ws:=[.tup [.int 0,.int h]]) (zac (zaU (ws:=[.int 0,.int h]) (zac zaK (zac (zae rfl) zaj)) z2) zaj) z1) zaj)) rfl ep') (zac (zaL zaK (zae rfl) rfl) (zac zaK (zac (zae rfl) zaj))))) rfl ech') (zaU (ws:=[.str "free",.lst []]) (zac zaK (zac (zbf (ws:=[]) zaj (Nat.zero_le _)) zaj)) z2) zkh) ?_
 exact zc8 (zaN (by simp only[Bel]))
theorem zik(fu:Nat)(hb:16<b.length){w1 w2 w3 w4:W}:d_chase fu [wB b,w1,w2,w3,w4] ce=some (.ex ⟨"TooMuch",none⟩ ce):=by
 unfold d_chase
 refine ze8 [some (wB b),some w1,some w2,some w3,some w4] rfl ?_
 refine zbo (p:=true) (ce':=ce) (zeC (zaL (zcf (ws:=[wB b]) (zac (zae rfl) zaj) ze2) zaK (by show some (W.bl (decide ((16:Int)<(b.length:Int))))=_;rw[decide_eq_true (by omega)]))) (fun _=>?_) (fun q=>by cases q)
 exact zd7 rfl ⟨rfl,[],by simp⟩
theorem zil(fu:Nat)(hb:16<b.length){w1 w2 w3 w4:W}:d__law_refused fu [wB b,w1,w2,w3,w4] ce=some (.ok (.bl true) ce):=by
 have z3:3<=PySem.sizeLine:=by decide
 have z9:9<=PySem.sizeLine:=by decide
 unfold d__law_refused
 refine zbC [some (wB b),some w1,some w2,some w3,some w4,none,none,none] rfl ?_
 refine zav zaK ?_
 refine zam (by repeat (first|exact SetAt.zero|apply SetAt.succ)) ?_
 have hc:zar 5 (d_chase fu) (zh3 (zad (zah 0) (zad (zah 1) (zad (zah 2) (zad (zah 3) (zad (zah 4) zao)))))) [some (wB b),some w1,some w2,some w3,some w4,some .non,none,none] ce=some (.ex ⟨"TooMuch",none⟩ ce):=zk9 (ws:=[wB b,w1,w2,w3,w4]) (zhb (zac (zae rfl) (zac (zae rfl) (zac (zae rfl) (zac (zae rfl) (zac (zae rfl) zaj)))))) rfl (zik fu hb)
 refine zlb (sl':=[some (wB b),some w1,some w2,some w3,some w4,some (.cel ce.length),none,none]) (c2:=ce++[.exn "TooMuch"]) hc (by decide +kernel) rfl ?_
 have ha:zcY XTB "TooMuch" = some (["TooMuch", "StoneError"]:List PySem.Str):=by decide +kernel
 have v3:zpv XTB (ce++[.exn "TooMuch"]) (.cel ce.length)=some (.bl true):=by
  unfold zpv
  rw[zpQ,Option.bind_some,ha,Option.bind_some]
 have v4:∀(cn:PySem.Str) (r:Bool),(XTB.any fun p=>p.1==cn)=true->(["TooMuch", "StoneError"]:List PySem.Str).contains cn=r->zgw XTB (ce++[.exn "TooMuch"]) (.cel ce.length) cn=some (.bl r):=fun cn r hcn hr=>by
  unfold zgw
  rw[zpQ,Option.bind_some,ha,Option.bind_some,if_pos hcn,hr]
 have t0:=v4 "TooMuch" true (by decide +kernel) (by decide +kernel)
 have t1:=v4 "Again" false (by decide +kernel) (by decide +kernel)
 have t2:=v4 "NoBack" false (by decide +kernel) (by decide +kernel)
 have t3:=v4 "NoBoard" false (by decide +kernel) (by decide +kernel)
 have t4:=v4 "NoBreath" false (by decide +kernel) (by decide +kernel)
 have t5:=v4 "NoLay" false (by decide +kernel) (by decide +kernel)
 have t6:=v4 "NoPoint" false (by decide +kernel) (by decide +kernel)
 have t7:=v4 "NoRow" false (by decide +kernel) (by decide +kernel)
 have t8:=v4 "NoStand" false (by decide +kernel) (by decide +kernel)
 have t9:=v4 "NoText" false (by decide +kernel) (by decide +kernel)
 have tA:=v4 "Over" false (by decide +kernel) (by decide +kernel)
 refine zbo (p:=false||(!true||!true)) (ce':=ce++[.exn "TooMuch"]) (zfP (zeC (zjq (zae rfl) rfl)) (fun _=>zfP (zbX (zeC (zb5 (zae rfl) t0))) (fun _=>zbX (zeC (zb5 (zae rfl) v3))))) (fun q=>by cases q) (fun _=>za2 ?_)
 refine zav (w:=.lst [.bl false,.bl false,.bl false]) (ce':=ce++[.exn "TooMuch"]) (zbf (ws:=[.bl false,.bl false,.bl false]) (zac (zb5 (zae rfl) t1) (zac (zb5 (zae rfl) t2) (zac (zb5 (zae rfl) t3) zaj))) z3) ?_
 refine zam (by repeat (first|exact SetAt.zero|apply SetAt.succ)) ?_
 refine zav (w:=.lst [.bl false,.bl false,.bl false,.bl false,.bl false,.bl false]) (ce':=ce++[.exn "TooMuch"]) (zdh (xs:=[.bl false,.bl false,.bl false]) (ys:=[.bl false,.bl false,.bl false]) (zae rfl) (zbf (ws:=[.bl false,.bl false,.bl false]) (zac (zb5 (zae rfl) t4) (zac (zb5 (zae rfl) t5) (zac (zb5 (zae rfl) t6) zaj))) z3) rfl rfl (by show 6<=PySem.sizeLine;decide)) ?_
 refine zam (by repeat (first|exact SetAt.zero|apply SetAt.succ)) ?_
 refine zav (w:=.lst [.bl false,.bl false,.bl false,.bl false,.bl false,.bl false,.bl false,.bl false,.bl false]) (ce':=ce++[.exn "TooMuch"]) (zdh (xs:=[.bl false,.bl false,.bl false,.bl false,.bl false,.bl false]) (ys:=[.bl false,.bl false,.bl false]) (zae rfl) (zbf (ws:=[.bl false,.bl false,.bl false]) (zac (zb5 (zae rfl) t7) (zac (zb5 (zae rfl) t8) (zac (zb5 (zae rfl) t9) zaj))) z3) rfl rfl z9) ?_
 refine zam (by repeat (first|exact SetAt.zero|apply SetAt.succ)) ?_
 have ei:inW true (ce++[.exn "TooMuch"]) (.bl true) (.lst [.bl false,.bl false,.bl false,.bl false,.bl false,.bl false,.bl false,.bl false,.bl false])=some (.bl true):=rfl
 refine zax (ce':=ce++[.exn "TooMuch"]) (znG (p:=true) (q:=!false) (zaH zaK (zae rfl) ei) (fun _=>zpA (zb5 (zae rfl) tA))) ?_
 exact zc8 (zdB (by simp only[Bel]))
end
theorem main(ns:List Int)(_h:ns.length<=63):∃ce',d_law FU [.lst (ns.map W.int)] []=some (.ok (.bl true) ce'):=by
 have hz:=zfk
 have hfu:200<=FU:=by decide
 have z2:2<=PySem.sizeLine:=by decide
 have z1:1<=PySem.sizeLine:=by decide
 suffices hs:∃w c,d_law FU [.lst (ns.map W.int)] []=some (.ok w c)/\w=.bl true by
  obtain⟨w,c,e,rfl⟩:=hs
  exact⟨c,e⟩
 unfold d_law
 refine zie [some (sW ns),none,none,none,none,none,none] rfl ?_
 refine zcW (zs:=List.range 8) (en:=nW) (c1:=[]) (zh1 (n:=8) (zac zaK zaj) (by omega))
  (fun d sl c=>∃x1 x2 x3 x4 x5 x6,sl=[some (sW ns),x1,x2,x3,x4,x5,x6]/\c=[]) ⟨_,_,_,_,_,_,rfl,rfl⟩ ?_ ?_
 ·rintro d k r sl c e hk ⟨x1,x2,x3,x4,x5,x6,rfl,rfl⟩
  have hk:=List.mem_range.mp hk
  obtain⟨cc,ec⟩:=znH (ce:=[]) FU (ns:=ns) (k:=k) (by omega)
  unfold zl0
  refine zam (by repeat (first|exact SetAt.zero|apply SetAt.succ)) ?_
  refine zav (w:=.int cc) (ce':=[]) (zay (ws:=[sW ns,nW k]) (zac (zae rfl) (zac (zae rfl) zaj)) rfl ec) ?_
  refine zam (by repeat (first|exact SetAt.zero|apply SetAt.succ)) ?_
  obtain⟨u1,hu1,e1⟩:=zij (ce:=[]) FU cc (k:=1) (by omega) (m:=2) (by omega)
  obtain⟨u2,hu2,e2⟩:=zij (ce:=[]) FU cc (k:=2) (by omega) (m:=5) (by omega)
  refine zav (w:=.int (1+(u1:Int))) (ce':=[]) (zaL zaK (e1 _ _ _ (zae rfl) zaK _ zaK) rfl) ?_
  refine zam (by repeat (first|exact SetAt.zero|apply SetAt.succ)) ?_
  have hh:(1:Int)+(u1:Int)=1\/(1:Int)+(u1:Int)=2:=by omega
  generalize (1:Int)+(u1:Int)=h at hh
  refine zav (w:=nW (1+u2)) (ce':=[]) (zaL zaK (e2 _ _ _ (zae rfl) zaK _ zaK) (zeq rfl)) ?_
  refine zam (by repeat (first|exact SetAt.zero|apply SetAt.succ)) ?_
  have q1:=zpR (ce:=[]) (most:=1+u2) FU hfu cc hh (by omega) (by omega)
  have q2:=znK (ce:=[]) (most:=1+u2) FU hfu cc hh (by omega) (by omega)
  have q3:=zpS (ce:=[]) FU hfu cc hh
  refine zbo (p:=!true||!true) (ce':=[]) (zfP (zbX (zeC (zay (ws:=[.int cc,.int h,nW (1+u2)]) (zac (zae rfl) (zac (zae rfl) (zac (zae rfl) zaj))) rfl q1))) (fun _=>zbX (zeC (zay (ws:=[.int cc,.int h,nW (1+u2)]) (zac (zae rfl) (zac (zae rfl) (zac (zae rfl) zaj))) rfl q2)))) (fun q=>by cases q) (fun _=>za2 ?_)
  refine zbo (p:=!true) (ce':=[]) (zbX (zeC (zay (ws:=[.int cc,.int h]) (zac (zae rfl) (zac (zae rfl) zaj)) rfl q3))) (fun q=>by cases q) (fun _=>za2 ?_)
  obtain⟨u8,hu8,e8⟩:=zij (ce:=[]) FU cc (k:=8) (by omega) (m:=20) (by omega)
  refine zav (w:=nW (17+u8)) (ce':=[]) (zaL zaK (e8 _ _ _ (zae rfl) zaK _ zaK) (zeq rfl)) ?_
  refine zam (by repeat (first|exact SetAt.zero|apply SetAt.succ)) ?_
  generalize hn:17+u8=n
  obtain⟨is,ep,il,iv⟩:=zhr (ce:=[]) FU (n:=n) (by omega) (by omega) h [3] (fun p hp=>by rw[List.mem_singleton] at hp;omega)
  have ep':d__law_put FU [nW n,.lst [.tup [.int 3,.int h]]] []=some (.ok (wS is) []):=ep
  refine zav (w:=wS is) (ce':=[]) (zay (ws:=[nW n,.lst [.tup [.int 3,.int h]]]) (zac (zae rfl) (zac (zbf (ws:=[.tup [.int 3,.int h]]) (zac (zaU (ws:=[.int 3,.int h]) (zac zaK (zac (zae rfl) zaj)) z2) zaj) z1) zaj)) rfl ep') ?_
  refine zam (by repeat (first|exact SetAt.zero|apply SetAt.succ)) ?_
  obtain⟨u9,hu9,e9⟩:=zij (ce:=[]) FU cc (k:=9) (by omega) (m:=2) (by omega)
  have el:=zgD (ce:=[]) FU (n:=n) (by omega) (by omega) (decide ((u9:Int)=1))
  have er:=zil (ce:=[]) (b:=zdr n (lsJ n (n-1+rgN (decide ((u9:Int)=1))))) (w1:=wS is) (w2:=.int (3-h)) (w3:=.int 3) (w4:=nW (1+u2)) FU (by simp[zdr];omega)
  refine zg0 (p:=!true) (ce':=[]) (zbX (zeC (zay (ws:=[wB (zdr n (lsJ n (n-1+rgN (decide ((u9:Int)=1))))),wS is,.int (3-h),.int 3,nW (1+u2)]) (zac (zay (ws:=[nW n,.bl (decide ((u9:Int)=1))]) (zac (zae rfl) (zac (zaL (e9 _ _ _ (zae rfl) zaK _ zaK) zaK (zgq rfl rfl)) zaj)) rfl el) (zac (zae rfl) (zac (zaL zaK (zae rfl) rfl) (zac zaK (zac (zae rfl) zaj))))) rfl er))) (fun q=>by cases q) (fun _=>ze0 ?_)
  exact⟨_,_,_,_,_,_,rfl,rfl⟩
 ·rintro sl c ⟨x1,x2,x3,x4,x5,x6,rfl,rfl⟩
  exact zax (w:=.bl true) (ce':=[]) zaK ⟨_,_,zaN (by simp only[Bel]),rfl⟩
end K40
namespace K40
open PySem PySem.Spec PyProof.Rows L2 VS
theorem fin_mk{w:World}{K:PySem.W.Frag}{mg:Str->Option Value}{l:PySem.W.OpenLaw}{fa:Addr}(z:∃A:Adr,Txt K mg A/\fa=A.f_law/\∀(s:Shared) (v:Value),BindsTo s A.d_law ⟨[v],[]⟩ [("_law_script",v)]) :
  ∃fd:FuncData,(∀(s:Shared) (u:Value),BindsTo s fd ⟨[u],[]⟩ [("_law_script",u)])/\∀base:Heap,K.In base->base.Ns mainGlobals mg->FnOk l.prog w K mg base CX0 21 fa fd ["_law_script"] (spLaw Gx (d_law FU) K):=by
 obtain⟨A,T,e,b⟩:=z
 subst e
 exact⟨A.d_law,b,fun base _ _=>znn T.nl (zpB FU T)⟩
end K40
open PySem PySem.W PyProof.Rows
theorem PySem.W.Fast.te4213019537799091835 : True := trivial
theorem PySem.W.Fast.tw15842672233150506501 : True := trivial
theorem PySem.W.Fast.tw3847470048176500448 : True := trivial
theorem PySem.W.Fast.tw12953397569494246337 : True := trivial
theorem PySem.W.Fast.tw5607872360884857188 : True := trivial
theorem PySem.W.Fast.tw14294290390808974280 : True := trivial
theorem PySem.W.Fast.tw5231396342348645641 : True := trivial
theorem PySem.W.Fast.tw10821631614109044138 : True := trivial
theorem PySem.W.Fast.tw16548083057092778506 : True := trivial
theorem PySem.W.Fast.tw18194625731630311755 : True := trivial
theorem PySem.W.Fast.tw544612612794158380 : True := trivial
theorem PySem.W.Fast.tw6571747676347235855 : True := trivial
theorem PySem.W.Fast.tw3203599999448355696 : True := trivial
theorem PySem.W.Fast.tw6544923108404886545 : True := trivial
theorem PySem.W.Fast.tw2659584082490206769 : True := trivial
theorem PySem.W.Fast.tw8421310638330704082 : True := trivial
theorem PySem.W.Fast.tw17540306081151872755 : True := trivial
theorem PySem.W.Fast.tw898607976789876857 : True := trivial
set_option maxRecDepth 100000 in
set_option maxHeartbeats 0 in
theorem PySem.Challenge.cw_stonebreath_k40_chases_at_once_holds : PySem.Challenge.rw_stonebreath_k40_chases_at_once.Holds := by
 w_on;o_law;k_head;(case hw=>w_witness2)
 k_fill
 refine L2.walk_ofK (l:=PySem.Challenge.rw_stonebreath_k40_chases_at_once) (n:=63) (k:=21) (x := "_law_script") (CX:=L2.CX0) (sp:=VS.spLaw K40.Gx (K40.d_law K40.FU)) rfl (by decide) rfl ⟨rfl,by decide,by decide⟩ (fun w h Y=>PySem.W.kIn_of Y) ?F (VS.law_sp K40.main) (fun _ _ _ _ z=>z)
 case F =>
  intro w mg fa h KX G hmg
  refine' K40.fin_mk (K40.all_mk KX G hmg ?ac_Chase ?pg_Chase ?hd_Chase ?po_Chase ?sa_Chase ?mi_Chase ?kc_Chase ?na_Chase_hunter ?na_Chase_joined ?na_Chase_most ?na_Chase_runner ?na_Chase_stone ?a0 ?l0 ?c0 ?k0 ?a1 ?l1 ?c1 ?k1 ?a2 ?l2 ?c2 ?k2 ?a3 ?l3 ?c3 ?k3 ?a4 ?l4 ?c4 ?k4 ?a5 ?l5 ?c5 ?k5 ?a6 ?l6 ?c6 ?k6 ?a7 ?l7 ?c7 ?k7 ?a8 ?l8 ?c8 ?k8 ?a9 ?l9 ?c9 ?k9 ?a10 ?l10 ?c10 ?k10 ?a11 ?l11 ?c11 ?k11 ?a12 ?l12 ?c12 ?k12 ?a13 ?l13 ?c13 ?k13 ?a14 ?l14 ?c14 ?k14 ?a15 ?l15 ?c15 ?k15 ?a16 ?l16 ?c16 ?k16 ?a17 ?l17 ?c17 ?k17 ?a18 ?l18 ?c18 ?k18 ?a19 ?l19 ?c19 ?k19 ?a20 ?l20 ?c20 ?k20 ?a21 ?l21 ?c21 ?k21 ?a22 ?l22 ?c22 ?k22 ?a23 ?l23 ?c23 ?k23 ?a24 ?fn24 ?l24 ?c24 ?k24 ?a25 ?fn25 ?l25 ?c25 ?k25 ?a26 ?fn26 ?l26 ?c26 ?k26 ?a27 ?fn27 ?l27 ?c27 ?k27 ?a28 ?fn28 ?l28 ?c28 ?k28 ?a29 ?fn29 ?l29 ?c29 ?k29 ?q0 ?z_ValueError ?z_int ?z_isinstance ?z_len ?z_list ?z_range ?z_sorted ?z_tuple ?xt ?nl)
  (case ac_Chase=>k_is);(case pg_Chase=>k_is);(case hd_Chase=>k_is);(case po_Chase=>k_is);(case sa_Chase=>k_is);(case mi_Chase=>k_is);(case kc_Chase=>k_is);(case na_Chase_hunter=>k_is);(case na_Chase_joined=>k_is);(case na_Chase_most=>k_is);(case na_Chase_runner=>k_is);(case na_Chase_stone=>k_is);(case a0=>k_is);(case l0=>k_is);(case c0=>k_is);(case k0=>k_is);(case a1=>k_is);(case l1=>k_is);(case c1=>k_is);(case k1=>k_is);(case a2=>k_is);(case l2=>k_is);(case c2=>k_is);(case k2=>k_is);(case a3=>k_is);(case l3=>k_is);(case c3=>k_is);(case k3=>k_is);(case a4=>k_is);(case l4=>k_is);(case c4=>k_is);(case k4=>k_is);(case a5=>k_is);(case l5=>k_is);(case c5=>k_is);(case k5=>k_is);(case a6=>k_is);(case l6=>k_is);(case c6=>k_is);(case k6=>k_is);(case a7=>k_is);(case l7=>k_is);(case c7=>k_is);(case k7=>k_is);(case a8=>k_is);(case l8=>k_is);(case c8=>k_is);(case k8=>k_is);(case a9=>k_is);(case l9=>k_is);(case c9=>k_is);(case k9=>k_is);(case a10=>k_is);(case l10=>k_is);(case c10=>k_is);(case k10=>k_is);(case a11=>k_is);(case l11=>k_is);(case c11=>k_is);(case k11=>k_is);(case a12=>k_is);(case l12=>k_is);(case c12=>k_is);(case k12=>k_is);(case a13=>k_is);(case l13=>k_is);(case c13=>k_is);(case k13=>k_is);(case a14=>k_is);(case l14=>k_is);(case c14=>k_is);(case k14=>k_is);(case a15=>k_is);(case l15=>k_is);(case c15=>k_is);(case k15=>k_is);(case a16=>k_is);(case l16=>k_is);(case c16=>k_is);(case k16=>k_is);(case a17=>k_is);(case l17=>k_is);(case c17=>k_is);(case k17=>k_is);(case a18=>k_is);(case l18=>k_is);(case c18=>k_is);(case k18=>k_is);(case a19=>k_is);(case l19=>k_is);(case c19=>k_is);(case k19=>k_is);(case a20=>k_is);(case l20=>k_is);(case c20=>k_is);(case k20=>k_is);(case a21=>k_is);(case l21=>k_is);(case c21=>k_is);(case k21=>k_is);(case a22=>k_is);(case l22=>k_is);(case c22=>k_is);(case k22=>k_is);(case a23=>k_is);(case l23=>k_is);(case c23=>k_is);(case k23=>k_is);(case a24=>k_is);(case fn24=>k_is);(case l24=>k_is);(case c24=>k_is);(case k24=>k_is);(case a25=>k_is);(case fn25=>k_is);(case l25=>k_is);(case c25=>k_is);(case k25=>k_is);(case a26=>k_is);(case fn26=>k_is);(case l26=>k_is);(case c26=>k_is);(case k26=>k_is);(case a27=>k_is);(case fn27=>k_is);(case l27=>k_is);(case c27=>k_is);(case k27=>k_is);(case a28=>k_is);(case fn28=>k_is);(case l28=>k_is);(case c28=>k_is);(case k28=>k_is);(case a29=>k_is);(case fn29=>k_is);(case l29=>k_is);(case c29=>k_is);(case k29=>k_is);(case q0=>k_is);(case z_ValueError=>k_is);(case z_int=>k_is);(case z_isinstance=>k_is);(case z_len=>k_is);(case z_list=>k_is);(case z_range=>k_is);(case z_sorted=>k_is);(case z_tuple=>k_is);(case xt=>kernel_rfl);(case nl=>kernel_rfl)
