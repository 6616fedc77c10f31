import PyProof.Rows.All
import Wide.All
import OpenK.AllK
import Wide.FinOn
import Lean
import PyProof.EqAt
import PyProof.EqKinds
import PyProof.TupleCall
import PyProof.NeKinds
import KE.KDictSum
import KE.KListLetter
import KE.KIsAll
import KE.KTryMore
import PySem.Challenge.RW_stonebreath_k39_whole_chases_exchanged
set_option Elab.async false
set_option linter.all false
set_option maxRecDepth 100000
noncomputable section
namespace L2
open PySem PySem.Spec PyProof.Rows
abbrev Key:=Sum Int Str
def zif:Key->Value->Bool
 | .inl k,v=>Value.isInt k v
 | .inr x,v=>Value.isStrOf x v
def zsu(w:World):Key->Int
 | .inl k=>hashInt k
 | .inr x=>hashStr w x
theorem zaZ:∀{k:Key} {v:Value},zif k v=true->(∃i t,k=Sum.inl i/\v=Value.int i t)\/(∃x t,k=Sum.inr x/\v=Value.str x t)
 | .inl i,v,h=>by
  obtain⟨t,e⟩:=Value.isInt_shape (k:=i) (v:=v) h
  exact .inl ⟨i,t,rfl,e⟩
 | .inr x,v,h=>by
  obtain⟨t,e⟩:=Value.isStrOf_shape (x:=x) (v:=v) h
  exact .inr ⟨x,t,rfl,e⟩
theorem ziY(i:Int)(t:Tok):zif (.inl i) (.int i t)=true:=by simp[zif,Value.isInt]
theorem ziZ(x:Str)(t:Tok):zif (.inr x) (.str x t)=true:=by simp[zif,Value.isStrOf]
theorem zoj(a b:Int):decide ((Sum.inl a:Key)=Sum.inl b)=(a==b):=by
 by_cases e:a=b
 ·subst e;simp
 ·have h:¬(Sum.inl a:Key)=Sum.inl b:=fun q=>e (Sum.inl.inj q)
  rw[decide_eq_false h]
  exact(beq_eq_false_iff_ne.mpr e).symm
theorem zok(a b:Str):decide ((Sum.inr a:Key)=Sum.inr b)=decide (a=b):=by
 by_cases e:a=b
 ·subst e;simp
 ·have h:¬(Sum.inr a:Key)=Sum.inr b:=fun q=>e (Sum.inr.inj q)
  rw[decide_eq_false h,decide_eq_false e]
theorem zol(a:Int)(b:Str):decide ((Sum.inl a:Key)=Sum.inr b)=false:=decide_eq_false (fun q=>nomatch q)
theorem zom(a:Str)(b:Int):decide ((Sum.inr a:Key)=Sum.inl b)=false:=decide_eq_false (fun q=>nomatch q)
def za2(prog:Program)(w:World):PySem.KeyKind prog w Key where
 is:=zif
 hash:=zsu w
 inj:=fun v a b ha hb=>by
  rcases zaZ ha with ⟨i,t,rfl,rfl⟩|⟨x,t,rfl,rfl⟩
  ·rcases zaZ hb with ⟨j,u,rfl,e⟩|⟨y,u,rfl,e⟩
   ·injection e with e1 _;rw[e1]
   ·exact nomatch e
  ·rcases zaZ hb with ⟨j,u,rfl,e⟩|⟨y,u,rfl,e⟩
   ·exact nomatch e
   ·injection e with e1 _;rw[e1]
 byValue:=fun k v h=>by
  rcases zaZ h with ⟨i,t,rfl,rfl⟩|⟨x,t,rfl,rfl⟩<;>rfl
 pyHash:=fun hv h=>by
  rcases zaZ hv with ⟨i,t,rfl,rfl⟩|⟨x,t,rfl,rfl⟩
  ·exact wpAny_pyHash_int h
  ·exact wpAny_pyHash_str h
 eqBool:=fun hu hv h=>by
  rcases zaZ hu with ⟨i,t,rfl,rfl⟩|⟨x,t,rfl,rfl⟩
  ·rcases zaZ hv with ⟨j,u,rfl,rfl⟩|⟨y,u,rfl,rfl⟩
   ·rw[zoj] at h;exact wpAny_eqBool_int h
   ·rw[zol] at h;exact SeqAt.EqAt.int_str i t y u _ _ _ _ h
  ·rcases zaZ hv with ⟨j,u,rfl,rfl⟩|⟨y,u,rfl,rfl⟩
   ·rw[zom] at h;exact SeqAt.EqAt.str_int x t j u _ _ _ _ h
   ·rw[zok] at h;exact wpAny_eqBool_str h
 «strs»:=fun k x t v h=>by
  rcases zaZ h with ⟨i,u,rfl,e⟩|⟨y,u,rfl,e⟩
  ·exact nomatch e
  ·injection e with e1 _
   subst e1
   cases v<;>rfl
theorem zgU(prog:Program)(w:World)(i:Int)(t:Tok):(za2 prog w).is (.inl i) (.int i t)=true:=ziY i t
theorem zgV(prog:Program)(w:World)(x:Str)(t:Tok):(za2 prog w).is (.inr x) (.str x t)=true:=ziZ x t
end L2
namespace L2
open PySem PySem.Spec PyProof.Rows
inductive V where
 | non|bl (b:Bool)|int (i:Int)|str (x:Str)|byt (b:Array UInt8)|flt (b:UInt64)|ref (a:Addr)|ty (n:String)
 deriving DecidableEq
def RelV:V->Value->Prop
 | .non,u=>u=Value.none
 | .bl b,u=>u=Value.bool b
 | .int i,u=>∃t,u=Value.int i t
 | .str x,u=>∃t,u=Value.str x t
 | .byt b,u=>∃t,u=Value.bytes b t
 | .flt b,u=>∃t,u=Value.float b t
 | .ref a,u=>u=Value.ref a
 | .ty n,u=>u=Value.type n
abbrev Vals:List V->List Value->Prop:=Paired RelV
theorem Vals.length{xs:List V}{us:List Value}(r:Vals xs us):xs.length=us.length:=Paired.length r
theorem Vals.get:∀{xs:List V} {us:List Value} {i:Nat} {x:V},Vals xs us->xs[i]?=some x->∃u,us[i]?=some u/\RelV x u
 | _,_,_,_,.nil,e=>by simp at e
 | _,_,0,_,.cons r _,e=>by simp at e;subst e;exact⟨_,rfl,r⟩
 | _,_,i+1,x,.cons _ t,e=>by
  obtain⟨u,h1,h2⟩:=Vals.get (i:=i) (x:=x) t (by simpa using e)
  exact⟨u,by simpa using h1,h2⟩
theorem Vals.set{x:V}{u:Value}(r:RelV x u):∀{xs:List V} {us:List Value} (i:Nat),Vals xs us->Vals (xs.set i x) (us.set i u)
 | _,_,_,.nil=>.nil
 | _,_,0,.cons _ t=>.cons r t
 | _,_,i+1,.cons q t=>.cons q (Vals.set r i t)
theorem Vals.append:∀{xs ys:List V} {us ws:List Value},Vals xs us->Vals ys ws->Vals (xs++ys) (us++ws)
 | _,_,_,_,.nil,s=>s
 | _,_,_,_,.cons r t,s=>.cons r (Vals.append t s)
def RelO:Option V->Option Value->Prop
 | some v,some u=>RelV v u
 | none,none=>True
 | _,_=>False
def KV{κ:Type}:List (κ×V)->List (κ×Value)->Prop:=Paired fun(p:κ×V) (q:κ×Value)=>p.1=q.1/\RelV p.2 q.2
def kV:Key->V
 | .inl i=>.int i
 | .inr x=>.str x
inductive HO where
  | lst (xs:List V)
  | tup (xs:List V)
  | dK (kvs:List (Key×V))|dT (kvs:List (List Key×V))
  | set (S:Int->Bool) (n:Nat)
  | ins (C dx:Addr) (fs:List (Str×V))
  | own (x:Addr)
  | xd (fs:List (Str×V))
  | met (f x:Addr)
  | rng (lo hi:Int)
  | frz (o:Obj) (u:HO)
  | tbl (ps:Array Value)
  | ext (φ:Heap->Prop)
abbrev Hp:=Addr->Option HO
def upd(H:Hp)(a:Addr)(o:HO):Hp:=fun b=>if b=a then some o else H b
theorem zaH{H:Hp}{a:Addr}{o:HO}:upd H a o a=some o:=by unfold upd;rw[if_pos rfl]
theorem zaG{H:Hp}{a b:Addr}{o:HO}(h:b≠a):upd H a o b=H b:=by unfold upd;rw[if_neg h]
theorem zqC{H:Hp}{a b:Addr}{o u:HO}(h:H a=some o)(h':H b=some u)(d:o≠u):a≠b:=by
 intro e;subst e;rw[h] at h';exact d (Option.some.inj h')
theorem zaE{H:Hp}{a b:Addr}{o:HO}(h:H a=some o)(h':H b=none):a≠b:=by
 intro e;subst e;rw[h] at h';cases h'
def TupN(h:Heap)(a:Addr)(items:Array Value):Prop:=∃o,h.get? a=some o/\o.cls=.type "tuple" /\ (∃n,o.data=.seq items n)/\o.dict=none
theorem TupN.isTup{h:Heap}{a:Addr}{items:Array Value}(t:TupN h a items):PyProof.Rows.IsTup h a items:=by
 obtain⟨o,e,c,⟨n,d⟩,_⟩:=t
 exact⟨o,e,c,n,d⟩
theorem TupN.new(h:Heap)(items:Array Value):TupN (h.push { cls:=.type "tuple",data:=.seq items }) h.objs.size items:=⟨_,Heap.get?_push_size _ rfl,rfl,⟨_,rfl⟩,rfl⟩
section
variable (P:Program) (w:World)
def ObjOk(H:Hp)(h:Heap)(a:Addr):HO->Prop
 | .lst xs=>xs.length<=sizeLine/\∃(its:List Value) (n:Nat),Vals xs its/\h.get? a=some { cls:=.type "list",data:=.seq its.toArray n }
 | .tup xs=>xs.length<=sizeLine/\∃its:List Value,Vals xs its/\TupN h a its.toArray
 | .dK kvs=>kvs.length<=sizeLine/\(a==sysModules)=false/\∃vs,KV kvs vs/\h.DictOf (za2 P w) a vs
 | .dT kvs=>kvs.length<=sizeLine/\(a==sysModules)=false/\∃xs:List (List Key×Addr×Value),
   Paired (fun(p:List Key×V) (q:List Key×Addr×Value)=>p.1=q.1/\H q.2.1=some (.tup (p.1.map kV))/\RelV p.2 q.2.2) kvs xs /\
   ∃o es ep,h.get? a=some o/\o.ExactDict/\o.data=.dict es ep/\es.toList=xs.map (entryOfKey (tupleKind (za2 P w)))/\(xs.map (·.1)).Nodup
 | .set S n=>h.SetOf (intKind P w) a S n
 | .ins C dx fs=>H dx=some (.own a)/\fs.length<=1000/\dx≠a/\h.get? a=some (PySem.W.instObj C dx) /\
   ∃mA,h.Ns1 dx mA/\(∀f,RelO (fs.lookup f) (mA f))/\PySem.Within mA (fs.map (·.1))
 | .own _=>∃o,h.get? a=some o
 | .xd fs=>∃mA,h.Ns1 a mA/\∀f,RelO (fs.lookup f) (mA f)
 | .rng lo hi=>∃t u v,h.get? a=some { cls:=.type "range",data:=.fields #[.int lo t,.int hi u,.int 1 v] }
 | .frz o u=>h.get? a=some o/\ObjOk H h a u
 | .tbl ps=>h.get? a=some { cls:=.none,data:=.fields ps }
 | .met f x=>h.get? a=some (PySem.W.methodObj (.ref f) (.ref x))
 | .ext φ=>φ h/\(∃o,h.get? a=some o)/\∀h1 h2:Heap,φ h1->(∀o,h1.get? a=some o->h2.get? a=some o)->φ h2
def HOk(H:Hp)(h:Heap):Prop:=∀a o,H a=some o->ObjOk P w H h a o
end
section
variable {P:Program} {w:World} {H H':Hp} {h h':Heap} {a:Addr} {o:HO}
theorem ObjOk.lt(x:ObjOk P w H h a o):a<h.objs.size:=by
 cases o with
 | lst xs=>obtain⟨_,_,_,_,e⟩:=x;exact Heap.lt_size e
 | tup xs=>obtain⟨_,_,_,p⟩:=x;exact(TupN.isTup p).lt
 | dK kvs=>obtain⟨_,_,_,_,o,_,_,e,_⟩:=x;exact Heap.lt_size e
 | dT kvs=>obtain⟨_,_,_,_,o,_,_,e,_⟩:=x;exact Heap.lt_size e
 | set S n=>obtain⟨o,_,_,_,e,_⟩:=x;exact Heap.lt_size e
 | ins C dx fs=>obtain⟨_,_,_,e,_⟩:=x;exact Heap.lt_size e
 | own y=>obtain⟨_,e⟩:=x;exact Heap.lt_size e
 | xd fs=>obtain⟨_,⟨_,_,_,e,_⟩,_⟩:=x;exact Heap.lt_size e
 | rng lo hi=>obtain⟨_,_,_,e⟩:=x;exact Heap.lt_size e
 | frz ob u=>obtain⟨e,_⟩:=x;exact Heap.lt_size e
 | tbl ps=>exact Heap.lt_size (show h.get? a=some _ from x)
 | met f y=>exact Heap.lt_size (show h.get? a=some _ from x)
 | ext φ=>obtain⟨_,⟨_,e⟩,_⟩:=x;exact Heap.lt_size e
theorem Paired.mapP{α β:Type}{F G:α->β->Prop}:∀{l₁:List α} {l₂:List β},Paired F l₁ l₂->(∀a b,F a b->G a b)->Paired G l₁ l₂
 | _,_,.nil,_=>.nil
 | _,_,.cons r t,f=>.cons (f _ _ r) (Paired.mapP t f)
theorem ObjOk.stay(x:ObjOk P w H h a o)(k:∀b u,(b=a\/H b=some (.own a))->h.get? b=some u->h'.get? b=some u)(ho:∀b,H b=some (.own a)->H' b=some (.own a))(ht:∀b xs,H b=some (.tup xs)->H' b=some (.tup xs)):ObjOk P w H' h' a o:=by
 induction o with
 | lst xs=>obtain⟨z,its,n,r,e⟩:=x;exact⟨z,its,n,r,k _ _ (.inl rfl) e⟩
 | tup xs=>obtain⟨z,its,r,ob,e,c⟩:=x;exact⟨z,its,r,ob,k _ _ (.inl rfl) e,c⟩
 | dK kvs=>obtain⟨z,y,vs,r,ob,es,ep,e,c⟩:=x;exact⟨z,y,vs,r,ob,es,ep,k _ _ (.inl rfl) e,c⟩
 | dT kvs =>
  obtain⟨z,y,xs,r,ob,es,ep,e,c⟩:=x
  exact⟨z,y,xs,Paired.mapP r fun p q z=>⟨z.1,ht _ _ z.2.1,z.2.2⟩,ob,es,ep,k _ _ (.inl rfl) e,c⟩
 | set S n=>obtain⟨ob,es,ep,t,e,c⟩:=x;exact⟨ob,es,ep,t,k _ _ (.inl rfl) e,c⟩
 | ins C dx fs =>
  obtain⟨d,z,ne,e,mA,⟨od,es,ep,e2,c⟩,r⟩:=x
  exact⟨ho _ d,z,ne,k _ _ (.inl rfl) e,mA,⟨od,es,ep,k _ _ (.inr d) e2,c⟩,r⟩
 | own y=>obtain⟨ob,e⟩:=x;exact⟨ob,k _ _ (.inl rfl) e⟩
 | xd fs=>obtain⟨mA,⟨od,es,ep,e,c⟩,r⟩:=x;exact⟨mA,⟨od,es,ep,k _ _ (.inl rfl) e,c⟩,r⟩
 | rng lo hi=>obtain⟨t,u,v,e⟩:=x;exact⟨t,u,v,k _ _ (.inl rfl) e⟩
 | frz ob u ih=>obtain⟨e,q⟩:=x;exact⟨k _ _ (.inl rfl) e,ih q⟩
 | tbl ps =>
  have e:h.get? a=some { cls:=.none,data:=.fields ps }:=x
  show h'.get? a=some { cls:=.none,data:=.fields ps }
  exact k a _ (.inl rfl) e
 | met f y =>
  have e:h.get? a=some (PySem.W.methodObj (.ref f) (.ref y)):=x
  show h'.get? a=some (PySem.W.methodObj (.ref f) (.ref y))
  exact k a _ (.inl rfl) e
 | ext φ=>obtain⟨p,⟨o,e⟩,st⟩:=x;exact⟨st _ _ p fun o q=>k _ _ (.inl rfl) q,⟨o,k _ _ (.inl rfl) e⟩,st⟩
theorem HOk.lt(x:HOk P w H h)(e:H a=some o):a<h.objs.size:=(x a o e).lt
theorem HOk.fresh(x:HOk P w H h)(e:h.objs.size<=a):H a=none:=by
 cases q:H a with
 | none=>rfl
 | some u=>exact absurd (Nat.lt_of_lt_of_le (x.lt q) e) (Nat.lt_irrefl _)
theorem HOk.kept(x:HOk P w H h)(k:∀b u,h.get? b=some u->h'.get? b=some u):HOk P w H h':=fun a o e =>
 (x a o e).stay (fun b u _ q=>k b u q) (fun _ q=>q) fun _ _ q=>q
theorem HOk.laid(x:HOk P w H h)(k:∀b u,h.get? b=some u->h'.get? b=some u)(hp:h.objs.size<=a)(new:ObjOk P w (upd H a o) h' a o):HOk P w (upd H a o) h':=fun b u e=>by
 have hn:=x.fresh hp
 by_cases hb:b=a
 ·subst hb;rw[zaH] at e;cases e;exact new
 ·rw[zaG hb] at e
  exact(x b u e).stay (fun c v _ q=>k c v q) (fun c q=>by rw[zaG (zaE q hn)];exact q) fun c xs q=>by rw[zaG (zaE q hn)];exact q
end
def Rd(H:Hp)(a:Addr)(u:HO):Prop:=H a=some u\/∃o,H a=some (.frz o u)
theorem Rd.ok{P:Program}{w:World}{H:Hp}{h:Heap}{a:Addr}{u:HO}(r:Rd H a u)(x:HOk P w H h):ObjOk P w H h a u:=by
 rcases r with r|⟨o,r⟩
 ·exact x a u r
 ·obtain⟨_,q⟩:=x a _ r
  exact q
def Mut:Option HO->Prop
 | some (.lst _)=>True
 | some (.dK _)=>True
 | some (.dT _)=>True
 | some (.set _ _)=>True
 | some (.ins _ _ _)=>True
 | some (.ext _)=>True
 | _=>False
section
variable {P:Program} {w:World} {H:Hp} {h h':Heap} {x e:Addr} {o':HO}
theorem HOk.write(ok:HOk P w H h)(mu:Mut (H x))(he:e=x\/H e=some (.own x))(k:∀b u,b≠e->h.get? b=some u->h'.get? b=some u)(heo:∃u,h'.get? e=some u)(new:ObjOk P w (upd H x o') h' x o'):HOk P w (upd H x o') h':=fun b u q=>by
 have nown:∀c y,H c=some (.own y)->c≠x:=fun c y r z=>by subst z;rw[r] at mu;exact mu
 have ntup:∀c xs,H c=some (.tup xs)->c≠x:=fun c xs r z=>by subst z;rw[r] at mu;exact mu
 by_cases hb:b=x
 ·subst hb;rw[zaH] at q;cases q;exact new
 ·rw[zaG hb] at q
  by_cases hbe:b=e
  ·have q':H b=some (.own x):=by
    rcases he with z|z
    ·exact absurd (hbe.trans z) hb
    ·rw[hbe];exact z
   rw[q] at q';cases q'
   obtain⟨v,hv⟩:=heo
   exact⟨v,by rw[hbe];exact hv⟩
  ·refine(ok b u q).stay (fun c v hc r=>k c v ?_ r) (fun c r=>by rw[zaG (nown c b r)];exact r) fun c xs r=>by rw[zaG (ntup c xs r)];exact r
   rcases hc with rfl|hc
   ·exact hbe
   ·rintro rfl
    rcases he with z|z
    ·exact nown c b hc z
    ·rw[hc] at z;cases z;exact hb rfl
end
structure Un (fs ex:List Addr) (H H':Hp) (h h':Heap):Prop where
 keep:∀b o,h.get? b=some o->H b=none->b∉fs->b∉ex->h'.get? b=some o
 slot:∀b o,h.get? b=some o->H b=none->b∈fs->b∉ex->∃sl,h'.get? b=some { o with slots:=sl }
 free:∀b o,h.get? b=some o->H b=none->b∉ex->H' b=none
 there:∀b o,h.get? b=some o->b∉ex->∃o',h'.get? b=some o'
 tups:∀b xs,H b=some (.tup xs)->H' b=some (.tup xs)
 frzs:∀b o u,H b=some (.frz o u)->H' b=some (.frz o u)
 tbls:∀b ps,H b=some (.tbl ps)->∃more,H' b=some (.tbl (ps++more))
section
variable {fs fs' ex ex':List Addr} {H H1 H2:Hp} {h h1 h2 h':Heap} {a x e:Addr} {o:HO}
theorem Un.any(u:Un fs ex H H1 h h1){b:Addr}{ob:Obj}(q:h.get? b=some ob)(n:H b=none)(hx:b∉ex):∃sl,h1.get? b=some { ob with slots:=sl }:=by
 by_cases hb:b∈fs
 ·exact u.slot b ob q n hb hx
 ·exact⟨ob.slots,u.keep b ob q n hb hx⟩
theorem Un.kept(k:∀b u,h.get? b=some u->h'.get? b=some u):Un fs ex H H h h' :=
 ⟨fun b ob q _ _ _=>k b ob q,fun b ob q _ _ _=>⟨ob.slots,k b ob q⟩,fun _ _ _ n _=>n,fun b ob q _=>⟨ob,k b ob q⟩,fun _ _ q=>q,fun _ _ _ q=>q,fun _ ps q=>⟨#[],by rw[q];simp⟩⟩
theorem Un.refl:Un fs ex H H h h:=Un.kept fun _ _ q=>q
theorem Un.laid(k:∀b u,h.get? b=some u->h'.get? b=some u)(hp:h.objs.size<=a)(hn:H a=none):Un fs ex H (upd H a o) h h' where
 keep:=fun b u q _ _ _=>k b u q
 slot:=fun b u q _ _ _=>⟨u.slots,k b u q⟩
 free:=fun b u q n _=>by rw[zaG (Nat.ne_of_lt (Nat.lt_of_lt_of_le (Heap.lt_size q) hp))];exact n
 there:=fun b u q _=>⟨u,k b u q⟩
 tups:=fun b xs q=>by rw[zaG (zaE q hn)];exact q
 frzs:=fun b u xs q=>by rw[zaG (zaE q hn)];exact q
 tbls:=fun b ps q=>⟨#[],by rw[zaG (zaE q hn),q];simp⟩
theorem Un.write(mu:Mut (H x))(he:e=x\/H e=some (.own x))(k:∀b u,b≠e->h.get? b=some u->h'.get? b=some u)(heo:∃u,h'.get? e=some u):Un fs ex H (upd H x o) h h':=by
 have hx:∀b,H b=none->b≠x:=fun b n z=>by subst z;rw[n] at mu;exact mu
 have hb:∀b,H b=none->b≠e:=fun b n z=>by
  subst z
  rcases he with r|r
  ·exact hx b n r
  ·rw[n] at r;cases r
 have hm:∀b u,H b=some u->¬Mut (some u)->b≠x:=fun b u q nm z=>by subst z;rw[q] at mu;exact nm mu
 refine⟨fun b u q n _ _=>k b u (hb b n) q,fun b u q n _ _=>⟨u.slots,k b u (hb b n) q⟩,fun b u q n _=>by rw[zaG (hx b n)];exact n,fun b u q _=>?_,
  fun b xs q=>by rw[zaG (hm b _ q fun z=>z)];exact q,fun b u xs q=>by rw[zaG (hm b _ q fun z=>z)];exact q,fun b ps q=>⟨#[],by rw[zaG (hm b _ q fun z=>z),q];simp⟩⟩
 by_cases hbe:b=e
 ·subst hbe;exact heo
 ·exact⟨u,k b u hbe q⟩
end
def trk(h:Heap)(H:Hp):List Addr:=(List.range h.objs.size).filter fun a=>(H a).isSome
def zkP(h:Heap)(H:Hp):Heap:=PySem.W.hideAll h (trk h H)
theorem zi0(h:Heap)(H:Hp):(zkP h H).objs.size=h.objs.size:=PySem.W.hideAll_size _ _
theorem zkQ{h:Heap}{H:Hp}{b:Addr}{o:Obj}(e:h.get? b=some o)(n:H b=none):(zkP h H).get? b=some o :=
 PySem.W.hideAll_get _ e fun hm=>by
  have q:(H b).isSome=true:=(List.mem_filter.mp hm).2
  rw[n] at q;simp at q
theorem zmQ{h:Heap}{H:Hp}{b:Addr}{o:Obj}(e:(zkP h H).get? b=some o):h.get? b=some o/\H b=none:=by
 have e':h.get? b=some o:=PySem.W.of_hideAll (trk h H) e
 refine⟨e',?_⟩
 cases q:H b with
 | none=>rfl
 | some x =>
  have hm:b∈trk h H:=List.mem_filter.mpr ⟨List.mem_range.mpr (Heap.lt_size e'),by simp[q]⟩
  have z:(zkP h H).get? b=none:=PySem.W.hideAll_none (trk h H) hm
  rw[z] at e;cases e
def zmR(g h:Heap)(L:Addr):List (Addr×Obj):=(List.range h.objs.size).filterMap fun a=>if a=L\/(g.get? a).isSome=true then none else (h.get? a).map fun o=>(a,o)
def zdw(g h:Heap)(L d:Addr):List (Addr×Obj):=(zmR g h L).filter fun p=>decide (p.1≠d)
end L2
namespace L2
open PySem PySem.Spec PyProof.Rows
structure Mod (K:PySem.W.Frag) (mg:Str->Option Value) (base:Heap):Prop where
 kin:K.In base
 glob:base.Ns mainGlobals mg
 blt:∃mb,base.Ns builtinsNs mb/\∀x:Str,x ≠ "__name__" -> mb x=bootBuiltins x
 nolimit:base.NoLimit
structure Cx where
 prog:Program
 w:World
 K:PySem.W.Frag
 mg:Str->Option Value
 base:Heap
 A:Around
 N:List Str
 s₀:Shared
 H₀:Hp
 env:Env
 outer:List Env
 stack:List Env
 ex:List Addr
 fn:Str->Bool
 calm:Bool
 pn:List (Addr×Obj)
 xe:Value->Shared->Prop
def frs(l:List Env):List Addr:=l.filterMap (·.frame)
abbrev Cx.fs(X:Cx):List Addr:=frs X.outer
def Vis(sc:Scope)(x:Str):Prop:=sc.names.lookup x=some .local\/sc.names.lookup x=some .cell\/sc.names.lookup x=some .free
def Loc(sc:Scope)(x:Str):Prop:=sc.names.lookup x=some .local\/sc.names.lookup x=some .cell
def zsv(env:Env)(h:Heap)(m:Str->Option Value)(x:Str)(u:Value):Prop :=
 (env.kindOf x=some .local/\m x=some u)\/((env.kindOf x=some .cell\/env.kindOf x=some .free)/\∃c,env.cells.lookup x=some c/\h.IsCell c (some u))
structure Cx.Ok (X:Cx):Prop where
 mod:Mod X.K X.mg X.base
 kind:X.env.scope.kind=.function
 glob:X.env.globals=mainGlobals
 blt:X.env.builtins=builtinsNs
 above:X.s₀.heap.objs.size<=X.env.locals
 inj:∀x y c,X.env.cells.lookup x=some c->X.env.cells.lookup y=some c->x=y
 has:∀x,(X.env.kindOf x=some .cell\/X.env.kindOf x=some .free)->∃c,X.env.cells.lookup x=some c
 cab:∀x c,X.fn x=true->X.env.cells.lookup x=some c->X.s₀.heap.objs.size<=c
 hd:X.calm=true->X.A.handled=none
 frames:X.A.frames=some X.stack
 stk:X.stack=X.outer\/(X.stack=X.env::X.outer/\X.env.frame=some X.env.locals)
 exf:∀b∈X.ex,b≠X.env.locals/\∀x c,X.env.cells.lookup x=some c->c≠b
 bs:∀b o,X.base.get? b=some o->X.s₀.heap.get? b=some o/\X.H₀ b=none
 bsz:X.base.objs.size<=X.s₀.heap.objs.size
 noex:∀b o,X.base.get? b=some o->b∉X.ex
 exfs:∀b∈X.ex,b∉X.fs
 funs:X.s₀.heap.FunFrames X.base X.outer
 frf:∀b∈X.fs,X.H₀ b=none
structure Inv (X:Cx) (pins:List (Addr×Obj)) (σ:List (Option V)) (H:Hp) (s:Shared):Prop where
 ok:X.Ok
 os:s.os=X.s₀.os
 bare:AllBare s.gens
 base:Un X.fs X.ex X.H₀ H X.s₀.heap s.heap
 loc:∃m,s.heap.Ns X.env.locals m/\∀(i:Nat) (x:Str) (v:V),X.N[i]?=some x->σ[i]?=some (some v)->Vis X.env.scope x->∃u,RelV v u/\zsv X.env s.heap m x u
 cell:∀x c,X.env.cells.lookup x=some c->∃v,s.heap.IsCell c v
 free:H X.env.locals=none
 freeC:∀x c,X.env.cells.lookup x=some c->H c=none
 pin:∀p∈X.pn++pins,s.heap.get? p.1=some p.2/\H p.1=none/\p.1≠X.env.locals/\p.1∉X.fs/\∀v,p.2.data≠.cell v
 hok:HOk X.prog X.w H s.heap
 len:σ.length=X.N.length
section
variable {X:Cx} {pins:List (Addr×Obj)} {σ:List (Option V)} {H H':Hp} {s:Shared} {h':Heap}
theorem Cx.Ok.nofr(ok:X.Ok){b:Addr}{o:Obj}(e:X.base.get? b=some o):b∉X.fs:=fun hb=>by
 have:=(ok.funs.mem hb).1
 rw[e] at this;cases this
theorem Inv.bs(I:Inv X pins σ H s):∀b o,X.base.get? b=some o->s.heap.get? b=some o/\H b=none:=fun b o e =>
 ⟨I.base.keep b o (I.ok.bs b o e).1 (I.ok.bs b o e).2 (I.ok.nofr e) (I.ok.noex b o e),I.base.free b o (I.ok.bs b o e).1 (I.ok.bs b o e).2 (I.ok.noex b o e)⟩
theorem Inv.bk(I:Inv X pins σ H s):∀b o,X.base.get? b=some o->s.heap.get? b=some o:=fun b o e=>(I.bs b o e).1
theorem Inv.mod(I:Inv X pins σ H s):Mod X.K X.mg X.base:=I.ok.mod
theorem Inv.kIn(I:Inv X pins σ H s):X.K.In s.heap:=I.ok.mod.kin.keeps I.bk
theorem Inv.lt(I:Inv X pins σ H s):X.env.locals<s.heap.objs.size:=let ⟨_,hn,_⟩:=I.loc;hn.lt
theorem Inv.sz(I:Inv X pins σ H s):X.s₀.heap.objs.size<=s.heap.objs.size:=Nat.le_trans I.ok.above (Nat.le_of_lt I.lt)
theorem Inv.nofs(I:Inv X pins σ H s){a:Addr}(h:s.heap.objs.size<=a):a∉X.fs:=fun hb=>by
 obtain⟨_,o,ho,_⟩:=I.ok.funs.mem hb
 exact absurd (Nat.lt_of_lt_of_le (Heap.lt_size ho) (Nat.le_trans I.sz h)) (Nat.lt_irrefl _)
theorem Inv.cne(I:Inv X pins σ H s):∀x c,X.env.cells.lookup x=some c->c≠X.env.locals:=fun x c e z=>by
 obtain⟨v,o,ho,hd⟩:=I.cell x c e
 obtain⟨m,⟨o',es,ep,ho',hd',_⟩,_⟩:=I.loc
 rw[z,ho'] at ho;cases ho;rw[hd'] at hd;cases hd
theorem Inv.funs(I:Inv X pins σ H s):s.heap.FunFrames X.base X.outer:=by
 have all:∀(l:List Env),(∀b∈frs l,b∈X.fs)->X.s₀.heap.FunFrames X.base l->s.heap.FunFrames X.base l:=by
  intro l
  induction l with
  | nil=>intro _ _;trivial
  | cons env r ih =>
   intro hs hl
   obtain⟨hk,⟨L,o,hf,hn,ho,hd⟩,hr⟩:=hl
   have hL:L∈X.fs:=hs L (by unfold frs;rw[List.filterMap_cons,hf];exact List.mem_cons_self)
   obtain⟨sl,e⟩:=I.base.slot L o ho (I.ok.frf L hL) hL fun z=>I.ok.exfs L z hL
   exact⟨hk,⟨L,_,hf,hn,e,hd⟩,ih (fun b hb=>hs b (by unfold frs;rw[List.filterMap_cons,hf];exact List.mem_cons_of_mem _ hb)) hr⟩
 exact all X.outer (fun _ hb=>hb) I.ok.funs
theorem Inv.stack(I:Inv X pins σ H s):s.heap.FunFrames X.base X.stack:=by
 rcases I.ok.stk with e|⟨e,hf⟩
 ·rw[e];exact I.funs
 ·rw[e]
  obtain⟨m,hn,_⟩:=I.loc
  refine .cons (by rw[I.ok.kind];decide) hf hn ?_ I.funs
  exact Heap.get?_none_of_le (Nat.le_trans I.ok.bsz I.ok.above)
theorem Inv.stkSub(I:Inv X pins σ H s):∀b∈frs X.stack,b∈X.env.locals::X.fs:=fun b hb=>by
 rcases I.ok.stk with e|⟨e,hf⟩
 ·rw[e] at hb;exact List.mem_cons_of_mem _ hb
 ·rw[e] at hb
  unfold frs at hb
  rw[List.filterMap_cons,hf] at hb
  exact hb
theorem Inv.stkFree(I:Inv X pins σ H s):∀b∈frs X.stack,H b=none:=fun b hb=>by
 rcases List.mem_cons.mp (I.stkSub b hb) with e|hb
 ·rw[e];exact I.free
 ·obtain⟨_,o,ho,_⟩:=I.ok.funs.mem hb
  exact I.base.free b o ho (I.ok.frf b hb) fun z=>I.ok.exfs b z hb
theorem Inv.step{g':Array GenState}{t':Nat}{d':Drawn}{ch:List Addr}(I:Inv X pins σ H s)(hch:∀b∈ch,(b∈X.ex\/X.s₀.heap.objs.size<=b)/\b≠X.env.locals/\(∀x c,X.env.cells.lookup x=some c->c≠b)/\∀p∈X.pn++pins,p.1≠b)(keep:∀b o,b≠X.env.locals->b∉X.fs->b∉ch->s.heap.get? b=some o->H b=none->h'.get? b=some o)(slot:∀b o,b≠X.env.locals->b∈X.fs->b∉ch->s.heap.get? b=some o->H b=none->∃sl,h'.get? b=some { o with slots:=sl })(free:∀b o,b∉ch->s.heap.get? b=some o->H b=none->H' b=none)(there:∀b o,b∉ch->s.heap.get? b=some o->∃o',h'.get? b=some o')(tups:∀b xs,H b=some (.tup xs)->H' b=some (.tup xs))(frzs:∀b o u,H b=some (.frz o u)->H' b=some (.frz o u))(tbls:∀b ps,H b=some (.tbl ps)->∃more,H' b=some (.tbl (ps++more)))(ns:∀m,s.heap.Ns X.env.locals m->h'.Ns X.env.locals m)(hok:HOk X.prog X.w H' h')(hg:AllBare g') :
  Inv X pins σ H' { s with heap:=h',gens:=g',drawn:=d',toks:=t' }:=by
 have neL:∀b o,X.s₀.heap.get? b=some o->b≠X.env.locals:=fun b o e=>Nat.ne_of_lt (Nat.lt_of_lt_of_le (Heap.lt_size e) I.ok.above)
 have neC:∀b o,X.s₀.heap.get? b=some o->b∉X.ex->b∉ch:=fun b o e hx hb=>by
  rcases(hch b hb).1 with z|z
  ·exact hx z
  ·exact absurd (Nat.lt_of_lt_of_le (Heap.lt_size e) z) (Nat.lt_irrefl _)
 have cellK:∀x c,X.env.cells.lookup x=some c->∀v,s.heap.IsCell c v->h'.IsCell c v:=fun x c e v ⟨o,ho,hd⟩=>by
  have nch:c∉ch:=fun z=>(hch c z).2.2.1 x c e rfl
  by_cases hc:c∈X.fs
  ·obtain⟨sl,q⟩:=slot c o (I.cne x c e) hc nch ho (I.freeC x c e)
   exact⟨_,q,hd⟩
  ·exact⟨o,keep c o (I.cne x c e) hc nch ho (I.freeC x c e),hd⟩
 refine⟨I.ok,I.os,hg,⟨fun b o e n hb hx=>?_,fun b o e n hb hx=>?_,fun b o e n hx=>?_,fun b o e hx=>?_,fun b xs e=>tups b xs (I.base.tups b xs e),fun b o xs e=>frzs b o xs (I.base.frzs b o xs e),fun b ps e=>?_⟩,?_,fun x c e=>?_,?_,fun x c e=>?_,fun p hp=>?_,hok,I.len⟩
 ·exact keep b o (neL b o e) hb (neC b o e hx) (I.base.keep b o e n hb hx) (I.base.free b o e n hx)
 ·obtain⟨sl,e1⟩:=I.base.slot b o e n hb hx
  obtain⟨sl',e2⟩:=slot b _ (neL b o e) hb (neC b o e hx) e1 (I.base.free b o e n hx)
  exact⟨sl',e2⟩
 ·obtain⟨o',e1⟩:=I.base.there b o e hx
  exact free b o' (neC b o e hx) e1 (I.base.free b o e n hx)
 ·obtain⟨o',e1⟩:=I.base.there b o e hx
  exact there b o' (neC b o e hx) e1
 ·obtain⟨m1,e1⟩:=I.base.tbls b ps e
  obtain⟨m2,e2⟩:=tbls b _ e1
  exact⟨m1++m2,by rw[e2,Array.append_assoc]⟩
 ·obtain⟨m,hn,hl⟩:=I.loc
  refine⟨m,ns m hn,fun i x v e1 e2 e3=>?_⟩
  obtain⟨u,r,l⟩:=hl i x v e1 e2 e3
  refine⟨u,r,?_⟩
  rcases l with l|⟨k,c,e,z⟩
  ·exact .inl l
  ·exact .inr ⟨k,c,e,cellK x c e _ z⟩
 ·obtain⟨v,z⟩:=I.cell x c e
  exact⟨v,cellK x c e v z⟩
 ·obtain⟨m,⟨o,_,_,ho,_⟩,_⟩:=I.loc
  exact free _ o (fun z=>(hch _ z).2.1 rfl) ho I.free
 ·obtain⟨v,o,ho,hd⟩:=I.cell x c e
  exact free c o (fun z=>(hch c z).2.2.1 x c e rfl) ho (I.freeC x c e)
 ·obtain⟨e,n,ne,nf,d⟩:=I.pin p hp
  have nch:p.1∉ch:=fun z=>(hch p.1 z).2.2.2 p hp rfl
  exact⟨keep p.1 p.2 ne nf nch e n,free p.1 p.2 nch e n,ne,nf,d⟩
theorem Inv.un{t':Nat}(I:Inv X pins σ H s)(u:Un X.fs [] H H' s.heap h')(hok:HOk X.prog X.w H' h'):Inv X pins σ H' { s with heap:=h',toks:=t' }:=by
 obtain⟨m,⟨o,es,ep,ho,r⟩,_⟩:=id I.loc
 obtain⟨sl,hL⟩:=u.any ho I.free (by simp)
 exact I.step (g':=s.gens) (d':=s.drawn) (ch:=[]) (fun _ z=>nomatch z) (fun b o _ hb _ e n=>u.keep b o e n hb (by simp)) (fun b o _ hb _ e n=>u.slot b o e n hb (by simp)) (fun b o _ e n=>u.free b o e n (by simp)) (fun b o _ e=>u.there b o e (by simp)) u.tups u.frzs u.tbls (fun m' hm=>by
  obtain⟨o',es',ep',ho',r'⟩:=hm
  rw[ho] at ho';cases ho'
  exact⟨_,es',ep',hL,r'⟩) hok I.bare
theorem Inv.call{g':Array GenState}{t':Nat}{d':Drawn}{ch:List Addr}(I:Inv X pins σ H s)(u:Un (frs X.stack) ch H H' s.heap h')(hok:HOk X.prog X.w H' h')(hg:AllBare g')(hch:∀b∈ch,(b∈X.ex\/X.s₀.heap.objs.size<=b)/\b≠X.env.locals/\(∀x c,X.env.cells.lookup x=some c->c≠b)/\∀p∈X.pn++pins,p.1≠b) :
  Inv X pins σ H' { s with heap:=h',gens:=g',drawn:=d',toks:=t' }:=by
 obtain⟨m,⟨o,es,ep,ho,r⟩,_⟩:=id I.loc
 obtain⟨sl,hL⟩:=u.any ho I.free fun z=>(hch _ z).2.1 rfl
 exact I.step (ch:=ch) hch (fun b o hL hb hc e n=>u.keep b o e n (fun z=>(List.mem_cons.mp (I.stkSub b z)).elim hL hb) hc) (fun b o _ _ hc e n=>u.any e n hc) (fun b o hc e n=>u.free b o e n hc) (fun b o hc e=>u.there b o e hc) u.tups u.frzs u.tbls (fun m' hm=>by
  obtain⟨o',es',ep',ho',r'⟩:=hm
  rw[ho] at ho';cases ho'
  exact⟨_,es',ep',hL,r'⟩) hok hg
theorem Inv.turned{t':Nat}{it:Addr}(I:Inv X pins σ H s)(k:∀b o,b≠it->s.heap.get? b=some o->h'.get? b=some o)(hn:H it=none)(hL:it≠X.env.locals)(h1:it∈X.ex\/X.s₀.heap.objs.size<=it)(h2:∀x c,X.env.cells.lookup x=some c->c≠it)(h3:∀p∈X.pn++pins,p.1≠it):Inv X pins σ H { s with heap:=h',toks:=t' }:=by
 have nit:∀b u,H b=some u->b≠it:=fun b u e z=>by rw[z,hn] at e;cases e
 refine I.step (g':=s.gens) (d':=s.drawn) (ch:=[it]) (fun b hb=>?_) (fun b o _ _ hc e _=>k b o (fun z=>hc (by simp[z])) e) (fun b o _ _ hc e _=>⟨o.slots,k b o (fun z=>hc (by simp[z])) e⟩) (fun _ _ _ _ n=>n)
  (fun b o hc e=>⟨o,k b o (fun z=>hc (by simp[z])) e⟩) (fun _ _ e=>e) (fun _ _ _ e=>e) (fun b ps e=>⟨#[],by rw[e];simp⟩) (fun m hm=>?_) (fun b u e=>?_) I.bare
 ·have e:b=it:=by simpa using hb
  subst e
  exact⟨h1,hL,h2,h3⟩
 ·obtain⟨o,es,ep,ho,r⟩:=hm
  exact⟨o,es,ep,k _ o (Ne.symm hL) ho,r⟩
 ·refine(I.hok b u e).stay (fun c v hc q=>k c v ?_ q) (fun _ q=>q) fun _ _ q=>q
  rcases hc with z|z
  ·rw[z];exact nit b u e
  ·exact nit c _ z
theorem Inv.tok(I:Inv X pins σ H s)(t:Nat):Inv X pins σ H { s with toks:=t }:=I.un (h':=s.heap) (t':=t) Un.refl I.hok
theorem Inv.kept{t':Nat}(I:Inv X pins σ H s)(k:∀b u,s.heap.get? b=some u->h'.get? b=some u):Inv X pins σ H { s with heap:=h',toks:=t' }:=I.un (Un.kept k) (I.hok.kept k)
theorem Inv.laid{a:Addr}{o:HO}{t':Nat}(I:Inv X pins σ H s)(k:∀b u,s.heap.get? b=some u->h'.get? b=some u)(hp:s.heap.objs.size<=a)(new:ObjOk X.prog X.w (upd H a o) h' a o) :
  Inv X pins σ (upd H a o) { s with heap:=h',toks:=t' }:=I.un (Un.laid k hp (I.hok.fresh hp)) (I.hok.laid k hp new)
theorem Inv.write{x e:Addr}{o:HO}{t':Nat}(I:Inv X pins σ H s)(mu:Mut (H x))(he:e=x\/H e=some (.own x))(k:∀b u,b≠e->s.heap.get? b=some u->h'.get? b=some u)(heo:∃u,h'.get? e=some u)(new:ObjOk X.prog X.w (upd H x o) h' x o):Inv X pins σ (upd H x o) { s with heap:=h',toks:=t' }:=I.un (Un.write mu he k heo) (I.hok.write mu he k heo new)
theorem Inv.weak{σ':List (Option V)}(I:Inv X pins σ H s)(hl:σ'.length=σ.length)(w:∀(i:Nat) v,σ'[i]?=some (some v)->σ[i]?=some (some v)):Inv X pins σ' H s :=
 ⟨I.ok,I.os,I.bare,I.base,let ⟨m,hn,hl'⟩:=I.loc;⟨m,hn,fun i x v e1 e2 e3=>hl' i x v e1 (w i v e2) e3⟩,I.cell,I.free,I.freeC,I.pin,I.hok,hl.trans I.len⟩
theorem Inv.pins_of{pins':List (Addr×Obj)}(I:Inv X pins σ H s)(h:∀p∈pins',s.heap.get? p.1=some p.2/\H p.1=none/\p.1≠X.env.locals/\p.1∉X.fs/\∀v,p.2.data≠.cell v):Inv X pins' σ H s :=
 ⟨I.ok,I.os,I.bare,I.base,I.loc,I.cell,I.free,I.freeC,fun p hp=>(List.mem_append.mp hp).elim (fun z=>I.pin p (List.mem_append_left _ z)) (h p),I.hok,I.len⟩
theorem zht{N:List Str}(hN:N.Nodup){i j:Nat}{x:Str}(a:N[i]?=some x)(b:N[j]?=some x):i=j:=by
 obtain⟨h1,e1⟩:=List.getElem?_eq_some_iff.mp a
 obtain⟨h2,e2⟩:=List.getElem?_eq_some_iff.mp b
 exact(List.getElem_inj hN).mp (e1.trans e2.symm)
theorem zi1{M:Model}{A:Around}{E:Value->Shared->Prop}{i:Nat}{x:Str}{v:V}{u:Value}{Q:Unit->Shared->Prop}(I:Inv X pins σ H s)(hN:X.N.Nodup)(hi:X.N[i]?=some x)(hx:Loc X.env.scope x)(r:RelV v u)(h:∀s',Inv X pins (σ.set i (some v)) H s'->(∃a,Heap.SameBut a s.heap s'.heap/\(a=X.env.locals\/X.env.cells.lookup x=some a))->Q () s')(hf:X.fn x=true\/X.env.scope.names.lookup x=some .local:=by first|exact .inl rfl|exact .inr rfl|assumption):wpAny M A (storeName X.env x u) Q E s:=by
 obtain⟨m,hn,hl⟩:=id I.loc
 have hcls:(X.env.scope.kind==.class||(X.env.scope.kind==.module&&X.env.locals != X.env.globals))=false:=by rw[I.ok.kind];rfl
 have hiσ:i<σ.length:=by rw[I.len];exact(List.getElem?_eq_some_iff.mp hi).1
 have cne:=I.cne
 have tracked:∀{a:Addr} {h':Heap},(∃o,s.heap.get? a=some o/\H a=none)->Heap.SameBut a s.heap h'->HOk X.prog X.w H h':=fun {a h'} ha hs b ob e=>by
  obtain⟨_,_,hfree⟩:=ha
  refine(I.hok b ob e).stay (fun c w' hc q=>(hs.2 c ?_).trans q) (fun _ q=>q) fun _ _ q=>q
  rintro rfl
  rcases hc with rfl|hc
  ·rw[hfree] at e;cases e
  ·rw[hfree] at hc;cases hc
 rcases hx with hk|hk
 ·refine wpAny_storeName_local hk hn (fun h' hn' hs=>?_) hcls
  obtain⟨oL,_,_,hoL,_⟩:=id hn
  refine h _ ⟨I.ok,I.os,I.bare,⟨fun b o e n hb hx=>?_,fun b o e n hb hx=>?_,I.base.free,fun b o e hx=>?_,I.base.tups,I.base.frzs,I.base.tbls⟩,⟨_,hn',fun j y v' e1 e2 e3=>?_⟩,fun y c e=>?_,I.free,I.freeC,fun p hp=>?_,tracked ⟨oL,hoL,I.free⟩ hs,by simpa using I.len⟩ ⟨_,hs,.inl rfl⟩
  ·exact(hs.2 b (Nat.ne_of_lt (Nat.lt_of_lt_of_le (Heap.lt_size e) I.ok.above))).trans (I.base.keep b o e n hb hx)
  ·obtain⟨sl,e1⟩:=I.base.slot b o e n hb hx
   exact⟨sl,(hs.2 b (Nat.ne_of_lt (Nat.lt_of_lt_of_le (Heap.lt_size e) I.ok.above))).trans e1⟩
  ·obtain⟨o',e1⟩:=I.base.there b o e hx
   exact⟨o',(hs.2 b (Nat.ne_of_lt (Nat.lt_of_lt_of_le (Heap.lt_size e) I.ok.above))).trans e1⟩
  ·by_cases hj:j=i
   ·subst hj
    rw[hi] at e1;cases e1
    rw[List.getElem?_set_self hiσ] at e2
    cases e2
    exact⟨u,r,.inl ⟨hk,by simp⟩⟩
   ·rw[List.getElem?_set_ne (Ne.symm hj)] at e2
    obtain⟨u',r',q⟩:=hl j y v' e1 e2 e3
    refine⟨u',r',?_⟩
    rcases q with ⟨k,e⟩|⟨k,c,e,z⟩
    ·refine .inl ⟨k,?_⟩
     have:y≠x:=fun e=>hj (zht hN e1 (e▸hi))
     simp[this,e]
    ·exact .inr ⟨k,c,e,z.sameBut hs (cne y c e)⟩
  ·obtain⟨w',z⟩:=I.cell y c e
   exact⟨w',z.sameBut hs (cne y c e)⟩
  ·obtain⟨e,n,ne,nf,d⟩:=I.pin p hp
   exact⟨(hs.2 p.1 ne).trans e,n,ne,nf,d⟩
 ·have hfn:X.fn x=true:=by
   rcases hf with z|z
   ·exact z
   ·rw[z] at hk;cases hk
  obtain⟨c,hc⟩:=I.ok.has x (.inl hk)
  obtain⟨w',z⟩:=I.cell x c hc
  refine wpAny_storeName_cell I.ok.kind hk hc z (fun h' hc' hs=>?_)
  obtain⟨oc,hoc,hocd⟩:=id z
  refine h { s with heap:=h' } ⟨I.ok,I.os,I.bare,⟨fun b o e n hb hx=>?_,fun b o e n hb hx=>?_,I.base.free,fun b o e hx=>?_,I.base.tups,I.base.frzs,I.base.tbls⟩,⟨m,hn.sameBut hs (Ne.symm (cne x c hc)),fun j y v' e1 e2 e3=>?_⟩,fun y c' e=>?_,I.free,I.freeC,fun p hp=>?_,tracked ⟨oc,hoc,I.freeC x c hc⟩ hs,by simpa using I.len⟩ ⟨c,hs,.inr hc⟩
  ·exact(hs.2 b (Nat.ne_of_lt (Nat.lt_of_lt_of_le (Heap.lt_size e) (I.ok.cab x c hfn hc)))).trans (I.base.keep b o e n hb hx)
  ·obtain⟨sl,e1⟩:=I.base.slot b o e n hb hx
   exact⟨sl,(hs.2 b (Nat.ne_of_lt (Nat.lt_of_lt_of_le (Heap.lt_size e) (I.ok.cab x c hfn hc)))).trans e1⟩
  ·obtain⟨o',e1⟩:=I.base.there b o e hx
   exact⟨o',(hs.2 b (Nat.ne_of_lt (Nat.lt_of_lt_of_le (Heap.lt_size e) (I.ok.cab x c hfn hc)))).trans e1⟩
  ·by_cases hj:j=i
   ·subst hj
    rw[hi] at e1;cases e1
    rw[List.getElem?_set_self hiσ] at e2
    cases e2
    exact⟨u,r,.inr ⟨.inl hk,c,hc,hc'⟩⟩
   ·rw[List.getElem?_set_ne (Ne.symm hj)] at e2
    obtain⟨u',r',q⟩:=hl j y v' e1 e2 e3
    refine⟨u',r',?_⟩
    rcases q with q|⟨k,c',e,z'⟩
    ·exact .inl q
    ·refine .inr ⟨k,c',e,z'.sameBut hs ?_⟩
     rintro rfl
     exact hj (zht hN e1 (I.ok.inj _ _ _ e hc▸hi))
  ·by_cases hcc:c'=c
   ·subst hcc;exact⟨_,hc'⟩
   ·obtain⟨w2,z2⟩:=I.cell y c' e
    exact⟨w2,z2.sameBut hs hcc⟩
  ·obtain⟨e,n,ne,nf,d⟩:=I.pin p hp
   refine⟨(hs.2 p.1 ?_).trans e,n,ne,nf,d⟩
   intro q
   rw[q,hoc] at e
   have q':oc=p.2:=Option.some.inj e
   exact d w' (by rw[<- q'];exact hocd)
theorem zfk{M:Model}{A:Around}{E:Value->Shared->Prop}{i:Nat}{x:Str}{v:V}{u:Value}{Q:Unit->Shared->Prop}(I:Inv X pins σ H s)(hN:X.N.Nodup)(hi:X.N[i]?=some x)(hx:Loc X.env.scope x)(r:RelV v u)(h:∀s',Inv X pins (σ.set i (some v)) H s'->Q () s')(hf:X.fn x=true\/X.env.scope.names.lookup x=some .local:=by first|exact .inl rfl|exact .inr rfl|assumption):wpAny M A (storeName X.env x u) Q E s :=
 zi1 I hN hi hx r (fun s' I' _=>h s' I') hf
theorem Inv.call'{s':Shared}{ch:List Addr}(I:Inv X pins σ H s)(ho:s'.os=s.os)(u:Un (frs X.stack) ch H H' s.heap s'.heap)(hok:HOk X.prog X.w H' s'.heap)(hg:AllBare s'.gens)(hch:∀b∈ch,(b∈X.ex\/X.s₀.heap.objs.size<=b)/\b≠X.env.locals/\(∀x c,X.env.cells.lookup x=some c->c≠b)/\∀p∈X.pn++pins,p.1≠b):Inv X pins σ H' s':=by
 obtain⟨h',g',d',t',o'⟩:=s'
 have e:o'=s.os:=ho
 subst e
 exact I.call (g':=g') (t':=t') (d':=d') u hok hg hch
end
abbrev XK:=Value->Option Addr->Hp->Prop
abbrev St:=List (Option V)
abbrev VK:=V->Hp->Prop
abbrev TE:=St->Hp->VK->Prop
abbrev TT:=St->Hp->(Bool->Hp->Prop)->Prop
abbrev TA:=St->Hp->(List V->Hp->Prop)->Prop
structure Ends where
 nx:St->Hp->Prop
 rt:VK
 bk:St->Hp->Prop:=fun _ _=>False
 ct:St->Hp->Prop:=fun _ _=>False
abbrev TS:=Ends->St->Hp->Prop
def EP(X:Cx)(pins:List (Addr×Obj))(σ:St)(Q:VK)(u:Value)(s':Shared):Prop:=∃v H',Inv X pins σ H' s'/\RelV v u/\Q v H'
def TP(X:Cx)(pins:List (Addr×Obj))(σ:St)(Q:Bool->Hp->Prop)(b:Bool)(s':Shared):Prop:=∃H',Inv X pins σ H' s'/\Q b H'
def AP(X:Cx)(pins:List (Addr×Obj))(σ:St)(Q:List V->Hp->Prop)(us:List Value)(s':Shared):Prop:=∃vs H',Inv X pins σ H' s'/\Vals vs us/\Q vs H'
def SP(X:Cx)(pins:List (Addr×Obj))(D:Ends)(f:Flow)(s':Shared):Prop :=
 match f with
 | .next=>∃σ' H',Inv X pins σ' H' s'/\D.nx σ' H'
 | .brk=>∃σ' H',Inv X pins σ' H' s'/\D.bk σ' H'
 | .cont=>∃σ' H',Inv X pins σ' H' s'/\D.ct σ' H'
 | .ret u=>∃v σ' H',Inv X pins σ' H' s'/\RelV v u/\D.rt v H'
def PE(X:Cx)(e:Expr)(t:TE):Prop :=
 ∀(pins:List (Addr×Obj)) (s:Shared) (σ:St) (H:Hp) (Q:VK),Inv X pins σ H s->t σ H Q->wpAny (model X.prog X.w) X.A (eval e X.env) (EP X pins σ Q) X.xe s
def PT(X:Cx)(e:Expr)(t:TT):Prop :=
 ∀(pins:List (Addr×Obj)) (s:Shared) (σ:St) (H:Hp) (Q:Bool->Hp->Prop),Inv X pins σ H s->t σ H Q->wpAny (model X.prog X.w) X.A (isTrue e X.env (eval e X.env)) (TP X pins σ Q) X.xe s
def PW(X:Cx)(e:Expr)(t:TT):Prop :=
 ∀(whole:Sem Value) (pins:List (Addr×Obj)) (s:Shared) (σ:St) (H:Hp) (Q:Bool->Hp->Prop),Inv X pins σ H s->t σ H Q->wpAny (model X.prog X.w) X.A (isTrue e X.env whole) (TP X pins σ Q) X.xe s
theorem PW.pt{X:Cx}{e:Expr}{t:TT}(h:PW X e t):PT X e t:=h _
def PA(X:Cx)(es:List Expr)(t:TA):Prop :=
 ∀(pos:Pos) (pins:List (Addr×Obj)) (s:Shared) (σ:St) (H:Hp) (Q:List V->Hp->Prop),Inv X pins σ H s->t σ H Q->wpAny (model X.prog X.w) X.A (spliced (backTo pos (starEach es X.env))) (AP X pins σ Q) X.xe s
def PS(X:Cx)(st:Stmt)(t:TS):Prop :=
 ∀(pins:List (Addr×Obj)) (s:Shared) (σ:St) (H:Hp) (D:Ends),Inv X pins σ H s->t D σ H->wpAny (model X.prog X.w) X.A (exec st X.env) (SP X pins D) X.xe s
def PSs(X:Cx)(st:List Stmt)(t:TS):Prop :=
 ∀(pins:List (Addr×Obj)) (s:Shared) (σ:St) (H:Hp) (D:Ends),Inv X pins σ H s->t D σ H->wpAny (model X.prog X.w) X.A (execs st X.env) (SP X pins D) X.xe s
theorem thn{α:Type}{t:Sem α}{Q Q':α->Shared->Prop}{M:Model}{A:Around}{E:Value->Shared->Prop}{s:Shared}(h:wpAny M A t Q E s)(hQ:∀a s,Q a s->Q' a s):wpAny M A t Q' E s:=wpAny_mono h hQ fun _ _ x=>x
end L2
namespace L2
open PySem PySem.Spec PyProof.Rows
section
variable {X:Cx}
def zsw(i:Nat):TE:=fun σ H Q=>∃v,σ[i]?=some (some v)/\Q v H
def tC(v:V):TE:=fun _ H Q=>Q v H
theorem zlW{i:Nat}{x:Str}{pos:Pos}(hN:X.N[i]?=some x)(hv:Vis X.env.scope x)(hd:(x==("__debug__" : Str))=false:=by decide)(hcd:(x==("__classdict__" : Str))=false:=by decide):PE X (.Name x pos) (zsw i):=by
 intro pins s σ H Q I h
 obtain⟨v,e,h⟩:=h
 obtain⟨m,hn,hl⟩:=I.loc
 obtain⟨u,r,l⟩:=hl i x v hN e hv
 have fin:EP X pins σ Q u s:=⟨v,H,I,r,h⟩
 rcases l with ⟨hk,hm⟩|⟨hk,c,hc,hcell⟩
 ·exact wpAny_Name (wpAny_loadName_local I.ok.kind hk hn hm fin) hd
 ·rcases hk with hk|hk
  ·exact wpAny_Name (wpAny_loadName_cell I.ok.kind hk hc hcell fin) hd
  ·exact wpAny_Name (wpAny_loadName_free I.ok.kind hk hc hcell fin hcd) hd
theorem zon{i j pos}:PE X (.Constant (.int i) j pos) (tC (.int i)):=fun _ _ _ H _ I h=>wpAny_Constant_int ⟨.int i,H,I.tok _,⟨_,rfl⟩,h⟩
theorem zqD{b j pos}:PE X (.Constant (.bool b) j pos) (tC (.bl b)):=fun _ _ _ H _ I h=>Constant_bool ⟨.bl b,H,I,rfl,h⟩
theorem zoo{j pos}:PE X (.Constant .none j pos) (tC .non):=fun _ _ _ H _ I h=>Constant_none ⟨.non,H,I,rfl,h⟩
theorem zop{x j pos}:PE X (.Constant (.str x) j pos) (tC (.str x)):=fun _ _ _ H _ I h=>Calls.Constant_str ⟨.str x,H,I.tok _,⟨_,rfl⟩,h⟩
def Gl(X:Cx)(x:Str):Prop:=X.env.kindOf x=some .globalImplicit
theorem zcs{E:Value->Shared->Prop}{pins:List (Addr×Obj)}{s:Shared}{σ:St}{H:Hp}{x:Str}{u:Value}{pos:Pos}{Q:Value->Shared->Prop}(I:Inv X pins σ H s)(hg:Gl X x)(hm:X.mg x=some u)(h:Q u s)(hd:(x==("__debug__" : Str))=false:=by decide):wpAny (model X.prog X.w) X.A (eval (.Name x pos) X.env) Q E s :=
 Calls.Name_function_global I.ok.kind hg (Calls.loadGlobal_global (by rw[I.ok.glob];exact I.mod.glob.keeps I.bk) hm h) hd
theorem zf6{E:Value->Shared->Prop}{pins:List (Addr×Obj)}{s:Shared}{σ:St}{H:Hp}{x:Str}{u:Value}{pos:Pos}{Q:Value->Shared->Prop}(I:Inv X pins σ H s)(hg:Gl X x)(hm:X.mg x=none)(hv:bootBuiltins x=some u)(h:Q u s)(hn:x ≠ "__name__" := by decide)(hd:(x==("__debug__" : Str))=false:=by decide):wpAny (model X.prog X.w) X.A (eval (.Name x pos) X.env) Q E s:=by
 obtain⟨mb,h1,h2⟩:=I.mod.blt
 exact Calls.Name_function_global I.ok.kind hg (Calls.loadGlobal_builtin (by rw[I.ok.glob];exact I.mod.glob.keeps I.bk) hm (by rw[I.ok.blt];exact h1.keeps I.bk) ((h2 x hn).trans hv) h) hd
theorem zmS{x:Str}{v:V}{u:Value}{pos:Pos}(hg:Gl X x)(hm:X.mg x=some u)(r:RelV v u)(hd:(x==("__debug__" : Str))=false:=by decide):PE X (.Name x pos) (tC v) :=
 fun _ _ _ H _ I h=>zcs I hg hm ⟨v,H,I,r,h⟩ hd
variable {a b:Expr} {ta tb:TE} {pos:Pos}
def PC(X:Cx)(op:CmpOp)(a b:Expr)(t:TE):Prop :=
 ∀(pins:List (Addr×Obj)) (s:Shared) (σ:St) (H:Hp) (Q:VK),Inv X pins σ H s->t σ H Q ->
  wpAny (model X.prog X.w) X.A (eval a X.env) (fun v s₁=>wpAny (model X.prog X.w) X.A (eval b X.env) (fun u s₂=>wpAny (model X.prog X.w) X.A (compareOp op v u) (EP X pins σ Q) X.xe s₂) X.xe s₁) X.xe s
def zsx(ta:TE):TE:=fun σ H Q=>ta σ H fun x H1=>Q (.bl (decide (x=.non))) H1
def zqE(ta:TE):TE:=fun σ H Q=>ta σ H fun x H1=>Q (.bl (!decide (x=.non))) H1
theorem RelV.none_iff{x:V}{v:Value}(r:RelV x v):(v==Value.none)=decide (x=.non):=by
 cases x with
 | non=>cases r;rfl
 | bl _=>cases r;rfl
 | int _=>obtain⟨t,rfl⟩:=r;rfl
 | str _=>obtain⟨t,rfl⟩:=r;rfl
 | byt _=>obtain⟨t,rfl⟩:=r;rfl
 | flt _=>obtain⟨t,rfl⟩:=r;rfl
 | ref _=>cases r;rfl
 | ty _=>cases r;rfl
theorem zoq{j pos'}(ha:PE X a ta):PC X .Is a (.Constant .none j pos') (zsx ta):=by
 intro pins s σ H Q I h
 refine thn (ha pins s σ H _ I h) fun v s1 ⟨x,H1,I1,r1,q1⟩=>?_
 exact Constant_none (is_none_gen ⟨.bl _,H1,I1,by rw[r1.none_iff];rfl,q1⟩)
theorem zmT{j pos'}(ha:PE X a ta):PC X .IsNot a (.Constant .none j pos') (zqE ta):=by
 intro pins s σ H Q I h
 refine thn (ha pins s σ H _ I h) fun v s1 ⟨x,H1,I1,r1,q1⟩=>?_
 exact Constant_none (isnot_none_gen ⟨.bl _,H1,I1,by rw[r1.none_iff];rfl,q1⟩)
def tB(t:TE):TT:=fun σ H Q=>t σ H fun x H1=>∃c,x=.bl c/\Q c H1
theorem zor{op:CmpOp}{t:TE}(h:PC X op a b t)(h1:behindInMarks op b=false:=by first|exact nobehind _ (by decide) (by decide)|rfl):PT X (.Compare a [op] [b] pos) (tB t):=by
 intro pins s σ H Q I hw
 refine wpAny_isTrue_Compare1 (thn (h pins s σ H _ I hw) fun v s1 h1=>thn h1 fun u s2 h2=>thn h2 fun c s3 ⟨x,H1,I1,r1,q1⟩=>?_) h1
 obtain⟨d,rfl,q⟩:=q1
 cases r1
 exact wpAny_truthy_bool ⟨H1,I1,q⟩
theorem zos{e:Expr}{t:TE}(h:PE X e t)(he:∀whole,isTrue e X.env whole=(do let v <- whole;standAt e.pos;holding [v] (truthy v)):=by intro _;rfl):PT X e (tB t):=by
 intro pins s σ H Q I hw
 refine isTrue_plain (thn (h pins s σ H _ I hw) fun v s1 ⟨x,H1,I1,r1,q1⟩=>?_) (he _)
 obtain⟨d,rfl,q⟩:=q1
 cases r1
 exact wpAny_truthy_bool ⟨H1,I1,q⟩
variable {tA tB':TT} {zdw:List Expr}
def zsy(t u:TT):TT:=fun σ H Q=>t σ H fun c H1=>if c=true then u σ H1 Q else Q false H1
def tOr(t u:TT):TT:=fun σ H Q=>t σ H fun c H1=>if c=true then Q true H1 else u σ H1 Q
def zsz(t:TT):TT:=fun σ H Q=>t σ H fun c H1=>Q (!c) H1
theorem zmU(ha:PT X a tA):PW X (.BoolOp .And [a] pos) tA:=by
 intro wh pins s σ H Q I h
 refine isTrue_and (thn (ha pins s σ H Q I h) fun c s1 e=>?_)
 cases c with
 | true=>exact isTrue_and_nil e
 | false=>exact e
theorem zot(ha:PT X a tA):PW X (.BoolOp .Or [a] pos) tA:=by
 intro wh pins s σ H Q I h
 refine isTrue_or (thn (ha pins s σ H Q I h) fun c s1 e=>?_)
 cases c with
 | false=>exact isTrue_or_nil e
 | true=>exact e
theorem zou(ha:PT X a tA)(hb:PW X (.BoolOp .And (b::zdw) pos) tB'):PW X (.BoolOp .And (a::b::zdw) pos) (zsy tA tB'):=by
 intro wh pins s σ H Q I h
 refine isTrue_and (thn (ha pins s σ H _ I h) fun c s1 ⟨H1,I1,q1⟩=>?_)
 cases c with
 | true=>exact hb wh pins s1 σ H1 Q I1 q1
 | false=>exact⟨H1,I1,q1⟩
theorem zqF(ha:PT X a tA)(hb:PW X (.BoolOp .Or (b::zdw) pos) tB'):PW X (.BoolOp .Or (a::b::zdw) pos) (tOr tA tB'):=by
 intro wh pins s σ H Q I h
 refine isTrue_or (thn (ha pins s σ H _ I h) fun c s1 ⟨H1,I1,q1⟩=>?_)
 cases c with
 | true=>exact⟨H1,I1,q1⟩
 | false=>exact hb wh pins s1 σ H1 Q I1 q1
theorem zov(ha:PT X a tA):PT X (.UnaryOp .Not a pos) (zsz tA):=by
 intro pins s σ H Q I h
 exact isTrue_not (ha pins s σ H (fun c H1=>Q (!c) H1) I h)
def zqG(ta tb:TE):TE:=fun σ H Q=>ta σ H fun x H1=>∃c,x=.bl c/\if c=true then tb σ H1 Q else Q (.bl false) H1
def zsA(ta tb:TE):TE:=fun σ H Q=>ta σ H fun x H1=>∃c,x=.bl c/\if c=true then Q (.bl true) H1 else tb σ H1 Q
def zqH(ta:TE):TE:=fun σ H Q=>ta σ H fun x H1=>∃c,x=.bl c/\Q (.bl (!c)) H1
theorem zow{op}{t:TE}(h:PE X a t):PE X (.BoolOp op [a] pos) t:=fun pins s σ H Q I hw=>BoolOp_one (h pins s σ H Q I hw)
theorem zox(ha:PE X a ta)(hb:PE X (.BoolOp .And (b::zdw) pos) tb):PE X (.BoolOp .And (a::b::zdw) pos) (zqG ta tb):=by
 intro pins s σ H Q I h
 refine BoolOp_and (thn (ha pins s σ H _ I h) fun v s1 ⟨x,H1,I1,r1,q1⟩=>?_)
 obtain⟨c,rfl,q1⟩:=q1
 cases r1
 refine wpAny_truthy_bool ?_
 cases c with
 | true=>exact hb pins s1 σ H1 Q I1 q1
 | false=>exact⟨.bl false,H1,I1,rfl,q1⟩
theorem zqI(ha:PE X a ta)(hb:PE X (.BoolOp .Or (b::zdw) pos) tb):PE X (.BoolOp .Or (a::b::zdw) pos) (zsA ta tb):=by
 intro pins s σ H Q I h
 refine BoolOp_or (thn (ha pins s σ H _ I h) fun v s1 ⟨x,H1,I1,r1,q1⟩=>?_)
 obtain⟨c,rfl,q1⟩:=q1
 cases r1
 refine wpAny_truthy_bool ?_
 cases c with
 | false=>exact hb pins s1 σ H1 Q I1 q1
 | true=>exact⟨.bl true,H1,I1,rfl,q1⟩
theorem zoy(ha:PE X a ta):PE X (.UnaryOp .Not a pos) (zqH ta):=by
 intro pins s σ H Q I h
 refine UnaryOp_ (thn (ha pins s σ H _ I h) fun v s1 ⟨x,H1,I1,r1,q1⟩=>?_)
 obtain⟨c,rfl,q1⟩:=q1
 cases r1
 exact not_of (wpAny_truthy_bool ⟨.bl (!c),H1,I1,rfl,q1⟩)
end
end L2
namespace L2
open PySem PySem.Spec PyProof.Rows
def SqL(K:PySem.W.Frag)(H:Hp)(a:Addr)(xs:List V):Prop :=
 Rd H a (.lst xs) \/
  ∃(o:Obj) (its:Array Value) (n:Nat),K.lookup a=some o/\o.cls=.type "list" /\ o.dict=none/\o.data=.seq its n/\its.size<=sizeLine/\Vals xs its.toList
def SqT(K:PySem.W.Frag)(H:Hp)(a:Addr)(xs:List V):Prop :=
 Rd H a (.tup xs) \/
  ∃(o:Obj) (its:Array Value) (n:Nat),K.lookup a=some o/\o.cls=.type "tuple" /\ o.data=.seq its n/\its.size<=sizeLine/\Vals xs its.toList
def zsB:Value->Option V
 | .none=>some .non
 | .bool b=>some (.bl b)
 | .int i _=>some (.int i)
 | .str x _=>some (.str x)
 | .bytes b _=>some (.byt b)
 | .float b _=>some (.flt b)
 | .ref a=>some (.ref a)
 | .type n=>some (.ty n)
 | _=>none
theorem RelV.abs{x:V}{u:Value}(r:RelV x u):zsB u=some x:=by
 cases x with
 | non=>cases r;rfl
 | bl _=>cases r;rfl
 | int _=>obtain⟨t,rfl⟩:=r;rfl
 | str _=>obtain⟨t,rfl⟩:=r;rfl
 | byt _=>obtain⟨t,rfl⟩:=r;rfl
 | flt _=>obtain⟨t,rfl⟩:=r;rfl
 | ref _=>cases r;rfl
 | ty _=>cases r;rfl
theorem RelV.inj{x y:V}{u:Value}(r:RelV x u)(q:RelV y u):x=y:=Option.some.inj (r.abs.symm.trans q.abs)
theorem Vals.inj:∀{xs ys:List V} {us:List Value},Vals xs us->Vals ys us->xs=ys
 | _,_,_,.nil,.nil=>rfl
 | _,_,_,.cons r t,.cons r' t'=>by rw[r.inj r',Vals.inj t t']
section
variable {X:Cx} {pins:List (Addr×Obj)} {σ:St} {H:Hp} {s:Shared} {a:Addr} {xs ys:List V}
theorem Inv.list(I:Inv X pins σ H s)(h:SqL X.K H a xs):∃its:List Value,Vals xs its/\PlainL s.heap a its.toArray/\xs.length<=sizeLine:=by
 rcases h with h|⟨o,its,n,hk,hc,hd,hs,hz,r⟩
 ·obtain⟨z,its,n,r,e⟩:=h.ok I.hok
  exact⟨its,r,⟨_,n,e,rfl,rfl,rfl⟩,z⟩
 ·refine⟨its.toList,r,⟨o,n,I.kIn a o hk,hc,hd,by simpa using hs⟩,?_⟩
  have e:=r.length
  simp only[Array.length_toList] at e
  omega
theorem Inv.tuple(I:Inv X pins σ H s)(h:SqT X.K H a xs):∃its:List Value,Vals xs its/\IsTup s.heap a its.toArray/\xs.length<=sizeLine:=by
 rcases h with h|⟨o,its,n,hk,hc,hs,hz,r⟩
 ·obtain⟨z,its,r,p⟩:=h.ok I.hok
  exact⟨its,r,p.isTup,z⟩
 ·refine⟨its.toList,r,⟨o,I.kIn a o hk,hc,n,by simpa using hs⟩,?_⟩
  have e:=r.length
  simp only[Array.length_toList] at e
  omega
theorem Inv.list_inj(I:Inv X pins σ H s)(h:SqL X.K H a xs)(h':SqL X.K H a ys):xs=ys:=by
 obtain⟨its,r,⟨o,n,e,_,_,d⟩,_⟩:=I.list h
 obtain⟨its',r',⟨o',n',e',_,_,d'⟩,_⟩:=I.list h'
 rw[e] at e';cases e'
 rw[d] at d'
 injection d' with d1 _
 have:its=its':=by simpa using congrArg Array.toList d1
 subst this
 exact r.inj r'
theorem Inv.tuple_inj(I:Inv X pins σ H s)(h:SqT X.K H a xs)(h':SqT X.K H a ys):xs=ys:=by
 obtain⟨its,r,⟨o,e,_,n,d⟩,_⟩:=I.tuple h
 obtain⟨its',r',⟨o',e',_,n',d'⟩,_⟩:=I.tuple h'
 rw[e] at e';cases e'
 rw[d] at d'
 injection d' with d1 _
 have:its=its':=by simpa using congrArg Array.toList d1
 subst this
 exact r.inj r'
end
abbrev Cx.wish(X:Cx)(E:Value->Shared->Prop):Cx:={ X with xe:=E }
abbrev Cx.nox(X:Cx):Cx:=X.wish fun _ _=>False
theorem Cx.Ok.wish{X:Cx}(ok:X.Ok)(E:Value->Shared->Prop):(X.wish E).Ok :=
 ⟨ok.mod,ok.kind,ok.glob,ok.blt,ok.above,ok.inj,ok.has,ok.cab,ok.hd,ok.frames,ok.stk,ok.exf,ok.bs,ok.bsz,ok.noex,ok.exfs,ok.funs,ok.frf⟩
theorem Cx.Ok.unwish{X:Cx}{E:Value->Shared->Prop}(ok:(X.wish E).Ok):X.Ok :=
 ⟨ok.mod,ok.kind,ok.glob,ok.blt,ok.above,ok.inj,ok.has,ok.cab,ok.hd,ok.frames,ok.stk,ok.exf,ok.bs,ok.bsz,ok.noex,ok.exfs,ok.funs,ok.frf⟩
section
variable {X:Cx} {pins:List (Addr×Obj)} {σ:St} {H:Hp} {s:Shared} {E:Value->Shared->Prop}
theorem Inv.wish(I:Inv X pins σ H s)(E:Value->Shared->Prop):Inv (X.wish E) pins σ H s:=⟨I.ok.wish E,I.os,I.bare,I.base,I.loc,I.cell,I.free,I.freeC,I.pin,I.hok,I.len⟩
theorem Inv.unwish(I:Inv (X.wish E) pins σ H s):Inv X pins σ H s:=⟨I.ok.unwish,I.os,I.bare,I.base,I.loc,I.cell,I.free,I.freeC,I.pin,I.hok,I.len⟩
end
section
variable {X:Cx} {st:Stmt} {zdw:List Stmt} {t u:TS} {e:Expr} {te:TE} {pos:Pos}
def zqJ:TS:=fun D σ H=>D.nx σ H
def zsC(t u:TS):TS:=fun D σ H=>t { D with nx:=u D } σ H
theorem zmV:PSs X [] zqJ:=fun _ _ σ H _ I h=>wpAny_execs_nil ⟨σ,H,I,h⟩
theorem zkR(h1:PS X st t)(h2:PSs X zdw u):PSs X (st::zdw) (zsC t u):=by
 intro pins s σ H D I h
 refine wpAny_execs_cons (thn (h1 pins s σ H { D with nx:=u D } I h) fun f s1 q=>?_)
 cases f with
 | next =>
  obtain⟨σ',H',I',q⟩:=q
  exact h2 pins s1 σ' H' D I' q
 | ret v=>exact q
 | brk=>exact q
 | cont=>exact q
theorem zmW(h1:PS X st t):PSs X [st] t:=by
 intro pins s σ H D I h
 refine wpAny_execs_cons (thn (h1 pins s σ H D I h) fun f s1 q=>?_)
 cases f with
 | next=>exact wpAny_execs_nil q
 | ret v=>exact q
 | brk=>exact q
 | cont=>exact q
def zqK:TS:=fun D σ H=>D.ct σ H
theorem zgW:PS X (.Continue pos) zqK:=fun _ _ σ H _ I h=>wpAny_Continue ⟨σ,H,I,h⟩
theorem Inv.quiet{pins:List (Addr×Obj)}{σ:St}{H:Hp}{s:Shared}(I:Inv X pins σ H s):interactive X.env=false:=by simp[interactive,I.ok.kind]
def zqL(te:TE):TS:=fun D σ H=>te σ H fun _ H1=>D.nx σ H1
theorem zmX(he:PE X e te)(hs:swapsWith e none pos.line X.env=pure false:=by rfl):PS X (.Expr e pos) (zqL te):=by
 intro pins s σ H D I h
 exact wpAny_Expr_any (thn (he pins s σ H _ I h) fun v s1 ⟨x,H1,I1,r1,q1⟩=>⟨σ,H1,I1,q1⟩) I.quiet hs
def zsD(te:TE):TS:=fun D σ H=>te σ H D.rt
theorem zoz(he:PE X e te):PS X (.Return (some e) pos) (zsD te):=by
 intro pins s σ H D I h
 exact wpAny_Return_some (thn (he pins s σ H _ I h) fun v s1 ⟨x,H1,I1,r1,q1⟩=>⟨x,σ,H1,I1,r1,q1⟩)
def zsE(c:TT)(t u:TS):TS:=fun D σ H=>c σ H fun b H1=>if b=true then t D σ H1 else u D σ H1
theorem zqM{c:Expr}{a b:List Stmt}{tc:TT}(hc:PT X c tc)(ha:PSs X a t)(hb:PSs X b u):PS X (.If c a b pos) (zsE tc t u):=by
 intro pins s σ H D I h
 refine wpAny_If (thn (hc pins s σ H _ I h) fun d s1 ⟨H1,I1,q1⟩=>?_)
 cases d with
 | true=>exact ha pins s1 σ H1 D I1 q1
 | false=>exact hb pins s1 σ H1 D I1 q1
end
abbrev TG:=V->St->Hp->(St->Hp->Prop)->Prop
abbrev TGs:=List V->St->Hp->(St->Hp->Prop)->Prop
def PG(X:Cx)(target:Expr)(t:TG):Prop :=
 ∀(pins:List (Addr×Obj)) (s:Shared) (σ:St) (H:Hp) (v:V) (u:Value) (Q:St->Hp->Prop),Inv X pins σ H s->RelV v u->t v σ H Q ->
  wpAny (model X.prog X.w) X.A (assign target X.env u) (fun _ s'=>∃σ' H',Inv X pins σ' H' s'/\Q σ' H') X.xe s
def PGs(X:Cx)(ts:List Expr)(t:TGs):Prop :=
 ∀(pins:List (Addr×Obj)) (s:Shared) (σ:St) (H:Hp) (vs:List V) (us:List Value) (Q:St->Hp->Prop),Inv X pins σ H s->Vals vs us->t vs σ H Q ->
  wpAny (model X.prog X.w) X.A (assignInOrder ((assignEach ts X.env).map (·.2)) us) (fun _ s'=>∃σ' H',Inv X pins σ' H' s'/\Q σ' H') X.xe s
abbrev zqN:=V->V->V->Hp->(Hp->Prop)->Prop
def zrU(X:Cx)(t:zqN):Prop :=
 ∀(pins:List (Addr×Obj)) (s:Shared) (σ:St) (H:Hp) (o i v:V) (ov iv u:Value) (Q:Hp->Prop),Inv X pins σ H s->RelV o ov->RelV i iv->RelV v u->t o i v H Q ->
  wpAny (model X.prog X.w) X.A (setItem ov iv u) (fun _ s'=>∃H',Inv X pins σ H' s'/\Q H') X.xe s
section
variable {X:Cx} {pos:Pos}
def gName(i:Nat):TG:=fun v σ H Q=>Q (σ.set i (some v)) H
theorem zgX{i:Nat}{x:Str}(hN:X.N.Nodup)(hi:X.N[i]?=some x)(hx:Loc X.env.scope x)(hf:X.fn x=true\/X.env.scope.names.lookup x=some .local:=by first|exact .inl rfl|exact .inr rfl|assumption):PG X (.Name x pos) (gName i):=by
 intro pins s σ H v u Q I r h
 exact wpAny_assign_Name (zfk I hN hi hx r (fun s' I'=>⟨_,H,I',h⟩) hf)
def zsF:TGs:=fun vs σ H Q=>vs=[]/\Q σ H
def zqO(t:TG)(u:TGs):TGs:=fun vs σ H Q=>∃v r,vs=v::r/\t v σ H fun σ' H'=>u r σ' H' Q
theorem zmY:PGs X [] zsF:=by
 intro pins s σ H vs us Q I r h
 obtain⟨e,h⟩:=h
 subst e
 cases r
 exact assignInOrder_nil ⟨σ,H,I,h⟩
theorem zkS{e:Expr}{es:List Expr}{t:TG}{u:TGs}(h1:PG X e t)(h2:PGs X es u)(hs:(assignEach (e::es) X.env).map (·.2)=assign e X.env::(assignEach es X.env).map (·.2):=by rfl):PGs X (e::es) (zqO t u):=by
 intro pins s σ H vs us Q I r h
 obtain⟨v,vr,e1,h⟩:=h
 subst e1
 cases r with
 | cons r rr =>
  rw[hs]
  refine assignInOrder_cons (thn (h1 pins s σ H _ _ _ I r h) fun _ s1 ⟨σ1,H1,I1,q1⟩=>?_)
  exact h2 pins s1 σ1 H1 _ _ Q I1 rr q1
def zsG(K:PySem.W.Frag)(n:Nat)(t:TGs):TG:=fun v σ H Q=>∃a xs,v=.ref a/\SqT K H a xs/\xs.length=n/\t xs σ H Q
theorem zoA{es:List Expr}{k:Nat}{t:TGs}{n:Nat}(hc:X.calm=true)(h:PGs X es t)(hn:(assignEach es X.env).length=n:=by rfl)(hst:(assignEach es X.env).findIdx? (·.1)=none:=by rfl):PG X (.Tuple es k pos) (zsG X.K n t):=by
 intro pins s σ H v u Q I r hw
 obtain⟨a,xs,e1,hq,hl,hw⟩:=hw
 subst e1
 cases r
 obtain⟨its,rv,ht,hz⟩:=I.tuple hq
 refine assign_Tuple_tuple (I.ok.hd hc) ht (by simp[hn,<- hl,rv.length]) hst fun h' hx=>?_
 have I1:Inv X pins σ H { s with heap:=h' }:=I.kept (t':=s.toks) fun b o e=>hx b o (Nat.ne_of_lt (Heap.lt_size e)) e
 exact h pins _ σ H xs _ Q I1 (by simpa using rv) hw
def zsH(to ti:TE)(t:zqN):TG:=fun v σ H Q=>to σ H fun o H1=>ti σ H1 fun i H2=>t o i v H2 fun H3=>Q σ H3
theorem zoB{o i:Expr}{to ti:TE}{t:zqN}(ho:PE X o to)(hi:PE X i ti)(hs:zrU X t)(ha:∀v,assign (.Subscript o i pos) X.env v=(do
   let ov <- holding [v] (eval o X.env)
   let iv <- holding [v,ov] (eval i X.env)
   standAt pos
   holding [v,ov,iv] (setItem ov iv v)
   release [v,ov,iv] []):=by intro _;rfl):PG X (.Subscript o i pos) (zsH to ti t):=by
 intro pins s σ H v u Q I r h
 rw[ha]
 refine wpAny_bind (wpAny_holding (thn (ho pins s σ H _ I h) fun ov s1 ⟨x,H1,I1,r1,q1⟩=>?_))
 refine wpAny_bind (wpAny_holding (thn (hi pins s1 σ H1 _ I1 q1) fun iv s2 ⟨y,H2,I2,r2,q2⟩=>?_))
 refine wpAny_bind (wpAny_standAt (wpAny_bind (wpAny_holding (thn (hs pins s2 σ H2 x y v ov iv u _ I2 r1 r2 r q2) fun _ s3 ⟨H3,I3,q3⟩=>?_))))
 exact wpAny_release ⟨σ,H3,I3,q3⟩
def zqP(te:TE)(g:TG):TS:=fun D σ H=>te σ H fun x H1=>g x σ H1 D.nx
theorem zoC{tg e:Expr}{te:TE}{g:TG}(he:PE X e te)(hg:PG X tg g)(hs:swapsWithSole [tg] e pos.line X.env=pure false:=by rfl)(hw:swappedStores [tg] e X.env=pure none:=by rfl)(h1:(assignEach [tg] X.env).map (·.2)=[assign tg X.env]:=by rfl):PS X (.Assign [tg] e pos) (zqP te g):=by
 intro pins s σ H D I h
 refine wpAny_Assign_stores (thn (he pins s σ H _ I h) fun v s1 ⟨x,H1,I1,r1,q1⟩=>?_) hs hw
 rw[h1]
 exact thn (hg pins s1 σ H1 x v _ I1 r1 q1) fun _ s2 q=>q
theorem zoD{i:Nat}{x:Str}{e:Expr}{te:TE}{pos':Pos}(hN:X.N.Nodup)(hi:X.N[i]?=some x)(hx:Loc X.env.scope x)(he:PE X e te)(hs:swapsWith e (some (.Name x pos')) pos.line X.env=pure false:=by rfl)(hf:X.fn x=true\/X.env.scope.names.lookup x=some .local:=by first|exact .inl rfl|exact .inr rfl|assumption) :
  PS X (.Assign [.Name x pos'] e pos) (zqP te (gName i)):=by
 intro pins s σ H D I h
 refine wpAny_Assign_Name (thn (he pins s σ H _ I h) fun v s1 ⟨y,H1,I1,r1,q1⟩=>?_) hs
 exact zfk I1 hN hi hx r1 (fun s2 I2=>⟨_,H1,I2,q1⟩) hf
end
section
variable {X:Cx} {pos:Pos}
def zoE(c:TT)(tb:TS):TS:=fun D σ H=>∃W:Nat->St->Hp->Prop,(∃m,W m σ H)/\∀m σ H,W m σ H ->
 c σ H fun b H1=>if b=true then ∃N:St->Hp->Prop,(∀σ' H',N σ' H'->∃m',m'<m/\W m' σ' H')/\tb { D with nx:=N,ct:=N,bk:=D.nx } σ H1 else D.nx σ H1
theorem zkT{c:Expr}{body:List Stmt}{tc:TT}{tb:TS}(hp:PassesOwn (model X.prog X.w) X.A X.env X.xe)(hc:PT X c tc)(hb:PSs X body tb):PS X (.While c body [] pos) (zoE tc tb):=by
 intro pins s σ H D I h
 obtain⟨W,⟨m0,w0⟩,turn⟩:=h
 refine wpAny_While (codeAny_whileLoop (fun n s'=>∃σ' H',Inv X pins σ' H' s'/\W n σ' H') ?_ m0 ⟨σ,H,I,w0⟩)
 rintro n s1 ⟨σ1,H1,I1,w1⟩
 refine wpAny_passesOwn hp (thn (hc pins s1 σ1 H1 _ I1 (turn n σ1 H1 w1)) fun b s2 ⟨H2,I2,q2⟩=>?_)
 cases b with
 | true =>
  obtain⟨N,hN,q2⟩:=q2
  rw[if_pos rfl]
  refine wpAny_passesOwn hp (thn (hb pins s2 σ1 H2 _ I2 q2) fun f s3 q3=>?_)
  cases f with
  | next =>
   obtain⟨σ3,H3,I3,n3⟩:=q3
   obtain⟨m',hm,w3⟩:=hN σ3 H3 n3
   exact⟨m',hm,σ3,H3,I3,w3⟩
  | cont =>
   obtain⟨σ3,H3,I3,n3⟩:=q3
   obtain⟨m',hm,w3⟩:=hN σ3 H3 n3
   exact⟨m',hm,σ3,H3,I3,w3⟩
  | brk=>exact q3
  | ret v=>exact q3
 | false =>
  rw[if_neg Bool.false_ne_true]
  exact wpAny_execs_nil ⟨σ1,H2,I2,q2⟩
end
structure It where
 go:Nat->Hp->Prop
 yld:Nat->Hp->V->Hp->Prop
 stop:Nat->Hp->Prop
def zlX(X:Cx)(pins:List (Addr×Obj))(H:Hp)(b:Addr):Prop :=
 H b=none/\b≠X.env.locals/\b∉X.fs/\(b∈X.ex\/X.s₀.heap.objs.size<=b)/\(∀x c,X.env.cells.lookup x=some c->c≠b)/\∀p∈X.pn++pins,p.1≠b
theorem Inv.fpOk{X:Cx}{pins:List (Addr×Obj)}{σ:St}{H H':Hp}{s:Shared}{b:Addr}(I:Inv X pins σ H s)(hb:s.heap.objs.size<=b)(hn:H' b=none):zlX X pins H' b:=by
 refine⟨hn,Nat.ne_of_gt (Nat.lt_of_lt_of_le I.lt hb),I.nofs hb,.inr (Nat.le_trans I.sz hb),fun x c e z=>?_,fun p hp z=>?_⟩
 ·obtain⟨v,q⟩:=I.cell x c e
  exact absurd (Nat.lt_of_lt_of_le q.lt (by rw[z];exact hb)) (Nat.lt_irrefl _)
 ·exact absurd (Nat.lt_of_lt_of_le (Heap.lt_size (I.pin p hp).1) (by rw[z];exact hb)) (Nat.lt_irrefl _)
structure Turn (P:Program) (w:World) (K:PySem.W.Frag) (tg:Expr) (J:It) (fp:List Addr) (it:Addr) (tn:Nat->Heap->Prop):Prop where
 mem:it∈fp
 obj:∀i h,tn i h->∀b∈fp,∃o,h.get? b=some o/\∀v,o.data≠.cell v
 keep:∀i h h',tn i h->(∀b∈fp,∀o,h.get? b=some o->h'.get? b=some o)->tn i h'
 item:∀(X:Cx),X.prog=P->X.w=w->X.K=K->X.calm=true->∀(i:Nat) (pins:List (Addr×Obj)) (s:Shared) (σ:St) (H:Hp) (E:Value->Shared->Prop),Inv X pins σ H s->(∀b∈fp,zlX X pins H b)->tn i s.heap->J.go i H ->
  wpAny (model P w) X.A (pyNext (.ref it)) (fun r s1=>∃u,r=some u /\
   wpAny (model P w) X.A (letOwnedTupleGo tg (.ref it) u) (fun _ s2=>∃x H',Inv X pins σ H' s2/\RelV x u/\J.yld i H x H'/\tn (i+1) s2.heap/\∀b∈fp,H' b=none) E s1) E s
 done:∀(X:Cx),X.prog=P->X.w=w->X.K=K->X.calm=true->∀(i:Nat) (pins:List (Addr×Obj)) (s:Shared) (σ:St) (H:Hp) (E:Value->Shared->Prop),Inv X pins σ H s->(∀b∈fp,zlX X pins H b)->tn i s.heap->J.stop i H ->
  wpAny (model P w) X.A (pyNext (.ref it)) (fun r s1=>r=none/\Inv X pins σ H s1) E s
 self:∀(A:Around) (i:Nat) (s:Shared) (Q:Value->Shared->Prop) (E:Value->Shared->Prop),tn i s.heap->Q (.ref it) s->wpAny (model P w) A (pyIter (.ref it)) Q E s
abbrev TI:=St->Hp->(It->Hp->Prop)->Prop
def PIE(X:Cx)(pins:List (Addr×Obj))(σ:St)(tg:Expr)(R:It->Hp->Prop)(itv:Value)(s2:Shared):Prop :=
 ∃(it:Addr) (fp:List Addr) (tn:Nat->Heap->Prop) (J:It) (H':Hp),itv=.ref it/\Inv X pins σ H' s2/\Turn X.prog X.w X.K tg J fp it tn/\tn 0 s2.heap/\(∀b∈fp,zlX X pins H' b)/\R J H'
def PI(X:Cx)(tg iter:Expr)(wi:TI):Prop :=
 ∀(pins:List (Addr×Obj)) (s:Shared) (σ:St) (H:Hp) (R:It->Hp->Prop),Inv X pins σ H s->wi σ H R ->
  wpAny (model X.prog X.w) X.A (eval iter X.env) (fun v s1=>wpAny (model X.prog X.w) X.A (pyIter v) (PIE X pins σ tg R) X.xe s1) X.xe s
theorem zmZ{M:Model}{A:Around}{E:Value->Shared->Prop}{s:Shared}{tg:Expr}{it:Addr}{u:Value}{o:Obj}{n:String}{vs:Array Value}{Q:Unit->Shared->Prop}(ho:s.heap.get? it=some o)(hc:o.cls=.type n)(hd:o.data=.fields vs)(hn:["enumerate", "zip", "dict_itemiterator", "dict_reverseitemiterator", "odict_iterator", "itertools.zip_longest", "itertools.pairwise"].contains n=false)(hQ:Q () s):wpAny M A (letOwnedTupleGo tg (.ref it) u) Q E s:=by
 unfold letOwnedTupleGo
 cases tg<;>first
  | exact wpAny_pure hQ
  | (cases u<;>first
    | exact wpAny_pure hQ
    | (refine wpAny_bind (wpAny_load ho ?_)
       rw[hc,hd]
       show wpAny M A (if (["enumerate", "zip", "dict_itemiterator", "dict_reverseitemiterator", "odict_iterator", "itertools.zip_longest", "itertools.pairwise"].contains n&&vs[0]?==some (rawInt _))=true then _ else _) Q E s
       rw[if_neg (by intro h;rw[hn,Bool.false_and] at h;cases h)]
       exact wpAny_pure hQ))
def Itl(K:PySem.W.Frag)(a:Addr):It :=
 ⟨fun i H=>∃xs x,SqL K H a xs/\xs[i]?=some x,fun i H x H'=>H'=H/\∀xs,SqL K H a xs->xs[i]?=some x,fun i H=>∃xs,SqL K H a xs/\xs.length<=i⟩
def Itt(K:PySem.W.Frag)(a:Addr):It :=
 ⟨fun i H=>∃xs x,SqT K H a xs/\xs[i]?=some x,fun i H x H'=>H'=H/\∀xs,SqT K H a xs->xs[i]?=some x,fun i H=>∃xs,SqT K H a xs/\xs.length<=i⟩
def Itr(lo:Int)(n:Nat):It:=⟨fun i _=>i<n,fun i H x H'=>H'=H/\x=.int (lo+i),fun i _=>n<=i⟩
theorem zi2{P:Program}{w:World}{K:PySem.W.Frag}{tg:Expr}(a it:Addr):Turn P w K tg (Itl K a) [it] it (fun i h=>h.IsListIter it a i) where
 mem:=by simp
 obj:=fun i h st b hb=>by
  have e:b=it:=by simpa using hb
  subst e
  obtain⟨o,e,c,d⟩:=st
  exact⟨o,e,fun v z=>by rw[d] at z;cases z⟩
 keep:=fun i h h' st k=>st.at fun o e=>k it (by simp) o e
 item:=by
  intro X hP hw hK hc i pins s σ H E I hf st hg
  subst hP hw hK
  obtain⟨xs,x,hq,hx⟩:=hg
  obtain⟨its,rv,p,hz⟩:=I.list hq
  obtain⟨u,hu,ru⟩:=rv.get hx
  obtain⟨f0,f1,f2,f3,f4,f5⟩:=hf it (by simp)
  refine wpAny_pyNext_list_item st p.isList (x:=u) (by simpa using hu) fun h' st' sb=>?_
  have I1:Inv X pins σ H { s with heap:=h' }:=I.turned (t':=s.toks) (fun b o hb e=>(sb.2 b hb).trans e) f0 f1 f3 f4 f5
  obtain⟨o,e,c,d⟩:=id st'
  exact⟨u,rfl,zmZ (s:={ s with heap:=h' }) e c d (by decide) ⟨x,H,I1,ru,⟨rfl,fun ys hy=>by rw[I.list_inj hy hq];exact hx⟩,st',fun b hb=>(hf b hb).1⟩⟩
 done:=by
  intro X hP hw hK hc i pins s σ H E I hf st hg
  subst hP hw hK
  obtain⟨xs,hq,hx⟩:=hg
  obtain⟨its,rv,p,hz⟩:=I.list hq
  obtain⟨f0,f1,f2,f3,f4,f5⟩:=hf it (by simp)
  have hl:=rv.length
  exact wpAny_pyNext_list_end (I.ok.hd hc) st p.isList (by simp;omega) fun h' eb=>⟨rfl,I.turned (t':=s.toks) (fun b o hb e=>eb b o hb e) f0 f1 f3 f4 f5⟩
 self:=fun _ _ _ _ _ st h=>wpAny_pyIter_listiter st h
theorem zig{P:Program}{w:World}{K:PySem.W.Frag}{tg:Expr}(a it:Addr):Turn P w K tg (Itt K a) [it] it (fun i h=>h.IsTupleIter it a i) where
 mem:=by simp
 obj:=fun i h st b hb=>by
  have e:b=it:=by simpa using hb
  subst e
  obtain⟨o,e,c,d⟩:=st
  exact⟨o,e,fun v z=>by rw[d] at z;cases z⟩
 keep:=fun i h h' st k=>st.at fun o e=>k it (by simp) o e
 item:=by
  intro X hP hw hK hc i pins s σ H E I hf st hg
  subst hP hw hK
  obtain⟨xs,x,hq,hx⟩:=hg
  obtain⟨its,rv,p,hz⟩:=I.tuple hq
  obtain⟨u,hu,ru⟩:=rv.get hx
  obtain⟨f0,f1,f2,f3,f4,f5⟩:=hf it (by simp)
  refine wpAny_pyNext_tuple_item st (show s.heap.IsTuple a its.toArray from p) (x:=u) (by simpa using hu) fun h' st' sb=>?_
  have I1:Inv X pins σ H { s with heap:=h' }:=I.turned (t':=s.toks) (fun b o hb e=>(sb.2 b hb).trans e) f0 f1 f3 f4 f5
  obtain⟨o,e,c,d⟩:=id st'
  exact⟨u,rfl,zmZ (s:={ s with heap:=h' }) e c d (by decide) ⟨x,H,I1,ru,⟨rfl,fun ys hy=>by rw[I.tuple_inj hy hq];exact hx⟩,st',fun b hb=>(hf b hb).1⟩⟩
 done:=by
  intro X hP hw hK hc i pins s σ H E I hf st hg
  subst hP hw hK
  obtain⟨xs,hq,hx⟩:=hg
  obtain⟨its,rv,p,hz⟩:=I.tuple hq
  obtain⟨f0,f1,f2,f3,f4,f5⟩:=hf it (by simp)
  have hl:=rv.length
  exact wpAny_pyNext_tuple_end (I.ok.hd hc) st (show s.heap.IsTuple a its.toArray from p) (by simp;omega) fun h' eb=>⟨rfl,I.turned (t':=s.toks) (fun b o hb e=>eb b o hb e) f0 f1 f3 f4 f5⟩
 self:=fun _ _ _ _ _ st h=>wpAny_pyIter_tupleiter st h
theorem zih{P:Program}{w:World}{K:PySem.W.Frag}{tg:Expr}(it:Addr)(lo:Int)(n:Nat):Turn P w K tg (Itr lo n) [it] it (fun i h=>IsRangeIter h it (lo+(i:Nat)*1) ((n:Int)-(i:Nat)) 1) where
 mem:=by simp
 obj:=fun i h st b hb=>by
  have e:b=it:=by simpa using hb
  subst e
  exact⟨_,st,fun v z=>by
   have z':Data.fields _=Data.cell v:=z
   cases z'⟩
 keep:=fun i h h' st k=>k it (by simp) _ st
 item:=by
  intro X hP hw hK hc i pins s σ H E I hf st hg
  subst hP hw hK
  obtain⟨f0,f1,f2,f3,f4,f5⟩:=hf it (by simp)
  have W:=Walks.range (prog:=X.prog) (w:=X.w) (I.ok.hd hc) it lo 1 n
  refine W.item i s _ _ hg st fun v h' tk hv st' kk=>?_
  obtain⟨t,rfl⟩:=hv
  have I1:Inv X pins σ H { s with heap:=h',toks:=tk }:=I.turned (fun b o hb e=>kk b o (by simpa using hb) e) f0 f1 f3 f4 f5
  refine⟨_,rfl,zmZ (s:={ s with heap:=h',toks:=tk }) (n := "range_iterator") st' rfl rfl (by decide) ⟨.int (lo+i),H,I1,⟨t,?_⟩,⟨rfl,rfl⟩,st',fun b hb=>(hf b hb).1⟩⟩
  rw[Int.mul_one]
 done:=by
  intro X hP hw hK hc i pins s σ H E I hf st hg
  subst hP hw hK
  obtain⟨f0,f1,f2,f3,f4,f5⟩:=hf it (by simp)
  exact wpAny_pyNext_range_end (I.ok.hd hc) st (by have:n<=i:=hg;omega) fun h' eb=>⟨rfl,I.turned (t':=s.toks) (fun b o hb e=>eb b o hb e) f0 f1 f3 f4 f5⟩
 self:=fun _ _ _ _ _ st h=>wpAny_pyIter_rangeiter st h
end L2
namespace L2
open PySem PySem.Spec PyProof.Rows
section
variable {X:Cx} {tg:Expr}
def zqQ(K:PySem.W.Frag)(tl:TE):TI:=fun σ H R=>tl σ H fun x H1=>∃a,x=.ref a/\(∃xs,SqL K H1 a xs)/\R (Itl K a) H1
def zsI(K:PySem.W.Frag)(tl:TE):TI:=fun σ H R=>tl σ H fun x H1=>∃a,x=.ref a/\(∃xs,SqT K H1 a xs)/\R (Itt K a) H1
theorem zm0{l:Expr}{tl:TE}(hl:PE X l tl):PI X tg l (zqQ X.K tl):=by
 intro pins s σ H R I h
 refine thn (hl pins s σ H _ I h) fun v s1 ⟨x,H1,I1,r1,q1⟩=>?_
 obtain⟨a,e,⟨xs,hq⟩,q⟩:=q1
 subst e
 cases r1
 obtain⟨its,rv,p,hz⟩:=I1.list hq
 refine wpAny_pyIter_list p.isList ?_
 refine⟨s1.heap.objs.size,[s1.heap.objs.size],_,_,H1,rfl,I1.kept (t':=s1.toks) fun b o e=>Heap.get?_push_of_some _ e,zi2 a _,⟨_,Heap.get?_push_size _ rfl,rfl,rfl⟩,fun b hb=>?_,q⟩
 have e:b=s1.heap.objs.size:=by simpa using hb
 subst e
 exact I1.fpOk (Nat.le_refl _) (I1.hok.fresh (Nat.le_refl _))
theorem zoF{l:Expr}{tl:TE}(hl:PE X l tl):PI X tg l (zsI X.K tl):=by
 intro pins s σ H R I h
 refine thn (hl pins s σ H _ I h) fun v s1 ⟨x,H1,I1,r1,q1⟩=>?_
 obtain⟨a,e,⟨xs,hq⟩,q⟩:=q1
 subst e
 cases r1
 obtain⟨its,rv,p,hz⟩:=I1.tuple hq
 refine wpAny_pyIter_tuple (show s1.heap.IsTuple a its.toArray from p) ?_
 refine⟨s1.heap.objs.size,[s1.heap.objs.size],_,_,H1,rfl,I1.kept (t':=s1.toks) fun b o e=>Heap.get?_push_of_some _ e,zig a _,⟨_,Heap.get?_push_size _ rfl,rfl,rfl⟩,fun b hb=>?_,q⟩
 have e:b=s1.heap.objs.size:=by simpa using hb
 subst e
 exact I1.fpOk (Nat.le_refl _) (I1.hok.fresh (Nat.le_refl _))
theorem zhu{pins:List (Addr×Obj)}{σ:St}{H:Hp}{s:Shared}{R:It->Hp->Prop}{E:Value->Shared->Prop}{lo hi:Int}{t u v:Tok}{tk:Nat}(I:Inv X pins σ H s)(h1:-(2 ^ 62)<=lo)(h2:lo<2 ^ 62)(h3:-(2 ^ 62)<=hi)(h4:hi<2 ^ 62)(q:R (Itr lo (hi-lo).toNat) H):wpAny (model X.prog X.w) X.A (pyIter (.ref s.heap.objs.size)) (PIE X pins σ tg R) E { s with heap:=s.heap.push { cls:=.type "range",data:=.fields #[.int lo t,.int hi u,.int 1 v] },toks:=tk }:=by
 refine wpAny_pyIter_range (IsRange.new ..) (small_one h1 h2 h3 h4) ?_
 have I1:Inv X pins σ H { s with heap:=s.heap.push { cls:=.type "range",data:=.fields #[.int lo t,.int hi u,.int 1 v] },toks:=tk }:=I.kept fun b o e=>Heap.get?_push_of_some _ e
 refine⟨(s.heap.push { cls:=.type "range",data:=.fields #[.int lo t,.int hi u,.int 1 v] }).objs.size,[(s.heap.push { cls:=.type "range",data:=.fields #[.int lo t,.int hi u,.int 1 v] }).objs.size],_,_,H,rfl,
  I1.kept (t':=tk) fun b o e=>Heap.get?_push_of_some _ e,zih _ lo (hi-lo).toNat,?_,fun b hb=>?_,q⟩
 ·have e1:lo+((0:Nat):Int)*1=lo:=by simp
  have e2:(((hi-lo).toNat:Nat):Int)-((0:Nat):Int)=Builtin.Range.rangeSize lo hi 1:=by rw[rangeSize_one];split<;>omega
  show IsRangeIter _ _ (lo+((0:Nat):Int)*1) ((((hi-lo).toNat:Nat):Int)-((0:Nat):Int)) 1
  rw[e1,e2]
  exact Heap.get?_push_size _ rfl
 ·have e:b=(s.heap.push { cls:=.type "range",data:=.fields #[.int lo t,.int hi u,.int 1 v] }).objs.size:=by simpa using hb
  subst e
  exact I1.fpOk (Nat.le_refl _) (I1.hok.fresh (Nat.le_refl _))
def zqR(ta:TA):TI:=fun σ H R=>ta σ H fun vs H1=>∃j:Int,vs=[.int j]/\-(2 ^ 62)<=j/\j<2 ^ 62/\R (Itr 0 j.toNat) H1
def zqS(ta:TA):TI:=fun σ H R=>ta σ H fun vs H1=>∃i j:Int,vs=[.int i,.int j]/\(-(2 ^ 62)<=i/\i<2 ^ 62/\-(2 ^ 62)<=j/\j<2 ^ 62)/\R (Itr i (j-i).toNat) H1
theorem zi3{a:Expr}{ta:TA}{p pos:Pos}(hg:Gl X "range")(hm:X.mg "range" = none)(ha:PA X [a] ta)(hs:starEach [a] X.env=[(false,eval a X.env)]:=by rfl):PI X tg (.Call (.Name "range" p) [a] [] pos) (zqR ta):=by
 intro pins s σ H R I h
 refine Call_ (zf6 I hg hm boot_range (PyProof.Rows.callWith_type1 (thn (ha pos pins s σ H _ I h) fun us s1 ⟨vs,H1,I1,r1,q1⟩=>?_) hs rfl))
 obtain⟨j,e,q1,q2,q⟩:=q1
 subst e
 cases r1 with
 | cons r rr =>
  cases rr
  obtain⟨t,rfl⟩:=r
  exact call_range_1 (zhu I1 (by omega) (by omega) q1 q2 (by simpa using q))
theorem zi4{a b:Expr}{ta:TA}{p pos:Pos}(hg:Gl X "range")(hm:X.mg "range" = none)(ha:PA X [a,b] ta)(hs:starEach [a,b] X.env=[(false,eval a X.env),(false,eval b X.env)]:=by rfl)(hs2:starEach [b] X.env=[(false,eval b X.env)]:=by rfl) :
  PI X tg (.Call (.Name "range" p) [a,b] [] pos) (zqS ta):=by
 intro pins s σ H R I h
 refine Call_ (zf6 I hg hm boot_range (PyProof.Rows.callWith_type1 (thn (ha pos pins s σ H _ I h) fun us s1 ⟨vs,H1,I1,r1,q1⟩=>?_) (by rw[hs,hs2]) (by rw[hs2];rfl)))
 obtain⟨i,j,e,⟨q1,q2,q3,q4⟩,q⟩:=q1
 subst e
 cases r1 with
 | cons r rr =>
  cases rr with
  | cons r' rr =>
   cases rr
   obtain⟨t,rfl⟩:=r
   obtain⟨t',rfl⟩:=r'
   exact call_range_2 (zhu I1 q1 q2 q3 q4 q)
def zsJ(wi:TI)(g:TG)(tb:TS):TS:=fun D σ H=>wi σ H fun J H1=>∃W:Nat->Nat->St->Hp->Prop,(∃m,W 0 m σ H1)/\∀i m σ H,W i m σ H ->
 (J.stop i H/\D.nx σ H)\/(J.go i H/\∃N:St->Hp->Prop,(∀σ' H',N σ' H'->∃m',m'<m/\W (i+1) m' σ' H')/\∀x H',J.yld i H x H'->g x σ H' fun σ2 H2=>tb { D with nx:=N,ct:=N,bk:=D.nx } σ2 H2)
def zeX(fp:List Addr)(h:Heap):List (Addr×Obj):=fp.filterMap fun b=>(h.get? b).map fun o=>(b,o)
theorem zcK{fp:List Addr}{h:Heap}{b:Addr}{o:Obj}(hb:b∈fp)(e:h.get? b=some o):(b,o)∈zeX fp h:=List.mem_filterMap.mpr ⟨b,hb,by rw[e];rfl⟩
theorem zi5{fp:List Addr}{h:Heap}{p:Addr×Obj}(hp:p∈zeX fp h):p.1∈fp/\h.get? p.1=some p.2:=by
 obtain⟨b,hb,e⟩:=List.mem_filterMap.mp hp
 cases q:h.get? b with
 | none=>rw[q] at e;cases e
 | some o =>
  rw[q] at e
  have e':(b,o)=p:=Option.some.inj e
  subst e'
  exact⟨hb,q⟩
theorem Inv.pinned{pins:List (Addr×Obj)}{σ:St}{H:Hp}{s:Shared}{fp:List Addr}(I:Inv X pins σ H s)(hf:∀b∈fp,zlX X pins H b)(ho:∀b∈fp,∃o,s.heap.get? b=some o/\∀v,o.data≠.cell v):Inv X (pins++zeX fp s.heap) σ H s :=
 I.pins_of fun p hp=>(List.mem_append.mp hp).elim (fun z=>I.pin p (List.mem_append_right _ z)) fun z=>by
  obtain⟨hb,e⟩:=zi5 z
  obtain⟨f0,f1,f2,_⟩:=hf p.1 hb
  obtain⟨o,e',d⟩:=ho p.1 hb
  rw[e] at e';cases e'
  exact⟨e,f0,f1,f2,d⟩
theorem Inv.unpinned{pins pl:List (Addr×Obj)}{σ:St}{H:Hp}{s:Shared}(I:Inv X (pins++pl) σ H s):Inv X pins σ H s:=I.pins_of fun p hp=>I.pin p (List.mem_append_right _ (List.mem_append_left _ hp))
theorem zoG{iter:Expr}{body:List Stmt}{wi:TI}{g:TG}{tb:TS}{pos:Pos}(hp:PassesOwn (model X.prog X.w) X.A X.env X.xe)(hc:X.calm=true)(hi:PI X tg iter wi)(hg:PG X tg g)(hb:PSs X body tb)(hs:∀x,foldedSetIterable iter X.env x=pure x:=by intro _;rfl):PS X (.For tg iter body [] pos) (zsJ wi g tb):=by
 intro pins s σ H D I h
 refine wpAny_For (thn (hi pins s σ H _ I h) fun v s1 h1=>thn h1 fun itv s2 h2=>?_) hs
 obtain⟨it,fp,tn,J,H2,e,I2,T,st2,f2,W,⟨m0,w0⟩,turn⟩:=h2
 subst e
 have stat:∀{H':Hp},(∀b∈fp,H' b=none)->∀b∈fp,zlX X pins H' b:=fun hn b hb=>⟨hn b hb,(f2 b hb).2⟩
 refine codeAny_forLoop_any (fun n s'=>∃i σ' H',Inv X pins σ' H' s'/\tn i s'.heap/\(∀b∈fp,H' b=none)/\W i n σ' H') ?_ m0 ⟨0,σ,H2,I2,st2,fun b hb=>(f2 b hb).1,w0⟩
 rintro n s3 ⟨i,σ3,H3,I3,st3,fr3,w3⟩
 rcases turn i n σ3 H3 w3 with ⟨stop,qn⟩|⟨go,N,hN,step⟩
 ·refine wpAny_passesOwn hp (thn (T.done X rfl rfl rfl hc i pins s3 σ3 H3 X.xe I3 (stat fr3) st3 stop) fun r s4 ⟨hr,I4⟩=>?_)
  subst hr
  exact wpAny_execs_nil ⟨σ3,H3,I4,qn⟩
 ·refine wpAny_passesOwn hp (thn (T.item X rfl rfl rfl hc i pins s3 σ3 H3 X.xe I3 (stat fr3) st3 go) fun r s4 ⟨u,hr,h4⟩=>?_)
  subst hr
  refine wpAny_passesOwn hp (thn h4 fun _ s5 ⟨x,H5,I5,r5,y5,st5,fr5⟩=>?_)
  have I5':=I5.pinned (stat fr5) (T.obj _ _ st5)
  refine wpAny_passesOwn hp (thn (hg _ s5 σ3 H5 x u _ I5' r5 (step x H5 y5)) fun _ s6 ⟨σ6,H6,I6,q6⟩=>?_)
  refine wpAny_passesOwn hp (thn (hb _ s6 σ6 H6 _ I6 q6) fun f s7 q7=>?_)
  have again:∀{σ7:St} {H7:Hp},Inv X (pins++zeX fp s5.heap) σ7 H7 s7->N σ7 H7->∃m,m<n/\∃i σ' H',Inv X pins σ' H' s7/\tn i s7.heap/\(∀b∈fp,H' b=none)/\W i m σ' H':=fun {σ7 H7} I7 n7=>by
   obtain⟨m',hm,w7⟩:=hN σ7 H7 n7
   refine⟨m',hm,i+1,σ7,H7,I7.unpinned,T.keep _ _ _ st5 fun b hb o e=>(I7.pin (b,o) (List.mem_append_right _ (List.mem_append_right _ (zcK hb e)))).1,fun b hb=>?_,w7⟩
   obtain⟨o,e,d⟩:=T.obj _ _ st5 b hb
   exact(I7.pin (b,o) (List.mem_append_right _ (List.mem_append_right _ (zcK hb e)))).2.1
  cases f with
  | next=>obtain⟨σ7,H7,I7,n7⟩:=q7;exact again I7 n7
  | cont=>obtain⟨σ7,H7,I7,n7⟩:=q7;exact again I7 n7
  | brk=>obtain⟨σ7,H7,I7,q7⟩:=q7;exact⟨σ7,H7,I7.unpinned,q7⟩
  | ret v=>obtain⟨x7,σ7,H7,I7,r7,q7⟩:=q7;exact⟨x7,σ7,H7,I7.unpinned,r7,q7⟩
end
end L2
namespace L2
open PySem PySem.Spec PyProof.Rows
abbrev R2:=V->V->Hp->VK->Prop
def OpR(X:Cx)(f:Value->Value->Sem Value)(r:R2):Prop :=
 ∀(pins:List (Addr×Obj)) (s:Shared) (σ:St) (H:Hp) (x y:V) (v u:Value) (Q:VK),Inv X pins σ H s->RelV x v->RelV y u->r x y H Q ->
  wpAny (model X.prog X.w) X.A (f v u) (EP X pins σ Q) X.xe s
def UnR(X:Cx)(f:Value->Sem Value)(r:V->Hp->VK->Prop):Prop :=
 ∀(pins:List (Addr×Obj)) (s:Shared) (σ:St) (H:Hp) (x:V) (v:Value) (Q:VK),Inv X pins σ H s->RelV x v->r x H Q ->
  wpAny (model X.prog X.w) X.A (f v) (EP X pins σ Q) X.xe s
def CallR(X:Cx)(f:Value)(r:List V->Hp->VK->Prop):Prop :=
 ∀(pins:List (Addr×Obj)) (s:Shared) (σ:St) (H:Hp) (xs:List V) (us:List Value) (Q:VK),Inv X pins σ H s->Vals xs us->r xs H Q ->
  wpAny (model X.prog X.w) X.A (call f us) (EP X pins σ Q) X.xe s
def zsK(X:Cx)(r:V->Hp->(Bool->Hp->Prop)->Prop):Prop :=
 ∀(pins:List (Addr×Obj)) (s:Shared) (σ:St) (H:Hp) (x:V) (v:Value) (Q:Bool->Hp->Prop),Inv X pins σ H s->RelV x v->r x H Q ->
  wpAny (model X.prog X.w) X.A (truthy v) (TP X pins σ Q) X.xe s
def tOp(r:R2)(ta tb:TE):TE:=fun σ H Q=>ta σ H fun x H1=>tb σ H1 fun y H2=>r x y H2 Q
def tUn(r:V->Hp->VK->Prop)(ta:TE):TE:=fun σ H Q=>ta σ H fun x H1=>r x H1 Q
def rI(C:Int->Int->Prop)(g:Int->Int->V):R2:=fun x y H Q=>∃i j,x=.int i/\y=.int j/\C i j/\Q (g i j) H
def rI0(g:Int->Int->V):R2:=fun x y H Q=>∃i j,x=.int i/\y=.int j/\Q (g i j) H
def rU(g:Int->V):V->Hp->VK->Prop:=fun x H Q=>∃i,x=.int i/\Q (g i) H
section
variable {X:Cx} {a b c:Expr} {ta tb tc:TE} {pos:Pos}
theorem zqT(ha:PE X a ta)(hb:PE X b tb){pins:List (Addr×Obj)}{s:Shared}{σ:St}{H:Hp}{R:V->V->Hp->Prop}(I:Inv X pins σ H s)(h:ta σ H fun x H1=>tb σ H1 fun y H2=>R x y H2){Q:Value->Shared->Prop}{f:Value->Value->Sem Value}(hf:∀v u s2 x y H2,Inv X pins σ H2 s2->RelV x v->RelV y u->R x y H2->wpAny (model X.prog X.w) X.A (f v u) Q X.xe s2) :
  wpAny (model X.prog X.w) X.A (eval a X.env) (fun v s₁=>wpAny (model X.prog X.w) X.A (eval b X.env) (fun u s₂=>wpAny (model X.prog X.w) X.A (f v u) Q X.xe s₂) X.xe s₁) X.xe s:=by
 refine thn (ha pins s σ H _ I h) fun v s1 ⟨x,H1,I1,r1,q1⟩=>?_
 refine thn (hb pins s1 σ H1 _ I1 q1) fun u s2 ⟨y,H2,I2,r2,q2⟩=>?_
 exact hf v u s2 x y H2 I2 r1 r2 q2
theorem zkU{op:Operator}{r:R2}(ho:OpR X (binaryOp op) r)(ha:PE X a ta)(hb:PE X b tb):PE X (.BinOp a op b pos) (tOp r ta tb):=by
 intro pins s σ H Q I h
 exact wpAny_BinOp (zqT ha hb I h fun v u s2 x y H2 I2 rx ry q=>ho pins s2 σ H2 x y v u Q I2 rx ry q)
theorem zqU{op:UnaryOp}{r:V->Hp->VK->Prop}(ho:UnR X (unaryOp op) r)(ha:PE X a ta):PE X (.UnaryOp op a pos) (tUn r ta):=by
 intro pins s σ H Q I h
 exact UnaryOp_ (thn (ha pins s σ H _ I h) fun v s1 ⟨x,H1,I1,r1,q1⟩=>ho pins s1 σ H1 x v Q I1 r1 q1)
theorem opI{f:Value->Value->Sem Value}{C:Int->Int->Prop}{g:Int->Int->Int}(rule:∀(i j:Int) (t u:Tok) (s:Shared) (Q:Value->Shared->Prop) (E:Value->Shared->Prop),C i j->Q (.int (g i j) s.toks) { s with toks:=s.toks+1 }->wpAny (model X.prog X.w) X.A (f (.int i t) (.int j u)) Q E s) :
  OpR X f (rI C fun i j=>.int (g i j)):=by
 intro pins s σ H x y v u Q I rx ry h
 obtain⟨i,j,rfl,rfl,hc,q⟩:=h
 obtain⟨t,rfl⟩:=rx
 obtain⟨t',rfl⟩:=ry
 exact rule i j t t' s _ _ hc ⟨.int (g i j),H,I.tok _,⟨_,rfl⟩,q⟩
theorem zrV{f:Value->Value->Sem Value}{g:Int->Int->Int}(rule:∀(i j:Int) (t u:Tok) (s:Shared) (Q:Value->Shared->Prop) (E:Value->Shared->Prop),Q (.int (g i j) s.toks) { s with toks:=s.toks+1 }->wpAny (model X.prog X.w) X.A (f (.int i t) (.int j u)) Q E s) :
  OpR X f (rI0 fun i j=>.int (g i j)):=by
 intro pins s σ H x y v u Q I rx ry h
 obtain⟨i,j,rfl,rfl,q⟩:=h
 obtain⟨t,rfl⟩:=rx
 obtain⟨t',rfl⟩:=ry
 exact rule i j t t' s _ _ ⟨.int (g i j),H,I.tok _,⟨_,rfl⟩,q⟩
theorem zqq{f:Value->Value->Sem Value}{g:Int->Int->Bool}(rule:∀(i j:Int) (t u:Tok) (s:Shared) (Q:Value->Shared->Prop) (E:Value->Shared->Prop),Q (.bool (g i j)) s->wpAny (model X.prog X.w) X.A (f (.int i t) (.int j u)) Q E s) :
  OpR X f (rI0 fun i j=>.bl (g i j)):=by
 intro pins s σ H x y v u Q I rx ry h
 obtain⟨i,j,rfl,rfl,q⟩:=h
 obtain⟨t,rfl⟩:=rx
 obtain⟨t',rfl⟩:=ry
 exact rule i j t t' s _ _ ⟨.bl (g i j),H,I,rfl,q⟩
def zqV(i j:Int):Prop:=0<j/\j<1073741824
def CMul(i j:Int):Prop:=(-(2 ^ 64)<i/\i<2 ^ 64)\/(-(2 ^ 64)<j/\j<2 ^ 64)
theorem CMul.ok{i j:Int}(h:CMul i j):IntMulOk i j:=by
 rcases h with ⟨h1,h2⟩|⟨h1,h2⟩
 ·exact .of_left (intBits_le_64 h1 h2)
 ·exact .of_right (intBits_le_64 h1 h2)
theorem zoH:OpR X (binaryOp .Add) (rI0 fun i j=>.int (i+j)):=zrV fun _ _ _ _ _ _ _ q=>add_int q
theorem zoI:OpR X (binaryOp .Sub) (rI0 fun i j=>.int (i-j)):=zrV fun _ _ _ _ _ _ _ q=>sub_int q
theorem zoJ:OpR X (binaryOp .Mult) (rI CMul fun i j=>.int (i*j)):=opI fun _ _ _ _ _ _ _ hc q=>mul_int q hc.ok
theorem zm1:OpR X (binaryOp .FloorDiv) (rI zqV fun i j=>.int (i / j)):=opI fun i j _ _ _ _ _ hc q=>by
 have h1:(0:Int)<j:=hc.1
 have h2:j<1073741824:=hc.2
 exact floordiv_int (by omega) (by rw[Int.fdiv_eq_ediv_of_nonneg i (by omega)];exact q) (.inl (PyProof.noPylong_small (by omega)))
theorem zoK:OpR X (binaryOp .Mod) (rI (fun _ j=>0<j) fun i j=>.int (i % j)):=opI fun i j _ _ _ _ _ hc q=>by
 have h1:(0:Int)<j:=hc
 exact mod_int' (by omega) (by rw[Int.fmod_eq_emod_of_nonneg i (by omega)];exact q)
theorem unI{f:Value->Sem Value}{g:Int->Int}(rule:∀(i:Int) (t:Tok) (s:Shared) (Q:Value->Shared->Prop) (E:Value->Shared->Prop),Q (.int (g i) s.toks) { s with toks:=s.toks+1 }->wpAny (model X.prog X.w) X.A (f (.int i t)) Q E s) :
  UnR X f (rU fun i=>.int (g i)):=by
 intro pins s σ H x v Q I rx h
 obtain⟨i,rfl,q⟩:=h
 obtain⟨t,rfl⟩:=rx
 exact rule i t s _ _ ⟨.int (g i),H,I.tok _,⟨_,rfl⟩,q⟩
theorem zoL:UnR X (unaryOp .USub) (rU fun i=>.int (-i)):=unI fun _ _ _ _ _ q=>neg_int q
end
def zrW:V->V->Bool
 | .non,.non=>true|.non,.int _=>true|.int _,.non=>true|.non,.bl _=>true|.bl _,.non=>true|.non,.str _=>true|.str _,.non=>true
 | .int _,.int _=>true|.bl _,.bl _=>true|.str _,.str _=>true|.byt _,.byt _=>true
 | .int _,.str _=>true|.str _,.int _=>true|.bl _,.str _=>true|.str _,.bl _=>true
 | _,_=>false
def rEq:R2:=fun x y H Q=>zrW x y=true/\Q (.bl (decide (x=y))) H
def rNe:R2:=fun x y H Q=>zrW x y=true/\Q (.bl (!decide (x=y))) H
theorem zi6{i j:Int}:decide (V.int i=V.int j)=(i==j):=by
 rw[Bool.eq_iff_iff]
 simp
theorem zlY{i j:Bool}:decide (V.bl i=V.bl j)=(i==j):=by
 rw[Bool.eq_iff_iff]
 simp
theorem zi7{i j:Str}:decide (V.str i=V.str j)=(i==j):=by
 rw[Bool.eq_iff_iff]
 simp
theorem zi8{i j:Array UInt8}:decide (V.byt i=V.byt j)=(i.toList==j.toList):=by
 rw[Bool.eq_iff_iff]
 cases i
 cases j
 simp
section
variable {X:Cx} {a b c:Expr} {ta tb tc:TE} {pos:Pos}
theorem zaV{pins:List (Addr×Obj)}{σ:St}{H:Hp}{s:Shared}{Q:VK}{k k':Bool}(I:Inv X pins σ H s)(q:Q (.bl k) H)(e:k=k'):EP X pins σ Q (.bool k') s:=by
 subst e
 exact⟨.bl k,H,I,rfl,q⟩
theorem zoM:OpR X (compareOp .Eq) rEq:=by
 intro pins s σ H x y v u Q I rx ry h
 obtain⟨hs,q⟩:=h
 cases x with
 | non =>
  cases rx
  cases y with
  | non=>cases ry;exact PySem.EqNone.eq_none_none (zaV I q (by simp))
  | bl j=>cases ry;exact PySem.EqNone.eq_none_bool (zaV I q (by simp))
  | int j=>obtain⟨t',rfl⟩:=ry;exact PySem.EqNone.eq_none_int (zaV I q (by simp))
  | str j=>obtain⟨t',rfl⟩:=ry;exact PySem.EqNone.eq_none_str (zaV I q (by simp))
  | _=>exact absurd (show false=true from hs) Bool.false_ne_true
 | bl i =>
  cases rx
  cases y with
  | non=>cases ry;exact PySem.EqNone.eq_bool_none (zaV I q (by simp))
  | bl j=>cases ry;exact eq_bool (zaV I q zlY)
  | str j=>obtain⟨t',rfl⟩:=ry;exact PySem.EqMixed.eq_bool_str (zaV I q (by simp))
  | _=>exact absurd (show false=true from hs) Bool.false_ne_true
 | int i =>
  obtain⟨t,rfl⟩:=rx
  cases y with
  | non=>cases ry;exact PySem.EqNone.eq_int_none (zaV I q (by simp))
  | int j=>obtain⟨t',rfl⟩:=ry;exact eq_int (zaV I q zi6)
  | str j=>obtain⟨t',rfl⟩:=ry;exact PySem.EqMixed.eq_int_str (zaV I q (by simp))
  | _=>exact absurd (show false=true from hs) Bool.false_ne_true
 | str i =>
  obtain⟨t,rfl⟩:=rx
  cases y with
  | non=>cases ry;exact PySem.EqNone.eq_str_none (zaV I q (by simp))
  | bl j=>cases ry;exact PySem.EqMixed.eq_str_bool (zaV I q (by simp))
  | int j=>obtain⟨t',rfl⟩:=ry;exact PySem.EqMixed.eq_str_int (zaV I q (by simp))
  | str j=>obtain⟨t',rfl⟩:=ry;exact eq_str (zaV I q zi7)
  | _=>exact absurd (show false=true from hs) Bool.false_ne_true
 | byt i =>
  obtain⟨t,rfl⟩:=rx
  cases y with
  | byt j=>obtain⟨t',rfl⟩:=ry;exact PySem.W.eq_bytes (zaV I q zi8)
  | _=>exact absurd (show false=true from hs) Bool.false_ne_true
 | _=>cases y<;>exact absurd (show false=true from hs) Bool.false_ne_true
theorem zqW:OpR X (compareOp .NotEq) rNe:=by
 intro pins s σ H x y v u Q I rx ry h
 obtain⟨hs,q⟩:=h
 cases x with
 | non =>
  cases rx
  cases y with
  | non=>cases ry;exact PySem.EqNone.ne_none_none (zaV I q (by simp))
  | bl j=>cases ry;exact PySem.EqNone.ne_none_bool (zaV I q (by simp))
  | int j=>obtain⟨t',rfl⟩:=ry;exact PySem.EqNone.ne_none_int (zaV I q (by simp))
  | str j=>obtain⟨t',rfl⟩:=ry;exact PySem.EqNone.ne_none_str (zaV I q (by simp))
  | _=>exact absurd (show false=true from hs) Bool.false_ne_true
 | bl i =>
  cases rx
  cases y with
  | non=>cases ry;exact PySem.EqNone.ne_bool_none (zaV I q (by simp))
  | bl j=>cases ry;exact ne_bool (zaV I q (congrArg not zlY))
  | str j=>obtain⟨t',rfl⟩:=ry;exact PySem.EqMixed.ne_bool_str (zaV I q (by simp))
  | _=>exact absurd (show false=true from hs) Bool.false_ne_true
 | int i =>
  obtain⟨t,rfl⟩:=rx
  cases y with
  | non=>cases ry;exact PySem.EqNone.ne_int_none (zaV I q (by simp))
  | int j=>obtain⟨t',rfl⟩:=ry;exact ne_int (zaV I q (congrArg not zi6))
  | str j=>obtain⟨t',rfl⟩:=ry;exact PySem.EqMixed.ne_int_str (zaV I q (by simp))
  | _=>exact absurd (show false=true from hs) Bool.false_ne_true
 | str i =>
  obtain⟨t,rfl⟩:=rx
  cases y with
  | non=>cases ry;exact PySem.EqNone.ne_str_none (zaV I q (by simp))
  | bl j=>cases ry;exact PySem.EqMixed.ne_str_bool (zaV I q (by simp))
  | int j=>obtain⟨t',rfl⟩:=ry;exact PySem.EqMixed.ne_str_int (zaV I q (by simp))
  | str j=>obtain⟨t',rfl⟩:=ry;exact ne_str (zaV I q (congrArg not zi7))
  | _=>exact absurd (show false=true from hs) Bool.false_ne_true
 | byt i =>
  obtain⟨t,rfl⟩:=rx
  cases y with
  | byt j=>obtain⟨t',rfl⟩:=ry;exact PySem.W.ne_bytes (zaV I q (congrArg not zi8))
  | _=>exact absurd (show false=true from hs) Bool.false_ne_true
 | _=>cases y<;>exact absurd (show false=true from hs) Bool.false_ne_true
theorem zoN:OpR X (compareOp .Lt) (rI0 fun i j=>.bl (decide (i<j))):=zqq fun _ _ _ _ _ _ _ q=>lt_int q
theorem zqX:OpR X (compareOp .LtE) (rI0 fun i j=>.bl (decide (i<=j))):=zqq fun _ _ _ _ _ _ _ q=>le_int q
theorem zoO:OpR X (compareOp .Gt) (rI0 fun i j=>.bl (decide (j<i))):=zqq fun _ _ _ _ _ _ _ q=>gt_int q
theorem zqY:OpR X (compareOp .GtE) (rI0 fun i j=>.bl (decide (j<=i))):=zqq fun _ _ _ _ _ _ _ q=>ge_int q
theorem zb4(b:Expr){op:CmpOp}(h:op≠.In:=by decide)(h2:op≠.NotIn:=by decide):behindInMarks op b=false:=by
 have e1:(op==CmpOp.In)=false:=by cases op<;>first|rfl|exact absurd rfl h
 have e2:(op==CmpOp.NotIn)=false:=by cases op<;>first|rfl|exact absurd rfl h2
 cases b<;>simp[behindInMarks,e1,e2]
theorem zi9{op:CmpOp}{r:R2}(ho:OpR X (compareOp op) r)(ha:PE X a ta)(hb:PE X b tb)(hm:behindInMarks op b=false):PE X (.Compare a [op] [b] pos) (tOp r ta tb):=by
 intro pins s σ H Q I h
 exact wpAny_Compare1 (zqT ha hb I h fun v u s2 x y H2 I2 rx ry q=>ho pins s2 σ H2 x y v u Q I2 rx ry q) hm
def zqZ(t:TE):TT:=fun σ H Q=>t σ H fun x H'=>∃k,x=.bl k/\Q k H'
theorem zm2{op:CmpOp}{r:R2}(ho:OpR X (compareOp op) r)(ha:PE X a ta)(hb:PE X b tb)(hm:behindInMarks op b=false):PT X (.Compare a [op] [b] pos) (zqZ (tOp r ta tb)):=by
 intro pins s σ H Q I h
 refine wpAny_isTrue_Compare1 (thn (ha pins s σ H _ I h) fun v s1 ⟨x,H1,I1,r1,q1⟩=>thn (hb pins s1 σ H1 _ I1 q1) fun u s2 ⟨y,H2,I2,r2,q2⟩ =>
  thn (ho pins s2 σ H2 x y v u _ I2 r1 r2 q2) fun c s3 ⟨z,H3,I3,r3,k,e,q3⟩=>?_) hm
 subst e
 cases r3
 exact wpAny_truthy_bool ⟨H3,I3,q3⟩
def zqr(K:PySem.W.Frag)(x:V)(H:Hp)(k:Bool):Prop :=
 match x with
 | .non=>k=false
 | .bl b=>k=b
 | .int i=>k=(i != 0)
 | .str y=>y.length<=sizeLine/\k=((y.length:Int) != 0)
 | .byt y=>y.size<=sizeLine/\k=((y.size:Int) != 0)
 | .ref p=>(∃xs,SqL K H p xs/\k=!xs.isEmpty)\/(∃xs,SqT K H p xs/\k=!xs.isEmpty)\/∃kvs,H p=some (.dK kvs)/\k=!kvs.isEmpty
 | _=>False
theorem zii{κ:Type}{kvs:List (κ×V)}{vs:List (κ×Value)}(r:KV kvs vs):(!vs.isEmpty)=!kvs.isEmpty:=by
 cases r<;>rfl
theorem zeY{xs:List V}{its:List Value}(r:Vals xs its):(!its.toArray.isEmpty)=!xs.isEmpty:=by
 cases r<;>simp
theorem zf7:(sizeLine:Nat)<2 ^ 63:=by rw[sizeLine_eq];decide
theorem zoP:zsK X (fun x H Q=>∃k,zqr X.K x H k/\Q k H):=by
 intro pins s σ H x v Q I rx h
 obtain⟨k,e,q⟩:=h
 have hl:=zf7
 have hs:sizeLine=16777216:=sizeLine_eq
 cases x with
 | non =>
  cases rx
  have e':k=false:=e
  subst e'
  exact truthy_none ⟨H,I,q⟩
 | bl b =>
  cases rx
  have e':k=b:=e
  subst e'
  exact wpAny_truthy_bool ⟨H,I,q⟩
 | int i =>
  obtain⟨t,rfl⟩:=rx
  have e':k=(i != 0):=e
  subst e'
  exact PySem.P.truthy_int ⟨H,I,q⟩
 | str y =>
  obtain⟨t,rfl⟩:=rx
  obtain⟨hy,e'⟩:y.length<=sizeLine/\k=((y.length:Int) != 0):=e
  subst e'
  exact PySem.P.truthy_str (by omega) ⟨H,I.tok _,q⟩
 | byt y =>
  obtain⟨t,rfl⟩:=rx
  obtain⟨hy,e'⟩:y.size<=sizeLine/\k=((y.size:Int) != 0):=e
  subst e'
  exact PySem.W.truthy_bytes (by omega) ⟨H,I.tok _,q⟩
 | ref p =>
  cases rx
  have e':(∃xs,SqL X.K H p xs/\k=!xs.isEmpty)\/(∃xs,SqT X.K H p xs/\k=!xs.isEmpty)\/∃kvs,H p=some (.dK kvs)/\k=!kvs.isEmpty:=e
  rcases e' with ⟨xs,hx,e'⟩|⟨xs,hx,e'⟩|⟨kvs,hx,e'⟩
  ·subst e'
   obtain⟨its,r,pl,hz⟩:=I.list hx
   have hlen:=r.length
   exact wpAny_truthy_list pl.isList (by simp only[List.size_toArray];omega) ⟨H,I.tok _,by rw[zeY r];exact q⟩
  ·subst e'
   obtain⟨its,r,pl,hz⟩:=I.tuple hx
   have hlen:=r.length
   exact truthy_tuple pl (by simp only[List.size_toArray];omega) ⟨H,I.tok _,by rw[zeY r];exact q⟩
  ·subst e'
   obtain⟨hz,hS,vs,r,m⟩:kvs.length<=sizeLine/\(p==sysModules)=false/\∃vs,KV kvs vs/\s.heap.DictOf (za2 X.prog X.w) p vs:=I.hok p _ hx
   have hlen:kvs.length=vs.length:=Paired.length r
   exact wpAny_truthy_dict hS m (by omega) ⟨H,I.tok _,by rw[zii r];exact q⟩
 | _=>exact(show False from e).elim
theorem zkV(ha:PE X a ta)(he:∀whole,isTrue a X.env whole=(do let v <- whole;standAt a.pos;holding [v] (truthy v))) :
  PT X a (fun σ H Q=>ta σ H fun x H'=>∃k,zqr X.K x H' k/\Q k H'):=by
 intro pins s σ H Q I h
 exact isTrue_plain (thn (ha pins s σ H _ I h) fun v s1 ⟨x,H1,I1,r1,q1⟩=>zoP pins s1 σ H1 x v Q I1 r1 q1) (he _)
theorem zeM{x:V}{us:List Value}(r:Vals [x] us):∃u,us=[u]/\RelV x u:=by
 cases r with
 | cons r1 r2=>cases r2;exact⟨_,rfl,r1⟩
theorem zja:CallR X (.type "int") (fun xs H Q=>(∃i,xs=[.int i]/\Q (.int i) H)\/∃k,xs=[.bl k]/\Q (.int (if k then 1 else 0)) H):=by
 intro pins s σ H xs us Q I r h
 rcases h with ⟨i,rfl,q⟩|⟨k,rfl,q⟩
 ·obtain⟨u,rfl,t,rfl⟩:=zeM r
  exact call_int_int ⟨.int i,H,I,⟨_,rfl⟩,q⟩
 ·obtain⟨u,rfl,r1⟩:=zeM r
  cases r1
  exact call_int_bool ⟨.int (if k then 1 else 0),H,I.tok _,⟨_,rfl⟩,q⟩
def zrX(K:PySem.W.Frag)(x:V)(H:Hp)(n:Nat):Prop :=
 match x with
 | .str y=>y.length<=sizeLine/\n=y.length
 | .byt y=>y.size<=sizeLine/\n=y.size
 | .ref p=>(∃xs,SqL K H p xs/\n=xs.length)\/∃xs,SqT K H p xs/\n=xs.length
 | _=>False
theorem zkW:CallR X (.builtin "len") (fun xs H Q=>∃x n,xs=[x]/\zrX X.K x H n/\Q (.int n) H):=by
 intro pins s σ H xs us Q I r h
 obtain⟨x,n,rfl,e,q⟩:=h
 obtain⟨u,rfl,rx⟩:=zeM r
 have hl:=zf7
 have hs:sizeLine=16777216:=sizeLine_eq
 cases x with
 | str y =>
  obtain⟨t,rfl⟩:=rx
  obtain⟨hy,e'⟩:y.length<=sizeLine/\n=y.length:=e
  subst e'
  exact len_str (by omega) ⟨.int _,H,I.tok _,⟨_,rfl⟩,q⟩
 | byt y =>
  obtain⟨t,rfl⟩:=rx
  obtain⟨hy,e'⟩:y.size<=sizeLine/\n=y.size:=e
  subst e'
  exact PySem.W.len_bytes (by omega) ⟨.int _,H,I.tok _,⟨_,rfl⟩,q⟩
 | ref p =>
  cases rx
  have e':(∃xs,SqL X.K H p xs/\n=xs.length)\/∃xs,SqT X.K H p xs/\n=xs.length:=e
  rcases e' with ⟨xs,hx,e'⟩|⟨xs,hx,e'⟩
  ·subst e'
   obtain⟨its,r',pl,hz⟩:=I.list hx
   have hlen:=r'.length
   exact Calls.call_len_list pl.isList (by simp only[List.size_toArray];omega) ⟨.int xs.length,H,I.tok _,⟨_,by simp only[List.size_toArray];rw[hlen]⟩,q⟩
  ·subst e'
   obtain⟨its,r',pl,hz⟩:=I.tuple hx
   have hlen:=r'.length
   exact len_tuple pl (by simp only[List.size_toArray];omega) ⟨.int xs.length,H,I.tok _,⟨_,by simp only[List.size_toArray];rw[hlen]⟩,q⟩
 | _=>exact(show False from e).elim
end
end L2
namespace L2
open PySem PySem.Spec PyProof.Rows
structure ObjM (h:Heap) (x dx C:Addr) (mA:Str->Option Value):Prop where
 obj:h.get? x=some (PySem.W.instObj C dx)
 ns:h.Ns1 dx mA
 ne:dx≠x
theorem zjb{h:Heap}{dx:Addr}{mA:Str->Option Value}(n:h.Ns1 dx mA):∃od,h.get? dx=some od/\∀name,PySem.W.lookIn name od=some (mA name):=by
 obtain⟨o,es,ep,ho,hd,hk,_,hm⟩:=n
 refine⟨o,ho,fun name=>?_⟩
 have e:=hm name
 unfold nsFind findBy at e
 rw[<- Array.find?_toList] at e
 unfold PySem.W.lookIn
 rw[hd]
 dsimp only
 split
 ·rename_i y q
  rw[q] at e
  exact congrArg some e
 ·rename_i q
  rw[q] at e
  have a:es.toList.any (·.refKey)=false:=by
   rw[List.any_eq_false]
   intro y hy
   obtain⟨z,t,hkey⟩:=hk y (Array.mem_toList_iff.mp hy)
   simp[DictEntry.refKey,hkey]
  have a':¬es.toList.any (·.refKey)=true:=by rw[a];exact Bool.false_ne_true
  rw[if_neg a']
  exact congrArg some e
theorem ObjM.look{h:Heap}{x dx C:Addr}{mA:Str->Option Value}(I:ObjM h x dx C mA):∃od,PySem.W.InstAt h x (PySem.W.instObj C dx) C (some od)/\∀name,PySem.W.lookIn name od=some (mA name) :=
 let ⟨od,ho,hl⟩:=zjb I.ns
 ⟨od,⟨I.obj,rfl,rfl,ho⟩,hl⟩
section
variable {prog:Program} {w:World} {A:Around} {E:Value->Shared->Prop} {s:Shared} {K:PySem.W.Frag} {x dx C f:Addr} {mA:Str->Option Value} {name:Str} {v:Value}
theorem zm3{expr:Bool}{Q:Value->Shared->Prop}(X:K.In s.heap)(I:ObjM s.heap x dx C mA)(hg:PySem.W.plainGet K C name=true)(hh:PySem.W.hasDictIn K C=true)(ha:PySem.W.findIn K (.ref C) name=some none)(hv:mA name=some v)(hv':PySem.W.handedIn v=true)(h:Q v { s with toks:=s.toks+1 }) :
  wpAny (model prog w) A (getAttr (.ref x) name expr) Q E s:=by
 obtain⟨od,J,hl⟩:=I.look
 exact PySem.W.get_value X J (PySem.W.plainGet_of hg).1 (PySem.W.findObj_own hh ha rfl (by rw[hl,hv])) hv' h
theorem zkX{pl:Sem Bool}{Q:Value×List Value->Shared->Prop}(X:K.In s.heap)(I:ObjM s.heap x dx C mA)(hg:PySem.W.plainGet K C name=true)(hf:PySem.W.findIn K (.ref C) name=some (some (.ref f)))(ht:PySem.W.isFn K (.ref f)=true)(hv:mA name=none)(h:Q (.ref f,[.ref x]) s) :
  wpAny (model prog w) A (getMethod (.ref x) name pl) Q E s:=by
 obtain⟨od,J,hl⟩:=I.look
 exact PySem.W.method_fn X J (PySem.W.plainGet_of hg).1 (PySem.W.plainGet_of hg).2 hf (beq_iff_eq.mp ht) (by show(PySem.W.lookIn name od).map (·.isSome)=some false;rw[hl,hv];rfl) h
theorem zm4{ns:List Str}{Q:Unit->Shared->Prop}(X:K.In s.heap)(I:ObjM s.heap x dx C mA)(hs:PySem.W.findIn K (.ref C) "__setattr__" = some (some (.builtin "object.__setattr__")))(hp:PySem.W.plainOver K C=true)(ht:PySem.W.takerIn K C name=some none)(hh:PySem.W.hasDictIn K C=true)(hw:PySem.Within mA ns)(hsz:ns.length<=sizeLine)(h:∀h',ObjM h' x dx C (fun y=>if y=name then some v else mA y)->Heap.SameBut dx s.heap h'->Q () { s with heap:=h',toks:=s.toks+2 }) :
  wpAny (model prog w) A (setAttr (.ref x) name v) Q E s:=by
 obtain⟨od,J,hl⟩:=I.look
 refine PySem.W.set_plain X J hs (PySem.W.osa_open (s:={ s with toks:=s.toks+1 }) (r:=none) X J hp ht fun b=>?_)
 obtain⟨cd,hc,hd'⟩:=PySem.W.any_some hh
 have hx:s.heap.get? x=some ⟨.ref C,some dx,.plain,#[]⟩:=I.obj
 refine wpAny_bind (wpAny_pure (wpAny_bind (wpAny_bind (wpAny_loadPart hx (wpAny_bind (PySem.W.Looks.here (s:={ s with toks:=s.toks+1 }) (PySem.W.looks_clsIn X hc) ?_))))))
 rw[hd']
 refine wpAny_pure (a:=some dx) (wpAny_bind (wpAny_pure (wpAny_bind ?_)))
 refine wpAny_nsSet1 (s:={ s with toks:=s.toks+1 }) I.ns fun h' hn2 hs2=>?_
 obtain⟨oD,esD,epD,hoD,hdD,hcD⟩:=hn2.count (PySem.Within.cons name v hw)
 refine wpAny_bind (wpAny_lookBehind hoD (by rw[hdD];exact pastItsLine_dict (Nat.le_trans hcD (by rw[List.length_cons];omega))) ?_)
 exact wpAny_pure (h _ ⟨(hs2.2 _ (Ne.symm I.ne)).trans I.obj,hn2,I.ne⟩ hs2)
theorem zkY{R:Result->Shared->Prop}{vs:List Value}{kw:List (Str×Value)}(X:K.In s.heap)(hm:PySem.W.makesIn K C=true)(hi:PySem.W.findIn K (.ref C) "__init__" = some (some (.ref f)))(hf:PySem.W.typeIn K (.ref f)=some (.type "function"))(h:codeAny (model prog w) (A.under (.builtin "type.__call__" ⟨.ref C::vs,kw⟩)) (.call (.ref f) ⟨.ref (s.heap.objs.size+1)::vs,kw⟩) (PySem.W.InitBack (s.heap.objs.size+1) R)
   { s with heap:=(s.heap.push PySem.W.emptyDict).push (PySem.W.instObj C s.heap.objs.size) }) :
  codeAny (model prog w) A (.call (.ref C) ⟨vs,kw⟩) R s:=by
 obtain⟨hh,g,d,t,os⟩:=s
 exact PySem.W.make_core (PySem.W.makes_of X hm) (PySem.W.looks_findIn X hi) (fun self=>PySem.W.bind_fn X self hf) (.inl rfl) h
end
def zfl(f:Str)(v:V):List (Str×V)->List (Str×V)
 | []=>[(f,v)]
 | (g,x)::r=>if g=f then (g,v)::r else (g,x)::zfl f v r
theorem zeb(f g:Str)(v:V):∀fs:List (Str×V),(zfl f v fs).lookup g=if g=f then some v else fs.lookup g
 | []=>by
  show List.lookup g [(f,v)]=_
  by_cases h:g=f
  ·have hb:(g==f)=true:=beq_iff_eq.mpr h
   simp only[List.lookup,hb,if_pos h]
  ·have hb:(g==f)=false:=beq_eq_false_iff_ne.mpr h
   simp only[List.lookup,hb,if_neg h]
 | (k,x)::r=>by
  have ih:=zeb f g v r
  rw[show zfl f v ((k,x)::r)=(if k=f then (k,v)::r else (k,x)::zfl f v r) from rfl]
  by_cases hk:k=f
  ·rw[if_pos hk]
   by_cases h:g=k
   ·have hb:(g==k)=true:=beq_iff_eq.mpr h
    simp only[List.lookup,hb,if_pos (h.trans hk)]
   ·have hb:(g==k)=false:=beq_eq_false_iff_ne.mpr h
    simp only[List.lookup,hb,if_neg (fun e:g=f=>h (e.trans hk.symm))]
  ·rw[if_neg hk]
   by_cases h:g=k
   ·have hb:(g==k)=true:=beq_iff_eq.mpr h
    simp only[List.lookup,hb,if_neg (fun e:g=f=>hk (h.symm.trans e))]
   ·have hb:(g==k)=false:=beq_eq_false_iff_ne.mpr h
    simp only[List.lookup,hb]
    exact ih
theorem zec(f:Str)(v:V):∀fs:List (Str×V),f∈(zfl f v fs).map (·.1)/\∀g,g∈fs.map (·.1)->g∈(zfl f v fs).map (·.1)
 | []=>⟨by simp[zfl],fun g h=>by simp at h⟩
 | (k,x)::r=>by
  obtain⟨i1,i2⟩:=zec f v r
  rw[show zfl f v ((k,x)::r)=(if k=f then (k,v)::r else (k,x)::zfl f v r) from rfl]
  by_cases hk:k=f
  ·rw[if_pos hk]
   subst hk
   exact⟨by simp,fun g h=>by simpa using h⟩
  ·rw[if_neg hk]
   refine⟨?_,fun g h=>?_⟩
   ·rw[List.map_cons]
    exact List.mem_cons_of_mem _ i1
   ·rw[List.map_cons] at h ⊢
    rcases List.mem_cons.mp h with e|e
    ·exact List.mem_cons.mpr (.inl e)
    ·exact List.mem_cons_of_mem _ (i2 g e)
theorem zed(f:Str)(v:V):∀fs:List (Str×V),(zfl f v fs).length<=fs.length+1
 | []=>by simp[zfl]
 | (k,x)::r=>by
  have ih:=zed f v r
  rw[show zfl f v ((k,x)::r)=(if k=f then (k,v)::r else (k,x)::zfl f v r) from rfl]
  by_cases hk:k=f
  ·rw[if_pos hk,List.length_cons,List.length_cons];omega
  ·rw[if_neg hk,List.length_cons,List.length_cons];omega
theorem RelO.some_of{v:V}{o:Option Value}(r:RelO (some v) o):∃u,o=some u/\RelV v u:=by
 cases o with
 | none=>exact(show False from r).elim
 | some u=>exact⟨u,rfl,r⟩
theorem RelO.none_of{o:Option Value}(r:RelO none o):o=none:=by
 cases o with
 | none=>rfl
 | some u=>exact(show False from r).elim
theorem zjc{v:V}{u:Value}(r:RelV v u):PySem.W.handedIn u=true:=by
 cases v with
 | non=>cases (show u=Value.none from r);rfl
 | bl b=>cases (show u=Value.bool b from r);rfl
 | int i=>obtain⟨t,e⟩:=(show ∃t,u=Value.int i t from r);cases e;rfl
 | str x=>obtain⟨t,e⟩:=(show ∃t,u=Value.str x t from r);cases e;rfl
 | byt b=>obtain⟨t,e⟩:=(show ∃t,u=Value.bytes b t from r);cases e;rfl
 | flt b=>obtain⟨t,e⟩:=(show ∃t,u=Value.float b t from r);cases e;rfl
 | ref a=>cases (show u=Value.ref a from r);rfl
 | ty n=>cases (show u=Value.type n from r);rfl
section
variable {P:Program} {w:World} {H H':Hp} {h h':Heap} {a C dx:Addr} {fs fs':List (Str×V)}
theorem zgY(hok:HOk P w H h)(e:H a=some (.ins C dx fs)):∃mA,ObjM h a dx C mA/\(∀f,RelO (fs.lookup f) (mA f))/\PySem.Within mA (fs.map (·.1))/\fs.length<=1000/\H dx=some (.own a):=by
 obtain⟨d,z,ne,ob,mA,n,r,q⟩:=(show ObjOk P w H h a (.ins C dx fs) from hok a _ e)
 exact⟨mA,⟨ob,n,ne⟩,r,q,z,d⟩
end
structure Cls (K:PySem.W.Frag) (C:Addr):Prop where
 pg:PySem.W.plainGet K C Str.empty=true
 hd:PySem.W.hasDictIn K C=true
 po:PySem.W.plainOver K C=true
 sa:PySem.W.findIn K (.ref C) "__setattr__" = some (some (.builtin "object.__setattr__"))
theorem Cls.get{K:PySem.W.Frag}{C:Addr}(c:Cls K C)(f:Str):PySem.W.plainGet K C f=true:=c.pg
def NoAttr(K:PySem.W.Frag)(C:Addr)(f:Str):Prop:=PySem.W.findIn K (.ref C) f=some none
theorem NoAttr.taker{K:PySem.W.Frag}{C:Addr}{f:Str}(n:NoAttr K C f):PySem.W.takerIn K C f=some none:=by
 unfold PySem.W.takerIn
 rw[show PySem.W.findIn K (.ref C) f=some none from n]
 rfl
structure Meth (K:PySem.W.Frag) (C:Addr) (m:Str) (f:Addr):Prop where
 at_:PySem.W.findIn K (.ref C) m=some (some (.ref f))
 fn:PySem.W.isFn K (.ref f)=true
 kp:PySem.W.keepIn K (.ref f)=true
section
variable {X:Cx} {pins:List (Addr×Obj)} {σ:St} {H:Hp} {s:Shared} {a C dx:Addr} {fs:List (Str×V)} {f:Str} {v:V} {A:Around} {E:Value->Shared->Prop}
theorem zij{b:Bool}{Q:Value->Shared->Prop}(I:Inv X pins σ H s)(e:H a=some (.ins C dx fs))(c:Cls X.K C)(n:NoAttr X.K C f)(l:fs.lookup f=some v)(h:∀u s',Inv X pins σ H s'->RelV v u->Q u s'):wpAny (model X.prog X.w) A (getAttr (.ref a) f b) Q E s:=by
 obtain⟨mA,O,r,_,_,_⟩:=zgY I.hok e
 obtain⟨u,hu,ru⟩:=RelO.some_of (v:=v) (o:=mA f) (by rw[<- l];exact r f)
 exact zm3 I.kIn O (c.get f) c.hd n hu (zjc ru) (h u _ (I.tok _) ru)
theorem zik{m:Str}{g:Addr}{pl:Sem Bool}{Q:Value×List Value->Shared->Prop}(I:Inv X pins σ H s)(e:H a=some (.ins C dx fs))(c:Cls X.K C)(k:Meth X.K C m g)(l:fs.lookup m=none)(h:Q (.ref g,[.ref a]) s):wpAny (model X.prog X.w) A (getMethod (.ref a) m pl) Q E s:=by
 obtain⟨mA,O,r,_,_,_⟩:=zgY I.hok e
 have hn:mA m=none:=RelO.none_of (by rw[<- l];exact r m)
 exact zkX I.kIn O (c.get m) k.at_ k.fn hn h
theorem zil{y:V}{u:Value}{Q:Unit->Shared->Prop}(I:Inv X pins σ H s)(e:H a=some (.ins C dx fs))(c:Cls X.K C)(n:NoAttr X.K C f)(hl:fs.length<1000)(ry:RelV y u)(h:∀s',Inv X pins σ (upd H a (.ins C dx (zfl f y fs))) s'->Q () s'):wpAny (model X.prog X.w) A (setAttr (.ref a) f u) Q E s:=by
 obtain⟨mA,O,r,wi,_,ho⟩:=zgY I.hok e
 have hz:(fs.map (·.1)).length<=sizeLine:=by rw[List.length_map,sizeLine_eq];omega
 refine zm4 I.kIn O c.sa c.po n.taker c.hd wi hz fun h' O' sb=>h _ ?_
 have hd:∃o,h'.get? dx=some o:=let ⟨o,_,_,e',_⟩:=O'.ns;⟨o,e'⟩
 refine I.write (x:=a) (e:=dx) (by rw[e];exact True.intro) (.inr ho) (fun b q hb z=>(sb.2 b hb).trans z) hd ?_
 refine⟨by rw[zaG O.ne];exact ho,?_,O.ne,O'.obj,_,O'.ns,fun g=>?_,fun g hg=>?_⟩
 ·have:=zed f y fs;omega
 ·show RelO ((zfl f y fs).lookup g) (if g=f then some u else mA g)
  rw[zeb]
  by_cases q:g=f
  ·rw[if_pos q,if_pos q];exact ry
  ·rw[if_neg q,if_neg q];exact r g
 ·by_cases q:g=f
  ·rw[q];exact(zec f y fs).1
  ·refine(zec f y fs).2 g (wi g fun z=>hg ?_)
   show(if g=f then some u else mA g)=none
   rw[if_neg q];exact z
theorem Inv.made(I:Inv X pins σ H s):Inv X pins σ (upd (upd H s.heap.objs.size (.own (s.heap.objs.size+1))) (s.heap.objs.size+1) (.ins C s.heap.objs.size []))
  { s with heap:=(s.heap.push PySem.W.emptyDict).push (PySem.W.instObj C s.heap.objs.size) }:=by
 have e1:(s.heap.push PySem.W.emptyDict).get? s.heap.objs.size=some PySem.W.emptyDict:=Heap.get?_push_size s.heap rfl
 have e2:((s.heap.push PySem.W.emptyDict).push (PySem.W.instObj C s.heap.objs.size)).get? (s.heap.objs.size+1)=some (PySem.W.instObj C s.heap.objs.size):=by
  have:=Heap.get?_push_size (s.heap.push PySem.W.emptyDict) (o:=PySem.W.instObj C s.heap.objs.size) rfl
  rwa [Heap.size_push] at this
 have e3:(s.heap.push PySem.W.emptyDict).Ns s.heap.objs.size (fun _=>none):=⟨PySem.W.emptyDict,#[],_,e1,rfl,(fun e he=>absurd he (by simp)),fun _=>rfl⟩
 have I1:=I.laid (a:=s.heap.objs.size) (o:=.own (s.heap.objs.size+1)) (h':=s.heap.push PySem.W.emptyDict) (t':=s.toks) (fun b u q=>Heap.get?_push_of_some _ q) (Nat.le_refl _) ⟨_,e1⟩
 refine I1.laid (a:=s.heap.objs.size+1) (o:=.ins C s.heap.objs.size []) (t':=s.toks) (fun b u q=>Heap.get?_push_of_some _ q) (Nat.le_of_eq (Heap.size_push _ _)) ?_
 have ne:s.heap.objs.size≠s.heap.objs.size+1:=Nat.ne_of_lt (Nat.lt_succ_self _)
 refine⟨by rw[zaG ne,zaH],Nat.zero_le _,ne,e2,fun _=>none,(Heap.Ns1.of_empty e3).at fun o q=>Heap.get?_push_of_some _ q,fun _=>True.intro,fun y hy=>absurd rfl hy⟩
theorem zm5{prog:Program}{w:World}{env:Env}{e:Expr}{f:Str}{pos:Pos}{s:Shared}{Q:Value->Shared->Prop}(hb:attributeBase e f env (eval e env)=eval e env)(h:wpAny (model prog w) A (eval e env) (fun o s₁=>wpAny (model prog w) A (getAttr o f true) Q E s₁) E s):wpAny (model prog w) A (eval (.Attribute e f pos) env) Q E s :=
 Attribute_any_ h (by rw[arm_eval_Attribute,hb])
end
def zsL(K:PySem.W.Frag)(ta:TE)(f:Str):TE:=fun σ H Q=>ta σ H fun x H1=>∃a C dx fs v,x=.ref a/\H1 a=some (.ins C dx fs)/\Cls K C/\NoAttr K C f/\fs.lookup f=some v/\Q v H1
def zsM(K:PySem.W.Frag)(ta tv:TE)(f:Str):TS:=fun D σ H=>tv σ H fun y H1=>ta σ H1 fun x H2=>∃a C dx fs,x=.ref a/\H2 a=some (.ins C dx fs)/\Cls K C/\NoAttr K C f/\fs.length<1000 /\
 D.nx σ (upd H2 a (.ins C dx (zfl f y fs)))
section
variable {X:Cx} {o e value:Expr} {f:Str} {pos pos' tpos:Pos} {ta tv:TE}
theorem zoQ(he:PE X e ta)(hb:attributeBase e f X.env (eval e X.env)=eval e X.env):PE X (.Attribute e f pos) (zsL X.K ta f):=by
 intro pins s σ H Q I h
 refine zm5 hb (thn (he pins s σ H _ I h) fun u s1 ⟨x,H1,I1,rx,a,C,dx,fs,v,ex,ea,c,n,l,q⟩=>?_)
 subst ex
 obtain rfl:u=Value.ref a:=rx
 exact zij I1 ea c n l fun u' s2 I2 ru=>⟨v,H1,I2,ru,q⟩
theorem zoR(ha:PE X o ta)(hv:PE X value tv)(hs:swapsWith value (some (.Attribute o f pos')) pos.line X.env=pure false):PS X (.Assign [.Attribute o f pos'] value pos) (zsM X.K ta tv f):=by
 intro pins s σ H D I h
 refine plainObj_wpAny_Assign_Attribute (thn (hv pins s σ H _ I h) fun u s1 ⟨y,H1,I1,ry,q⟩=>thn (ha pins s1 σ H1 _ I1 q) fun ov s2 ⟨x,H2,I2,rx,a,C,dx,fs,ex,ea,c,n,l,q2⟩=>?_) hs
 subst ex
 obtain rfl:ov=Value.ref a:=rx
 exact zil I2 ea c n l ry fun s3 I3=>⟨σ,_,I3,q2⟩
end
section
variable {X:Cx} {pins:List (Addr×Obj)} {σ:St} {H:Hp} {s:Shared} {A:Around} {E:Value->Shared->Prop} {Q:Value->Shared->Prop} {c:Value} {b:Bool}
end
end L2
namespace L2
open PySem PySem.Spec PyProof.Rows
structure Room (k:Nat) (A:Around):Prop where
 hd:A.handled=none
 dp:A.depth+3*k+5<recursionLimit
 un:A.units+16*k+200<cLine
theorem Room.mono{j k:Nat}{A:Around}(r:Room k A)(h:j<=k):Room j A:=⟨r.hd,by have:=r.dp;omega,by have:=r.un;omega⟩
theorem Room.deeper{k:Nat}{A:Around}(r:Room (k+1) A)(env:Env):Room k (A.deeper env) :=
 ⟨r.hd,by have:=r.dp;show A.depth+1+3*k+5<_;omega,by have:=r.un;show A.units+3+16*k+200<_;omega⟩
theorem zim{A:Around}{C:Addr}{us:List Value}{kw:List (Str×Value)}:(A.under (.builtin "type.__call__" ⟨.ref C::us,kw⟩)).depth=A.depth+1:=by
 first|rfl|simp[Around.under,Code.weight,Code.isCreation,Code.isGuard,Code.isCaller,Code.frames,Code.isFrame,guardIds]
theorem zin{A:Around}{C:Addr}{us:List Value}{kw:List (Str×Value)}:(A.under (.builtin "type.__call__" ⟨.ref C::us,kw⟩)).units=A.units+1:=by
 first|rfl|simp[Around.under,Code.cUnits,Code.frames,Code.isFrame]
theorem Room.make{k:Nat}{A:Around}(r:Room (k+1) A)(C:Addr)(us:List Value)(kw:List (Str×Value)):Room k (A.under (.builtin "type.__call__" ⟨.ref C::us,kw⟩)) :=
 ⟨r.hd,by have:=r.dp;rw[zim];omega,by have:=r.un;rw[zin];omega⟩
theorem Room.depth{k:Nat}{A:Around}(r:Room k A):A.depth<recursionLimit:=by have:=r.dp;omega
theorem Room.units{k:Nat}{A:Around}(r:Room k A):A.units+64<cLine:=by have:=r.un;omega
def zsN:TA:=fun _ H Q=>Q [] H
def zq0(ta:TE)(tr:TA):TA:=fun σ H Q=>ta σ H fun x H1=>tr σ H1 fun xs H2=>Q (x::xs) H2
section
variable {X:Cx} {e:Expr} {es:List Expr} {te:TE} {t:TA} {pos:Pos}
theorem zlZ:PA X [] zsN:=fun _ _ _ _ H Q I h=>Calls.spliced_nil ⟨[],H,I,.nil,h⟩
theorem zjd(ha:PE X e te)(hr:PA X es t)(hs:starEach (e::es) X.env=(false,eval e X.env)::starEach es X.env:=by rfl):PA X (e::es) (zq0 te t):=by
 intro pos pins s σ H Q I h
 rw[hs]
 show wpAny _ _ (spliced ((false,eval e X.env)::backTo pos (starEach es X.env))) _ _ s
 refine Calls.spliced_cons (thn (ha pins s σ H _ I h) fun u s1 ⟨x,H1,I1,r1,q1⟩=>?_)
 exact thn (hr pos pins s1 σ H1 _ I1 q1) fun us s2 ⟨xs,H2,I2,r2,q2⟩=>⟨x::xs,H2,I2,.cons r1 r2,q2⟩
def zsO(t:TA):TE:=fun σ H Q=>t σ H fun xs H1=>xs.length<=sizeLine/\∀p,H1 p=none->Q (.ref p) (upd H1 p (.tup xs))
def zsP(t:TA):TE:=fun σ H Q=>t σ H fun xs H1=>xs.length<=sizeLine/\∀p,H1 p=none->Q (.ref p) (upd H1 p (.lst xs))
theorem zoS{x1}(h:PA X es t):PE X (.Tuple es x1 pos) (zsO t):=by
 intro pins s σ H Q I hq
 refine wpAny_Tuple_spliced (thn (h pos pins s σ H _ I hq) fun us s1 ⟨xs,H1,I1,r,z,q⟩=>⟨by rw[<- r.length];exact z,?_⟩)
 have hf:H1 s1.heap.objs.size=none:=I1.hok.fresh (Nat.le_refl _)
 refine⟨.ref s1.heap.objs.size,upd H1 s1.heap.objs.size (.tup xs),I1.laid (t':=s1.toks) (fun b u e=>Heap.get?_push_of_some _ e) (Nat.le_refl _) ?_,rfl,q _ hf⟩
 exact⟨z,us,r,⟨_,Heap.get?_push_size _ rfl,rfl,⟨_,rfl⟩,rfl⟩⟩
theorem zje(h:PA X es t):PE X (.List es pos) (zsP t):=by
 intro pins s σ H Q I hq
 refine wpAny_List_spliced (thn (h pos pins s σ H _ I hq) fun us s1 ⟨xs,H1,I1,r,z,q⟩=>⟨by rw[<- r.length];exact z,?_⟩)
 have hf:H1 s1.heap.objs.size=none:=I1.hok.fresh (Nat.le_refl _)
 refine⟨.ref s1.heap.objs.size,upd H1 s1.heap.objs.size (.lst xs),I1.laid (t':=s1.toks) (fun b u e=>Heap.get?_push_of_some _ e) (Nat.le_refl _) ?_,rfl,q _ hf⟩
 exact⟨z,us,0,r,Heap.get?_push_size _ rfl⟩
end
abbrev Sp:=List V->Hp->VK->XK->Prop
abbrev CXT:=List Env->Hp->Shared->XK->Value->Shared->Prop
structure Env0 (P:Program) (w:World) (K:PySem.W.Frag) (mg:Str->Option Value) (base:Heap) (A:Around) (outer:List Env) (s:Shared) (H:Hp):Prop where
 frames:A.frames=some outer
 mod:Mod K mg base
 bs:∀b o,base.get? b=some o->s.heap.get? b=some o/\H b=none
 bsz:base.objs.size<=s.heap.objs.size
 funs:s.heap.FunFrames base outer
 frf:∀b∈frs outer,H b=none
 hok:HOk P w H s.heap
 bare:AllBare s.gens
def CE(outer:List Env)(P:Program)(w:World)(H:Hp)(s:Shared)(Q:VK)(u:Value)(s':Shared):Prop :=
 ∃v H',s'.os=s.os/\AllBare s'.gens/\Un (frs outer) [] H H' s.heap s'.heap/\HOk P w H' s'.heap/\RelV v u/\Q v H'
def CR(CX:CXT)(outer:List Env)(P:Program)(w:World)(H:Hp)(s:Shared)(Q:VK)(E:XK)(r:Result)(s':Shared):Prop :=
 match r with
 | .ok (.ret u)=>CE outer P w H s Q u s'
 | .ok _=>False
 | .error e=>CX outer H s E e s'
structure FnOk (P:Program) (w:World) (K:PySem.W.Frag) (mg:Str->Option Value) (base:Heap) (CX:CXT) (k:Nat) (f:Addr) (fd:FuncData) (ps:List Str) (sp:Sp):Prop where
 len:∀vs H Q E,sp vs H Q E->vs.length=ps.length
 run:∀(A:Around) (outer:List Env) (s:Shared) (H:Hp) (args:Args) (us:List Value) (vs:List V) (Q:VK) (E:XK),Room k A->Env0 P w K mg base A outer s H->BindsTo s fd args (ps.zip us)->Vals vs us->sp vs H Q E ->
  codeAny (model P w) A (.call (.ref f) args) (CR CX outer P w H s Q E) s
theorem FnOk.imp{P:Program}{w:World}{K:PySem.W.Frag}{mg:Str->Option Value}{base:Heap}{CX:CXT}{k:Nat}{f:Addr}{fd:FuncData}{ps:List Str}{sp sp':Sp}(F:FnOk P w K mg base CX k f fd ps sp)(h:∀vs H Q E,sp' vs H Q E->sp vs H Q E):FnOk P w K mg base CX k f fd ps sp' :=
 ⟨fun vs H Q E q=>F.len vs H Q E (h _ _ _ _ q),fun A outer s H args us vs Q E hr he hb hv hs=>F.run A outer s H args us vs Q E hr he hb hv (h _ _ _ _ hs)⟩
theorem Env0.make{P:Program}{w:World}{K:PySem.W.Frag}{mg:Str->Option Value}{base:Heap}{A:Around}{outer:List Env}{s:Shared}{H:Hp}(e:Env0 P w K mg base A outer s H)(C:Addr)(us:List Value)(kw:List (Str×Value)) :
  Env0 P w K mg base (A.under (.builtin "type.__call__" ⟨.ref C::us,kw⟩)) outer s H:=⟨by first|exact e.frames|(simpa[Around.under,Code.envs,Code.isFrame,pushEnvs] using e.frames),e.mod,e.bs,e.bsz,e.funs,e.frf,e.hok,e.bare⟩
section
variable {X:Cx} {pins:List (Addr×Obj)} {σ:St} {H:Hp} {s s':Shared}
theorem Inv.env0(I:Inv X pins σ H s):Env0 X.prog X.w X.K X.mg X.base X.A X.stack s H :=
 ⟨I.ok.frames,I.ok.mod,I.bs,Nat.le_trans I.ok.bsz I.sz,I.stack,I.stkFree,I.hok,I.bare⟩
theorem Inv.after{Q:VK}{u:Value}(I:Inv X pins σ H s)(h:CE X.stack X.prog X.w H s Q u s'):EP X pins σ Q u s':=by
 obtain⟨v,H',os,bare,un,hok,r,q⟩:=h
 obtain⟨hh,g,d,t,os'⟩:=s'
 obtain rfl:os'=s.os:=os
 exact⟨v,H',I.call (h':=hh) (g':=g) (d':=d) (t':=t) (ch:=[]) un hok bare (fun b z=>absurd z (by simp)),r,q⟩
end
def zq1(sp:Sp)(dvs:List V)(E:XK)(t:TA):TE:=fun σ H Q=>t σ H fun vs H1=>sp (vs++dvs) H1 Q E
def zq2(C:Addr)(m:Str)(sp:Sp)(dvs:List V)(E:XK)(ta:TE)(t:TA):TE:=fun σ H Q=>ta σ H fun x H1=>∃a dx fs,x=.ref a/\H1 a=some (.ins C dx fs)/\fs.lookup m=none /\
 t σ H1 fun vs H2=>sp (x::(vs++dvs)) H2 Q E
def zq3(C:Addr)(sp:Sp)(dvs:List V)(E:XK)(t:TA):TE:=fun σ H Q=>t σ H fun vs H1=>∀x dx,H1 x=none->H1 dx=none->dx≠x ->
 sp (.ref x::(vs++dvs)) (upd (upd H1 dx (.own x)) x (.ins C dx [])) (fun v H2=>v=.non/\Q (.ref x) H2) E
def Binds(K:PySem.W.Frag)(fd:FuncData)(ps:List Str)(ds:List Value):Prop :=
 ∀(s:Shared) (us:List Value),K.In s.heap->(us++ds).length=ps.length->BindsTo s fd ⟨us,[]⟩ (ps.zip (us++ds))
theorem Binds.all{K:PySem.W.Frag}{fd:FuncData}{ps:List Str}(h:∀us:List Value,us.length=ps.length->bindArgs fd ⟨us,[]⟩=pure (ps.zip us)):Binds K fd ps []:=fun s us _ hl=>by
 rw[List.append_nil] at hl ⊢
 exact .of_eq (h us hl)
def zcT(CX:CXT)(X:Cx)(E:XK):Prop:=∀(pins:List (Addr×Obj)) (σ:St) (H:Hp) (s:Shared) (e:Value) (s':Shared),Inv X pins σ H s->CX X.stack H s E e s'->X.xe e s'
section
variable {X:Cx} {CX:CXT} {k:Nat} {f C:Addr} {fd:FuncData} {ps:List Str} {sp:Sp} {dvs:List V} {ds:List Value} {E:XK} {x m:Str} {p pos apos:Pos} {e o:Expr} {es:List Expr} {ta:TE} {t:TA}
theorem zf8{pins:List (Addr×Obj)}{σ:St}{H:Hp}{s:Shared}{Q:VK}{us:List Value}{vs:List V}(F:FnOk X.prog X.w X.K X.mg X.base CX k f fd ps sp)(hr:Room k X.A)(hb:Binds X.K fd ps ds)(hd:Vals dvs ds)(hx:zcT CX X E)(I:Inv X pins σ H s)(r:Vals vs us)(h:sp (vs++dvs) H Q E):wpAny (model X.prog X.w) X.A (call (.ref f) us) (EP X pins σ Q) X.xe s:=by
 have r2:Vals (vs++dvs) (us++ds):=r.append hd
 have hl:(us++ds).length=ps.length:=by rw[<- r2.length];exact F.len _ _ _ _ h
 refine wpAny_call (codeAny_mono (F.run X.A X.stack s H ⟨us,[]⟩ (us++ds) (vs++dvs) Q E hr I.env0 (hb s us I.kIn hl) r2 h) fun r s' hq=>?_)
 cases r with
 | error e=>exact hx pins σ H s e s' I hq
 | ok fl =>
  cases fl with
  | ret u=>exact I.after hq
  | next=>exact False.elim hq
  | brk=>exact False.elim hq
  | cont=>exact False.elim hq
theorem zm6(F:FnOk X.prog X.w X.K X.mg X.base CX k f fd ps sp)(hr:Room k X.A)(hg:Gl X x)(hm:X.mg x=some (.ref f))(hk:PySem.W.keepIn X.K (.ref f)=true)(hb:Binds X.K fd ps ds)(hd:Vals dvs ds)(hx:zcT CX X E)(ha:PA X (e::es) t)(hdb:(x==("__debug__" : Str))=false:=by decide)(he:starEach (e::es) X.env=(false,eval e X.env)::starEach es X.env:=by rfl)(hpl:(backTo pos (starEach es X.env)).any (·.1)=false:=by rfl) :
  PE X (.Call (.Name x p) (e::es) [] pos) (zq1 sp dvs E t):=by
 intro pins s σ H Q I h
 refine wpAny_Call_Name_kw (zcs I hg hm ?_ hdb)
 refine PySem.W.callWith_K (h₀:=X.base) I.ok.mod.kin hk (thn (ha pos pins s σ H _ I h) fun us s1 ⟨vs,H1,I1,r,q⟩=>⟨I1.kIn,?_⟩) he hpl
 exact zf8 F hr hb hd hx I1 r q
theorem zm7{pl:Sem Bool}(he:PE X o ta)(c:Cls X.K C)(hm:Meth X.K C m f)(F:FnOk X.prog X.w X.K X.mg X.base CX k f fd ps sp)(hr:Room k X.A)(hb:Binds X.K fd ps ds)(hd:Vals dvs ds)(hx:zcT CX X E)(ha:PA X (e::es) t)(hst:starEach (e::es) X.env=(false,eval e X.env)::starEach es X.env:=by rfl)(hpl:(backTo pos (starEach es X.env)).any (·.1)=false:=by rfl)(ht:eval (.Call (.Attribute o m apos) (e::es) [] pos) X.env=(do
   let ov <- eval o X.env
   standAt apos.atName
   let (f,first) <- holding [ov] (getMethod ov m pl)
   callWith pos f first (backTo pos (starEach (e::es) X.env)) (backToKw pos (keywordEach [] X.env))):=by rfl) :
  PE X (.Call (.Attribute o m apos) (e::es) [] pos) (zq2 C m sp dvs E ta t):=by
 intro pins s σ H Q I h
 refine PySem.W.methodCall_KW (pl:=pl) (thn (he pins s σ H _ I h) fun u s1 ⟨x,H1,I1,rx,a,dx,fs,ex,ea,l,q⟩=>?_) ht
 subst ex
 obtain rfl:u=Value.ref a:=rx
 refine zik I1 ea c hm l ?_
 refine PySem.W.callWith_K (first:=[.ref a]) (h₀:=X.base) I.ok.mod.kin hm.kp (thn (ha pos pins s1 σ H1 _ I1 q) fun us s2 ⟨vs,H2,I2,r,q2⟩=>⟨I2.kIn,?_⟩) hst hpl
 exact zf8 (us:=.ref a::us) (vs:=.ref a::vs) F hr hb hd hx I2 (.cons rfl r) q2
structure Mk (K:PySem.W.Frag) (C f:Addr):Prop where
 makes:PySem.W.makesIn K C=true
 init:PySem.W.findIn K (.ref C) "__init__" = some (some (.ref f))
 fn:PySem.W.isFn K (.ref f)=true
 kp:PySem.W.keepIn K (.ref C)=true
theorem zkZ{pins:List (Addr×Obj)}{σ:St}{H:Hp}{s:Shared}{Q:VK}{us:List Value}{vs:List V}(M:Mk X.K C f)(F:FnOk X.prog X.w X.K X.mg X.base CX k f fd ps sp)(hr:Room (k+1) X.A)(hb:Binds X.K fd ps ds)(hd:Vals dvs ds)(hx:zcT CX X E)(I:Inv X pins σ H s)(r:Vals vs us)(h:∀x dx,H x=none->H dx=none->dx≠x->sp (.ref x::(vs++dvs)) (upd (upd H dx (.own x)) x (.ins C dx [])) (fun v H2=>v=.non/\Q (.ref x) H2) E) :
  wpAny (model X.prog X.w) X.A (call (.ref C) us) (EP X pins σ Q) X.xe s:=by
 have hq:=h (s.heap.objs.size+1) s.heap.objs.size (I.hok.fresh (Nat.le_succ _)) (I.hok.fresh (Nat.le_refl _)) (Nat.ne_of_lt (Nat.lt_succ_self _))
 have I2:=Inv.made (C:=C) I
 have r2:Vals (V.ref (s.heap.objs.size+1)::(vs++dvs)) (Value.ref (s.heap.objs.size+1)::(us++ds)):=.cons rfl (r.append hd)
 have hl:(Value.ref (s.heap.objs.size+1)::us++ds).length=ps.length:=by
  have e:=r2.length
  rw[F.len _ _ _ _ hq] at e
  exact e.symm
 refine wpAny_call (zkY (f:=f) I.kIn M.makes M.init (beq_iff_eq.mp M.fn) (codeAny_mono (F.run _ X.stack _ _ ⟨Value.ref (s.heap.objs.size+1)::us,[]⟩ (Value.ref (s.heap.objs.size+1)::(us++ds)) _ _ E (hr.make C us [])
  (I2.env0.make C us []) (hb _ (Value.ref (s.heap.objs.size+1)::us) I2.kIn hl) r2 hq) fun r s' hq'=>?_))
 cases r with
 | error e=>exact hx pins σ _ _ e s' I2 hq'
 | ok fl =>
  cases fl with
  | ret u =>
   obtain⟨v,H',I3,rv,ev,q3⟩:=I2.after hq'
   subst ev
   exact⟨rv,⟨V.ref (s.heap.objs.size+1),H',I3,rfl,q3⟩⟩
  | next=>exact False.elim hq'
  | brk=>exact False.elim hq'
  | cont=>exact False.elim hq'
theorem zm8(M:Mk X.K C f)(F:FnOk X.prog X.w X.K X.mg X.base CX k f fd ps sp)(hr:Room (k+1) X.A)(hg:Gl X x)(hm:X.mg x=some (.ref C))(hb:Binds X.K fd ps ds)(hd:Vals dvs ds)(hx:zcT CX X E)(ha:PA X (e::es) t)(hdb:(x==("__debug__" : Str))=false:=by decide)(he:starEach (e::es) X.env=(false,eval e X.env)::starEach es X.env:=by rfl)(hpl:(backTo pos (starEach es X.env)).any (·.1)=false:=by rfl) :
  PE X (.Call (.Name x p) (e::es) [] pos) (zq3 C sp dvs E t):=by
 intro pins s σ H Q I h
 refine wpAny_Call_Name_kw (zcs I hg hm ?_ hdb)
 refine PySem.W.callWith_K (h₀:=X.base) I.ok.mod.kin M.kp (thn (ha pos pins s σ H _ I h) fun us s1 ⟨vs,H1,I1,r,q⟩=>⟨I1.kIn,?_⟩) he hpl
 exact zkZ M F hr hb hd hx I1 r q
end
section
variable {X:Cx} {CX:CXT} {k:Nat} {f C:Addr} {fd:FuncData} {ps ks:List Str} {sp:Sp} {E:XK} {x m:Str} {p pos apos kpos:Pos} {e o:Expr} {es:List Expr} {kws:List Keyword} {te ta:TE} {t tk:TA} {nm:Option Str}
variable {g:List Value->List Value->List Value} {gV:List V->List V->List V}
end
structure FnScope (N P:List Str) (sc:Scope):Prop where
 kind:sc.kind=.function
 co:sc.isCoroutine=false
 gen:sc.isGenerator=false
 nd:N.Nodup
 pre:N.take P.length=P
 par:∀x∈P,sc.names.lookup x=some .local\/sc.names.lookup x=some .cell
 nofree:∀y∈sc.names,y.2≠.free
theorem zf9{kindOf:Str->Option NameKind}{x:Str}:∀{binds:List (Str×Value)} {m:Str->Option Value},(∀v,(x,v)∉binds)->bindL kindOf binds m x=m x
 | [],_,_=>rfl
 | (n,v)::r,m,h=>by
  unfold bindL
  rw[zf9 fun w hw=>h w (List.mem_cons_of_mem _ hw)]
  split
  ·have:x≠n:=by rintro rfl;exact h v List.mem_cons_self
   simp[this]
  ·rfl
theorem zga{kindOf:Str->Option NameKind}{x:Str}:∀{binds:List (Str×Value)} {m:Str->Option Value},(∀v,(x,v)∉binds)->bindC kindOf binds m x=m x
 | [],_,_=>rfl
 | (n,v)::r,m,h=>by
  unfold bindC
  rw[zga fun w hw=>h w (List.mem_cons_of_mem _ hw)]
  split
  ·rfl
  ·have:x≠n:=by rintro rfl;exact h v List.mem_cons_self
   simp[this]
theorem zgb{kindOf:Str->Option NameKind}{x:Str}{v:Value}:∀{P:List Str} {vs:List Value} {i:Nat} {m:Str->Option Value},P.Nodup->P[i]?=some x->vs[i]?=some v->kindOf x=some .local ->
  bindL kindOf (P.zip vs) m x=some v
 | [],_,_,_,_,h,_,_=>by simp at h
 | _::_,[],_,_,_,_,h,_=>by simp at h
 | p::P,w::vs,0,m,nd,h1,h2,hk=>by
  simp at h1 h2;subst h1;subst h2
  show bindL kindOf ((p,w)::P.zip vs) m p=_
  unfold bindL
  rw[zf9 fun v hv=>(List.nodup_cons.mp nd).1 (List.of_mem_zip hv).1,if_pos hk]
  simp
 | p::P,w::vs,i+1,m,nd,h1,h2,hk=>by
  show bindL kindOf ((p,w)::P.zip vs) m x=_
  unfold bindL
  exact zgb (i:=i) (List.nodup_cons.mp nd).2 (by simpa using h1) (by simpa using h2) hk
theorem zgc{kindOf:Str->Option NameKind}{x:Str}{v:Value}:∀{P:List Str} {vs:List Value} {i:Nat} {m:Str->Option Value},P.Nodup->P[i]?=some x->vs[i]?=some v->kindOf x≠some .local ->
  bindC kindOf (P.zip vs) m x=some v
 | [],_,_,_,_,h,_,_=>by simp at h
 | _::_,[],_,_,_,_,h,_=>by simp at h
 | p::P,w::vs,0,m,nd,h1,h2,hk=>by
  simp at h1 h2;subst h1;subst h2
  show bindC kindOf ((p,w)::P.zip vs) m p=_
  unfold bindC
  rw[zga fun v hv=>(List.nodup_cons.mp nd).1 (List.of_mem_zip hv).1,if_neg hk]
  simp
 | p::P,w::vs,i+1,m,nd,h1,h2,hk=>by
  show bindC kindOf ((p,w)::P.zip vs) m x=_
  unfold bindC
  exact zgc (i:=i) (List.nodup_cons.mp nd).2 (by simpa using h1) (by simpa using h2) hk
def start(N:List Str)(vs:List V):St:=vs.map some++List.replicate (N.length-vs.length) none
def ziU(CX:CXT)(P:Program)(w:World)(K:PySem.W.Frag)(mg:Str->Option Value)(base:Heap)(N:List Str)(qual:Str)(scope:Scope)(f:Addr)(cd:Value)(A:Around)(outer:List Env)(s:Shared)(H:Hp)(E:XK):Cx where
 prog:=P
 w:=w
 K:=K
 mg:=mg
 base:=base
 A:=A.deeper (envOfC qual scope s.heap.objs.size f cd)
 N:=N
 s₀:=s
 H₀:=H
 env:=envOfC qual scope s.heap.objs.size f cd
 outer:=outer
 stack:=envOfC qual scope s.heap.objs.size f cd::outer
 ex:=[]
 calm:=true
 fn:=fun _=>true
 pn:=[]
 xe:=fun e s'=>wpAny (model P w) (A.deeper (envOfC qual scope s.heap.objs.size f cd)) (leaving (envOfC qual scope s.heap.objs.size f cd) e) (fun _ s''=>CX outer H s E e s'') (fun e' s''=>CX outer H s E e' s'') s'
theorem zhv{sc:Scope}{n:Nat}{x:Str}(h:sc.names.lookup x=some .cell):∃c,(cellsFrom n sc.names []).lookup x=some c:=by
 have q:=PySem.W.cellsFrom_some sc.names n [] (.inl h)
 exact Option.isSome_iff_exists.mp q
theorem zjf{CX:CXT}{P:Program}{w:World}{K:PySem.W.Frag}{mg:Str->Option Value}{base:Heap}{N ps:List Str}{qual:Str}{scope:Scope}{f:Addr}{cd:Value}{A:Around}{outer:List Env}{s s1:Shared}{H:Hp}{E:XK}{us:List Value}{vs:List V}(S:FnScope N ps scope)(hd:A.handled=none)(e0:Env0 P w K mg base A outer s H)(hl:vs.length=ps.length)(r:Vals vs us)(x:InCallC s s.heap.objs.size (bindL (envOfC qual scope s.heap.objs.size f cd).kindOf (ps.zip us) fun _=>none) (cellsFrom (s.heap.objs.size+1) scope.names []) (bindC (envOfC qual scope s.heap.objs.size f cd).kindOf (ps.zip us) fun _=>none) s1) :
  Inv (ziU CX P w K mg base N qual scope f cd A outer s H E) [] (start N vs) H s1:=by
 have hpl:ps.length<=N.length:=by have:=congrArg List.length S.pre;rw[List.length_take] at this;omega
 obtain⟨h1,tk,rfl,hk⟩:=x.done
 have noA:∀b:Addr,b∉(ziU CX P w K mg base N qual scope f cd A outer s H E).ex:=fun b z=>absurd (show b∈([]:List Addr) from z) (by simp)
 refine⟨⟨e0.mod,S.kind,rfl,rfl,Nat.le_refl _,fun y z c h1 h2=>?_,fun y hy=>?_,fun y c _ h=>?_,fun _=>hd,Around.frames_deeper e0.frames,.inr ⟨rfl,rfl⟩,fun b z=>absurd z (noA b),e0.bs,e0.bsz,fun b _ _=>noA b,fun b z=>absurd z (noA b),e0.funs,e0.frf⟩,
  rfl,e0.bare,Un.kept hk,⟨_,x.toInCall.ns,fun i y v h1 h2 h3=>?_⟩,fun y c h=>⟨_,x.cell y c h⟩,e0.hok.fresh (Nat.le_refl _),fun y c h=>?_,fun p hp=>absurd (show p∈([]:List (Addr×Obj)) from hp) (by simp),e0.hok.kept hk,?_⟩
 ·exact name_of_addr x.apart (PySem.mem_of_lookup h1) (PySem.mem_of_lookup h2)
 ·have hy:scope.names.lookup y=some .cell\/scope.names.lookup y=some .free:=hy
  rcases hy with hy|hy
  ·exact zhv hy
  ·exact absurd rfl (S.nofree _ (PySem.mem_of_lookup hy))
 ·exact Nat.le_of_lt (x.above y c (PySem.mem_of_lookup h))
 ·have hi:i<vs.length:=by
   unfold start at h2
   by_cases hi:i<vs.length
   ·exact hi
   ·rw[List.getElem?_append_right (by simpa using hi)] at h2
    rw[List.getElem?_replicate] at h2
    split at h2<;>cases h2
  have ha:vs[i]?=some v:=by
   unfold start at h2
   rw[List.getElem?_append_left (by simpa using hi),List.getElem?_map] at h2
   cases e:vs[i]? with
   | none=>rw[e] at h2;cases h2
   | some a=>rw[e] at h2;cases h2;rfl
  obtain⟨u,hu,rv⟩:=r.get ha
  have hp:ps[i]?=some y:=by
   rw[<- S.pre,List.getElem?_take_of_lt (by omega)];exact h1
  have ndP:ps.Nodup:=by rw[<- S.pre];exact S.nd.sublist (List.take_sublist _ _)
  refine⟨u,rv,?_⟩
  rcases S.par y (List.mem_of_getElem? hp) with k|k
  ·exact .inl ⟨k,zgb ndP hp hu k⟩
  ·obtain⟨c,e⟩:=zhv (n:=s.heap.objs.size+1) k
   refine .inr ⟨.inl k,c,e,?_⟩
   have q:=x.cell y c e
   rw[zgc ndP hp hu (by show scope.names.lookup y≠_;rw[k];decide)] at q
   exact q
 ·exact e0.hok.fresh (Nat.le_of_lt (x.above y c (PySem.mem_of_lookup h)))
 ·unfold start
  show _=N.length
  rw[List.length_append,List.length_map,List.length_replicate]
  omega
theorem zq4{CX:CXT}{P:Program}{w:World}{K:PySem.W.Frag}{mg:Str->Option Value}{base:Heap}{k:Nat}{f:Addr}{name qual:Str}{params:Arguments}{body:List Stmt}{scope:Scope}{dV kV doc pm cdv ct oc:Value}{an od:Option Addr}{osl:Array (Option Value)}{N ps:List Str}{sp:Sp}(lk:K.lookup f=some ⟨oc,od,.func (PySem.W.fnOf name qual params body scope dV kV doc pm an cdv ct),osl⟩)(hcd:PySem.W.codeIn K cdv qual=true)(S:FnScope N ps scope)(len:∀vs H Q E,sp vs H Q E->vs.length=ps.length)(hbody:∀(A:Around) (outer:List Env) (s:Shared) (H:Hp) (vs:List V) (Q:VK) (E:XK),Room k (A.deeper (envOfC qual scope s.heap.objs.size f cdv))->sp vs H Q E ->
   ∃t,PSs (ziU CX P w K mg base N qual scope f cdv A outer s H E) body t/\t { nx:=fun _ H'=>Q .non H',rt:=Q } (start N vs) H) :
  FnOk P w K mg base CX (k+1) f (PySem.W.fnOf name qual params body scope dV kV doc pm an cdv ct) ps sp:=by
 refine⟨len,fun A outer s H args us vs Q E hr e0 hb r hsp=>?_⟩
 have hl:=len _ _ _ _ hsp
 have KX:K.In s.heap:=e0.mod.kin.keeps fun b o e=>(e0.bs b o e).1
 have lim:s.heap.NoLimit:=e0.mod.nolimit.keeps fun b o e=>(e0.bs b o e).1
 have hkind:∀y∈ps.zip us,scope.names.lookup y.1=some .local\/(scope.names.lookup y.1=some .cell/\((cellsFrom (s.heap.objs.size+1) scope.names []).lookup y.1).isSome=true):=fun⟨n,v⟩ hy=>by
  rcases S.par n (List.of_mem_zip hy).1 with q|q
  ·exact .inl q
  ·exact .inr ⟨q,PySem.W.cellsFrom_some _ _ _ (.inl q)⟩
 refine codeAny_call_function hr.depth (KX _ _ lk) rfl S.co S.gen rfl (PySem.W.codeRec_of KX hcd) (hb _ _ _ _ ?_)
 refine wpAny_newFunctionEnv_cells S.kind hkind fun env he s1 x=>?_
 subst he
 refine⟨lim.keeps x.toInCall.keep,codeAny_func ?_⟩
 obtain⟨t,ht,hq⟩:=hbody A outer s H vs Q E (hr.deeper _) hsp
 have I:Inv (ziU CX P w K mg base N qual scope f cdv A outer s H E) [] (start N vs) H s1:=zjf S hr.hd e0 hl r x
 refine wpAny_mono (ht [] s1 (start N vs) H _ I hq) (fun fl s' hs=>?_) fun e s' hs=>hs
 have fin:∀{σ':St} {H':Hp} {v:V} {u:Value},Inv (ziU CX P w K mg base N qual scope f cdv A outer s H E) [] σ' H' s'->RelV v u->Q v H'->CE outer P w H s Q u s' :=
  fun {σ' H' v u} J rv q=>⟨v,H',J.os,J.bare,J.base,J.hok,rv,q⟩
 cases fl with
 | ret u =>
  obtain⟨v,σ',H',J,rv,q⟩:=hs
  exact fin J rv q
 | next =>
  obtain⟨σ',H',J,q⟩:=hs
  exact fin (v:=V.non) (u:=Value.none) J rfl q
 | brk =>
  obtain⟨_,_,_,q⟩:=hs
  exact False.elim q
 | cont =>
  obtain⟨_,_,_,q⟩:=hs
  exact False.elim q
end L2
namespace L2
open PySem PySem.Spec PyProof.Rows
section
variable {X:Cx} {x:Str} {p pos:Pos} {e:Expr} {es:List Expr} {t:TA} {id T:String} {r:List V->Hp->VK->Prop}
def tCB(r:List V->Hp->VK->Prop)(t:TA):TE:=fun σ H Q=>t σ H fun vs H1=>r vs H1 Q
theorem zk0(hc:CallR X (.builtin id) r)(hg:Gl X x)(hm:X.mg x=none)(hv:bootBuiltins x=some (.builtin id))(ha:PA X (e::es) t)(hn:x ≠ "__name__" := by decide)(hdb:(x==("__debug__" : Str))=false:=by decide)(he:starEach (e::es) X.env=(false,eval e X.env)::starEach es X.env:=by rfl)(hpl:(backTo pos (starEach es X.env)).any (·.1)=false:=by rfl):PE X (.Call (.Name x p) (e::es) [] pos) (tCB r t):=by
 intro pins s σ H Q I h
 refine wpAny_Call_Name_kw (zf6 I hg hm hv ?_ hn hdb)
 exact PyProof.Rows.callWith_builtin1 (thn (ha pos pins s σ H _ I h) fun us s1 ⟨vs,H1,I1,r1,q1⟩=>hc pins s1 σ H1 vs us Q I1 r1 q1) he hpl
theorem zgd(hc:CallR X (.type T) r)(hg:Gl X x)(hm:X.mg x=none)(hv:bootBuiltins x=some (.type T))(ha:PA X (e::es) t)(hn:x ≠ "__name__" := by decide)(hdb:(x==("__debug__" : Str))=false:=by decide)(he:starEach (e::es) X.env=(false,eval e X.env)::starEach es X.env:=by rfl)(hpl:(backTo pos (starEach es X.env)).any (·.1)=false:=by rfl):PE X (.Call (.Name x p) (e::es) [] pos) (tCB r t):=by
 intro pins s σ H Q I h
 refine wpAny_Call_Name_kw (zf6 I hg hm hv ?_ hn hdb)
 exact PyProof.Rows.callWith_type1 (thn (ha pos pins s σ H _ I h) fun us s1 ⟨vs,H1,I1,r1,q1⟩=>hc pins s1 σ H1 vs us Q I1 r1 q1) he hpl
end
end L2
namespace HT
open PySem PyProof.Rows
section
open PySem.SeqAt
open PySem.AutoSeq1 (wpAny_loadPart')
open PySem.MeetsSeq PySem.MeetsSeq2 PySem.MeetsSeq3
end
section
variable {prog:Program} {w:World} {A:Around} {E:Value->Shared->Prop} {s:Shared}
theorem cat_tup{t b:Addr}{vs ws:List Value}{Q:Value->Shared->Prop}(ht:IsTup s.heap t vs.toArray)(hb:IsTup s.heap b ws.toArray)(hv:vs≠[])(h1:ws=[]->Q (.ref t) s)(h2:ws≠[]->Q (.ref s.heap.objs.size) { s with heap:=s.heap.push { cls:=.type "tuple",data:=.seq (vs++ws).toArray } })(hsz:vs.length+ws.length<=sizeLine):wpAny (model prog w) A (binaryOp .Add (.ref t) (.ref b)) Q E s:=by
 obtain⟨⟨cls,dd,data,sl⟩,ho,hc,n,hd⟩:=id ht
 obtain⟨⟨cls2,dd2,data2,sl2⟩,ho2,hc2,n2,hd2⟩:=id hb
 simp only at hc hd hc2 hd2
 subst hc hd hc2 hd2
 have e:vs.toArray++ws.toArray=(vs++ws).toArray:=by simp
 by_cases hw:ws=[]
 ·exact concat_meets ⟨_,ho,rfl⟩ ⟨_,ho2,rfl⟩ noFill_tuple_add seq_tuple_add PySem.F.slot_tuple_add PySem.F.entry_tuple_add (PySem.F.args_tuple_add_2 _ _)
   (tuple_addW1 t b vs.toArray ws.toArray n n2 dd dd2 sl sl2 (by simpa using hv) (by simp[hw])) ⟨ho,ho2,h1 hw⟩
 ·refine concat_meets ⟨_,ho,rfl⟩ ⟨_,ho2,rfl⟩ noFill_tuple_add seq_tuple_add PySem.F.slot_tuple_add PySem.F.entry_tuple_add (PySem.F.args_tuple_add_2 _ _)
   (tuple_addW2 t b vs.toArray ws.toArray n n2 dd dd2 sl sl2 (by simpa using hv) (by simpa using hw) (by rw[List.size_toArray,List.size_toArray];exact hsz)) ⟨ho,ho2,?_⟩
  rw[e]
  exact h2 hw
def sIx(n d:Nat):Option Int->Nat
 | none=>d
 | some v=>if v<0 then (v+(n:Int)).toNat else min v.toNat n
end
end HT
namespace L2
open PySem PySem.Spec PyProof.Rows
abbrev TO:=St->Hp->(Option Int->Hp->Prop)->Prop
def PO(X:Cx)(e:Option Expr)(t:TO):Prop :=
 ∀(pins:List (Addr×Obj)) (s:Shared) (σ:St) (H:Hp) (Q:Option Int->Hp->Prop),Inv X pins σ H s->t σ H Q ->
  wpAny (model X.prog X.w) X.A (evalPart e X.env) (fun u s'=>∃o H',Inv X pins σ H' s'/\IsPart u o/\Q o H') X.xe s
theorem zio{ns:List Int}:∀{us:List Value},Vals (ns.map V.int) us->IntsAre us ns:=by
 induction ns with
 | nil=>intro us r;rw[List.map_nil] at r;cases r;exact .nil
 | cons n ns ih =>
  intro us r
  rw[List.map_cons] at r
  cases r with
  | cons r1 r2 =>
   obtain⟨t,e⟩:=r1
   subst e
   exact .cons n t (ih r2)
section
variable {X:Cx} {e:Expr} {te:TE} {lo hi:Option Expr} {tl th:TO} {pos p2:Pos}
def SlR(X:Cx)(r:V->Option Int->Option Int->Hp->VK->Prop):Prop :=
 ∀(pins:List (Addr×Obj)) (s:Shared) (σ:St) (H:Hp) (x:V) (v vl vu:Value) (lo hi:Option Int) (sl:Addr) (Q:VK),Inv X pins σ H s->RelV x v->s.heap.IsSliceOf sl vl vu .none->IsPart vl lo->IsPart vu hi->r x lo hi H Q ->
  ∃T id,typeLookup (.type T) "__getitem__" = pure (some (.builtin id))/\s.TypeIs v T/\wpAny (model X.prog X.w) X.A (getItem v (.ref sl)) (EP X pins σ Q) X.xe s
def zsQ(xs:List V)(lo hi:Option Int):List V:=(xs.drop (HT.sIx xs.length 0 lo)).take (HT.sIx xs.length xs.length hi-HT.sIx xs.length 0 lo)
def zq5(K:PySem.W.Frag):R2:=fun x y H Q=>∃a b xs ys,x=.ref a/\y=.ref b/\SqT K H a xs/\SqT K H b ys/\xs≠[]/\xs.length+ys.length<=sizeLine /\
 (ys=[]->Q (.ref a) H)/\(ys≠[]->∀p,H p=none->Q (.ref p) (upd H p (.tup (xs++ys))))
theorem Vals.nil_iff{xs:List V}{us:List Value}(r:Vals xs us):us=[]↔xs=[]:=by
 cases r with
 | nil=>simp
 | cons _ _=>simp
theorem zm9:OpR X (binaryOp .Add) (zq5 X.K):=by
 intro pins s σ H x y v u Q I rx ry h
 obtain⟨a,b,xs,ys,rfl,rfl,ha,hb,hx,hz,q1,q2⟩:=h
 cases rx
 cases ry
 obtain⟨its,r1,p1,_⟩:=I.tuple ha
 obtain⟨its2,r2,p2,_⟩:=I.tuple hb
 refine HT.cat_tup p1 p2 (fun z=>hx (r1.nil_iff.mp z)) (fun z=>⟨.ref a,H,I,rfl,q1 (r2.nil_iff.mp z)⟩) (fun z=>?_) (by rw[<- r1.length,<- r2.length];exact hz)
 refine⟨.ref s.heap.objs.size,_,I.laid (t':=s.toks) (o:=.tup (xs++ys)) (fun b ob q=>Heap.get?_push_of_some _ q) (Nat.le_refl _) ?_,rfl,q2 (fun w=>z (r2.nil_iff.mpr w)) _ (I.hok.fresh (Nat.le_refl _))⟩
 exact⟨by rw[List.length_append];exact hz,_,r1.append r2,TupN.new _ _⟩
end
end L2
namespace L2
open PySem PySem.Spec PyProof.Rows
def ixN(n:Nat)(i:Int):Option Nat:=if 0<=i then (if i<n then some i.toNat else none) else if -(n:Int)<=i then some (i+n).toNat else none
def atI{α:Type}(xs:List α)(i:Int):Option α:=(ixN xs.length i).bind fun j=>xs[j]?
theorem zjg{n:Nat}{i:Int}{j:Nat}(h:ixN n i=some j):seqIndex? i n=some j/\j<n/\-(n:Int)<=i/\i<n:=by
 unfold ixN at h
 by_cases h0:0<=i
 ·rw[if_pos h0] at h
  by_cases h1:i<n
  ·rw[if_pos h1] at h
   have e:i.toNat=j:=Option.some.inj h
   exact⟨by rw[seqIndex_of h0 h1,e],by omega,by omega,h1⟩
  ·rw[if_neg h1] at h;cases h
 ·rw[if_neg h0] at h
  by_cases h1:-(n:Int)<=i
  ·rw[if_pos h1] at h
   have e:(i+n).toNat=j:=Option.some.inj h
   exact⟨by rw[seqIndex_neg (by omega) h1,e],by omega,h1,by omega⟩
  ·rw[if_neg h1] at h;cases h
theorem zjh{α:Type}{xs:List α}{i:Int}{v:α}(h:atI xs i=some v):∃j,seqIndex? i xs.length=some j/\xs[j]?=some v/\j<xs.length/\-(xs.length:Int)<=i/\i<xs.length:=by
 unfold atI at h
 cases e:ixN xs.length i with
 | none=>rw[e] at h;cases h
 | some j =>
  rw[e] at h
  obtain⟨h1,h2,h3,h4⟩:=zjg e
  exact⟨j,h1,h,h2,h3,h4⟩
def zji(b:Expr):Prop:=∀o i,subscripted b false o i=operate [o,i] (getItem o i)
def IxR(X:Cx)(r:R2):Prop :=
 ∀(value slice:Expr) (pins:List (Addr×Obj)) (s:Shared) (σ:St) (H:Hp) (x y:V) (v u:Value) (Q:VK),Inv X pins σ H s->RelV x v->RelV y u->r x y H Q ->
  subscripted slice false v u=operate [v,u] (getItem v u)->wpAny (model X.prog X.w) X.A (subscriptTail value slice v u) (EP X pins σ Q) X.xe s
def MtR(X:Cx)(id:String)(r:V->List V->Hp->VK->Prop):Prop :=
 ∀(pins:List (Addr×Obj)) (s:Shared) (σ:St) (H:Hp) (x:V) (xs:List V) (v:Value) (us:List Value) (Q:VK),Inv X pins σ H s->RelV x v->Vals xs us->r x xs H Q ->
  wpAny (model X.prog X.w) X.A (call (.builtin id) (v::us)) (EP X pins σ Q) X.xe s
section
variable {X:Cx} {a b:Expr} {ta tb:TE} {pos:Pos}
theorem IxR.or{r r':R2}(h:IxR X r)(h':IxR X r'):IxR X (fun x y H Q=>r x y H Q\/r' x y H Q):=by
 intro value slice pins s σ H x y v u Q I rx ry q hs
 rcases q with q|q
 ·exact h value slice pins s σ H x y v u Q I rx ry q hs
 ·exact h' value slice pins s σ H x y v u Q I rx ry q hs
theorem zq6{r:R2}(hr:IxR X r)(ha:PE X a ta)(hb:PE X b tb)(hs:zji b):PE X (.Subscript a b pos) (tOp r ta tb):=by
 intro pins s σ H Q I h
 exact Subscript_ (zqT ha hb I h fun v u s2 x y H2 I2 rx ry q=>hr a b pins s2 σ H2 x y v u Q I2 rx ry q (hs _ _))
def zq7(K:PySem.W.Frag):R2:=fun x y H Q=>∃p xs i v,x=.ref p/\y=.int i/\SqL K H p xs/\atI xs i=some v/\Q v H
def zq8(K:PySem.W.Frag):R2:=fun x y H Q=>∃p xs i v,x=.ref p/\y=.int i/\SqT K H p xs/\atI xs i=some v/\Q v H
theorem zna:IxR X (zq7 X.K):=by
 intro value slice pins s σ H x y v u Q I rx ry h hs
 obtain⟨p,xs,i,z,rfl,rfl,hq,he,q⟩:=h
 cases rx
 obtain⟨t,rfl⟩:=ry
 obtain⟨its,r,pl,hz⟩:=I.list hq
 obtain⟨j,h1,h2,h3,h4,h5⟩:=zjh he
 obtain⟨w,ew,rw'⟩:=r.get h2
 have hl:=r.length
 have hn:=zf7
 have fin:EP X pins σ Q w s:=⟨z,H,I,rw',q⟩
 by_cases h0:0<=i
 ·have hj:i.toNat=j:=by
   rw[seqIndex_of h0 h5] at h1
   exact Option.some.inj h1
  exact item_listR pl.isList h0 (by omega) (by rw[hj];simpa using ew) fin hs
 ·have hj:(i+(its.toArray.size:Int)).toNat=j:=by
   rw[seqIndex_neg (by omega) h4] at h1
   rw[List.size_toArray,<- hl]
   exact Option.some.inj h1
  exact subscriptTail_builtinR (x:=w) pl.isList.typeIs slot_list_getitem.lookup
   (wpAny_getItem_list_neg (Q:=fun r s'=>r=w/\EP X pins σ Q r s') pl.isList (by omega) (by rw[List.size_toArray]<;>omega) (by omega) (by rw[hj];simpa using ew) ⟨rfl,fin⟩) hs
theorem zoT:IxR X (zq8 X.K):=by
 intro value slice pins s σ H x y v u Q I rx ry h hs
 obtain⟨p,xs,i,z,rfl,rfl,hq,he,q⟩:=h
 cases rx
 obtain⟨t,rfl⟩:=ry
 obtain⟨its,r,pl,hz⟩:=I.tuple hq
 obtain⟨j,h1,h2,h3,h4,h5⟩:=zjh he
 obtain⟨w,ew,rw'⟩:=r.get h2
 have hl:=r.length
 have hn:=zf7
 have fin:EP X pins σ Q w s:=⟨z,H,I,rw',q⟩
 exact subscriptTail_builtinR (x:=w) pl.typeIs slot_tuple_getitem.lookup
  (getItem_tuple (j:=j) (Q:=fun r s'=>r=w/\EP X pins σ Q r s') pl (by omega) (by omega) (by rw[List.size_toArray,<- hl];exact h1) (by simpa using ew) ⟨rfl,fin⟩) hs
theorem ziq(its:List Value)(n j:Nat)(u:Value):Obj.mapSeq (·.setIfInBounds j u) { cls:=.type "list",data:=.seq its.toArray n }={ cls:=.type "list",data:=.seq (its.set j u).toArray n }:=by
 simp[Obj.mapSeq]
theorem Inv.lst{pins:List (Addr×Obj)}{σ:St}{H:Hp}{s:Shared}{p:Addr}{xs:List V}(I:Inv X pins σ H s)(h:H p=some (.lst xs)) :
  ∃(its:List Value) (n:Nat),Vals xs its/\s.heap.get? p=some { cls:=.type "list",data:=.seq its.toArray n }/\xs.length<=sizeLine:=by
 obtain⟨z,its,n,r,e⟩:=I.hok p _ h
 exact⟨its,n,r,e,z⟩
theorem Inv.lstUpd{pins:List (Addr×Obj)}{σ:St}{H:Hp}{s:Shared}{p:Addr}{xs ys:List V}{its its':List Value}{n n':Nat}{f:Obj->Obj}(I:Inv X pins σ H s)(h:H p=some (.lst xs))(ho:s.heap.get? p=some { cls:=.type "list",data:=.seq its.toArray n })(hf:f { cls:=.type "list",data:=.seq its.toArray n }={ cls:=.type "list",data:=.seq its'.toArray n' })(r:Vals ys its')(hz:ys.length<=sizeLine)(t:Nat) :
  Inv X pins σ (upd H p (.lst ys)) { s with heap:=s.heap.update p f,toks:=t }:=by
 have e:(s.heap.update p f).get? p=some { cls:=.type "list",data:=.seq its'.toArray n' }:=by
  rw[Heap.get?_update_self f ho (by rw[hf]<;>rfl),hf]
 refine I.write (x:=p) (e:=p) (by rw[h];trivial) (.inl rfl) (fun b u hb q=>(Heap.get?_update_other _ _ (Ne.symm hb)).trans q) ⟨_,e⟩ ?_
 exact⟨hz,its',n',r,e⟩
def zq9:V->V->V->Hp->(Hp->Prop)->Prop:=fun o i v H Q=>∃p xs k j,o=.ref p/\i=.int k/\H p=some (.lst xs)/\ixN xs.length k=some j/\Q (upd H p (.lst (xs.set j v)))
theorem zk1:zrU X zq9:=by
 intro pins s σ H o i v ov iv u Q I ro ri rv h
 obtain⟨p,xs,k,j,rfl,rfl,hp,hj,q⟩:=h
 cases ro
 obtain⟨t,rfl⟩:=ri
 obtain⟨its,n,r,ho,hz⟩:=I.lst hp
 obtain⟨h1,h2,h3,h4⟩:=zjg hj
 have hl:=r.length
 have hn:=zf7
 have I':Inv X pins σ (upd H p (.lst (xs.set j v))) { s with heap:=s.heap.update p (Obj.mapSeq (·.setIfInBounds j u)) } :=
  I.lstUpd hp ho (ziq its n j u) (r.set rv j) (by rw[List.length_set];exact hz) s.toks
 by_cases h0:0<=k
 ·have hk:k.toNat=j:=by
   rw[seqIndex_of h0 h4] at h1
   exact Option.some.inj h1
  exact PySem.W.ki_setAt ho h0 (by omega) (by rw[List.size_toArray,<- hl];exact h4) (by rw[hk];exact⟨_,I',q⟩)
 ·have hk:(k+(its.toArray.size:Int)).toNat=j:=by
   rw[seqIndex_neg (by omega) h3] at h1
   rw[List.size_toArray,<- hl]
   exact Option.some.inj h1
  exact PySem.W.ki_setBack ho (by omega) (by rw[List.size_toArray,<- hl];exact h3) (by omega) (by rw[hk];exact⟨_,I',q⟩)
def zs9(K:PySem.W.Frag):V->Option Int->Option Int->Hp->VK->Prop:=fun x lo hi H Q=>∃a xs,x=.ref a/\SqL K H a xs/\∀p,H p=none->Q (.ref p) (upd H p (.lst (zsQ xs lo hi)))
theorem zge:CallR X (.type "list") (fun xs H Q=>∃p ys,xs=[.ref p]/\(SqL X.K H p ys\/SqT X.K H p ys)/\∀l,H l=none->Q (.ref l) (upd H l (.lst ys))):=by
 intro pins s σ H xs us Q I r h
 obtain⟨p,ys,rfl,hq,q⟩:=h
 obtain⟨u,rfl,rx⟩:=zeM r
 cases rx
 have fin:∀(its:List Value),Vals ys its->ys.length<=sizeLine->∀(h':Heap) (c':Nat),(∀b o',s.heap.get? b=some o'->h'.get? b=some o') ->
   h'.get? s.heap.objs.size=some { cls:=.type "list",dict:=none,data:=.seq its.toArray c',slots:=#[] }->EP X pins σ Q (.ref s.heap.objs.size) { s with heap:=h' }:=fun its r' hz h' c' kp e =>
  ⟨.ref s.heap.objs.size,_,I.laid (t':=s.toks) kp (Nat.le_refl _) (show ObjOk X.prog X.w _ h' _ (.lst ys) from⟨hz,its,c',r',e⟩),rfl,q _ (I.hok.fresh (Nat.le_refl _))⟩
 rcases hq with hq|hq
 ·obtain⟨its,r',pl,hz⟩:=I.list hq
  have hlen:=r'.length
  obtain⟨o,ho,hc,n,hd⟩:=pl.isList
  exact call_list_seq p (.inl rfl) ho hc hd (fun h' c' kp e=>fin its r' hz h' c' kp e) (by simp only[List.size_toArray]<;>omega)
 ·obtain⟨its,r',pl,hz⟩:=I.tuple hq
  have hlen:=r'.length
  obtain⟨o,ho,hc,n,hd⟩:=pl
  exact call_list_seq p (.inr rfl) ho hc hd (fun h' c' kp e=>fin its r' hz h' c' kp e) (by simp only[List.size_toArray]<;>omega)
theorem zfm:CallR X (.type "tuple") (fun xs H Q=>∃p ys,xs=[.ref p]/\((SqL X.K H p ys/\∀l,H l=none->Q (.ref l) (upd H l (.tup ys)))\/(SqT X.K H p ys/\Q (.ref p) H))):=by
 intro pins s σ H xs us Q I r h
 obtain⟨p,ys,rfl,h⟩:=h
 obtain⟨u,rfl,rx⟩:=zeM r
 cases rx
 rcases h with ⟨hq,q⟩|⟨hq,q⟩
 ·obtain⟨its,r',pl,hz⟩:=I.list hq
  have hlen:=r'.length
  refine call_tuple_list pl.isList (fun h' kp=>?_) (by simp only[List.size_toArray]<;>omega)
  have I1:Inv X pins σ H { s with heap:=h' }:=I.kept (t':=s.toks) kp
  have I2:Inv X pins σ (upd H h'.objs.size (.tup ys)) { s with heap:=h'.push { cls:=.type "tuple",data:=.seq its.toArray } } :=
   I1.laid (t':=s.toks) (fun b o e=>Heap.get?_push_of_some _ e) (Nat.le_refl _) (show ObjOk X.prog X.w _ _ _ (.tup ys) from⟨hz,its,r',TupN.new _ _⟩)
  exact⟨.ref h'.objs.size,_,I2,rfl,q _ (I1.hok.fresh (Nat.le_refl _))⟩
 ·obtain⟨its,r',pl,hz⟩:=I.tuple hq
  exact call_tuple_same pl ⟨.ref p,H,I,rfl,q⟩
def tyV(K:PySem.W.Frag)(T:String)(x:V)(H:Hp):Prop:=match x with
 | .str _=>T = "str"
 | .int _=>T = "int"
 | .ref p=>(T = "list" /\ ∃xs,SqL K H p xs)\/(T = "tuple" /\ ∃o,K.lookup p=some o/\o.cls=.type "tuple" /\ o.dict=none) \/
   (T = "dict" /\ ((∃kvs,H p=some (.dK kvs))\/∃kvs,H p=some (.dT kvs)))\/(T = "set" /\ ∃S n,H p=some (.set S n))
 | _=>False
theorem zl0{pins:List (Addr×Obj)}{σ:St}{H:Hp}{s:Shared}{T:String}{x:V}{v:Value}(I:Inv X pins σ H s)(r:RelV x v)(ty:tyV X.K T x H) :
  s.TypeIs v T/\∀a,v=.ref a->∃ob,s.heap.get? a=some ob/\ob.dict=none:=by
 cases x with
 | str z =>
  obtain⟨t,rfl⟩:=r
  cases (show T = "str" from ty)
  exact⟨typeIs_str s z t,fun _ e=>nomatch e⟩
 | int i =>
  obtain⟨t,rfl⟩:=r
  cases (show T = "int" from ty)
  exact⟨typeIs_int s i t,fun _ e=>nomatch e⟩
 | ref p =>
  cases r
  rcases ty with ⟨rfl,xs,hq⟩|⟨rfl,o,hk,hc,hd⟩|⟨rfl,hk⟩|⟨rfl,S,n,hk⟩
  ·obtain⟨its,_,pl,_⟩:=I.list hq
   refine⟨pl.isList.typeIs,fun a e=>?_⟩
   cases e
   obtain⟨o,n,e,c,hd,_⟩:=pl
   exact⟨o,e,hd⟩
  ·refine⟨⟨o,I.kIn p o hk,hc⟩,fun a e=>?_⟩
   cases e
   exact⟨o,I.kIn _ o hk,hd⟩
  ·have z:∃o,s.heap.get? p=some o/\o.ExactDict:=by
    rcases hk with ⟨kvs,hk⟩|⟨kvs,hk⟩
    ·obtain⟨_,_,_,_,o,_,_,e,ex,_⟩:=I.hok p _ hk
     exact⟨o,e,ex⟩
    ·obtain⟨_,_,_,_,o,_,_,e,ex,_⟩:=I.hok p _ hk
     exact⟨o,e,ex⟩
   obtain⟨o,e,ex⟩:=z
   refine⟨⟨o,e,ex.1⟩,fun a e2=>?_⟩
   cases e2
   exact⟨o,e,ex.2.1⟩
  ·obtain⟨o,_,_,_,e,ex,_⟩:=I.hok p _ hk
   refine⟨⟨o,e,ex.1⟩,fun a e2=>?_⟩
   cases e2
   exact⟨o,e,ex.2.1⟩
 | _=>exact False.elim ty
def zsR(K:PySem.W.Frag)(T:String)(r:V->List V->Hp->VK->Prop)(to:TE):TE:=fun σ H Q=>to σ H fun x H1=>tyV K T x H1/\r x [] H1 Q
def tBM(K:PySem.W.Frag)(T:String)(r:V->List V->Hp->VK->Prop)(to:TE)(t:TA):TE:=fun σ H Q=>to σ H fun x H1=>tyV K T x H1/\t σ H1 fun xs H2=>r x xs H2 Q
variable {o e:Expr} {es:List Expr} {to:TE} {t:TA} {name:Str} {apos cpos:Pos} {T id:String} {r:V->List V->Hp->VK->Prop}
theorem zoU(pa:PlainAttrs T)(slot:Slot T name id)(hty:typeOf (.builtin id)=pure (.type "method_descriptor"))(hm:MtR X id r)(ho:PE X o to)(hbase:attributeBase o name X.env (eval o X.env)=eval o X.env:=by rfl)(hline:(apos.endLine==cpos.line)=true:=by rfl):PE X (.Call (.Attribute o name apos) [] [] cpos) (zsR X.K T r to):=by
 intro pins s σ H Q I h
 refine wpAny_Call_method0_late hbase hline (thn (ho pins s σ H _ I h) fun v s1 ⟨x,H1,I1,r1,ty,q1⟩=>?_)
 obtain⟨h1,h2⟩:=zl0 I1 r1 ty
 exact⟨T,id,pa,slot,hty,h1,h2,Calls.callWith_builtin rfl (PySem.evalArgs_none (hm pins s1 σ H1 x [] v [] Q I1 r1 .nil q1))⟩
theorem zra(pa:PlainAttrs T)(slot:Slot T name id)(hty:typeOf (.builtin id)=pure (.type "method_descriptor"))(hm:MtR X id r)(ho:PE X o to)(ha:PA X (e::es) t)(hbase:attributeBase o name X.env (eval o X.env)=eval o X.env:=by rfl)(hfew:((backTo cpos (starEach (e::es) X.env)).all (fun x=>!x.1)&&(backToKw cpos (keywordEach [] X.env)).all (fun x=>x.1.isSome)
   && decide ((e::es).length+([]:List Keyword).length+(if ([]:List Keyword).isEmpty then 0 else 1)<30))=true:=by rfl)(hline:(apos.endLine==cpos.line)=true:=by rfl)(hs:starEach (e::es) X.env=(false,eval e X.env)::starEach es X.env:=by rfl)(hplain:(backTo cpos (starEach es X.env)).any (·.1)=false:=by rfl) :
  PE X (.Call (.Attribute o name apos) (e::es) [] cpos) (tBM X.K T r to t):=by
 intro pins s σ H Q I h
 refine wpAny_Call_method_late hbase hfew hline rfl (thn (ho pins s σ H _ I h) fun v s1 ⟨x,H1,I1,r1,ty,q1⟩=>?_)
 obtain⟨h1,h2⟩:=zl0 I1 r1 ty
 refine⟨T,id,pa,slot,hty,h1,h2,?_⟩
 have hA:=ha cpos pins s1 σ H1 _ I1 q1
 rw[hs] at hA ⊢
 refine Calls.callWith_builtin (by show(false||(backTo cpos (starEach es X.env)).any (·.1))=false;rw[hplain]<;>rfl) (Calls.evalArgs_plain ?_)
 exact thn hA fun us s2 ⟨vs,H2,I2,r2,q2⟩=>hm pins s2 σ H2 x vs v us Q I2 r1 r2 q2
end
end L2
namespace L2
open PySem PySem.Spec PyProof.Rows
def MtM(X:Cx)(id:String)(r:V->List V->Hp->VK->Prop):Prop :=
 ∀(pins:List (Addr×Obj)) (s:Shared) (σ:St) (H:Hp) (x:V) (xs:List V) (v:Value) (us:List Value) (Q:VK),Inv X pins σ H s->RelV x v->Vals xs us->r x xs H Q ->
  wpAny (model X.prog X.w) X.A (call (.builtin id) (v::us)) (EP X pins σ Q) X.xe s
theorem Vals.one:∀{x:V} {us:List Value},Vals [x] us->∃u,us=[u]/\RelV x u
 | _,_,.cons r .nil=>⟨_,rfl,r⟩
theorem Vals.zero:∀{us:List Value},Vals [] us->us=[]
 | _,.nil=>rfl
theorem Vals.dropLast{xs:List V}{us:List Value}(h:Vals xs us):Vals xs.dropLast us.dropLast:=by
 induction h with
 | nil=>exact .nil
 | cons r t ih =>
  cases t with
  | nil=>exact .nil
  | cons q t'=>exact .cons r ih
theorem Vals.eraseIdx:∀{xs:List V} {us:List Value} (i:Nat),Vals xs us->Vals (xs.eraseIdx i) (us.eraseIdx i)
 | _,_,_,.nil=>.nil
 | _,_,0,.cons _ t=>t
 | _,_,i+1,.cons r t=>.cons r (Vals.eraseIdx i t)
theorem Vals.rep{xs:List V}{us:List Value}(h:Vals xs us):∀k:Nat,Vals (List.replicate k xs).flatten (List.replicate k us).flatten
 | 0=>.nil
 | k+1=>by
  rw[List.replicate_succ,List.replicate_succ,List.flatten_cons,List.flatten_cons]
  exact Vals.append h (Vals.rep h k)
theorem zir{α:Type}(l:List α):l.eraseIdx (l.length-1)=l.dropLast:=by
 induction l with
 | nil=>rfl
 | cons a r ih =>
  cases r with
  | nil=>rfl
  | cons b r =>
   have e:(a::b::r).length-1=((b::r).length-1)+1:=by
    have h1:(a::b::r).length=r.length+2:=rfl
    have h2:(b::r).length=r.length+1:=rfl
    omega
   rw[e,List.eraseIdx_cons_succ,ih]
   all_goals rfl
theorem zgf{α:Type}:∀(l:List α) (i:Nat),(l.eraseIdx i).length<=l.length
 | [],_=>Nat.le_refl _
 | _::_,0=>Nat.le_succ _
 | _::r,i+1=>Nat.succ_le_succ (zgf r i)
theorem zgg(its:List Value):∀(k:Nat) (acc:List Value),
  List.foldl (fun x1 x2=>x1++x2) acc.toArray (List.replicate k its.toArray)=(acc++(List.replicate k its).flatten).toArray
 | 0,acc=>by simp
 | k+1,acc=>by
  have e:acc.toArray++its.toArray=(acc++its).toArray:=by simp
  have e2:(acc++its)++(List.replicate k its).flatten=acc++(List.replicate (k+1) its).flatten:=by
   rw[List.replicate_succ,List.flatten_cons,List.append_assoc]
  rw[<- e2,<- zgg its k (acc++its),<- e,List.replicate_succ,List.foldl_cons]
section
variable {X:Cx} {pins:List (Addr×Obj)} {σ:St} {H:Hp} {s:Shared} {l b:Addr} {xs ys zs:List V}
theorem Inv.lset{its its':List Value}{n:Nat}{f:Array Value->Array Value}{t':Nat}(I:Inv X pins σ H s)(hH:H l=some (.lst xs))(e:s.heap.get? l=some { cls:=.type "list",data:=.seq its.toArray n })(hf:f its.toArray=its'.toArray)(hv:Vals ys its')(hz:ys.length<=sizeLine) :
  Inv X pins σ (upd H l (.lst ys)) { s with heap:=s.heap.update l (Obj.mapSeq f),toks:=t' }:=by
 have q:=PySem.IsL.update e f
 rw[hf] at q
 refine I.write (x:=l) (e:=l) (by rw[hH];exact trivial) (.inl rfl) (fun b' u hb hu=>(Heap.get?_update_other s.heap (Obj.mapSeq f) (Ne.symm hb)).trans hu) ⟨_,q⟩ ?_
 exact⟨hz,its',_,hv,q⟩
theorem Inv.lnew{its:List Value}{t':Nat}(I:Inv X pins σ H s)(hv:Vals ys its)(hz:ys.length<=sizeLine) :
  Inv X pins σ (upd H s.heap.objs.size (.lst ys)) { s with heap:=s.heap.push { cls:=.type "list",data:=.seq its.toArray },toks:=t' } :=
 I.laid (fun _ _ q=>Heap.get?_push_of_some _ q) (Nat.le_refl _) ⟨hz,its,0,hv,Heap.get?_push_size _ rfl⟩
theorem Inv.fresh(I:Inv X pins σ H s):H s.heap.objs.size=none:=I.hok.fresh (Nat.le_refl _)
theorem Inv.lstM(I:Inv X pins σ H s)(hH:H l=some (.lst xs)):xs.length<=sizeLine/\∃(its:List Value) (n:Nat),Vals xs its/\xs.length=its.length/\s.heap.get? l=some { cls:=.type "list",data:=.seq its.toArray n }:=by
 obtain⟨z,its,n,r,e⟩:=I.hok l _ hH
 exact⟨z,its,n,r,r.length,e⟩
theorem zhw{n:Nat}(h:n<=sizeLine):Builtin.List.listTooLong n=false:=by
 unfold Builtin.List.listTooLong
 exact decide_eq_false (by omega)
end
section
variable {X:Cx}
def zjj:V->List V->Hp->VK->Prop:=fun x vs H Q=>∃l xs y,x=.ref l/\vs=[y]/\H l=some (.lst xs)/\xs.length<sizeLine/\Q .non (upd H l (.lst (xs++[y])))
theorem zbo:MtM X "list.append" zjj:=by
 intro pins s σ H x vs v us Q I rx rv h
 obtain⟨l,xs,y,rfl,rfl,hH,hz,q⟩:=h
 cases rx
 obtain⟨u,rfl,ru⟩:=rv.one
 obtain⟨z,its,n,r,hl,e⟩:=I.lstM hH
 refine call_meets F.slot_list_append ⟨_,e,rfl⟩ F.entry_list_append (F.args_list_append_2 _ _) (PySem.list_append l its.toArray n u (by rw[List.size_toArray];omega)) ⟨e,?_⟩
 refine⟨.non,_,I.lset (its':=its++[u]) hH e (by simp) (r.append (.cons ru .nil)) ?_,rfl,q⟩
 rw[List.length_append,List.length_singleton]
 omega
def zrY:V->List V->Hp->VK->Prop:=fun x vs H Q=>∃l xs y,x=.ref l/\vs=[]/\H l=some (.lst xs)/\xs[xs.length-1]?=some y/\Q y (upd H l (.lst xs.dropLast))
theorem zoV:MtM X "list.pop" zrY:=by
 intro pins s σ H x vs v us Q I rx rv h
 obtain⟨l,xs,y,rfl,rfl,hH,hy,q⟩:=h
 cases rx
 have hus:=rv.zero
 subst hus
 obtain⟨z,its,n,r,hl,e⟩:=I.lstM hH
 obtain⟨u,hu,ru⟩:=r.get hy
 have hy':its.toArray[its.toArray.size-1]?=some u:=by
  show its.toArray[its.length-1]?=some u
  rw[<- Array.getElem?_toList,<- hl]
  exact hu
 refine call_meets F.slot_list_pop ⟨_,e,rfl⟩ F.entry_list_pop (F.args_list_pop_1 _) (MeetsSeq.list_pop_last l its.toArray n u hy' (by rw[List.size_toArray];omega)) ⟨e,?_⟩
 refine⟨y,_,I.lset (its':=its.dropLast) hH e ?_ r.dropLast ?_,ru,q⟩
 ·show its.toArray.eraseIdxIfInBounds (its.toArray.size-1)=its.dropLast.toArray
  rw[List.size_toArray,List.eraseIdxIfInBounds_toArray,zir]
 ·rw[List.length_dropLast]
  omega
def zl1:V->List V->Hp->VK->Prop:=fun x vs H Q=>∃l xs i k y,x=.ref l/\vs=[.int i]/\H l=some (.lst xs)/\-(2 ^ 63)<=i/\i<2 ^ 63/\seqIndex? i xs.length=some k/\xs[k]?=some y/\Q y (upd H l (.lst (xs.eraseIdx k)))
theorem zk2:MtM X "list.pop" zl1:=by
 intro pins s σ H x vs v us Q I rx rv h
 obtain⟨l,xs,i,k,y,rfl,rfl,hH,h1,h2,hk,hy,q⟩:=h
 cases rx
 obtain⟨u,rfl,ru⟩:=rv.one
 obtain⟨t,rfl⟩:=ru
 obtain⟨z,its,n,r,hl,e⟩:=I.lstM hH
 obtain⟨w,hw,rw'⟩:=r.get hy
 refine call_meets F.slot_list_pop ⟨_,e,rfl⟩ F.entry_list_pop (F.args_list_pop_2 _ _)
  (MeetsSeq.list_pop_at l its.toArray n i t k w (fitsIndex_both h1 h2) (by rw[List.size_toArray,<- hl];exact hk) (by rw[<- Array.getElem?_toList];exact hw) (by rw[List.size_toArray];omega)) ⟨e,?_⟩
 refine⟨y,_,I.lset (its':=its.eraseIdx k) hH e ?_ (r.eraseIdx k) ?_,rw',q⟩
 ·show its.toArray.eraseIdxIfInBounds k=(its.eraseIdx k).toArray
  rw[List.eraseIdxIfInBounds_toArray]
 ·have:=zgf xs k
  omega
def zsS:R2:=fun x y H Q=>∃l k xs,x=.ref l/\y=.int k/\H l=some (.lst xs)/\-(2 ^ 63)<=k/\k<2 ^ 63/\xs.length*k.toNat<=sizeLine /\
 ∀p,H p=none->Q (.ref p) (upd H p (.lst (List.replicate k.toNat xs).flatten))
theorem len_rep{α:Type}(xs:List α)(k:Nat):(List.replicate k xs).flatten.length=k*xs.length:=by
 induction k with
 | zero=>simp
 | succ k ih=>rw[List.replicate_succ,List.flatten_cons,List.length_append,ih,Nat.succ_mul,Nat.add_comm]
theorem zoW:OpR X (binaryOp .Mult) zsS:=by
 intro pins s σ H x y v u Q I rx ry h
 obtain⟨l,k,xs,rfl,rfl,hH,h1,h2,hz,q⟩:=h
 cases rx
 obtain⟨t,rfl⟩:=ry
 obtain⟨z,its,n,r,hl,e⟩:=I.lstM hH
 have hlen:its.toArray.size*k.toNat<=sizeLine:=by rw[List.size_toArray,<- hl];exact hz
 have hcap:¬its.toArray.size*k.toNat>(2 ^ 63-1) / 8:=by
  have:(sizeLine:Nat)<=(2 ^ 63-1) / 8:=by decide
  omega
 have hfit:¬(!Builtin.List.listFitsIndex k)=true:=by
  rw[fitsIndex_both h1 h2]
  exact Bool.false_ne_true
 have hlong:¬Builtin.List.listTooLong (its.toArray.size*k.toNat)=true:=by
  rw[zhw hlen]
  exact Bool.false_ne_true
 have hnew:List.foldl (fun x1 x2=>x1++x2) #[] (List.replicate (if its.toArray.isEmpty=true then 0 else k.toNat) its.toArray)=(List.replicate k.toNat its).flatten.toArray:=by
  have f0:∀m:Nat,List.foldl (fun x1 x2=>x1++x2) #[] (List.replicate m its.toArray)=(List.replicate m its).flatten.toArray:=fun m=>by
   have:=zgg its m []
   rw[List.nil_append] at this
   exact this
  rw[f0]
  cases its with
  | nil=>simp
  | cons a r'=>rw[if_neg (by simp)]
 refine wpAny_binaryOp_repeat_ref (T := "list") (U := "int") (by decide) ⟨_,e,rfl⟩ (fun s'=>typeIs_int s' k t) noFill_list_mul F.fills_int_mul F.slot_int_rmul repeat_list F.slot_int_index.lookup
  (call_meets F.slot_int_rmul (typeIs_int s k t) F.entry_int_rmul (F.args_int_rmul_2 _ _) (int___rmul___int_list k t l its.toArray n)
   ⟨e,rfl,⟨_,e,rfl⟩,call_meets F.slot_list_mul ⟨_,e,rfl⟩ F.entry_list_mul (F.args_list_mul_2 _ _) (AutoListH.list___mul___list_int_3 l its.toArray n k t hfit hcap hlong) ⟨e,?_⟩⟩)
 rw[hnew]
 exact⟨.ref _,_,I.lnew (t':=s.toks) (r.rep k.toNat) (by rw[len_rep,Nat.mul_comm];exact hz),rfl,q _ I.fresh⟩
end
section
variable {prog:Program} {w:World} {A:Around} {E:Value->Shared->Prop} {s:Shared}
end
section
variable {X:Cx}
end
end L2
namespace Att
open PySem PySem.W PySem.Calls PyProof.Rows
theorem zee{P:Params}{h:Heap}:∀(ns:List Int) (vs:List Value),WellAll P h vs (ns.map WData.int)->IntsAre vs ns:=by
 intro ns
 induction ns with
 | nil =>
  intro vs w
  rw[List.map_nil] at w
  cases w
  exact .nil
 | cons n ns ih =>
  intro vs w
  rw[List.map_cons] at w
  cases w with
  | cons a b =>
   cases a
   exact .cons _ _ (ih _ b)
theorem zjk{l:OpenLaw}{n:Nat}(hn:l.most=some n){P:Params}{h:Heap}{args:List WData}{vals:List Value}(hpre:l.row.toRowW.claim.pre args=true)(hwl:WellAll P h vals args) :
  ∃a vs ns,vals=[Value.ref a]/\args=[WData.list (ns.map WData.int)]/\h.get? a=some { cls:=.type "list",data:=.seq vs.toArray }/\IntsAre vs ns/\ns.length<=n:=by
 have hsh:WShape.hasAll [] args [.list .int]=true:=(pre_splitW hpre).1
 have hc:l.pre.holds [] { args:=args }=true:=(pre_splitW hpre).2
 obtain⟨d,r,rfl,h1,h2⟩:=hasAllW_cons hsh
 obtain rfl:=hasAllW_nil h2
 obtain⟨xs,rfl,h3⟩:=hasW_list h1
 obtain⟨ns,rfl⟩:=items_int h3
 have hlen:ns.length<=n:=by
  unfold OpenLaw.pre at hc
  have h4:(WTm.not (.lt (.lit (.int (n:Int))) (.len (.arg 0)))).holds [] { args:=[.list (ns.map .int)] }=true:=by
   have h4:=(holds_andW hc).1
   rw[hn] at h4
   exact h4
  have h5:=condW_of h4 (w_not (w_lt w_lit (w_len_list (w_arg rfl))))
  rw[List.length_map] at h5
  refine Nat.le_of_not_lt fun q=>?_
  have q':(n:Int)<((ns.length:Nat):Int):=by omega
  first
   | (rw[decide_eq_true q'] at h5;exact absurd h5 (by decide))
   | (simp at h5;omega)
 cases hwl with
 | cons w1 w2 =>
  cases w2
  cases w1 with
  | list ho hall=>exact⟨_,_,ns,rfl,rfl,ho,zee ns _ hall,hlen⟩
theorem zjl(l:OpenLaw)(args:List WData):l.row.toRowW.claim.post args (.bool true) args=true :=
 postW_of (r:=l.row.toRowW) (X:=(true==true))
  (show WShape.has [] (.bool true) .bool=true by first|rfl|decide|simp[WShape.has,WShape.arms,WShape.armsAll])
  (show(WTm.eq .res (.lit (.bool true))).value [] { args:=args,res:=some (.bool true),after:=args }=some (.bool (true==true)) from w_eq_bool (w_res rfl) w_lit) rfl
theorem attach_call{l:OpenLaw}{n:Nat}{q:Program}{loose:List Str}{XP:(Str->Option Value)->Heap->Prop}{YP:World->Heap->Prop}{d:DefRec}(hn:l.most=some n)(hdf:d.params.defaults=[])(call:∀(w:World) (s₀ s₁:Shared) (mg mb:Str->Option Value) (fa:Addr) (o:Obj) (pm cd doc:Value) (a:Addr) (vs:List Value) (ns:List Int),
   Ground q loose [] XP w s₀ mg mb s₁.heap->YP w s₁.heap ->
   s₁.heap.get? fa=some o->o.data=.func (docDef d.name d.params d.body d.scope pm cd doc)->s₁.heap.CodeRec cd d.name->mg d.name=some (.ref fa) ->
   s₁.heap.get? a=some { cls:=.type "list",data:=.seq vs.toArray }->IntsAre vs ns->ns.length<=n->s₁.gens=#[] ->
   codeAny (model l.prog w) callerA (.call (.ref fa) ⟨[.ref a],[]⟩) (fun r s'=>r=.ok (.ret (.bool true))/\OldK s₁.heap s'.heap/\s'.os=s₁.os/\AllBare s'.gens) s₁) :
  WalkO q loose XP YP l.row.toRowW d [] (fun f vs=>PySem.call f vs):=by
 intro w s₀ s₁ mg mb G Y fa o pm cd doc dV kV ho hd hcd hD hmg hg args vals as hpre hlay hrd hwl hlo
 obtain rfl:dV=.none:=Dflts.none hD hdf
 obtain rfl:kV=.none:=Dflts.noKw hD
 obtain⟨a,vs,ns,rfl,rfl,hobj,hints,hlen⟩:=zjk hn hpre hwl
 refine enter_call (codeAny_mono (call w s₀ s₁ mg mb fa o pm cd doc a vs ns G Y ho (fd_plain hd) hcd hmg hobj hints hlen hg) fun r s' hq=>?_)
 obtain⟨rfl,h2,h3,h4⟩:=hq
 exact⟨.inl ⟨.bool true,.bool true,[],rfl,fun _=>rfl,.bool true,zjl l _,fun _=>⟨List.Pairwise.nil,fun _ hm=>(nomatch hm)⟩⟩,h2,h3,h4⟩
section
variable {prog:Program} {w:World} {A:Around} {E:Value->Shared->Prop} {s:Shared} {K:Frag}
def zrZ(h:Heap)(L d:Addr):List (Addr×Obj):=(List.range h.objs.size).filterMap fun a=>if a=L\/a=d then none else (h.get? a).map fun o=>(a,o)
end
end Att
namespace L2
open PySem PySem.Spec PyProof.Rows
theorem zct:∀{vs:List Value} {ns:List Int},IntsAre vs ns->Vals (ns.map V.int) vs
 | _,_,.nil=>.nil
 | _,_,.cons n t h=>.cons ⟨t,rfl⟩ (zct h)
def zoX(H:Hp):Prop:=∀b,H b=none\/∃o xs,H b=some (.frz o (.lst xs))
theorem zk3{P:Program}{w:World}{K:PySem.W.Frag}{mg mb:Str->Option Value}{CX:CXT}{k:Nat}{fa a:Addr}{fd:FuncData}{x:Str}{sp:Sp}{s₁:Shared}{vs:List Value}{ns:List Int}(KX:K.In s₁.heap)(hns:s₁.heap.Ns mainGlobals mg)(hb:s₁.heap.Ns builtinsNs mb)(hbb:∀x:Str,x ≠ "__name__" -> mb x=bootBuiltins x)(hlim:s₁.heap.NoLimit)(hg:s₁.gens=#[])(ha:s₁.heap.get? a=some { cls:=.type "list",data:=.seq vs.toArray })(hi:IntsAre vs ns)(hl:ns.length<=sizeLine)(hr:Room k callerA)(F:∀base:Heap,K.In base->base.Ns mainGlobals mg->FnOk P w K mg base CX k fa fd [x] sp)(hbind:∀(s:Shared) (u:Value),BindsTo s fd ⟨[u],[]⟩ [(x,u)])(hsp:∀H:Hp,zoX H->SqL K H a (ns.map V.int)->sp [.ref a] H (fun v _=>v=.bl true) fun _ _ _=>False)(hCX:∀H e s',CX [] H s₁ (fun _ _ _=>False) e s'->False) :
  codeAny (model P w) callerA (.call (.ref fa) ⟨[.ref a],[]⟩) (fun r s'=>r=.ok (.ret (.bool true))/\OldK s₁.heap s'.heap/\s'.os=s₁.os/\AllBare s'.gens) s₁:=by
 have rv:=zct hi
 have lenV:=hi.length
 have core:∀H:Hp,zoX H->SqL K H a (ns.map V.int)->HOk P w H s₁.heap->(∀b,H b≠none->b=a)->(H a≠none->K.lookup a=none) ->
   codeAny (model P w) callerA (.call (.ref fa) ⟨[.ref a],[]⟩) (fun r s'=>r=.ok (.ret (.bool true))/\OldK s₁.heap s'.heap/\s'.os=s₁.os/\AllBare s'.gens) s₁:=by
  intro H hO hS hok hA hK
  have base_of:∀{b:Addr} {o:Obj},s₁.heap.get? b=some o->H b=none->(zkP s₁.heap H).get? b=some o:=fun e n=>zkQ e n
  have noA:∀{b:Addr} {o:Obj} {es:Array DictEntry} {ep:Nat},s₁.heap.get? b=some o->o.data=.dict es ep->H b=none:=fun {b o es ep} e d=>by
   cases q:H b with
   | none=>rfl
   | some u =>
    have e':b=a:=hA b (by rw[q];simp)
    subst e'
    rw[ha] at e;cases e
    have d':Data.seq vs.toArray _=Data.dict es ep:=d
    cases d'
  have nsK:∀{b:Addr} {m:Str->Option Value},s₁.heap.Ns b m->(zkP s₁.heap H).Ns b m:=fun {b m} ⟨o,es,ep,e,d,r⟩=>⟨o,es,ep,base_of e (noA e d),d,r⟩
  have hKb:K.In (zkP s₁.heap H):=fun b o e=>base_of (KX b o e) (by
   cases q:H b with
   | none=>rfl
   | some u =>
    have e':b=a:=hA b (by rw[q];simp)
    subst e'
    rw[hK (by rw[q];simp)] at e;cases e)
  have hM:Mod K mg (zkP s₁.heap H):=⟨hKb,nsK hns,⟨mb,nsK hb,hbb⟩,let ⟨mc,h1,h2⟩:=hlim;⟨mc,nsK h1,h2⟩⟩
  have e0:Env0 P w K mg (zkP s₁.heap H) callerA [] s₁ H:=⟨rfl,hM,fun b o e=>zmQ e,Nat.le_of_eq (zi0 _ _),trivial,fun b hb=>absurd (show b∈([]:List Addr) from hb) (by simp),hok,.of_eq hg⟩
  refine codeAny_mono ((F _ hKb (nsK hns)).run callerA [] s₁ H ⟨[.ref a],[]⟩ [.ref a] [.ref a] _ _ hr e0 (hbind s₁ (.ref a)) (.cons rfl .nil) (hsp H hO hS)) fun r s' h=>?_
  cases r with
  | error e=>exact(hCX H e s' h).elim
  | ok fl =>
   cases fl with
   | next=>exact False.elim h
   | brk=>exact False.elim h
   | cont=>exact False.elim h
   | ret u =>
    obtain⟨v,H',os,bare,un,hok',r',q⟩:=h
    have q':v=.bl true:=q
    subst q'
    obtain rfl:u=Value.bool true:=r'
    refine⟨rfl,OldK.of_keep fun b o e=>?_,os,bare⟩
    cases q:H b with
    | none=>exact un.keep b o e q (by intro z;exact absurd (show b∈([]:List Addr) from z) (by simp)) (by simp)
    | some u =>
     rcases hO b with z|⟨ob,xs,z⟩
     ·rw[q] at z;cases z
     ·have z2:=un.frzs b ob _ z
      obtain⟨e1,_⟩:=hok b _ z
      obtain⟨e2,_⟩:=hok' b _ z2
      rw[e] at e1;cases e1
      exact e2
 cases hk:K.lookup a with
 | some o =>
  have e:=KX a o hk
  rw[ha] at e
  cases e
  refine core (fun _=>none) (fun _=>.inl rfl) (.inr ⟨_,vs.toArray,_,hk,rfl,rfl,rfl,by rw[List.size_toArray,lenV];exact hl,by simpa using rv⟩) (fun b u z=>by have z':(none:Option HO)=some u:=z;cases z') (fun b z=>absurd rfl z) fun z=>absurd rfl z
 | none =>
  refine core (fun b=>if b=a then some (.frz { cls:=.type "list",data:=.seq vs.toArray } (.lst (ns.map V.int))) else none) (fun b=>?_) (.inl (.inr ⟨{ cls:=.type "list",data:=.seq vs.toArray },if_pos rfl⟩)) (fun b u z=>?_) (fun b z=>?_) fun _=>hk
  ·by_cases hb:b=a
   ·exact .inr ⟨_,_,if_pos hb⟩
   ·exact .inl (if_neg hb)
  ·by_cases hb:b=a
   ·have z':=(if_pos hb).symm.trans z
    cases z'
    subst hb
    exact⟨ha,by rw[List.length_map];exact hl,vs,_,rv,ha⟩
   ·have z':=(if_neg hb).symm.trans z
    cases z'
  ·by_cases hb:b=a
   ·exact hb
   ·exact absurd (if_neg hb) z
end L2
namespace L2
open PySem PySem.Spec PyProof.Rows
theorem znb{l:PySem.W.OpenLaw}{n k:Nat}{q:Program}{loose:List Str}{XP:(Str->Option Value)->Heap->Prop}{YP:World->Heap->Prop}{d:DefRec}{K:Params->PySem.W.Frag}{CX:World->CXT}{sp:World->Sp}{x:Str}(hn:l.most=some n)(hn2:n<=sizeLine)(hdf:d.params.defaults=[])(hr:Room k callerA)(hY:∀(w:World) (h:Heap),YP w h->(K w.params).In h)(F:∀(w:World) (mg:Str->Option Value) (fa:Addr) (h:Heap),(K w.params).In h->h.Ns mainGlobals mg->mg d.name=some (.ref fa) ->
   ∃fd:FuncData,(∀(s:Shared) (u:Value),BindsTo s fd ⟨[u],[]⟩ [(x,u)]) /\
    ∀base:Heap,(K w.params).In base->base.Ns mainGlobals mg->FnOk l.prog w (K w.params) mg base (CX w) k fa fd [x] (sp w))(hsp:∀(w:World) (H:Hp) (a:Addr) (ns:List Int),ns.length<=n->zoX H->SqL (K w.params) H a (ns.map V.int)->sp w [.ref a] H (fun v _=>v=.bl true) fun _ _ _=>False)(hCX:∀(w:World) (H:Hp) (s:Shared) (e:Value) (s':Shared),CX w [] H s (fun _ _ _=>False) e s'->False) :
  PySem.W.WalkO q loose XP YP l.row.toRowW d [] (fun f vs=>PySem.call f vs):=by
 refine Att.attach_call hn hdf fun w s₀ s₁ mg mb fa o pm cd doc a vs ns G Y ho hd hcd hmg hobj hints hlen hg=>?_
 have KX:=hY w _ Y
 obtain⟨fd,hb,hF⟩:=F w mg fa _ KX G.T.g hmg
 exact zk3 KX G.T.g G.T.b G.T.builtins G.T.nolimit hg hobj hints (Nat.le_trans hlen hn2) hr hF hb (fun H hO hS=>hsp w H a ns hlen hO hS) fun H e s'=>hCX w H s₁ e s'
theorem walk_ofK{l:PySem.W.OpenLaw}{n k:Nat}{q:Program}{loose:List Str}{XP:(Str->Option Value)->Heap->Prop}{YP:World->Heap->Prop}{d:DefRec}{K:Params->PySem.W.Frag}{CX:CXT}{sp:PySem.W.Frag->Sp}{x:Str}(hn:l.most=some n)(hn2:n<=sizeLine)(hdf:d.params.defaults=[])(hr:Room k callerA)(hY:∀(w:World) (h:Heap),YP w h->(K w.params).In h)(F:∀(w:World) (mg:Str->Option Value) (fa:Addr) (h:Heap),(K w.params).In h->h.Ns mainGlobals mg->mg d.name=some (.ref fa) ->
   ∃fd:FuncData,(∀(s:Shared) (u:Value),BindsTo s fd ⟨[u],[]⟩ [(x,u)]) /\
    ∀base:Heap,(K w.params).In base->base.Ns mainGlobals mg->FnOk l.prog w (K w.params) mg base CX k fa fd [x] (sp (K w.params)))(hsp:∀(K:PySem.W.Frag) (H:Hp) (a:Addr) (ns:List Int),ns.length<=n->zoX H->SqL K H a (ns.map V.int)->sp K [.ref a] H (fun v _=>v=.bl true) fun _ _ _=>False)(hCX:∀(H:Hp) (s:Shared) (e:Value) (s':Shared),CX [] H s (fun _ _ _=>False) e s'->False) :
  PySem.W.WalkO q loose XP YP l.row.toRowW d [] (fun f vs=>PySem.call f vs) :=
 znb (K:=K) (CX:=fun _=>CX) (sp:=fun w=>sp (K w.params)) hn hn2 hdf hr hY F (fun w H a ns h1 h2 h3=>hsp (K w.params) H a ns h1 h2 h3) fun _ H s e s'=>hCX H s e s'
end L2
namespace L2
open PySem PySem.Spec PyProof.Rows
def zaw(s:Stmt):Arguments:=match s with
 | .FunctionDef _ a _ _ _ _ _ _ _ _=>a
 | _=>{ posonlyargs:=[],args:=[],vararg:=none,kwonlyargs:=[],kw_defaults:=[],kwarg:=none,defaults:=[] }
def zau(s:Stmt):List Stmt:=match s with
 | .FunctionDef _ _ b _ _ _ _ _ _ _=>b
 | _=>[]
def zai(s:Stmt):Scope:=match s with
 | .FunctionDef _ _ _ _ _ _ sc _ _ _=>sc
 | _=>{ kind:=.function,names:=[],isGenerator:=false,isCoroutine:=false }
abbrev CX0:CXT:=fun _ _ _ _ _ _=>False
abbrev E0:XK:=fun _ _ _=>False
structure Fun (K:PySem.W.Frag) (x qual:Str) (st:Stmt) (f:Addr) (fd:FuncData):Prop where
 ex:∃(oc:Value) (od:Option Addr) (kV doc pm:Value) (an:Option Addr) (cdv ct:Value) (osl:Array (Option Value)),
  fd=PySem.W.fnOf x qual (zaw st) (zau st) (zai st) .none kV doc pm an cdv ct/\K.lookup f=some ⟨oc,od,.func fd,osl⟩/\PySem.W.codeIn K cdv qual=true
 kp:PySem.W.keepIn K (.ref f)=true
section
variable {P:Program} {w:World} {K:PySem.W.Frag} {mg:Str->Option Value} {base:Heap}
theorem Fun.binds{x qual:Str}{st:Stmt}{f:Addr}{fd:FuncData}{ps:List Str}(F:Fun K x qual st f fd)(h:∀(kV doc pm:Value) (an:Option Addr) (cdv ct:Value) (us:List Value),us.length=ps.length->bindArgs (PySem.W.fnOf x qual (zaw st) (zau st) (zai st) .none kV doc pm an cdv ct) ⟨us,[]⟩=pure (ps.zip us)):Binds K fd ps []:=by
 obtain⟨oc,od,kV,doc,pm,an,cdv,ct,osl,rfl,lk,hcd⟩:=F.ex
 exact .all (h kV doc pm an cdv ct)
theorem zaU{x qual:Str}{st:Stmt}{f:Addr}{oc:Value}{od an:Option Addr}{osl:Array (Option Value)}{kV doc pm cdv ct:Value}(l:K.lookup f=some ⟨oc,od,.func (PySem.W.fnOf x qual (zaw st) (zau st) (zai st) .none kV doc pm an cdv ct),osl⟩)(c:PySem.W.codeIn K cdv qual=true)(k:PySem.W.keepIn K (.ref f)=true):Fun K x qual st f (PySem.W.fnOf x qual (zaw st) (zau st) (zai st) .none kV doc pm an cdv ct):=⟨⟨oc,od,kV,doc,pm,an,cdv,ct,osl,rfl,l,c⟩,k⟩
end
section
variable {X:Cx}
end
def zta(H H':Hp):Prop:=∀b o,H b=some o->H' b=some o
end L2
namespace L2
open PySem PySem.Spec PyProof.Rows
def zis(js:List Nat)(σ:St):St:=js.map fun j=>σ.getD j none
structure BlkS (N:List Str) (psc:Scope) (js:List Nat) (N':List Str) (scope:Scope):Prop where
 cell:∀y∈scope.names,y.2≠.cell
 kind:scope.kind=.function
 names:∀y∈scope.names,y.2=.local->scope.names.lookup y.1=some .local
 frees:∀y∈scope.names,y.2=.free->psc.names.lookup y.1=some .cell\/psc.names.lookup y.1=some .free
 nd:N'.Nodup
 len:N'.length=js.length+1
 cap:∀p∈js.zip (N'.drop 1),N[p.1]?=some p.2/\scope.names.lookup p.2=some .free
def zcU(env:Env)(cs:List (Str×Addr))(y:Str×NameKind):List (Str×Addr):=if y.2==.free then (y.1,(env.cells.lookup y.1).getD 0)::cs else cs
def clOf(scope:Scope)(env:Env):List (Str×Addr):=scope.names.foldl (zcU env) []
theorem zef{α β:Type}(f:α->β->Sem (ForInStep β))(g:β->α->β):∀(l:List α) (b:β),(∀x∈l,∀c,f x c=pure (.yield (g c x)))->forIn l b f=pure (l.foldl g b)
 | [],_,_=>rfl
 | x::l,b,h=>by
  rw[List.forIn_cons,h x List.mem_cons_self,pure_bind]
  exact zef f g l (g b x) fun y hy=>h y (List.mem_cons_of_mem _ hy)
theorem zit{scope:Scope}{env:Env}(h:∀y∈scope.names,y.2=.free->∃c,env.cells.lookup y.1=some c):closureFor scope env=pure (clOf scope env):=by
 simp only[closureFor,clOf]
 rw[zef _ (zcU env) scope.names [] (fun y hy c=>by
  obtain⟨n,k⟩:=y
  by_cases hk:k=.free
  ·subst hk
   obtain⟨a,ha⟩:=h _ hy rfl
   have ha':env.cells.lookup n=some a:=ha
   simp[cellOf,ha',zcU]
  ·have hb:(k==NameKind.free)=false:=by simpa using hk
   simp[hb,zcU])]
 rfl
theorem zeZ{env:Env}{P:Str×Addr->Prop}:∀(l:List (Str×NameKind)) (acc:List (Str×Addr)),(∀p∈acc,P p)->(∀y∈l,y.2=.free->P (y.1,(env.cells.lookup y.1).getD 0))->∀p∈l.foldl (zcU env) acc,P p
 | [],_,ha,_=>ha
 | y::l,acc,ha,hl=>by
  refine zeZ l _ (fun p hp=>?_) fun z hz=>hl z (List.mem_cons_of_mem _ hz)
  unfold zcU at hp
  by_cases hk:y.2=.free
  ·rw[if_pos (by simp[hk])] at hp
   rcases List.mem_cons.mp hp with e|hp
   ·rw[e];exact hl y List.mem_cons_self hk
   ·exact ha p hp
  ·rw[if_neg (by simp[hk])] at hp
   exact ha p hp
theorem ze0{env:Env}:∀(l:List (Str×NameKind)) (acc:List (Str×Addr)),∀p∈acc,p∈l.foldl (zcU env) acc
 | [],_,_,hp=>hp
 | y::l,acc,p,hp=>by
  refine ze0 l _ p ?_
  unfold zcU
  split
  ·exact List.mem_cons_of_mem _ hp
  ·exact hp
theorem ze1{env:Env}{y:Str}:∀(l:List (Str×NameKind)) (acc:List (Str×Addr)),(y,NameKind.free)∈l->∃c,(y,c)∈l.foldl (zcU env) acc
 | z::l,acc,h=>by
  rcases List.mem_cons.mp h with e|h
  ·subst e
   exact⟨(env.cells.lookup y).getD 0,ze0 l _ _ (by simp[zcU])⟩
  ·exact ze1 l _ h
theorem zda{β:Type}{y:Str}{c:β}:∀{l:List (Str×β)},(y,c)∈l->∃c',l.lookup y=some c'
 | (n,d)::l,h=>by
  rw[List.lookup_cons]
  cases e:y==n with
  | true=>exact⟨d,rfl⟩
  | false =>
   rcases List.mem_cons.mp h with q|q
   ·have q1:y=n:=congrArg Prod.fst q
    rw[q1] at e
    simp at e
   ·exact zda q
theorem zgh{scope:Scope}{env:Env}(h:∀y∈scope.names,y.2=.free->∃c,env.cells.lookup y.1=some c){y:Str}{c:Addr}(e:(clOf scope env).lookup y=some c):env.cells.lookup y=some c:=by
 refine zeZ (P:=fun p=>env.cells.lookup p.1=some p.2) scope.names [] (fun _ hp=>nomatch hp) (fun z hz hf=>?_) (y,c) (PySem.mem_of_lookup e)
 obtain⟨a,ha⟩:=h z hz hf
 simp[ha]
theorem zhx{scope:Scope}{env:Env}{y:Str}(h:(y,NameKind.free)∈scope.names):∃c,(clOf scope env).lookup y=some c:=by
 obtain⟨c,hc⟩:=ze1 (env:=env) scope.names [] h
 exact zda hc
theorem relabel_of{env:Env}{y:Str}{k':NameKind}:∀{names:List (Str×NameKind)},(names.map fun(n,k)=>if (k==NameKind.free&&env.scope.kind==.function&&env.kindOf n==some .cell) then (n,NameKind.cell) else (n,k)).lookup y=some k' ->
  ∃k,(y,k)∈names/\(k'=k\/(k=.free/\k'=.cell))
 | [],h=>by simp at h
 | (n,k)::r,h=>by
  have ih:=@relabel_of env y k' r
  have h:List.lookup y ((if (k==NameKind.free&&env.scope.kind==.function&&env.kindOf n==some .cell)=true then (n,NameKind.cell) else (n,k))::_)=some k':=h
  cases e:y==n with
  | true =>
   have e':y=n:=by simpa using e
   by_cases hc:(k==NameKind.free&&env.scope.kind==.function&&env.kindOf n==some .cell)=true
   ·rw[if_pos hc] at h
    simp only[List.lookup_cons,e] at h
    cases h
    have hk:k=.free:=by
     simp only[Bool.and_eq_true] at hc
     simpa using hc.1.1
    subst hk
    exact⟨.free,by rw[e'];exact List.mem_cons_self,.inr ⟨rfl,rfl⟩⟩
   ·rw[if_neg hc] at h
    simp only[List.lookup_cons,e] at h
    have hk:=Option.some.inj h
    exact⟨k,by rw[e'];exact List.mem_cons_self,.inl hk.symm⟩
  | false =>
   have h':List.lookup y (r.map fun(n,k)=>if (k==NameKind.free&&env.scope.kind==.function&&env.kindOf n==some .cell) then (n,NameKind.cell) else (n,k))=some k':=by
    by_cases hc:(k==NameKind.free&&env.scope.kind==.function&&env.kindOf n==some .cell)=true
    ·rw[if_pos hc] at h
     simp only[List.lookup_cons,e] at h
     exact h
    ·rw[if_neg hc] at h
     simp only[List.lookup_cons,e] at h
     exact h
   obtain⟨k0,h1,h2⟩:=ih h'
   exact⟨k0,List.mem_cons_of_mem _ h1,h2⟩
theorem relabel_free{env:Env}{y:Str}:∀{names:List (Str×NameKind)},names.lookup y=some .free ->
  (names.map fun(n,k)=>if (k==NameKind.free&&env.scope.kind==.function&&env.kindOf n==some .cell) then (n,NameKind.cell) else (n,k)).lookup y=some .cell \/
  (names.map fun(n,k)=>if (k==NameKind.free&&env.scope.kind==.function&&env.kindOf n==some .cell) then (n,NameKind.cell) else (n,k)).lookup y=some .free
 | [],h=>by simp at h
 | (n,k)::r,h=>by
  have ih:=@relabel_free env y r
  show List.lookup y ((if (k==NameKind.free&&env.scope.kind==.function&&env.kindOf n==some .cell)=true then (n,NameKind.cell) else (n,k))::_)=_\/List.lookup y ((if (k==NameKind.free&&env.scope.kind==.function&&env.kindOf n==some .cell)=true then (n,NameKind.cell) else (n,k))::_)=_
  cases e:y==n with
  | true =>
   simp only[List.lookup_cons,e] at h
   cases h
   by_cases hc:(NameKind.free==NameKind.free&&env.scope.kind==.function&&env.kindOf n==some .cell)=true
   ·rw[if_pos hc];exact .inl (by simp[List.lookup_cons,e])
   ·rw[if_neg hc];exact .inr (by simp[List.lookup_cons,e])
  | false =>
   simp only[List.lookup_cons,e] at h
   by_cases hc:(k==NameKind.free&&env.scope.kind==.function&&env.kindOf n==some .cell)=true
   ·rw[if_pos hc];simp only[List.lookup_cons,e];exact ih h
   ·rw[if_neg hc];simp only[List.lookup_cons,e];exact ih h
def blk(X:Cx)(N':List Str)(scope:Scope)(C:Addr)(fp:List Addr)(s₀:Shared)(H₀:Hp):Cx :=
 { X with N:=N',s₀:=s₀,H₀:=H₀,env:=compEnvC scope (clOf scope X.env) C X.env,outer:=X.stack,stack:=X.stack,ex:=fp,fn:=fun _=>false,pn:=[],xe:=fun _ _=>False }
theorem HOk.track{P:Program}{w:World}{H:Hp}{h:Heap}{a:Addr}{o:HO}(x:HOk P w H h)(hn:H a=none)(new:ObjOk P w (upd H a o) h a o):HOk P w (upd H a o) h:=fun b u e=>by
 by_cases hb:b=a
 ·subst hb;rw[zaH] at e;cases e;exact new
 ·rw[zaG hb] at e
  exact(x b u e).stay (fun c v _ q=>q) (fun c q=>by rw[zaG (zaE q hn)];exact q) fun c xs q=>by rw[zaG (zaE q hn)];exact q
section
variable {X:Cx} {pins:List (Addr×Obj)} {σ:St} {H:Hp} {s:Shared}
theorem Inv.stkNe(I:Inv X pins σ H s){b:Addr}(h1:b≠X.env.locals)(h2:b∉X.fs):b∉frs X.stack:=fun hb=>(List.mem_cons.mp (I.stkSub b hb)).elim h1 h2
theorem Inv.frees(I:Inv X pins σ H s){js:List Nat}{N':List Str}{scope:Scope}(B:BlkS X.N X.env.scope js N' scope):∀y∈scope.names,y.2=.free->∃c,X.env.cells.lookup y.1=some c :=
 fun y hy hf=>I.ok.has y.1 (B.frees y hy hf)
theorem zjm{js:List Nat}{x:Str}{caps:List Str}{scope:Scope}{C:Addr}{fp:List Addr}{h₁:Heap}{tk:Nat}{m:Str->Option Value}(B:BlkS X.N X.env.scope js (x::caps) scope)(I:Inv X pins σ H s)(f2:∀b∈fp,zlX X pins H b)(ho:∀b∈fp,∃o,s.heap.get? b=some o)(hC:s.heap.objs.size<=C)(old:∀b o,s.heap.get? b=some o->h₁.get? b=some o)(ns:h₁.Ns C m) :
  Inv (blk X (x::caps) scope C fp s H) [] (none::zis js σ) H { s with heap:=h₁,toks:=tk }:=by
 have fr:=I.frees B
 have clo:∀y c,(clOf scope X.env).lookup y=some c->X.env.cells.lookup y=some c:=fun y c e=>zgh fr e
 have lt:∀b∈fp,b<s.heap.objs.size:=fun b hb=>let ⟨o,e⟩:=ho b hb;Heap.lt_size e
 refine⟨⟨I.ok.mod,B.kind,I.ok.glob,I.ok.blt,hC,fun a b c h1 h2=>I.ok.inj a b c (clo _ _ h1) (clo _ _ h2),fun y hy=>?_,fun y c h _=>absurd (show false=true from h) Bool.false_ne_true,I.ok.hd,I.ok.frames,.inl rfl,
   fun b hb=>⟨Nat.ne_of_lt (Nat.lt_of_lt_of_le (lt b hb) hC),fun y c h=>(f2 b hb).2.2.2.2.1 y c (clo y c h)⟩,I.bs,Nat.le_trans I.ok.bsz I.sz,fun b o e hb=>?_,fun b hb=>I.stkNe (f2 b hb).2.1 (f2 b hb).2.2.1,I.stack,I.stkFree⟩,
  rfl,I.bare,Un.kept old,⟨m,ns,fun i y v e1 e2 e3=>?_⟩,fun y c h=>?_,I.hok.fresh hC,fun y c h=>I.freeC y c (clo y c h),fun p hp=>absurd (show p∈([]:List (Addr×Obj)) from hp) (by simp),I.hok.kept old,?_⟩
 ·have hy':(relabel scope X.env).names.lookup y=some .cell\/(relabel scope X.env).names.lookup y=some .free:=hy
  have hm:(y,NameKind.free)∈scope.names:=by
   rcases hy' with z|z
   ·obtain⟨k,h1,h2⟩:=relabel_of z
    rcases h2 with h2|⟨h2,_⟩
    ·exact absurd h2.symm (B.cell _ h1)
    ·rw[h2] at h1;exact h1
   ·obtain⟨k,h1,h2⟩:=relabel_of z
    rcases h2 with h2|⟨_,h2⟩
    ·rw[<- h2] at h1;exact h1
    ·cases h2
  exact zhx hm
 ·rcases(f2 b hb).2.2.2.1 with z|z
  ·exact I.ok.noex b o e z
  ·exact absurd (Nat.lt_of_lt_of_le (Heap.lt_size e) (Nat.le_trans I.ok.bsz z)) (Nat.lt_irrefl _)
 ·cases i with
  | zero =>
   have q:some (none:Option V)=some (some v):=e2
   cases q
  | succ k =>
   have e1':caps[k]?=some y:=e1
   have e2':(js.map fun j=>σ.getD j none)[k]?=some (some v):=e2
   rw[List.getElem?_map] at e2'
   cases hj:js[k]? with
   | none=>rw[hj] at e2';cases e2'
   | some j =>
    rw[hj] at e2'
    have hv:σ.getD j none=some v:=Option.some.inj e2'
    have hσ:σ[j]?=some (some v):=by
     rw[List.getD_eq_getElem?_getD] at hv
     cases q:σ[j]? with
     | none=>rw[q] at hv;cases hv
     | some z=>rw[q] at hv;exact congrArg some hv
    have hz:(j,y)∈js.zip caps:=List.mem_of_getElem? (List.getElem?_zip_eq_some.mpr ⟨hj,e1'⟩)
    obtain⟨hN,hf⟩:=B.cap (j,y) hz
    have hk:=B.frees (y,.free) (PySem.mem_of_lookup hf) rfl
    obtain⟨m',_,hl⟩:=I.loc
    obtain⟨u,r,l⟩:=hl j y v hN hσ (.inr hk)
    rcases l with ⟨k1,_⟩|⟨k1,c,hcl,o,hco,hcd⟩
    ·have k1':X.env.scope.names.lookup y=some .local:=k1
     have hk':X.env.scope.names.lookup y=some .cell\/X.env.scope.names.lookup y=some .free:=hk
     rw[k1'] at hk'
     rcases hk' with z|z<;>cases z
    ·obtain⟨c',hc'⟩:=zhx (env:=X.env) (PySem.mem_of_lookup hf)
     have:=clo _ _ hc'
     rw[hcl] at this
     cases this
     exact⟨u,r,.inr ⟨relabel_free hf,c,hc',o,old c o hco,hcd⟩⟩
 ·obtain⟨v,o,h1,h2⟩:=I.cell y c (clo y c h)
  exact⟨v,o,old c o h1,h2⟩
 ·show(none::zis js σ).length=(x::caps).length
  rw[B.len]
  simp[zis]
end
end L2
namespace L2
open PySem PySem.Spec PyProof.Rows
def PIfs(Y:Cx)(ifs:List Expr)(tt:TT):Prop :=
 ∀(pins:List (Addr×Obj)) (s:Shared) (σ:St) (H:Hp) (Q:Bool->Hp->Prop),Inv Y pins σ H s->tt σ H Q ->
  wpAny (model Y.prog Y.w) Y.A (forIn ifs true fun c r=>if r=true then do let ok <- isTrue c Y.env (eval c Y.env);pure (ForInStep.yield ok) else pure (ForInStep.yield r)) (TP Y pins σ Q) Y.xe s
def zrb:TT:=fun _ H Q=>Q true H
theorem zk4{Y:Cx}:PIfs Y [] zrb:=fun _ _ _ H _ I h=>wpAny_tests_nil ⟨H,I,h⟩
theorem zk5{Y:Cx}{c:Expr}{tc:TT}(h:PT Y c tc):PIfs Y [c] tc:=fun pins s σ H Q I hw=>wpAny_tests_one (h pins s σ H Q I hw)
def zsT(J:It)(cs:St)(tt:TT)(te:TE)(Q:VK)(H1:Hp):Prop:=∃W:Nat->Nat->List V->Hp->Prop,(∃m,W 0 m [] H1)/\∀i m ys H2,W i m ys H2 ->
 (J.stop i H2/\∀p,H2 p=none->Q (.ref p) (upd H2 p (.lst ys))) \/
 (J.go i H2/\ys.length<sizeLine/\∃N:List V->Hp->Prop,(∀ys' H',N ys' H'->∃m',m'<m/\W (i+1) m' ys' H') /\
  ∀x H',J.yld i H2 x H'->tt (some x::cs) H' fun b H4=>if b=true then te (some x::cs) H4 fun y H5=>N (ys++[y]) H5 else N ys H4)
def tLC(js:List Nat)(wi:TI)(tt:TT)(te:TE):TE:=fun σ H Q=>wi σ H fun J H1=>zsT J (zis js σ) tt te Q H1
theorem zk6{α:Type}{M:Model}{A:Around}{Φ:Unit->Shared->Prop}{E E':Value->Shared->Prop}{s:Shared}{t:Sem α}{Ψ:α->Shared->Prop}(h:wpAny M A (pure ()) Φ E s)(k:Φ () s->wpAny M A t Ψ E' s):wpAny M A t Ψ E' s :=
 fun Γ p hΓ=>k (h Γ p hΓ) Γ p hΓ
section
variable {X:Cx} {elt iter:Expr} {x:Str} {px pos p:Pos} {ifs:List Expr} {scope:Scope} {js:List Nat} {caps:List Str} {wi:TI} {tt:TT} {te:TE}
theorem zjn{use:Option (Value->Sem Unit)}{Qf:Value->Shared->Prop}{pins:List (Addr×Obj)}{s:Shared}{σ:St}{H:Hp}{Q:VK}(B:BlkS X.N X.env.scope js (x::caps) scope)(hc:X.calm=true)(hx:scope.names.lookup x=some .local)(hi:PI X (.Name x px) iter wi)(ht:∀C fp s₀ H₀,PIfs (blk X (x::caps) scope C fp s₀ H₀) ifs tt)(he:∀C fp s₀ H₀,PE (blk X (x::caps) scope C fp s₀ H₀) elt te)(hs:∀v,foldedSetIterable iter X.env v=pure v)(I:Inv X pins σ H s)(hw:tLC js wi tt te σ H Q)(fin:∀(C D:Addr) (oC:Obj) (ys:List V) (H':Hp) (s1:Shared),Inv X (pins++[(C,oC)]) σ (upd H' D (.lst ys)) s1->Q (.ref D) (upd H' D (.lst ys)) ->
   (∀σ' H'' s',Inv X (pins++[(C,oC)]) σ' H'' s'->(∃m,s'.heap.Ns C m)/\∀h',Heap.SameBut C s'.heap h'->Inv X pins σ' H'' { s' with heap:=h' }) ->
   compPost (model X.prog X.w) X.A X.xe use Qf (.ref D) C (.ok .next) s1) :
  wpAny (model X.prog X.w) X.A (comprehension (.ListComp elt [⟨.Name x px,iter,ifs,0⟩] scope pos) scope X.env p (newList []) false (eval iter X.env) use) Qf X.xe s:=by
 have fr:=I.frees B
 refine wpAny_comprehension_free (use:=use) rfl hs (zit fr) B.kind B.names (thn (hi pins s σ H _ I hw) fun v s1 h1=>thn h1 fun itv s2 h2=>?_)
 obtain⟨it,fp,tn,J,H2,e,I2,T,st2,f2,W,⟨m0,w0⟩,turn⟩:=h2
 subst e
 refine wpAny_newObj_type (wpAny_newFunctionEnv B.cell (by intro y hy;simp at hy) (fun h₁ hns₁ hsb₁=>?_) B.kind)
 dsimp only at hns₁ hsb₁ ⊢
 generalize hG:s2.heap.push { cls:=.type "list",dict:=none,data:=.seq ([]:List Value).toArray }=G at hns₁ hsb₁ ⊢
 have hC:G.objs.size=s2.heap.objs.size+1:=by rw[<- hG,Heap.size_push]
 have hDC:s2.heap.objs.size≠G.objs.size:=by rw[hC];exact Nat.ne_of_lt (Nat.lt_succ_self _)
 have hCle:s2.heap.objs.size<=G.objs.size:=by rw[hC];exact Nat.le_succ _
 have old:∀b o,s2.heap.get? b=some o->h₁.get? b=some o:=fun b o e =>
  hsb₁.extBut b o (Nat.ne_of_lt (Nat.lt_of_lt_of_le (Heap.lt_size e) hCle)) (Heap.get?_push_of_some _ (hG▸Heap.get?_push_of_some _ e))
 have hacc:h₁.get? s2.heap.objs.size=some (LCg.lst []):=hsb₁.extBut _ _ hDC (Heap.get?_push_of_some _ (hG▸Heap.get?_push_size _ rfl))
 have fpo:∀b∈fp,∃o,s2.heap.get? b=some o:=fun b hb=>let ⟨o,e,_⟩:=T.obj 0 _ st2 b hb;⟨o,e⟩
 have fpl:∀b∈fp,b<s2.heap.objs.size:=fun b hb=>let ⟨o,e⟩:=fpo b hb;Heap.lt_size e
 have clo:∀y c,(clOf scope X.env).lookup y=some c->X.env.cells.lookup y=some c:=fun y c e=>zgh fr e
 have cls2:∀y c,X.env.cells.lookup y=some c->c<s2.heap.objs.size:=fun y c e=>let ⟨v,o,h1,_⟩:=I2.cell y c e;Heap.lt_size h1
 have st1:tn 0 h₁:=T.keep 0 _ _ st2 fun b _ o e=>old b o e
 have D_fs:s2.heap.objs.size∉frs X.stack:=I2.stkNe (Nat.ne_of_gt I2.lt) (I2.nofs (Nat.le_refl _))
 have C_fs:G.objs.size∉X.fs:=I2.nofs hCle
 have C_L:G.objs.size≠X.env.locals:=Nat.ne_of_gt (Nat.lt_of_lt_of_le I2.lt hCle)
 have fpY:∀{pl:List (Addr×Obj)} {H':Hp},(∀b∈fp,H' b=none)->(∀p∈pl,s2.heap.objs.size<=p.1)->∀b∈fp,zlX (blk X (x::caps) scope G.objs.size fp s2 H2) pl H' b:=fun {pl H'} hn hp b hb =>
  ⟨hn b hb,Nat.ne_of_lt (Nat.lt_of_lt_of_le (fpl b hb) hCle),I2.stkNe (f2 b hb).2.1 (f2 b hb).2.2.1,.inl hb,fun y c h=>(f2 b hb).2.2.2.2.1 y c (clo y c h),fun p hp' z =>
   absurd (Nat.lt_of_lt_of_le (fpl b hb) (by rw[<- z];exact hp p (by simpa[blk] using hp'))) (Nat.lt_irrefl _)⟩
 have rel:∀{oC:Obj} {mC:Str->Option Value},LCg.NsObj oC mC->∀σ' H'' s',Inv X (pins++[(G.objs.size,oC)]) σ' H'' s'->(∃m,s'.heap.Ns G.objs.size m)/\∀h',Heap.SameBut G.objs.size s'.heap h'->Inv X pins σ' H'' { s' with heap:=h' }:=by
  intro oC mC hns σ' H'' s' I'
  obtain⟨e1,e2,e3,e4,e5⟩:=I'.pin (G.objs.size,oC) (List.mem_append_right _ (List.mem_append_right _ (by simp)))
  refine⟨⟨mC,hns.ns e1⟩,fun h' hs'=>?_⟩
  exact(I'.unpinned).turned (t':=s'.toks) (it:=G.objs.size) (fun b o hb e=>(hs'.2 b hb).trans e) e2 e3 (.inr (Nat.le_trans I2.sz hCle)) (fun y c h z=>absurd (Nat.lt_of_lt_of_le (cls2 y c h) (by rw[z];exact hCle)) (Nat.lt_irrefl _))
   (fun q hq z=>absurd (Nat.lt_of_lt_of_le (Heap.lt_size (I2.pin q hq).1) (by rw[z];exact hCle)) (Nat.lt_irrefl _))
 have I1:Inv (blk X (x::caps) scope G.objs.size fp s2 H2) [] (none::zis js σ) H2 { s2 with heap:=h₁,toks:=s2.toks+([]:List (Str×Value)).length }:=zjm B I2 f2 fpo hCle old hns₁
 have hxl:(blk X (x::caps) scope G.objs.size fp s2 H2).env.scope.names.lookup x=some .local:=lookup_relabel_local hx
 have pinD:∀{us:List Value} {σ3:St} {H3:Hp} {s3:Shared},Inv (blk X (x::caps) scope G.objs.size fp s2 H2) [] σ3 H3 s3->s3.heap.get? s2.heap.objs.size=some (LCg.lst us)->H3 s2.heap.objs.size=none ->
   Inv (blk X (x::caps) scope G.objs.size fp s2 H2) [(s2.heap.objs.size,LCg.lst us)] σ3 H3 s3:=fun {us σ3 H3 s3} I3 hD nD=>I3.pins_of fun p hp=>by
  have e:p=(s2.heap.objs.size,LCg.lst us):=by simpa using hp
  subst e
  exact⟨hD,nD,hDC,D_fs,fun v z=>by
   have z':Data.seq _ _=Data.cell v:=z
   cases z'⟩
 have back:∀{us us':List Value} {ts:Option V} {H8:Hp} {s5 s8:Shared} {h9:Heap} {i:Nat},Inv (blk X (x::caps) scope G.objs.size fp s2 H2) ([(s2.heap.objs.size,LCg.lst us)]++zeX fp s5.heap) (ts::zis js σ) H8 s8->tn (i+1) s5.heap ->
   (∀b,b≠s2.heap.objs.size->h9.get? b=s8.heap.get? b)->h9.get? s2.heap.objs.size=some (LCg.lst us') ->
   Inv (blk X (x::caps) scope G.objs.size fp s2 H2) [] (none::zis js σ) H8 { s8 with heap:=h9 }/\tn (i+1) h9/\(∀b∈fp,H8 b=none)/\H8 s2.heap.objs.size=none:=by
  intro us us' ts H8 s5 s8 h9 i I8 st5 hk hD9
  have pn:∀q∈[(s2.heap.objs.size,LCg.lst us)]++zeX fp s5.heap,s8.heap.get? q.1=some q.2/\H8 q.1=none:=fun q hq=>let z:=I8.pin q (List.mem_append_right _ hq);⟨z.1,z.2.1⟩
  have nD:H8 s2.heap.objs.size=none:=(pn (s2.heap.objs.size,LCg.lst us) (by simp)).2
  have Iw:Inv (blk X (x::caps) scope G.objs.size fp s2 H2) [] (none::zis js σ) H8 s8:=(I8.pins_of (pins':=[]) fun q hq=>nomatch hq).weak rfl fun j v e=>by
   cases j with
   | zero =>
    have q:some (none:Option V)=some (some v):=e
    cases q
   | succ j=>exact e
  refine⟨Iw.turned (t':=s8.toks) (it:=s2.heap.objs.size) (fun b o hb e=>(hk b hb).trans e) nD hDC (.inr (Nat.le_refl _)) (fun y c h z=>absurd (cls2 y c (clo y c h)) (by rw[z];exact Nat.lt_irrefl _)) (fun q hq=>absurd (show q∈([]:List (Addr×Obj)) from hq) (by simp)),
   T.keep _ _ _ st5 fun b hb o e=>?_,fun b hb=>?_,nD⟩
  ·rw[hk b (Nat.ne_of_lt (fpl b hb))]
   exact(pn (b,o) (List.mem_append_right _ (zcK hb e))).1
  ·obtain⟨o,e,_⟩:=T.obj _ _ st5 b hb
   exact(pn (b,o) (List.mem_append_right _ (zcK hb e))).2
 have loop:codeAny (model X.prog X.w) X.A (.compLoop (.ListComp elt [⟨.Name x px,iter,ifs,0⟩] scope pos) 0 (.ref it) (.ref s2.heap.objs.size) (compEnvC scope (clOf scope X.env) G.objs.size X.env))
   (compPost (model X.prog X.w) X.A X.xe use Qf (.ref s2.heap.objs.size) G.objs.size) { s2 with heap:=h₁,toks:=s2.toks+([]:List (Str×Value)).length }:=by
  refine codeAny_compLoop_tests (fun n s'=>∃(i:Nat) (ys:List V) (us:List Value) (H':Hp),Inv (blk X (x::caps) scope G.objs.size fp s2 H2) [] (none::zis js σ) H' s'/\tn i s'.heap/\(∀b∈fp,H' b=none) /\
   s'.heap.get? s2.heap.objs.size=some (LCg.lst us)/\Vals ys us/\H' s2.heap.objs.size=none/\ys.length<=sizeLine/\W i n ys H') ?_ m0 ⟨0,[],[],H2,I1,st1,fun b hb=>(f2 b hb).1,hacc,.nil,I2.hok.fresh (Nat.le_refl _),Nat.zero_le _,w0⟩
  rintro n s3 ⟨i,ys,us,H3,I3,st3,fr3,hD,rv,nD,hz,w3⟩
  have I3':=pinD I3 hD nD
  have hpl:∀p∈[(s2.heap.objs.size,LCg.lst us)],s2.heap.objs.size<=p.1:=fun p hp=>by
   have e:p=(s2.heap.objs.size,LCg.lst us):=by simpa using hp
   subst e
   exact Nat.le_refl _
  rcases turn i n ys H3 w3 with ⟨stop,q⟩|⟨go,hlt,N,hN,step⟩
  ·refine wpAny_mono (T.done (blk X (x::caps) scope G.objs.size fp s2 H2) rfl rfl rfl hc i _ s3 _ H3 (fun _ _=>False) I3' (fpY fr3 hpl) st3 stop) (fun r s4 hr=>?_) fun _ _ z=>z.elim
   obtain⟨hr,I4⟩:=hr
   subst hr
   have hD4:s4.heap.get? s2.heap.objs.size=some (LCg.lst us):=(I4.pin (s2.heap.objs.size,LCg.lst us) (List.mem_append_right _ (by simp))).1
   have un:Un (frs X.stack) fp H2 (upd H3 s2.heap.objs.size (.lst ys)) s2.heap s4.heap :=
    ⟨fun b o e n hb hx=>I4.base.keep b o e n hb hx,fun b o e n hb hx=>I4.base.slot b o e n hb hx,fun b o e n hx=>by rw[zaG (Nat.ne_of_lt (Heap.lt_size e))];exact I4.base.free b o e n hx,fun b o e hx=>I4.base.there b o e hx,
     fun b zs e=>by have q:=I4.base.tups b zs e;rw[zaG (zaE q nD)];exact q,fun b o u e=>by have q:=I4.base.frzs b o u e;rw[zaG (zaE q nD)];exact q,
     fun b ps e=>by obtain⟨more,q⟩:=I4.base.tbls b ps e;exact⟨more,by rw[zaG (zaE q nD)];exact q⟩⟩
   have hok4:HOk X.prog X.w (upd H3 s2.heap.objs.size (.lst ys)) s4.heap:=HOk.track I4.hok nD ⟨hz,us,us.length,rv,hD4⟩
   have IX:Inv X pins σ (upd H3 s2.heap.objs.size (.lst ys)) s4:=I2.call' (ch:=fp) I4.os un hok4 I4.bare fun b hb=>⟨(f2 b hb).2.2.2.1,(f2 b hb).2.1,(f2 b hb).2.2.2.2.1,(f2 b hb).2.2.2.2.2⟩
   obtain⟨mC,hnC,_⟩:=I4.loc
   obtain⟨oC,eC,nsC⟩:=LCg.ns_obj hnC
   have nC:(upd H3 s2.heap.objs.size (.lst ys)) G.objs.size=none:=by rw[zaG (Ne.symm hDC)];exact I4.free
   have dC:∀v,oC.data≠.cell v:=fun v z=>by
    obtain⟨es,ep,d,_⟩:=nsC
    rw[d] at z;cases z
   have IX':Inv X (pins++[(G.objs.size,oC)]) σ (upd H3 s2.heap.objs.size (.lst ys)) s4:=IX.pins_of fun q hq=>by
    rcases List.mem_append.mp hq with z|z
    ·exact IX.pin q (List.mem_append_right _ z)
    ·have e:q=(G.objs.size,oC):=by simpa using z
     subst e
     exact⟨eC,nC,C_L,C_fs,dC⟩
   exact fin G.objs.size s2.heap.objs.size oC ys H3 s4 IX' (q _ nD) (rel nsC)
  ·refine wpAny_mono (T.item (blk X (x::caps) scope G.objs.size fp s2 H2) rfl rfl rfl hc i _ s3 _ H3 (fun _ _=>False) I3' (fpY fr3 hpl) st3 go) (fun r s4 hr=>?_) fun _ _ z=>z.elim
   obtain⟨u,hr,h4⟩:=hr
   subst hr
   show wpAny _ _ (assign _ _ u) _ _ s4
   refine zk6 h4 fun h5=>?_
   obtain⟨xv,H5,I5,r5,y5,st5,fr5⟩:=h5
   have I5':=I5.pinned (fpY fr5 hpl) (T.obj _ _ st5)
   refine wpAny_mono (zgX (X:=blk X (x::caps) scope G.objs.size fp s2 H2) (i:=0) (x:=x) B.nd rfl (Or.inl hxl) (.inr hxl) _ s4 _ H5 xv u (fun σ' H'=>σ'=some xv::zis js σ/\H'=H5) I5' r5 ⟨rfl,rfl⟩) (fun _ s6 h6=>?_) fun _ _ z=>False.elim z
   obtain⟨σ6,H6,I6,e6,e6'⟩:=h6
   subst e6 e6'
   refine wpAny_mono (ht _ _ _ _ _ s6 _ _ _ I6 (step xv _ y5)) (fun b s7 h7=>?_) fun _ _ z=>False.elim z
   obtain⟨H7,I7,q7⟩:=h7
   cases b with
   | false =>
    rw[if_neg Bool.false_ne_true] at q7
    show if false=true then _ else _
    rw[if_neg Bool.false_ne_true]
    have hD7:s7.heap.get? s2.heap.objs.size=some (LCg.lst us):=(I7.pin (s2.heap.objs.size,LCg.lst us) (List.mem_append_right _ (List.mem_append_left _ (by simp)))).1
    obtain⟨J1,J2,J3,J4⟩:=back I7 st5 (fun _ _=>rfl) hD7
    obtain⟨m',hm,w'⟩:=hN _ _ q7
    exact⟨m',hm,i+1,ys,us,H7,J1,J2,J3,hD7,rv,J4,hz,w'⟩
   | true =>
    rw[if_pos rfl] at q7
    show if true=true then _ else _
    rw[if_pos rfl]
    refine wpAny_mono (he _ _ _ _ _ s7 _ _ _ I7 q7) (fun yu s8 h8=>?_) fun _ _ z=>False.elim z
    obtain⟨yv,H8,I8,r8,q8⟩:=h8
    have hD8:s8.heap.get? s2.heap.objs.size=some (LCg.lst us):=(I8.pin (s2.heap.objs.size,LCg.lst us) (List.mem_append_right _ (List.mem_append_left _ (by simp)))).1
    have hlu:us.length=ys.length:=rv.length.symm
    refine append_at hD8 (fun h9 hs9 hD9=>?_) (by rw[List.size_toArray,hlu];exact hz)
    have hD9':h9.get? s2.heap.objs.size=some (LCg.lst (us++[yu])):=hD9.trans (congrArg some (LCg.lst_snoc us yu))
    obtain⟨J1,J2,J3,J4⟩:=back I8 st5 hs9.2 hD9'
    obtain⟨m',hm,w'⟩:=hN _ _ q8
    exact⟨m',hm,i+1,ys++[yv],us++[yu],H8,J1,J2,J3,hD9',rv.append (.cons r8 .nil),J4,by rw[List.length_append,List.length_singleton];exact hlt,w'⟩
 exact codeAny_compStart_list loop (T.self X.A 0 _ _ _ st1 loop)
theorem zrc(B:BlkS X.N X.env.scope js (x::caps) scope)(hc:X.calm=true)(hx:scope.names.lookup x=some .local)(hi:PI X (.Name x px) iter wi)(ht:∀C fp s₀ H₀,PIfs (blk X (x::caps) scope C fp s₀ H₀) ifs tt)(he:∀C fp s₀ H₀,PE (blk X (x::caps) scope C fp s₀ H₀) elt te)(hs:∀v,foldedSetIterable iter X.env v=pure v:=by intro _;rfl):PE X (.ListComp elt [⟨.Name x px,iter,ifs,0⟩] scope pos) (tLC js wi tt te):=by
 intro pins s σ H Q I hw
 rw[eval_ListComp]
 refine zjn (use:=none) (Q:=Q) B hc hx hi ht he hs I hw fun C D oC ys H' s1 IX q rel=>?_
 obtain⟨⟨m,hn⟩,rl⟩:=rel _ _ _ IX
 exact⟨m,hn,fun h' hs'=>⟨.ref D,_,rl h' hs',rfl,q⟩⟩
theorem zrd{y:Str}{py spos:Pos}{k:Nat}(B:BlkS X.N X.env.scope js (x::caps) scope)(hc:X.calm=true)(hx:scope.names.lookup x=some .local)(hi:PI X (.Name x px) iter wi)(ht:∀C fp s₀ H₀,PIfs (blk X (x::caps) scope C fp s₀ H₀) ifs tt)(he:∀C fp s₀ H₀,PE (blk X (x::caps) scope C fp s₀ H₀) elt te)(hN:X.N.Nodup)(hk:X.N[k]?=some y)(hy:X.env.scope.names.lookup y=some .local)(hsw:swapsWith (.ListComp elt [⟨.Name x px,iter,ifs,0⟩] scope pos) (some (.Name y py)) spos.line X.env=pure true)(hs:∀v,foldedSetIterable iter X.env v=pure v:=by intro _;rfl):PS X (.Assign [.Name y py] (.ListComp elt [⟨.Name x px,iter,ifs,0⟩] scope pos) spos) (zqP (tLC js wi tt te) (gName k)):=by
 intro pins s σ H D I hw
 rw[exec_Assign_Name_used _ _ _ _ hsw]
 refine wpAny_bind (wpAny_standAt (wpAny_bind ?_))
 show wpAny _ _ (do let _ <- comprehension (.ListComp elt [⟨.Name x px,iter,ifs,0⟩] scope pos) scope X.env _ (newList []) false (eval iter X.env) (some (assign (.Name y py) X.env))) _ _ s
 refine wpAny_bind (thn (zjn (use:=some (assign (.Name y py) X.env)) (Qf:=fun _ s'=>SP X pins D .next s') (Q:=fun v H1=>D.nx (σ.set k (some v)) H1) B hc hx hi ht he hs I hw fun C a oC ys H' s1 IX q rel=>?_) fun _ s' hq=>wpAny_pure (wpAny_pure hq))
 show wpAny _ _ (assign (.Name y py) X.env (.ref a)) _ _ s1
 refine thn (zgX (i:=k) hN hk (Or.inl hy) (.inr hy) _ s1 σ _ (.ref a) (.ref a) (fun σ' H'=>D.nx σ' H') IX rfl q) fun _ s' h=>?_
 obtain⟨σ',H'',I',q'⟩:=h
 obtain⟨⟨m,hn⟩,rl⟩:=rel _ _ _ I'
 exact⟨m,hn,fun h' hs'=>⟨σ',H'',rl h' hs',q'⟩⟩
end
end L2
namespace L2
open PySem PySem.Spec PyProof.Rows
section
variable {X:Cx} {p pos:Pos}
theorem zgZ:CallR X (.builtin "sorted") (fun xs H Q=>∃(a:Addr) (ns:List Int),xs=[.ref a]/\SqL X.K H a (ns.map V.int)/\ns.length<64/\∀ms:List Int,ms.Perm ns->ms.Pairwise (·<=·)->∀l,H l=none->Q (.ref l) (upd H l (.lst (ms.map V.int)))):=by
 intro pins s σ H xs us Q I r h
 obtain⟨a,ns,rfl,hq,h64,q⟩:=h
 obtain⟨u,rfl,rx⟩:=zeM r
 cases rx
 obtain⟨its,rv,pl,hz⟩:=I.list hq
 have hlen:ns.length=its.length:=by have:=rv.length;simpa using this
 refine sorted_ints pl.isList (zio rv) (by omega) fun out ms hI hp hs=>?_
 obtain⟨e,he⟩:=sortedAll_at s.heap its out
 have rv':Vals (ms.map V.int) out.toList:=zct hI
 have hl':ms.length=ns.length:=hp.length_eq
 refine⟨.ref (s.heap.objs.size+1),_,I.laid (t':=s.toks) (a:=s.heap.objs.size+1) (o:=.lst (ms.map V.int)) (fun b o e=>sortedAll_old e) (Nat.le_succ _) ?_,rfl,q ms hp hs _ (I.hok.fresh (Nat.le_succ _))⟩
 refine⟨by rw[List.length_map,hl',hlen];have:=rv.length;omega,out.toList,e,rv',?_⟩
 rw[Array.toArray_toList]
 exact he
end
abbrev Rep(α:Type):=PySem.W.Frag->Hp->V->α->Prop
def ztb:Rep Int:=fun _ _ v i=>v=.int i
def ztc{α:Type}(R:Rep α):Rep (List α):=fun K H v l=>∃p vs,v=.ref p/\SqL K H p vs/\Paired (R K H) vs l
def rPr{α β:Type}(R:Rep α)(S:Rep β):Rep (α×β):=fun K H v l=>∃p x y,v=.ref p/\SqT K H p [x,y]/\R K H x l.1/\S K H y l.2
theorem Paired.at2{α β:Type}{F:α->β->Prop}:∀{l₁:List α} {l₂:List β},Paired F l₁ l₂->∀(i:Nat) (a:α),l₁[i]?=some a->∃b,l₂[i]?=some b/\F a b
 | _,_,.nil,_,_,h=>by simp at h
 | _,_,.cons r t,0,a,h=>by simp at h;subst h;exact⟨_,rfl,r⟩
 | _,_,.cons r t,i+1,a,h=>by
  obtain⟨b,h1,h2⟩:=Paired.at2 t i a (by simpa using h)
  exact⟨b,by simpa using h1,h2⟩
section
variable {α β:Type} [DecidableEq α] [DecidableEq β] {n:Nat} {R:Rep α} {S:Rep β} {X:Cx} {pins:List (Addr×Obj)} {σ:St} {H:Hp} {s:Shared} {A:Around}
end
section
variable {α β:Type} [DecidableEq α] [DecidableEq β] {n:Nat} {R:Rep α} {S:Rep β}
end
section
variable {α:Type} [DecidableEq α] {n:Nat} {R:Rep α} {X:Cx}
end
section
variable {α β:Type} [DecidableEq α] [DecidableEq β] {n:Nat} {R:Rep α} {S:Rep β}
end
end L2
namespace L2
open PySem PySem.Spec PyProof.Rows
section
variable {X:Cx} {st:Stmt} {zdw:List Stmt} {t u:TS} {e:Expr} {te:TE} {tt:TT}
end
def zoY(N:List Str)(psc:Scope)(js:List Nat)(N':List Str)(scope:Scope):Bool :=
 scope.names.all (fun y=>decide (y.2≠.cell))&&decide (scope.kind=.function)&&scope.names.all (fun y=>decide (y.2=.local->scope.names.lookup y.1=some .local)) &&
 scope.names.all (fun y=>decide (y.2=.free->psc.names.lookup y.1=some .cell\/psc.names.lookup y.1=some .free))&&decide N'.Nodup&&decide (N'.length=js.length+1) &&
 (js.zip (N'.drop 1)).all (fun p=>decide (N[p.1]?=some p.2/\scope.names.lookup p.2=some .free))
theorem zcV{N:List Str}{psc:Scope}{js:List Nat}{N':List Str}{scope:Scope}(h:zoY N psc js N' scope=true):BlkS N psc js N' scope:=by
 unfold zoY at h
 simp only[Bool.and_eq_true,List.all_eq_true,decide_eq_true_eq] at h
 obtain⟨⟨⟨⟨⟨⟨h1,h2⟩,h3⟩,h4⟩,h5⟩,h6⟩,h7⟩:=h
 exact⟨h1,h2,h3,h4,h5,h6,h7⟩
theorem Room.cmp{k:Nat}{A:Around}(r:Room k A)(n:Nat)(h:n<=64:=by decide):A.units+n<cLine:=by have:=r.units;omega
theorem Paired.app{α β:Type}{F:α->β->Prop}:∀{l₁ m₁:List α} {l₂ m₂:List β},Paired F l₁ l₂->Paired F m₁ m₂->Paired F (l₁++m₁) (l₂++m₂)
 | _,_,_,_,.nil,s=>s
 | _,_,_,_,.cons r t,s=>.cons r (Paired.app t s)
def pr(H:Hp)(v:V)(l:Int×Int):Prop:=∃q,v=.ref q/\H q=some (.tup [.int l.1,.int l.2])
def Lns(H:Hp)(p:Addr)(L:List (Int×Int)):Prop:=∃vs,H p=some (.lst vs)/\Paired (pr H) vs L
def zre(H:Hp)(v:V)(r:List Int):Prop:=∃q,v=.ref q/\H q=some (.tup (r.map V.int))
def zr0(H:Hp)(v:V)(rows:List (List Int)):Prop:=∃q vs,v=.ref q/\H q=some (.tup vs)/\Paired (zre H) vs rows
end L2
namespace L2
open PySem PySem.Spec PyProof.Rows
section
variable {X:Cx} (K:PySem.W.Frag)
theorem ixL(hK:X.K=K:=by rfl):IxR X (zq7 K):=hK▸zna
theorem ixT(hK:X.K=K:=by rfl):IxR X (zq8 K):=hK▸zoT
def znc(K:PySem.W.Frag):List V->Hp->VK->Prop:=fun xs H Q=>∃(a:Addr) (ns:List Int),xs=[.ref a]/\SqL K H a (ns.map V.int)/\ns.length<64/\∀ms:List Int,ms.Perm ns->ms.Pairwise (·<=·)->∀l,H l=none->Q (.ref l) (upd H l (.lst (ms.map V.int)))
def znd(K:PySem.W.Frag):List V->Hp->VK->Prop:=fun xs H Q=>∃p ys,xs=[.ref p]/\(SqL K H p ys\/SqT K H p ys)/\∀l,H l=none->Q (.ref l) (upd H l (.lst ys))
def zl2(K:PySem.W.Frag):List V->Hp->VK->Prop:=fun xs H Q=>∃p ys,xs=[.ref p]/\((SqL K H p ys/\∀l,H l=none->Q (.ref l) (upd H l (.tup ys)))\/(SqT K H p ys/\Q (.ref p) H))
theorem zdN(hK:X.K=K:=by rfl):CallR X (.type "tuple") (zl2 K):=hK▸zfm
variable {tg l a:Expr} {tl ta:TE}
def zsU(K:PySem.W.Frag)(ta:TE):TT:=fun σ H Q=>ta σ H fun x H'=>∃k,zqr K x H' k/\Q k H'
theorem zrf(ha:PE X a ta)(he:∀whole,isTrue a X.env whole=(do let v <- whole;standAt a.pos;holding [v] (truthy v)))(hK:X.K=K:=by rfl):PT X a (zsU K ta):=hK▸zkV ha he
variable {α:Type} [DecidableEq α] {n:Nat} {R:Rep α}
end
end L2
namespace L2
open PySem PySem.Spec PyProof.Rows
section
variable {κ:Type} [DecidableEq κ]
def ziu(kvs:List (κ×V))(k:κ):Option V:=(kvs.find? fun kv=>decide (kv.1=k)).map (·.2)
def zf2(kvs:List (κ×V))(k:κ)(v:V):List (κ×V) :=
 if (kvs.any fun kv=>decide (kv.1=k))=true then kvs.map (fun kv=>if kv.1=k then (kv.1,v) else kv) else kvs++[(k,v)]
def zsV(kvs:List (κ×V))(k:κ):List (κ×V):=kvs.filter fun kv=>decide (kv.1≠k)
theorem zd0{p:κ×V}{r:List (κ×V)}{k:κ}(e:p.1=k):ziu (p::r) k=some p.2:=by simp[ziu,List.find?_cons,e]
theorem zd1{p:κ×V}{r:List (κ×V)}{k:κ}(e:¬p.1=k):ziu (p::r) k=ziu r k:=by simp[ziu,List.find?_cons,e]
theorem zhy(k:κ):∀kvs:List (κ×V),(kvs.any fun kv=>decide (kv.1=k))=(ziu kvs k).isSome
 | []=>rfl
 | p::r=>by
  rw[List.any_cons]
  by_cases e:p.1=k
  ·simp only[zd0 e,decide_eq_true e,Bool.true_or,Option.isSome_some]
  ·rw[zd1 e,decide_eq_false e,Bool.false_or];exact zhy k r
theorem zc2(kvs:List (κ×V))(k:κ)(v:V):(zf2 kvs k v).length<=kvs.length+1:=by
 unfold zf2
 split
 ·rw[List.length_map];omega
 ·rw[List.length_append,List.length_cons,List.length_nil];omega
theorem RelO.isSome_eq{o:Option V}{u:Option Value}(r:RelO o u):o.isSome=u.isSome:=by
 cases o with
 | none=>cases u with
  | none=>rfl
  | some _=>exact(show False from r).elim
 | some _=>cases u with
  | none=>exact(show False from r).elim
  | some _=>rfl
theorem KV.val{kvs:List (κ×V)}{vs:List (κ×Value)}(r:KV kvs vs)(k:κ):RelO (ziu kvs k) (valueAt vs k):=by
 unfold KV at r
 induction r with
 | nil=>exact True.intro
 | @cons p q ps qs h t ih =>
  obtain⟨h1,h2⟩:=h
  by_cases e:p.1=k
  ·have e':q.1=k:=h1.symm.trans e
   have b:valueAt (q::qs) k=some q.2:=by simp[valueAt,List.find?_cons,e']
   rw[zd0 e,b];exact h2
  ·have e':¬q.1=k:=fun z=>e (h1.trans z)
   have b:valueAt (q::qs) k=valueAt qs k:=by simp[valueAt,List.find?_cons,e']
   rw[zd1 e,b];exact ih
theorem KV.any{kvs:List (κ×V)}{vs:List (κ×Value)}(r:KV kvs vs)(k:κ):(kvs.any fun kv=>decide (kv.1=k))=vs.any fun kv=>decide (kv.1=k):=by
 unfold KV at r
 induction r with
 | nil=>rfl
 | cons h t ih=>rw[List.any_cons,List.any_cons,ih,h.1]
theorem KV.repl{kvs:List (κ×V)}{vs:List (κ×Value)}(r:KV kvs vs)(k:κ){y:V}{u:Value}(ry:RelV y u) :
  KV (kvs.map fun kv=>if kv.1=k then (kv.1,y) else kv) (vs.map fun kv=>if kv.1=k then (kv.1,u) else kv):=by
 unfold KV at r ⊢
 induction r with
 | nil=>exact .nil
 | @cons p q ps qs h t ih =>
  rw[List.map_cons,List.map_cons]
  refine .cons ?_ ih
  obtain⟨h1,h2⟩:=h
  by_cases e:p.1=k
  ·rw[if_pos e,if_pos (h1.symm.trans e)];exact⟨h1,ry⟩
  ·rw[if_neg e,if_neg (fun z=>e (h1.trans z))];exact⟨h1,h2⟩
theorem KV.put{kvs:List (κ×V)}{vs:List (κ×Value)}(r:KV kvs vs)(k:κ){y:V}{u:Value}(ry:RelV y u):KV (zf2 kvs k y) (stored vs k u):=by
 unfold zf2 stored
 rw[r.any k]
 by_cases e:(vs.any fun kv=>decide (kv.1=k))=true
 ·rw[if_pos e,if_pos e];exact r.repl k ry
 ·rw[if_neg e,if_neg e];exact Paired.snoc r ⟨rfl,ry⟩
theorem KV.keys{kvs:List (κ×V)}{vs:List (κ×Value)}(r:KV kvs vs):kvs.map (·.1)=vs.map (·.1):=by
 unfold KV at r
 induction r with
 | nil=>rfl
 | cons h t ih=>rw[List.map_cons,List.map_cons,ih,h.1]
theorem KV.length{kvs:List (κ×V)}{vs:List (κ×Value)}(r:KV kvs vs):kvs.length=vs.length:=Paired.length r
end
theorem kV_is{P:Program}{w:World}{k:Key}{u:Value}(r:RelV (kV k) u):(za2 P w).is k u=true:=by
 cases k with
 | inl i=>obtain⟨t,e⟩:=(show ∃t,u=Value.int i t from r);subst e;exact zgU P w i t
 | inr x=>obtain⟨t,e⟩:=(show ∃t,u=Value.str x t from r);subst e;exact zgV P w x t
theorem zgi{P:Program}{w:World}:∀{ks:List Key} {us:List Value},Vals (ks.map kV) us->ItemsAre (za2 P w) ks us
 | [],_,r=>by rw[List.map_nil] at r;cases r;exact .nil
 | k::ks,_,r=>by
  rw[List.map_cons] at r
  cases r with
  | cons h t=>exact .cons (kV_is h) (zgi t)
abbrev KT(H:Hp):List (List Key×V)->List (List Key×Addr×Value)->Prop:=Paired fun p q=>p.1=q.1/\H q.2.1=some (.tup (p.1.map kV))/\RelV p.2 q.2.2
theorem KT.val{H:Hp}{kvs:List (List Key×V)}{xs:List (List Key×Addr×Value)}(r:KT H kvs xs)(k:List Key):RelO (ziu kvs k) ((atKey xs k).map (·.2)):=by
 induction r with
 | nil=>exact True.intro
 | @cons p q ps qs h t ih =>
  obtain⟨h1,_,h2⟩:=h
  by_cases e:p.1=k
  ·have e':q.1=k:=h1.symm.trans e
   have b:atKey (q::qs) k=some q.2:=by simp[atKey,List.find?_cons,e']
   rw[zd0 e,b];exact h2
  ·have e':¬q.1=k:=fun z=>e (h1.trans z)
   have b:atKey (q::qs) k=atKey qs k:=by simp[atKey,List.find?_cons,e']
   rw[zd1 e,b];exact ih
theorem KT.repl{H:Hp}{kvs:List (List Key×V)}{xs:List (List Key×Addr×Value)}(r:KT H kvs xs)(k:List Key){y:V}{u:Value}(ry:RelV y u) :
  KT H (kvs.map fun kv=>if kv.1=k then (kv.1,y) else kv) (xs.map (putAt k u)):=by
 induction r with
 | nil=>exact .nil
 | @cons p q ps qs h t ih =>
  rw[List.map_cons,List.map_cons]
  refine .cons ?_ ih
  obtain⟨h1,h2,h3⟩:=h
  unfold putAt
  by_cases e:p.1=k
  ·rw[if_pos e,if_pos (h1.symm.trans e)];exact⟨h1,h2,ry⟩
  ·rw[if_neg e,if_neg (fun z=>e (h1.trans z))];exact⟨h1,h2,h3⟩
theorem KT.put{H:Hp}{kvs:List (List Key×V)}{xs:List (List Key×Addr×Value)}(r:KT H kvs xs)(k:List Key){b:Addr}{y:V}{u:Value}(hb:H b=some (.tup (k.map kV)))(ry:RelV y u) :
  KT H (zf2 kvs k y) (storedH xs k b u):=by
 have e:(kvs.any fun kv=>decide (kv.1=k))=(atKey xs k).isSome:=by
  rw[zhy,(r.val k).isSome_eq,Option.isSome_map]
 unfold zf2 storedH
 rw[e]
 by_cases q:(atKey xs k).isSome=true
 ·rw[if_pos q,if_pos q];exact r.repl k ry
 ·rw[if_neg q,if_neg q];exact Paired.snoc r ⟨rfl,hb,ry⟩
theorem KT.keeps{H H':Hp}{kvs:List (List Key×V)}{xs:List (List Key×Addr×Value)}(r:KT H kvs xs)(ht:∀b ys,H b=some (.tup ys)->H' b=some (.tup ys)):KT H' kvs xs :=
 Paired.mapP r fun _ _ z=>⟨z.1,ht _ _ z.2.1,z.2.2⟩
section
variable {P:Program} {w:World} {H:Hp} {h:Heap} {a:Addr}
theorem zoZ{u:HO}(ok:HOk P w H h)(e:Rd H a u):ObjOk P w H h a u:=e.ok ok
theorem zjo{kvs:List (Key×V)}(ok:HOk P w H h)(e:Rd H a (.dK kvs)):kvs.length<=sizeLine/\(a==sysModules)=false/\∃vs,KV kvs vs/\h.DictOf (za2 P w) a vs :=
 show ObjOk P w H h a (.dK kvs) from zoZ ok e
theorem zo0{kvs:List (Key×V)}(ok:HOk P w H h)(e:H a=some (.dK kvs)):kvs.length<=sizeLine/\(a==sysModules)=false/\∃vs,KV kvs vs/\h.DictOf (za2 P w) a vs:=zjo ok (.inl e)
theorem zjp{ks:List Key}(ok:HOk P w H h)(e:H a=some (.tup (ks.map kV))):(tupleKind (za2 P w)).is h ks a:=by
 obtain⟨_,its,r,o,h1,h2,⟨n,h3⟩,_⟩:=(show ObjOk P w H h a (.tup (ks.map kV)) from ok a _ e)
 exact⟨o,its.toArray,n,h1,h2,h3,by simpa using zgi r⟩
theorem zo1{kvs:List (List Key×V)}(ok:HOk P w H h)(e:Rd H a (.dT kvs)):kvs.length<=sizeLine/\(a==sysModules)=false /\
  ∃xs,KT H kvs xs/\h.DictOfH (tupleKind (za2 P w)) a xs:=by
 obtain⟨z,y,xs,r,o,es,ep,h1,h2,h3,h4,h5⟩:=(show ObjOk P w H h a (.dT kvs) from zoZ ok e)
 refine⟨z,y,xs,r,o,es,ep,h1,h2,h3,h4,fun x hx=>?_,h5⟩
 have all:∀{l:List (List Key×V)} {m:List (List Key×Addr×Value)},KT H l m->∀x∈m,(tupleKind (za2 P w)).is h x.1 x.2.1:=by
  intro l m q
  induction q with
  | nil=>intro x hx;exact nomatch hx
  | @cons p q ps qs hq t ih =>
   intro x hx
   rcases List.mem_cons.mp hx with e|hx
   ·subst e
    exact zjp ok (by rw[<- hq.1];exact hq.2.1)
   ·exact ih x hx
 exact all r x hx
theorem zrg{kvs:List (List Key×V)}(ok:HOk P w H h)(e:H a=some (.dT kvs)):kvs.length<=sizeLine/\(a==sysModules)=false /\
  ∃xs,KT H kvs xs/\h.DictOfH (tupleKind (za2 P w)) a xs:=zo1 ok (.inl e)
end
def DGet(H:Hp)(a:Addr)(y:V)(r:Option V):Prop :=
 (∃kvs k,Rd H a (.dK kvs)/\y=kV k/\r=ziu kvs k)\/∃kvs k b,Rd H a (.dT kvs)/\y=.ref b/\H b=some (.tup (k.map kV))/\r=ziu kvs k
def DPut(H:Hp)(a:Addr)(y v:V)(H':Hp):Prop :=
 (∃kvs k,H a=some (.dK kvs)/\y=kV k/\kvs.length<sizeLine/\H'=upd H a (.dK (zf2 kvs k v))) \/
 ∃kvs k b,H a=some (.dT kvs)/\y=.ref b/\H b=some (.tup (k.map kV))/\kvs.length<sizeLine/\H'=upd H a (.dT (zf2 kvs k v))
theorem DGet.k{H:Hp}{a:Addr}{kvs:List (Key×V)}{k:Key}(e:H a=some (.dK kvs)):DGet H a (kV k) (ziu kvs k):=.inl ⟨kvs,k,.inl e,rfl,rfl⟩
theorem DPut.k{H:Hp}{a:Addr}{kvs:List (Key×V)}{k:Key}{v:V}(e:H a=some (.dK kvs))(hl:kvs.length<sizeLine):DPut H a (kV k) v (upd H a (.dK (zf2 kvs k v))):=.inl ⟨kvs,k,e,rfl,hl,rfl⟩
section
variable {X:Cx} {pins:List (Addr×Obj)} {σ:St} {H:Hp} {s:Shared} {a:Addr} {y v:V} {u r:Value} {o:Option V} {A:Around} {E:Value->Shared->Prop}
theorem Inv.big(I:Inv X pins σ H s):sysModules<s.heap.objs.size:=by
 have h:mainGlobals<s.heap.objs.size:=(I.mod.glob.keeps I.bk).lt
 exact Nat.lt_trans (by decide) h
theorem zne{Q:Value->Shared->Prop}(hu:A.units+1<cLine)(I:Inv X pins σ H s)(g:DGet H a y o)(ry:RelV y u)(h:∀s',Inv X pins σ H s'->Q (.bool (!o.isSome)) s') :
  wpAny (model X.prog X.w) A (compareOp .NotIn u (.ref a)) Q E s:=by
 rcases g with ⟨kvs,k,e,ey,l⟩|⟨kvs,k,b,e,ey,eb,l⟩
 ·subst ey
  obtain⟨z,hd,vs,rel,dd⟩:=zjo I.hok e
  refine wpAny_notIn_of (kV_is ry) hd dd.mapOf ?_
  rw[<- (rel.val k).isSome_eq,<- l]
  exact h _ (I.tok _)
 ·subst ey
  cases (show u=Value.ref b from ry)
  obtain⟨z,hd,xs,rel,dd⟩:=zo1 I.hok e
  refine wpAny_notIn_heap (tupleKind_room_in1 hu) (zjp I.hok eb) hd dd ?_
  have q:=(rel.val k).isSome_eq
  rw[Option.isSome_map] at q
  rw[<- q,<- l]
  exact h _ (I.tok _)
theorem zg0{h':Heap}{t':Nat}{ob:HO}(I:Inv X pins σ H s)(mu:Mut (H a))(hs:Heap.SameBut a s.heap h')(he:∃q,h'.get? a=some q)(new:ObjOk X.prog X.w (upd H a ob) h' a ob) :
  Inv X pins σ (upd H a ob) { s with heap:=h',toks:=t' } :=
 I.write (x:=a) (e:=a) mu (.inl rfl) (fun b q hb z=>(hs.2 b hb).trans z) he new
theorem zl3{P:Program}{w:World}{H':Hp}{h':Heap}{kvs:List (Key×V)}{vs:List (Key×Value)}(z:kvs.length<=sizeLine)(hd:(a==sysModules)=false)(rel:KV kvs vs)(dd:h'.DictOf (za2 P w) a vs) :
  ObjOk P w H' h' a (.dK kvs):=⟨z,hd,vs,rel,dd⟩
theorem zjq{H':Hp}{Q:Unit->Shared->Prop}(hu:A.units+1<cLine)(I:Inv X pins σ H s)(g:DPut H a y v H')(ry:RelV y u)(rv:RelV v r)(h:∀s',Inv X pins σ H' s'->Q () s') :
  wpAny (model X.prog X.w) A (setItem (.ref a) u r) Q E s:=by
 rcases g with ⟨kvs,k,e,ey,l,eH⟩|⟨kvs,k,b,e,ey,eb,l,eH⟩
 ·subst ey eH
  obtain⟨z,hd,vs,rel,dd⟩:=zo0 I.hok e
  have hz:vs.length<=sizeLine:=by rw[<- rel.length];exact z
  have hl:(zf2 kvs k v).length<=sizeLine:=by have:=zc2 kvs k v;omega
  refine wpAny_setItem_pairs (hsz:=hz) (kV_is ry) dd fun h' dd' hs=>h _ ?_
  have he:∃q,h'.get? a=some q:=let ⟨q,_,_,hq,_⟩:=dd';⟨q,hq⟩
  exact zg0 I (by rw[e];exact True.intro) hs he (zl3 hl hd (rel.put k rv) dd')
 ·subst ey eH
  cases (show u=Value.ref b from ry)
  obtain⟨z,hd,xs,rel,dd⟩:=zrg I.hok e
  have hz:xs.length<=sizeLine:=by rw[<- Paired.length rel];exact z
  have hl:(zf2 kvs k v).length<=sizeLine:=by have:=zc2 kvs k v;omega
  refine wpAny_setItem_heap (hsz:=hz) (tupleKind_room_in1 hu) (zjp I.hok eb) dd fun h' dd' hs=>h _ ?_
  obtain⟨q,es,ep,hq,h2,h3,h4,_,h5⟩:=dd'
  refine zg0 I (by rw[e];exact True.intro) hs ⟨q,hq⟩ ⟨hl,hd,_,(rel.put k eb rv).keeps fun c ys ec=>?_,q,es,ep,hq,h2,h3,h4,h5⟩
  rw[zaG (zqC ec e (fun z=>nomatch z))]
  exact ec
end
section
variable {X:Cx} {pins:List (Addr×Obj)} {σ:St} {H:Hp} {s:Shared} {a:Addr} {kvs:List (Key×V)} {k:Key} {u:Value} {A:Around} {E:Value->Shared->Prop}
theorem zrh{Q:Value->Shared->Prop}(I:Inv X pins σ H s)(e:Rd H a (.dK kvs))(h:∀t s',Inv X pins σ H s'->Q (.int kvs.length t) s'):wpAny (model X.prog X.w) A (call (.builtin "len") [.ref a]) Q E s:=by
 obtain⟨z,hd,vs,rel,dd⟩:=zjo I.hok e
 refine call_len_dict hd dd (by rw[<- rel.length];rw[sizeLine_eq] at z;omega) ?_
 rw[<- rel.length]
 exact h _ _ (I.tok _)
end
def znf(ty td:TE):TE:=fun σ H Q=>ty σ H fun y H1=>td σ H1 fun x H2=>∃a o,x=.ref a/\DGet H2 a y o/\Q (.bl (!o.isSome)) H2
def zri(td ty tv:TE):TS:=fun D σ H=>tv σ H fun v H1=>td σ H1 fun x H2=>ty σ H2 fun y H3=>∃a H4,x=.ref a/\DPut H3 a y v H4/\D.nx σ H4
section
variable {X:Cx} {o i e value:Expr} {pos pos' tpos:Pos} {td ty tv:TE}
theorem zjr(hu:X.A.units+1<cLine)(hi:PE X i ty)(ho:PE X o td):PC X .NotIn i o (znf ty td):=by
 intro pins s σ H Q I h
 refine thn (hi pins s σ H _ I h) fun iv s1 ⟨y,H1,I1,ry,q1⟩=>thn (ho pins s1 σ H1 _ I1 q1) fun u s2 ⟨x,H2,I2,rx,a,ov,ex,g,q2⟩=>?_
 subst ex
 obtain rfl:u=Value.ref a:=rx
 exact zne hu I2 g ry fun s3 I3=>⟨.bl (!ov.isSome),H2,I3,rfl,q2⟩
theorem zng(hu:X.A.units+1<cLine)(ho:PE X o td)(hi:PE X i ty)(hv:PE X value tv)(hs:swapsWith value (some (.Subscript o i pos')) pos.line X.env=pure false) :
  PS X (.Assign [.Subscript o i pos'] value pos) (zri td ty tv):=by
 intro pins s σ H D I h
 refine wpAny_Assign_Subscript (thn (hv pins s σ H _ I h) fun r s1 ⟨v,H1,I1,rv,q1⟩=>thn (ho pins s1 σ H1 _ I1 q1) fun u s2 ⟨x,H2,I2,rx,q2⟩=>thn (hi pins s2 σ H2 _ I2 q2) fun iv s3 ⟨y,H3,I3,ry,a,H4,ex,g,q3⟩=>?_) hs
 subst ex
 obtain rfl:u=Value.ref a:=rx
 exact zjq hu I3 g ry rv fun s4 I4=>⟨σ,H4,I4,q3⟩
end
theorem zhz{P:Program}{w:World}{H:Hp}(h:Heap)(hb:sysModules<h.objs.size):ObjOk P w H (h.push { cls:=.type "dict",data:=.dict #[] }) h.objs.size (.dK []) :=
 ⟨Nat.zero_le _,beq_eq_false_iff_ne.mpr (Ne.symm (Nat.ne_of_lt hb)),[],.nil,Heap.DictOf.new h⟩
def zo2:TE:=fun _ H Q=>∀p,H p=none->Q (.ref p) (upd H p (.dK []))
section
variable {X:Cx} {pos:Pos}
theorem zk7:PE X (.Dict [] [] pos) zo2:=fun pins s σ H Q I h =>
 wpAny_Dict_empty ⟨.ref s.heap.objs.size,_,I.laid (a:=s.heap.objs.size) (o:=.dK []) (t':=s.toks) (fun _ _ q=>Heap.get?_push_of_some _ q) (Nat.le_refl _) (zhz s.heap I.big),rfl,h _ (I.hok.fresh (Nat.le_refl _))⟩
end
def zjs:List (TE×TE)->St->Hp->(List (V×V)->Hp->Prop)->Prop
 | [],_,H,Q=>Q [] H
 | (tk,tv)::r,σ,H,Q=>tk σ H fun x H1=>tv σ H1 fun y H2=>zjs r σ H2 fun ps H3=>Q ((x,y)::ps) H3
abbrev VV:List (V×V)->List (Value×Value)->Prop:=Paired fun p q=>RelV p.1 q.1/\RelV p.2 q.2
def PPs(X:Cx)(pos:Pos)(keys:List (Option Expr))(values:List Expr)(trs:List (TE×TE)):Prop :=
 ∀(pins:List (Addr×Obj)) (s:Shared) (σ:St) (H:Hp) (Q:List (V×V)->Hp->Prop),Inv X pins σ H s->zjs trs σ H Q ->
  wpAny (model X.prog X.w) X.A (evalPairs (pairTrees keys values X.env pos)) (fun vs s'=>∃ps H',Inv X pins σ H' s'/\VV ps vs/\Q ps H') X.xe s
theorem znh{X:Cx}{pos:Pos}:PPs X pos [] [] []:=fun pins s σ H Q I h=>pairTrees_nil_walk ⟨[],H,I,.nil,h⟩
theorem zk8{X:Cx}{pos:Pos}{k v:Expr}{ks:List (Option Expr)}{vs:List Expr}{tk tv:TE}{trs:List (TE×TE)}(hk:PE X k tk)(hv:PE X v tv)(hr:PPs X pos ks vs trs) :
  PPs X pos (some k::ks) (v::vs) ((tk,tv)::trs):=fun pins s σ H Q I h =>
 pairTrees_cons_walk (thn (hk pins s σ H _ I h) fun u s1 ⟨x,H1,I1,rx,q1⟩=>thn (hv pins s1 σ H1 _ I1 q1) fun w2 s2 ⟨y,H2,I2,ry,q2⟩ =>
  thn (hr pins s2 σ H2 _ I2 q2) fun ws s3 ⟨ps,H3,I3,rel,q3⟩=>⟨(x,y)::ps,H3,I3,.cons ⟨rx,ry⟩ rel,q3⟩)
def zeg(kvs more:List (Key×V)):List (Key×V):=more.foldl (fun acc kv=>zf2 acc kv.1 kv.2) kvs
theorem KV.merge:∀{more:List (Key×V)} {rs:List (Key×Value)} {kvs:List (Key×V)} {vs:List (Key×Value)},KV more rs->KV kvs vs->KV (zeg kvs more) (merged vs rs):=by
 intro more rs kvs vs r
 unfold KV at r
 induction r generalizing kvs vs with
 | nil=>intro q;exact q
 | @cons p q ps qs h t ih =>
  intro r0
  have e:KV (zf2 kvs p.1 p.2) (stored vs q.1 q.2):=by
   have:=r0.put p.1 h.2
   rw[<- h.1];exact this
  exact ih e
theorem zdb:∀(more kvs:List (Key×V)),(zeg kvs more).length<=kvs.length+more.length
 | [],kvs=>by show kvs.length<=kvs.length+0;omega
 | p::r,kvs=>by
  have h1:=zdb r (zf2 kvs p.1 p.2)
  have h2:=zc2 kvs p.1 p.2
  show(zeg (zf2 kvs p.1 p.2) r).length<=_
  rw[List.length_cons];omega
theorem ze2{P:Program}{w:World}:∀{kvs:List (Key×V)} {ws:List (Value×Value)},VV (kvs.map fun kv=>(kV kv.1,kv.2)) ws->∃rs,Carries (za2 P w) ws rs/\KV kvs rs
 | [],_,r=>by rw[List.map_nil] at r;cases r;exact⟨[],True.intro,.nil⟩
 | p::kvs,_,r=>by
  rw[List.map_cons] at r
  cases r with
  | @cons a b as bs h t =>
   obtain⟨rs,c,q⟩:=ze2 (P:=P) (w:=w) t
   obtain⟨b1,b2⟩:=b
   exact⟨(p.1,b2)::rs,⟨kV_is h.1,rfl,c⟩,.cons ⟨rfl,h.2⟩ q⟩
def zrj(trs:List (TE×TE)):TE:=fun σ H Q=>∀p,H p=none->zjs trs σ (upd H p (.dK [])) fun ps H2=>H2 p=some (.dK [])/\∃kvs:List (Key×V),ps=kvs.map (fun kv=>(kV kv.1,kv.2))/\kvs.length<=15/\Q (.ref p) (upd H2 p (.dK (zeg [] kvs)))
theorem zni{X:Cx}{pos:Pos}{keys:List (Option Expr)}{values:List Expr}{trs:List (TE×TE)}(h:PPs X pos keys values trs)(hall:keys.all (·.isSome)=true)(hl:keys.length=values.length)(h0:keys≠[])(h15:keys.length<=15):PE X (.Dict keys values pos) (zrj trs):=by
 intro pins s σ H Q I q
 have hn:=I.hok.fresh (Nat.le_refl s.heap.objs.size)
 have I1:=I.laid (a:=s.heap.objs.size) (o:=.dK []) (h':=s.heap.push { cls:=.type "dict",data:=.dict #[] }) (t':=s.toks) (fun _ _ q=>Heap.get?_push_of_some _ q) (Nat.le_refl _) (zhz s.heap I.big)
 refine wpAny_Dict_walk (knd:=za2 X.prog X.w) hall hl h0 h15 (thn (h pins _ σ _ _ I1 (q _ hn)) fun ws s2 ⟨ps,H2,I2,rel,e,kvs,ep,lk,q2⟩=>?_)
 subst ep
 obtain⟨rs,c,rk⟩:=ze2 (P:=X.prog) (w:=X.w) rel
 obtain⟨z,hd,vs0,r0,dd⟩:=zo0 I2.hok e
 cases r0
 refine⟨rs,c,dd,fun h' dd' hs=>⟨.ref s.heap.objs.size,_,?_,rfl,q2⟩⟩
 have hz:(zeg [] kvs).length<=sizeLine:=by
  have h1:=zdb kvs []
  rw[List.length_nil] at h1
  rw[sizeLine_eq];omega
 have he:∃q,h'.get? s.heap.objs.size=some q:=let ⟨q,_,_,hq,_⟩:=dd';⟨q,hq⟩
 exact zg0 I2 (by rw[e];exact True.intro) hs he (zl3 hz hd (rk.merge .nil) dd')
section
variable {X:Cx} {pins:List (Addr×Obj)} {σ:St} {H:Hp} {s:Shared} {a:Addr} {y d:V} {u r:Value} {o:Option V} {A:Around} {E:Value->Shared->Prop}
end
section
variable {X:Cx} {o e f:Expr} {apos cpos:Pos} {td ty tx:TE}
end
section
variable {X:Cx} {pins:List (Addr×Obj)} {σ:St} {H:Hp} {s:Shared} {a:Addr} {kvs:List (Key×V)} {A:Around} {E:Value->Shared->Prop}
end
section
variable {X:Cx} {pins:List (Addr×Obj)} {σ:St} {H:Hp} {s:Shared} {a:Addr} {y:V} {u:Value} {A:Around} {E:Value->Shared->Prop}
end
end L2
namespace L2
open PySem PySem.Spec PyProof.Rows
section
variable {X:Cx}
theorem zjt:CallR X (.builtin "len") (fun xs H Q=>∃a kvs,xs=[V.ref a]/\H a=some (.dK kvs)/\Q (.int kvs.length) H):=by
 intro pins s σ H xs us Q I r h
 obtain⟨a,kvs,rfl,ha,q⟩:=h
 obtain⟨u,rfl,ru⟩:=zeM r
 cases ru
 exact zrh I (.inl ha) fun t s' I'=>⟨.int kvs.length,H,I',⟨t,rfl⟩,q⟩
section
variable {κ:Type} [DecidableEq κ]
end
end
end L2
namespace L2
open PySem PySem.Spec PyProof.Rows
section
variable {X:Cx}
theorem ze3{P:Program}{w:World}{kvs:List (Key×V)}{vs:List (Key×Value)}{ns:List Int}(rel:KV kvs vs)(hk:kvs.map (·.1)=ns.map Sum.inl){acc:Array Value}(h:ItemsOf (fun i v=>∃k x,vs[i]?=some (k,x)/\(za2 P w).is k v=true) acc vs.length):IntsAre acc.toList ns:=by
 have hl:acc.toList.length=ns.length:=by
  rw[Array.length_toList,h.1,<- List.length_map (f:=fun x:Key×Value=>x.1),<- KV.keys rel,hk,List.length_map]
 have at':∀(i:Nat) (v:Value),acc.toList[i]?=some v->∃t,v=Value.int (ns.getD i 0) t:=by
  intro i v hv
  obtain⟨k,x,h1,h2⟩:=h.2 i v (by rw[<- Array.getElem?_toList];exact hv)
  have e:(ns.map Sum.inl:List Key)[i]?=some k:=by
   rw[<- hk,KV.keys rel,List.getElem?_map,h1];rfl
  rw[List.getElem?_map] at e
  cases q:ns[i]? with
  | none=>rw[q] at e;cases e
  | some n =>
   rw[q] at e
   simp only[Option.map_some,Option.some.injEq] at e
   subst e
   rcases zaZ (k:=Sum.inl n) (v:=v) h2 with ⟨j,t,e1,e2⟩|⟨j,t,e1,e2⟩
   ·cases e1
    exact⟨t,by rw[e2,List.getD_eq_getElem?_getD,q];rfl⟩
   ·cases e1
 clear h
 revert hl at'
 generalize acc.toList=us
 clear hk
 induction ns generalizing us with
 | nil=>intro hl _;cases us with|nil=>exact .nil|cons a r=>simp at hl
 | cons n ns ih =>
  intro hl h
  cases us with
  | nil=>simp at hl
  | cons a r =>
   obtain⟨t,rfl⟩:=h 0 a rfl
   exact .cons n t (ih r (by simpa using hl) fun i v hv=>h (i+1) v hv)
theorem zgj(hc:X.calm=true):CallR X (.builtin "sorted") (fun xs H Q=>∃(a:Addr) (kvs:List (Key×V)) (ns:List Int),xs=[.ref a]/\Rd H a (.dK kvs)/\kvs.map (·.1)=ns.map Sum.inl/\ns.length<64 /\
  ∀ms:List Int,ms.Perm ns->ms.Pairwise (·<=·)->∀l,H l=none->Q (.ref l) (upd H l (.lst (ms.map V.int)))):=by
 intro pins s σ H xs us Q I r h
 obtain⟨a,kvs,ns,rfl,hd,hk,h64,q⟩:=h
 obtain⟨u,rfl,rx⟩:=zeM r
 cases rx
 obtain⟨hz,hS,vs,rel,dd⟩:=zjo I.hok hd
 obtain⟨ep,hat⟩:=dd.dictAt
 have hh:X.A.in1.handled=none:=I.ok.hd hc
 have hlen:vs.length=ns.length:=by rw[<- KV.length rel,<- List.length_map (f:=fun x:Key×V=>x.1),hk,List.length_map]
 refine Calls.call_function_entry kind_sorted plain_sorted entry_sorted (args_sorted1 _) ?_
 unfold Builtin.«sorted»
 refine wpAny_bind (m:=checkCount "sorted" 1 1 _) (wpAny_pure ?_)
 refine wpAny_bind (PySem.W.kdu_collect (A:=X.A.in1) (PySem.W.kdl_dict (knd:=za2 X.prog X.w) (kvs:=vs) (ep:=ep) hS) hh hat (by rw[<- KV.length rel];exact hz) fun h' tk acc hkp hacc=>?_)
 have hI:=ze3 rel hk hacc
 have hal:acc.toList.length=ns.length:=by rw[Array.length_toList,hacc.1,hlen]
 refine wpAny_bind (wpAny_newList ?_ (by rw[hal,<- hlen,<- KV.length rel];exact hz))
 have hoL:(h'.push (seqObj "list" acc.toList.toArray 0)).get? h'.objs.size=some (seqObj "list" acc.toList.toArray 0):=Heap.get?_push_size _ rfl
 refine wpAny_bind (wpAny_holding (wpAny_call_entry slot_list_sort ⟨_,hoL,rfl⟩ entry_list_sort (list_sort_tree hoL hI (by omega) fun out ns' a1 a2 a3=>⟨_,rfl,?_⟩) (args_list_sort _)))
 refine wpAny_pure ⟨_,rfl,?_⟩
 obtain⟨e,he⟩:=sortedHeap_at (out:=out) hoL
 have I1:Inv X pins σ H { s with heap:=h',toks:=tk }:=I.kept hkp
 have rv':Vals (ns'.map V.int) out.toList:=zct a1
 refine⟨.ref h'.objs.size,_,I1.laid (t':=tk) (a:=h'.objs.size) (o:=.lst (ns'.map V.int)) (fun b o hb=>?_) (Nat.le_refl _) ?_,rfl,q ns' a2 a3 _ I1.fresh⟩
 ·have hb:h'.get? b=some o:=hb
  have hlt:=Heap.lt_size hb
  show(sortedHeap (h'.push (seqObj "list" acc.toList.toArray 0)) h'.objs.size acc.toList out).get? b=some o
  rw[sortedHeap_old (Nat.ne_of_lt hlt) (by rw[size_push'];exact Nat.lt_succ_of_lt hlt)]
  exact Heap.get?_push_of_some _ hb
 ·refine⟨by rw[List.length_map,a2.length_eq,<- hlen,<- KV.length rel];exact hz,out.toList,e,rv',?_⟩
  rw[Array.toArray_toList]
  exact he
theorem ziv(hc:X.calm=true):CallR X (.type "list") (fun xs H Q=>∃(a:Addr) (kvs:List (Key×V)) (ns:List Int),xs=[.ref a]/\Rd H a (.dK kvs)/\kvs.map (·.1)=ns.map Sum.inl/\∀l,H l=none->Q (.ref l) (upd H l (.lst (ns.map V.int)))):=by
 intro pins s σ H xs us Q I r h
 obtain⟨a,kvs,ns,rfl,hd,hk,q⟩:=h
 obtain⟨u,rfl,rx⟩:=zeM r
 cases rx
 obtain⟨hz,hS,vs,rel,dd⟩:=zjo I.hok hd
 obtain⟨ep,hat⟩:=dd.dictAt
 have hlen:vs.length=ns.length:=by rw[<- KV.length rel,<- List.length_map (f:=fun x:Key×V=>x.1),hk,List.length_map]
 refine PySem.W.kdl_call (PySem.W.kdl_dict (knd:=za2 X.prog X.w) (kvs:=vs) (ep:=ep) hS) (I.ok.hd hc) hat (by rw[<- KV.length rel];exact hz) fun h' tk acc c hkp hD hacc=>?_
 have hI:=ze3 rel hk hacc
 refine⟨.ref s.heap.objs.size,_,I.laid (t':=tk) (a:=s.heap.objs.size) (o:=.lst (ns.map V.int)) hkp (Nat.le_refl _) ?_,rfl,q _ I.fresh⟩
 refine⟨by rw[List.length_map,<- hlen,<- KV.length rel];exact hz,acc.toList,c,zct hI,?_⟩
 rw[Array.toArray_toList]
 exact hD
theorem zju{a:Expr}{ta:TA}{p pos:Pos}(hg:Gl X "range")(hm:X.mg "range" = none)(ha:PA X [a] ta)(hs:starEach [a] X.env=[(false,eval a X.env)]:=by rfl) :
  PE X (.Call (.Name "range" p) [a] [] pos) (fun σ H Q=>ta σ H fun vs H1=>∃j:Int,vs=[.int j]/\∀p,H1 p=none->Q (.ref p) (upd H1 p (.rng 0 j))):=by
 intro pins s σ H Q I h
 refine Call_ (zf6 I hg hm boot_range (PyProof.Rows.callWith_type1 (thn (ha pos pins s σ H _ I h) fun us s1 ⟨vs,H1,I1,r1,q1⟩=>?_) hs rfl))
 obtain⟨j,e,q⟩:=q1
 subst e
 cases r1 with
 | cons r rr =>
  cases rr
  obtain⟨t,rfl⟩:=r
  refine call_range_1 ⟨.ref s1.heap.objs.size,_,I1.laid (t':=s1.toks+1+1) (a:=s1.heap.objs.size) (o:=.rng 0 j) (fun b o e=>Heap.get?_push_of_some _ e) (Nat.le_refl _) ?_,rfl,q _ I1.fresh⟩
  exact⟨_,_,_,Heap.get?_push_size _ rfl⟩
theorem zgk(hc:X.calm=true):CallR X (.type "list") (fun xs H Q=>∃(p:Addr) (lo hi:Int),xs=[.ref p]/\H p=some (.rng lo hi)/\-(2 ^ 62)<=lo/\lo<2 ^ 62/\-(2 ^ 62)<=hi/\hi<2 ^ 62/\(hi-lo).toNat<=sizeLine /\
  ∀l,H l=none->Q (.ref l) (upd H l (.lst ((List.range (hi-lo).toNat).map fun(i:Nat)=>V.int (lo+(i:Int)))))):=by
 intro pins s σ H xs us Q I r h
 obtain⟨p,lo,hi,rfl,hp,h1,h2,h3,h4,hz,q⟩:=h
 obtain⟨u,rfl,rx⟩:=zeM r
 cases rx
 obtain⟨t,u,v,hr⟩:=I.hok p _ hp
 have hn:Builtin.Range.rangeSize lo hi 1=(((hi-lo).toNat:Nat):Int):=by rw[rangeSize_one];split<;>omega
 refine PySem.call_list_range (I.ok.hd hc) hr (small_one h1 h2 h3 h4) hn (by rw[sizeLine_eq] at hz;exact hz) fun h' tk acc c hkp hD hacc=>?_
 refine⟨.ref s.heap.objs.size,_,I.laid (t':=tk) (a:=s.heap.objs.size) (o:=.lst ((List.range (hi-lo).toNat).map fun(i:Nat)=>V.int (lo+(i:Int)))) hkp (Nat.le_refl _) ?_,rfl,q _ I.fresh⟩
 refine⟨by rw[List.length_map,List.length_range];exact hz,acc.toList,c,?_,by rw[Array.toArray_toList];exact hD⟩
 have hl:acc.toList.length=(hi-lo).toNat:=by rw[Array.length_toList];exact hacc.1
 have hv:∀(i:Nat) (v:Value),acc.toList[i]?=some v->∃t,v=Value.int (lo+(i:Int)) t:=fun i v e=>by
  obtain⟨t,e'⟩:=hacc.2 i v (by rw[<- Array.getElem?_toList];exact e)
  exact⟨t,by rw[e',Int.mul_one]⟩
 clear hn hz hacc hD
 revert hl hv
 generalize acc.toList=us
 generalize (hi-lo).toNat=n
 intro hl hv
 have:∀(us:List Value) (k:Nat),(∀(i:Nat) (v:Value),us[i]?=some v->∃t,v=Value.int (lo+((k+i:Nat):Int)) t)->Vals ((List.range' k us.length).map fun(i:Nat)=>V.int (lo+(i:Int))) us:=by
  intro us
  induction us with
  | nil=>intro k _;exact .nil
  | cons a r ih =>
   intro k h
   obtain⟨t,rfl⟩:=h 0 a rfl
   rw[List.length_cons,List.range'_succ,List.map_cons]
   refine .cons ⟨t,by simp⟩ (ih (k+1) fun i v e=>?_)
   obtain⟨t',e'⟩:=h (i+1) v e
   exact⟨t',by rw[e'];congr 2;omega⟩
 have q':=this us 0 fun i v e=>by simpa using hv i v e
 rw[<- List.range_eq_range',hl] at q'
 exact q'
end
end L2
namespace L2
open PySem PySem.Spec PyProof.Rows
section
variable {X:Cx} {tg:Expr}
def Itd(a:Addr)(o:Obj)(ps:List (Key×V)):It where
 go:=fun i H=>H a=some (.frz o (.dK ps))/\i<ps.length
 yld:=fun i H x H'=>H'=H/\∃p,ps[i]?=some p/\x=kV p.1
 stop:=fun i H=>H a=some (.frz o (.dK ps))/\ps.length=i
end
end L2
namespace L2
open PySem PySem.Spec PyProof.Rows
section
variable {prog:Program} {w:World} {A:Around} {E:Value->Shared->Prop} {s:Shared}
end
end L2
namespace VS
open PySem PySem.Spec PyProof.Rows L2
abbrev St:=L2.St
theorem zaz{α:Type}{l:List α}{k:Nat}{a:α}(h:l[k]?=some a):k<l.length:=(List.getElem?_eq_some_iff.mp h).1
theorem zgl{α:Type}{l:List α}(h:l.Nodup){i j:Nat}(hi:i<l.length)(hj:j<l.length)(e:l[i]=l[j]):i=j:=by
 have p:=List.pairwise_iff_getElem.mp h
 rcases Nat.lt_trichotomy i j with q|q|q
 ·exact absurd e (p i j hi hj q)
 ·exact q
 ·exact absurd e.symm (p j i hj hi q)
inductive W where
 | non|bl (b:Bool)|int (i:Int)|str (x:Str)|ty (n:String)|lst (xs:List W)|tup (xs:List W)|cel (k:Nat)
inductive C where
 | lst (xs:List W)|dct (kvs:List (Key×W))|ins (c:Str) (fs:List (Str×W))|exn (c:Str)|dead|fzd (kvs:List (Key×W))|dtp (kvs:List (List Key×W))
def C.nf:C->Bool
 | .fzd _=>false
 | _=>true
def nfz:HO->Bool
 | .frz _ _=>false
 | _=>true
abbrev Ce:=List C
abbrev Sl:=List (Option W)
structure Exn where
 nm:Str
 fld:Option (Str×W)
inductive R (α:Type) where
 | ok (a:α) (ce:Ce)|ex (x:Exn) (ce:Ce)
abbrev M(α:Type):=Ce->Option (R α)
structure Ga where
 K:PySem.W.Frag
 cl:Str->Addr
 xr:Exn->Value->Option Addr->Hp->Prop
mutual
def Rep(F:Hp)(as:List Addr):W->V->Prop
 | .non,v=>v=.non
 | .bl b,v=>v=.bl b
 | .int i,v=>v=.int i
 | .str x,v=>v=.str x
 | .ty n,v=>v=.ty n
 | .lst xs,v=>∃a vs,v=.ref a/\Rd F a (.lst vs)/\Reps F as xs vs
 | .tup xs,v=>∃a vs,v=.ref a/\F a=some (.tup vs)/\Reps F as xs vs
 | .cel k,v=>∃a,v=.ref a/\as[k]?=some a
def Reps(F:Hp)(as:List Addr):List W->List V->Prop
 | [],vs=>vs=[]
 | x::xs,vs=>∃v r,vs=v::r/\Rep F as x v/\Reps F as xs r
end
structure Le (F:Hp) (as:List Addr) (F':Hp) (as':List Addr):Prop where
 f:∀a o,F a=some o->F' a=some o
 c:∀(k:Nat) (a:Addr),as[k]?=some a->as'[k]?=some a
theorem Le.refl{F:Hp}{as:List Addr}:Le F as F as:=⟨fun _ _ h=>h,fun _ _ h=>h⟩
theorem Le.trans{F F1 F2:Hp}{as as1 as2:List Addr}(h:Le F as F1 as1)(h':Le F1 as1 F2 as2):Le F as F2 as2:=⟨fun a o e=>h'.f a o (h.f a o e),fun k a e=>h'.c k a (h.c k a e)⟩
theorem Le.rd{F F':Hp}{as as':List Addr}(h:Le F as F' as'){a:Addr}{o:HO}(r:Rd F a o):Rd F' a o:=by
 rcases r with r|⟨u,r⟩
 ·exact .inl (h.f _ _ r)
 ·exact .inr ⟨u,h.f _ _ r⟩
mutual
theorem Rep.le{F F':Hp}{as as':List Addr}(h:Le F as F' as'):∀{w:W} {v:V},Rep F as w v->Rep F' as' w v
 | .non,_,r=>by simpa only[Rep] using r
 | .bl _,_,r=>by simpa only[Rep] using r
 | .int _,_,r=>by simpa only[Rep] using r
 | .str _,_,r=>by simpa only[Rep] using r
 | .ty _,_,r=>by simpa only[Rep] using r
 | .lst xs,_,r=>by
  simp only[Rep] at r ⊢
  obtain⟨a,vs,e,q,s⟩:=r
  exact⟨a,vs,e,h.rd q,Reps.le h s⟩
 | .tup xs,_,r=>by
  simp only[Rep] at r ⊢
  obtain⟨a,vs,e,q,s⟩:=r
  exact⟨a,vs,e,h.f _ _ q,Reps.le h s⟩
 | .cel k,_,r=>by
  simp only[Rep] at r ⊢
  obtain⟨a,e,q⟩:=r
  exact⟨a,e,h.c _ _ q⟩
theorem Reps.le{F F':Hp}{as as':List Addr}(h:Le F as F' as'):∀{ws:List W} {vs:List V},Reps F as ws vs->Reps F' as' ws vs
 | [],_,r=>by simpa only[Reps] using r
 | _::_,_,r=>by
  simp only[Reps] at r ⊢
  obtain⟨v,r',e,q,s⟩:=r
  exact⟨v,r',e,Rep.le h q,Reps.le h s⟩
end
section
variable {F:Hp} {as:List Addr}
theorem Reps.nil:Reps F as [] []:=by simp only[Reps]
theorem Reps.cons{w:W}{v:V}{ws:List W}{vs:List V}(h:Rep F as w v)(t:Reps F as ws vs):Reps F as (w::ws) (v::vs):=by simp only[Reps];exact⟨v,vs,rfl,h,t⟩
theorem Reps.length:∀{ws:List W} {vs:List V},Reps F as ws vs->vs.length=ws.length
 | [],_,r=>by simp only[Reps] at r;subst r;rfl
 | _::_,_,r=>by
  simp only[Reps] at r
  obtain⟨v,r',rfl,_,s⟩:=r
  simp only[List.length_cons,Reps.length s]
theorem Reps.get:∀{ws:List W} {vs:List V} {i:Nat} {w:W},Reps F as ws vs->ws[i]?=some w->∃v,vs[i]?=some v/\Rep F as w v
 | [],_,_,_,_,e=>by simp at e
 | _::_,_,0,_,r,e=>by
  simp only[Reps] at r
  obtain⟨v,r',rfl,q,s⟩:=r
  simp at e;subst e
  exact⟨v,rfl,q⟩
 | _::_,_,i+1,w,r,e=>by
  simp only[Reps] at r
  obtain⟨v,r',rfl,q,s⟩:=r
  obtain⟨u,h1,h2⟩:=Reps.get (i:=i) (w:=w) s (by simpa using e)
  exact⟨u,by simpa using h1,h2⟩
theorem Reps.get'{ws:List W}{vs:List V}{i:Nat}{v:V}(r:Reps F as ws vs)(e:vs[i]?=some v):∃w,ws[i]?=some w/\Rep F as w v:=by
 have hl:=r.length
 have hi:i<vs.length:=zaz e
 have e1:ws[i]?=some ws[i]:=List.getElem?_eq_getElem (by omega)
 obtain⟨u,h1,h2⟩:=r.get e1
 rw[e] at h1;cases h1
 exact⟨_,e1,h2⟩
theorem Reps.append:∀{ws zs:List W} {vs us:List V},Reps F as ws vs->Reps F as zs us->Reps F as (ws++zs) (vs++us)
 | [],_,_,_,r,s=>by simp only[Reps] at r;subst r;exact s
 | _::_,_,_,_,r,s=>by
  simp only[Reps] at r
  obtain⟨v,r',rfl,q,t⟩:=r
  exact .cons q (Reps.append t s)
theorem Reps.set:∀{ws:List W} {vs:List V} {w:W} {v:V} (i:Nat),Reps F as ws vs->Rep F as w v->Reps F as (ws.set i w) (vs.set i v)
 | [],_,_,_,_,r,_=>by simp only[Reps] at r;subst r;exact .nil
 | _::_,_,_,_,0,r,h=>by
  simp only[Reps] at r
  obtain⟨v,r',rfl,q,t⟩:=r
  exact .cons h t
 | _::_,_,_,_,i+1,r,h=>by
  simp only[Reps] at r
  obtain⟨v,r',rfl,q,t⟩:=r
  exact .cons q (Reps.set i t h)
theorem Reps.take:∀{ws:List W} {vs:List V} (n:Nat),Reps F as ws vs->Reps F as (ws.take n) (vs.take n)
 | _,_,0,_=>by rw[List.take_zero,List.take_zero];exact .nil
 | [],_,_+1,r=>by simp only[Reps] at r;subst r;exact .nil
 | _::_,_,n+1,r=>by
  simp only[Reps] at r
  obtain⟨v,r',rfl,q,t⟩:=r
  exact .cons q (Reps.take n t)
theorem Reps.dropLast{ws:List W}{vs:List V}(r:Reps F as ws vs):Reps F as ws.dropLast vs.dropLast:=by
 rw[List.dropLast_eq_take,List.dropLast_eq_take,r.length];exact r.take _
theorem Reps.eraseIdx:∀{ws:List W} {vs:List V} (n:Nat),Reps F as ws vs->Reps F as (ws.eraseIdx n) (vs.eraseIdx n)
 | [],_,_,r=>by simp only[Reps] at r;subst r;exact .nil
 | _::_,_,0,r=>by
  simp only[Reps] at r
  obtain⟨v,r',rfl,q,t⟩:=r
  exact t
 | _::_,_,n+1,r=>by
  simp only[Reps] at r
  obtain⟨v,r',rfl,q,t⟩:=r
  exact .cons q (Reps.eraseIdx n t)
theorem Reps.rep{ws:List W}{vs:List V}(r:Reps F as ws vs):∀n,Reps F as (List.replicate n ws).flatten (List.replicate n vs).flatten
 | 0=>.nil
 | n+1=>by rw[List.replicate_succ,List.replicate_succ,List.flatten_cons,List.flatten_cons];exact r.append (r.rep n)
theorem Reps.ints:∀(ns:List Int),Reps F as (ns.map W.int) (ns.map V.int)
 | []=>.nil
 | n::r=>.cons (by simp only[Rep]) (Reps.ints r)
theorem Reps.of_ints:∀{ns:List Int} {vs:List V},Reps F as (ns.map W.int) vs->vs=ns.map V.int
 | [],_,r=>by simpa only[List.map_nil,Reps] using r
 | n::ns,_,r=>by
  simp only[List.map_cons,Reps,Rep] at r
  obtain⟨v,r',rfl,rfl,t⟩:=r
  rw[Reps.of_ints t,List.map_cons]
end
theorem el6{α β γ δ:Type}{p q:α->β->γ->δ->Prop}{g:Prop}(h:∃a b c d,p a b c d/\q a b c d)(k:∀a b c d,p a b c d->q a b c d->g):g:=by
 obtain⟨a,b,c,d,h1,h2⟩:=h
 exact k a b c d h1 h2
theorem el8{α β γ δ:Type}{p q r s:α->β->γ->δ->Prop}{g:Prop}(h:∃a b c d,p a b c d/\q a b c d/\r a b c d/\s a b c d)(k:∀a b c d,p a b c d->q a b c d->r a b c d->s a b c d->g):g:=by
 obtain⟨a,b,c,d,h1,h2,h3,h4⟩:=h
 exact k a b c d h1 h2 h3 h4
def RepKV{κ:Type}(F:Hp)(as:List Addr)(kvs:List (κ×W))(ps:List (κ×V)):Prop:=Paired (fun(p:κ×W) (q:κ×V)=>p.1=q.1/\Rep F as p.2 q.2) kvs ps
theorem RepKV.le{κ:Type}{F F':Hp}{as as':List Addr}(h:Le F as F' as'){kvs:List (κ×W)}{ps:List (κ×V)}(r:RepKV F as kvs ps):RepKV F' as' kvs ps:=Paired.mapP r fun _ _ z=>⟨z.1,z.2.le h⟩
def zsW(a:Addr)(cls:Value)(h:Heap):Prop:=∃o vs,h.get? a=some o/\o.cls=cls/\o.data=.fields vs
def CRep(G:Ga)(F:Hp)(as:List Addr)(H:Hp)(a:Addr):C->Prop
 | .lst xs=>∃vs,H a=some (.lst vs)/\Reps F as xs vs
 | .dct kvs=>∃ps,H a=some (.dK ps)/\RepKV F as kvs ps
 | .ins c fs=>∃dx ps,H a=some (.ins (G.cl c) dx ps)/\RepKV F as fs ps
 | .exn c=>H a=some (.ext (zsW a (.ref (G.cl c))))
 | .dead=>∃o,H a=some o
 | .fzd kvs=>∃o ps,F a=some (.frz o (.dK ps))/\H a=some (.frz o (.dK ps))/\RepKV F as kvs ps
 | .dtp kvs=>∃ps,H a=some (.dT ps)/\RepKV F as kvs ps
structure Store (G:Ga) (F:Hp) (as:List Addr) (H:Hp) (ce:Ce):Prop where
 sub:∀a o,F a=some o->H a=some o
 nd:as.Nodup
 len:as.length=ce.length
 cell:∀(k:Nat) (a:Addr) (c:C),as[k]?=some a->ce[k]?=some c->(c.nf=true->F a=none)/\CRep G F as H a c
structure SR (G:Ga) (F:Hp) (as:List Addr) (H:Hp) (σ:VS.St) (sl:Sl) (ce:Ce):Prop where
 st:Store G F as H ce
 len:σ.length=sl.length
 slot:∀(i:Nat) (w:W),sl[i]?=some (some w)->∃v,σ[i]?=some (some v)/\Rep F as w v
section
variable {G:Ga} {F F':Hp} {as as':List Addr} {H H':Hp} {σ:VS.St} {sl:Sl} {ce ce':Ce} {a p:Addr} {k:Nat} {o:HO}
theorem CRep.tracked{c:C}(h:CRep G F as H a c):∃o,H a=some o:=by
 cases c with
 | lst xs=>obtain⟨vs,e,_⟩:=h;exact⟨_,e⟩
 | dct xs=>obtain⟨vs,e,_⟩:=h;exact⟨_,e⟩
 | ins c xs=>obtain⟨dx,vs,e,_⟩:=h;exact⟨_,e⟩
 | exn c=>exact⟨_,h⟩
 | dead=>exact h
 | fzd xs=>obtain⟨o,ps,_,e,_⟩:=h;exact⟨_,e⟩
 | dtp xs=>obtain⟨vs,e,_⟩:=h;exact⟨_,e⟩
theorem CRep.le{c:C}(l:Le F as F' as')(hH:H' a=H a)(h:CRep G F as H a c):CRep G F' as' H' a c:=by
 cases c with
 | lst xs=>obtain⟨vs,e,r⟩:=h;exact⟨vs,hH.trans e,r.le l⟩
 | dct xs=>obtain⟨vs,e,r⟩:=h;exact⟨vs,hH.trans e,r.le l⟩
 | ins c xs=>obtain⟨dx,vs,e,r⟩:=h;exact⟨dx,vs,hH.trans e,r.le l⟩
 | exn c=>exact hH.trans h
 | dead=>obtain⟨o,e⟩:=h;exact⟨o,hH.trans e⟩
 | fzd xs=>obtain⟨o,ps,e1,e2,r⟩:=h;exact⟨o,ps,l.f _ _ e1,hH.trans e2,r.le l⟩
 | dtp xs=>obtain⟨vs,e,r⟩:=h;exact⟨vs,hH.trans e,r.le l⟩
theorem Store.at(S:Store G F as H ce){c:C}(h:ce[k]?=some c):∃a,as[k]?=some a/\(c.nf=true->F a=none)/\CRep G F as H a c:=by
 have hk:k<ce.length:=zaz h
 have e:as[k]?=some (as[k]'(by rw[S.len];exact hk)):=List.getElem?_eq_getElem _
 exact⟨_,e,S.cell _ _ _ e h⟩
theorem Store.tracked(S:Store G F as H ce)(h:as[k]?=some a):∃o,H a=some o:=by
 have hk:k<as.length:=zaz h
 have e:ce[k]?=some (ce[k]'(by rw[<- S.len];exact hk)):=List.getElem?_eq_getElem _
 exact(S.cell _ _ _ h e).2.tracked
theorem SR.slots(S:SR G F as H σ sl ce)(S':Store G F' as' H' ce')(l:Le F as F' as'):SR G F' as' H' σ sl ce' :=
 ⟨S',S.len,fun i w e=>let ⟨v,h1,h2⟩:=S.slot i w e;⟨v,h1,h2.le l⟩⟩
theorem SR.var(S:SR G F as H σ sl ce){i:Nat}{w:W}(h:sl[i]?=some (some w)):∃v,σ[i]?=some (some v)/\Rep F as w v:=S.slot i w h
theorem SR.put(S:SR G F as H σ sl ce){w:W}{v:V}(r:Rep F as w v)(i:Nat):SR G F as H (σ.set i (some v)) (sl.set i (some w)) ce:=by
 refine⟨S.st,by rw[List.length_set,List.length_set];exact S.len,fun j u e=>?_⟩
 by_cases hj:i=j
 ·subst hj
  have hi:i<sl.length:=by have:=zaz e;rwa [List.length_set] at this
  rw[List.getElem?_set_self hi] at e
  cases e
  exact⟨v,by rw[List.getElem?_set_self (by rw[S.len];exact hi)],r⟩
 ·rw[List.getElem?_set_ne hj] at e
  obtain⟨v',h1,h2⟩:=S.slot j u e
  exact⟨v',by rw[List.getElem?_set_ne hj];exact h1,h2⟩
theorem upd_sub(hF:F p=none):∀a u,F a=some u->upd F p o a=some u:=fun a u e=>by
 rw[zaG (zaE e hF)];exact e
theorem Store.freeze(S:Store G F as H ce)(hp:H p=none):Store G (upd F p o) as (upd H p o) ce/\Le F as (upd F p o) as:=by
 have hF:F p=none:=by
  cases e:F p with
  | none=>rfl
  | some u=>rw[S.sub _ _ e] at hp;cases hp
 have l:Le F as (upd F p o) as:=⟨upd_sub hF,fun _ _ h=>h⟩
 refine⟨⟨fun a u e=>?_,S.nd,S.len,fun k a c h1 h2=>?_⟩,l⟩
 ·by_cases ha:a=p
  ·subst ha;rw[zaH] at e ⊢;exact e
  ·rw[zaG ha] at e ⊢;exact S.sub _ _ e
 ·obtain⟨q1,q2⟩:=S.cell k a c h1 h2
  obtain⟨u,hu⟩:=q2.tracked
  have ha:a≠p:=zaE hu hp
  exact⟨fun hn=>by rw[zaG ha];exact q1 hn,q2.le l (zaG ha)⟩
theorem Store.alloc(S:Store G F as H ce)(hp:H p=none){c:C}(hc:∀as',Le F as F as'->CRep G F as' (upd H p o) p c):Store G F (as++[p]) (upd H p o) (ce++[c])/\Le F as F (as++[p]):=by
 have hF:F p=none:=by
  cases e:F p with
  | none=>rfl
  | some u=>rw[S.sub _ _ e] at hp;cases hp
 have l:Le F as F (as++[p]):=⟨fun _ _ h=>h,fun k a h=>by
  have hk:k<as.length:=zaz h
  rw[List.getElem?_append_left hk];exact h⟩
 refine⟨⟨fun a u e=>?_,?_,by rw[List.length_append,List.length_append,S.len];rfl,fun k a c' h1 h2=>?_⟩,l⟩
 ·rw[zaG (zaE (S.sub _ _ e) hp)];exact S.sub _ _ e
 ·rw[List.nodup_append]
  refine⟨S.nd,by simp,fun a ha b hb=>?_⟩
  obtain⟨k,hk⟩:=List.getElem?_of_mem ha
  obtain⟨u,hu⟩:=S.tracked hk
  rw[List.mem_singleton] at hb
  subst hb
  exact zaE hu hp
 ·by_cases hk:k<ce.length
  ·rw[List.getElem?_append_left (by rw[S.len];exact hk)] at h1
   rw[List.getElem?_append_left hk] at h2
   obtain⟨q1,q2⟩:=S.cell k a c' h1 h2
   obtain⟨u,hu⟩:=q2.tracked
   exact⟨q1,q2.le l (zaG (zaE hu hp))⟩
  ·rw[List.getElem?_append_right (by rw[S.len];omega)] at h1
   rw[List.getElem?_append_right (by omega)] at h2
   have e:k-as.length=0:=by
    cases q:k-as.length with
    | zero=>rfl
    | succ n=>rw[q] at h1;simp at h1
   rw[e] at h1
   rw[<- S.len,e] at h2
   simp at h1 h2
   subst h1;subst h2
   exact⟨fun _=>hF,hc _ l⟩
theorem Store.write(S:Store G F as H ce)(h1:as[k]?=some a){c:C}(hc:CRep G F as (upd H a o) a c)(hm:∃o',H a=some o'/\nfz o'=true:=by exact⟨_,by assumption,rfl⟩):Store G F as (upd H a o) (ce.set k c):=by
 have hk:k<ce.length:=by rw[<- S.len];exact zaz h1
 have e:ce[k]?=some ce[k]:=List.getElem?_eq_getElem hk
 obtain⟨q1,q2⟩:=S.cell k a _ h1 e
 have q1:F a=none:=by
  cases ek:ce[k] with
  | fzd xs =>
   rw[ek] at q2
   obtain⟨o1,ps,_,e2,_⟩:=q2
   obtain⟨o',e3,hn⟩:=hm
   rw[e2] at e3
   cases e3
   cases hn
  | _=>exact q1 (by rw[ek];rfl)
 refine⟨fun b u e'=>?_,S.nd,by rw[List.length_set];exact S.len,fun j b c' h1' h2'=>?_⟩
 ·rw[zaG (fun z=>by subst z;rw[q1] at e';cases e')];exact S.sub _ _ e'
 ·by_cases hj:k=j
  ·subst hj
   rw[List.getElem?_set_self hk] at h2'
   rw[h1] at h1'
   cases h1';cases h2'
   exact⟨fun _=>q1,hc⟩
  ·rw[List.getElem?_set_ne hj] at h2'
   obtain⟨p1,p2⟩:=S.cell j b c' h1' h2'
   have hb:b≠a:=fun z=>by
    subst z
    have hj':j<as.length:=zaz h1'
    have hk':k<as.length:=by rw[S.len];exact hk
    have e1:as[k]=as[j]:=by
     rw[List.getElem?_eq_getElem hk'] at h1
     rw[List.getElem?_eq_getElem hj'] at h1'
     exact(Option.some.inj h1).trans (Option.some.inj h1').symm
    exact hj (zgl S.nd hk' hj' e1)
   exact⟨p1,p2.le .refl (zaG hb)⟩
end
end VS
namespace VS
open PySem PySem.Spec PyProof.Rows L2
def bnd{α β:Type}(m:M α)(f:α->M β):M β:=fun ce=>match m ce with
 | some (.ok a ce')=>f a ce'
 | some (.ex x ce')=>some (.ex x ce')
 | none=>none
def ret{α:Type}(a:α):M α:=fun ce=>some (.ok a ce)
def look{α:Type}(f:Ce->Option α):M α:=fun ce=>(f ce).map fun a=>R.ok a ce
def ziw{α:Type}:M α:=fun _=>none
def Post{α β:Type}(G:Ga)(E:XK)(RP:Hp->List Addr->α->β->Prop)(F:Hp)(as:List Addr)(σ:VS.St)(sl:Sl)(Q:β->Hp->Prop):Option (R α)->Prop
 | some (.ok a ce')=>∀b H' F' as',Le F as F' as'->SR G F' as' H' σ sl ce'->RP F' as' a b->Q b H'
 | some (.ex x ce')=>∀H' F' as' cv od,Le F as F' as'->Store G F' as' H' ce'->G.xr x cv od H'->E cv od H'
 | none=>False
def toT{α β:Type}(G:Ga)(E:XK)(RP:Hp->List Addr->α->β->Prop)(d:Sl->M α):VS.St->Hp->(β->Hp->Prop)->Prop :=
 fun σ H Q=>∃F as sl ce,SR G F as H σ sl ce/\Post G E RP F as σ sl Q (d sl ce)
def rB:Hp->List Addr->Bool->Bool->Prop:=fun _ _ a b=>a=b
abbrev zax(G:Ga)(E:XK)(d:Sl->M W):TE:=toT G E Rep d
abbrev zck(G:Ga)(E:XK)(d:Sl->M Bool):TT:=toT G E rB d
abbrev zfn(G:Ga)(E:XK)(d:Sl->M (List W)):TA:=toT G E Reps d
section
variable {α β γ δ:Type} {G:Ga} {E:XK} {RP:Hp->List Addr->α->β->Prop} {RQ:Hp->List Addr->γ->δ->Prop} {F F':Hp} {as as':List Addr} {H:Hp} {σ:VS.St} {sl:Sl} {ce:Ce}
theorem Post.le{Q:β->Hp->Prop}{r:Option (R α)}(l:Le F as F' as')(P:Post G E RP F as σ sl Q r):Post G E RP F' as' σ sl Q r:=by
 cases r with
 | none=>exact P
 | some r=>cases r with
  | ok a ce'=>exact fun b H' F2 as2 l2=>P b H' F2 as2 (l.trans l2)
  | ex x ce'=>exact fun H' F2 as2 cv od l2=>P H' F2 as2 cv od (l.trans l2)
theorem toT.mono{d:Sl->M α}{Q Q':β->Hp->Prop}(h:toT G E RP d σ H Q)(q:∀b H1,Q b H1->Q' b H1):toT G E RP d σ H Q':=by
 obtain⟨F,as,sl,ce,S,P⟩:=h
 refine⟨F,as,sl,ce,S,?_⟩
 revert P
 cases d sl ce with
 | none=>exact fun P=>P
 | some r=>cases r with
  | ok a ce'=>exact fun P b H' F' as' l S' r=>q _ _ (P b H' F' as' l S' r)
  | ex x ce'=>exact fun P=>P
theorem step{d:Sl->M α}{f:α->M γ}{Q:δ->Hp->Prop}(S:SR G F as H σ sl ce)(P:Post G E RQ F as σ sl Q (bnd (d sl) f ce)) :
  toT G E RP d σ H fun b H2=>∃a F' as' ce',Le F as F' as'/\SR G F' as' H2 σ sl ce'/\RP F' as' a b/\Post G E RQ F' as' σ sl Q (f a ce'):=by
 refine⟨F,as,sl,ce,S,?_⟩
 revert P
 unfold bnd
 cases d sl ce with
 | none=>exact fun P=>P
 | some r=>cases r with
  | ok a ce'=>exact fun P b H' F' as' l S' r=>⟨a,F',as',ce',l,S',r,P.le l⟩
  | ex x ce'=>exact fun P=>P
theorem zbA{f:Ce->Option α}{Q:β->Hp->Prop}(P:Post G E RP F as σ sl Q (look f ce)):∃a,f ce=some a/\Post G E RP F as σ sl Q (some (.ok a ce)):=by
 revert P
 unfold look
 cases f ce with
 | none=>exact fun P=>P.elim
 | some a=>exact fun P=>⟨a,rfl,P⟩
theorem Post.done{a:α}{b:β}{Q:β->Hp->Prop}(S:SR G F as H σ sl ce)(P:Post G E RP F as σ sl Q (some (.ok a ce)))(r:RP F as a b):Q b H:=P b H F as .refl S r
end
theorem PE.imp{X:Cx}{e:Expr}{t t':TE}(h:PE X e t)(q:∀σ H Q,t' σ H Q->t σ H Q):PE X e t':=fun pins s σ H Q I z=>h pins s σ H Q I (q _ _ _ z)
theorem PT.imp{X:Cx}{e:Expr}{t t':TT}(h:PT X e t)(q:∀σ H Q,t' σ H Q->t σ H Q):PT X e t':=fun pins s σ H Q I z=>h pins s σ H Q I (q _ _ _ z)
theorem PW.imp{X:Cx}{e:Expr}{t t':TT}(h:PW X e t)(q:∀σ H Q,t' σ H Q->t σ H Q):PW X e t':=fun wh pins s σ H Q I z=>h wh pins s σ H Q I (q _ _ _ z)
theorem PA.imp{X:Cx}{e:List Expr}{t t':TA}(h:PA X e t)(q:∀σ H Q,t' σ H Q->t σ H Q):PA X e t':=fun pos pins s σ H Q I z=>h pos pins s σ H Q I (q _ _ _ z)
theorem PS.imp{X:Cx}{e:Stmt}{t t':TS}(h:PS X e t)(q:∀D σ H,t' D σ H->t D σ H):PS X e t':=fun pins s σ H Q I z=>h pins s σ H Q I (q _ _ _ z)
theorem PSs.imp{X:Cx}{e:List Stmt}{t t':TS}(h:PSs X e t)(q:∀D σ H,t' D σ H->t D σ H):PSs X e t':=fun pins s σ H Q I z=>h pins s σ H Q I (q _ _ _ z)
def zag(i:Nat):Sl->M W:=fun sl ce=>match sl[i]? with
 | some (some w)=>some (.ok w ce)
 | _=>none
def dC(w:W):Sl->M W:=fun _=>ret w
def dOp(f:W->W->Option W)(a b:Sl->M W):Sl->M W:=fun sl=>bnd (a sl) fun x=>bnd (b sl) fun y=>look fun _=>f x y
def dUn(f:W->Option W)(a:Sl->M W):Sl->M W:=fun sl=>bnd (a sl) fun x=>look fun _=>f x
def scV:W->Option V
 | .non=>some .non
 | .bl b=>some (.bl b)
 | .int i=>some (.int i)
 | .str x=>some (.str x)
 | .ty n=>some (.ty n)
 | _=>none
theorem Rep.sc{F:Hp}{as:List Addr}{w:W}{v u:V}(r:Rep F as w v)(e:scV w=some u):v=u:=by
 cases w<;>simp only[scV,Option.some.injEq,reduceCtorEq] at e<;>simp only[Rep] at r<;>(subst e;exact r)
theorem Rep.of_sc{F:Hp}{as:List Addr}{w:W}{u:V}(e:scV w=some u):Rep F as w u:=by
 cases w<;>simp only[scV,Option.some.injEq,reduceCtorEq] at e<;>simp only[Rep]<;>exact e.symm
def Sc2(r:R2)(f:W->W->Option W):Prop:=∀x y w,f x y=some w->∃vx vy vw,scV x=some vx/\scV y=some vy/\scV w=some vw/\∀H Q,Q vw H->r vx vy H Q
def i2(g:Int->Int->W):W->W->Option W
 | .int i,.int j=>some (g i j)
 | _,_=>none
open Classical in
def i2c(c:Int->Int->Prop)(g:Int->Int->W):W->W->Option W
 | .int i,.int j=>if c i j then some (g i j) else none
 | _,_=>none
section
variable {X:Cx} {G:Ga} {E:XK} {a b c:Expr} {da db dc:Sl->M W} {pos:Pos}
theorem zab(i:Nat){x:Str}{pos:Pos}(hN:X.N[i]?=some x:=by rfl)(hv:Vis X.env.scope x:=by first|exact Or.inl rfl|exact Or.inr (Or.inl rfl)|exact Or.inr (Or.inr rfl))(hd:(x==("__debug__" : Str))=false:=by decide)(hcd:(x==("__classdict__" : Str))=false:=by decide):PE X (.Name x pos) (zax G E (zag i)):=by
 refine PE.imp (zlW hN hv hd hcd) fun σ H Q h=>?_
 obtain⟨F,as,sl,ce,S,P⟩:=h
 revert P
 unfold zag
 split
 ·rename_i w e
  intro P
  obtain⟨v,h1,h2⟩:=S.var e
  exact⟨v,h1,P.done S h2⟩
 ·exact fun P=>P.elim
theorem zo3{e:Expr}{w:W}{v:V}(h:PE X e (tC v))(hs:scV w=some v):PE X e (zax G E (dC w)):=by
 refine PE.imp h fun σ H Q h=>?_
 obtain⟨F,as,sl,ce,S,P⟩:=h
 exact P.done S (Rep.of_sc hs)
theorem zak{i j pos}:PE X (.Constant (.int i) j pos) (zax G E (dC (.int i))):=zo3 zon rfl
theorem zg1{i j pos}:PE X (.Constant (.bool i) j pos) (zax G E (dC (.bl i))):=zo3 zqD rfl
theorem zhA{j pos}:PE X (.Constant .none j pos) (zax G E (dC .non)):=zo3 zoo rfl
theorem zbL{x j pos}:PE X (.Constant (.str x) j pos) (zax G E (dC (.str x))):=zo3 zop rfl
theorem zgm{r:R2}{f:W->W->M W}{σ:VS.St}{H:Hp}{Q:VK}(h:zax G E (fun sl=>bnd (da sl) fun x=>bnd (db sl) fun y=>f x y) σ H Q)(k:∀F as sl ce H2 x y wx wy,SR G F as H2 σ sl ce->Rep F as wx x->Rep F as wy y->Post G E Rep F as σ sl Q (f wx wy ce)->r x y H2 Q):tOp r (zax G E da) (zax G E db) σ H Q:=by
 obtain⟨F,as,sl,ce,S,P⟩:=h
 refine(step S P).mono fun x H1 zz_=>el8 zz_ fun wx F1 as1 ce1 l1 S1 rx P1=>(step S1 P1).mono fun y H2 zz_=>el8 zz_ fun wy F2 as2 ce2 l2 S2 ry P2=>?_
 exact k F2 as2 sl ce2 H2 x y wx wy S2 (rx.le l2) ry P2
theorem zjv{op:Operator}{r:R2}{f:W->W->Option W}(ho:OpR X (binaryOp op) r)(hf:Sc2 r f)(ha:PE X a (zax G E da))(hb:PE X b (zax G E db)):PE X (.BinOp a op b pos) (zax G E (dOp f da db)):=by
 refine PE.imp (zkU ho ha hb) fun σ H Q h=>zgm h fun F as sl ce H2 x y wx wy S rx ry P=>?_
 revert P
 unfold look
 cases e:f wx wy with
 | none=>exact fun P=>P.elim
 | some w =>
  intro P
  obtain⟨vx,vy,vw,e1,e2,e3,k⟩:=hf _ _ _ e
  rw[rx.sc e1,ry.sc e2]
  exact k _ _ (P.done S (Rep.of_sc e3))
theorem zhB{op:CmpOp}{r:R2}{f:W->W->Option W}(ho:OpR X (compareOp op) r)(hf:Sc2 r f)(ha:PE X a (zax G E da))(hb:PE X b (zax G E db))(hm:behindInMarks op b=false):PE X (.Compare a [op] [b] pos) (zax G E (dOp f da db)):=by
 refine PE.imp (zi9 ho ha hb hm) fun σ H Q h=>zgm h fun F as sl ce H2 x y wx wy S rx ry P=>?_
 revert P
 unfold look
 cases e:f wx wy with
 | none=>exact fun P=>P.elim
 | some w =>
  intro P
  obtain⟨vx,vy,vw,e1,e2,e3,k⟩:=hf _ _ _ e
  rw[rx.sc e1,ry.sc e2]
  exact k _ _ (P.done S (Rep.of_sc e3))
theorem zgn{g:Int->Int->W}{h:Int->Int->V}(q:∀i j,scV (g i j)=some (h i j)):Sc2 (rI0 h) (i2 g):=by
 intro x y w e
 cases x<;>cases y<;>simp only[i2,Option.some.injEq,reduceCtorEq] at e
 subst e
 exact⟨_,_,_,rfl,rfl,q _ _,fun H Q hq=>⟨_,_,rfl,rfl,hq⟩⟩
theorem zjw{c:Int->Int->Prop}{g:Int->Int->W}{h:Int->Int->V}(q:∀i j,scV (g i j)=some (h i j)):Sc2 (rI c h) (i2c c g):=by
 intro x y w e
 cases x<;>cases y<;>simp only[i2c,reduceCtorEq] at e
 split at e
 ·rename_i hc
  cases e
  exact⟨_,_,_,rfl,rfl,q _ _,fun H Q hq=>⟨_,_,rfl,rfl,hc,hq⟩⟩
 ·cases e
def zcl:W->W->Option W:=i2 fun i j=>.int (i+j)
def zkL:W->W->Option W:=i2 fun i j=>.int (i-j)
def zeG:W->W->Option W:=i2c CMul fun i j=>.int (i*j)
def zeH:W->W->Option W:=i2c (fun _ j=>0<j) fun i j=>.int (i % j)
def zoe:W->W->Option W:=i2c zqV fun i j=>.int (i / j)
def fLt:W->W->Option W:=i2 fun i j=>.bl (decide (i<j))
def fLe:W->W->Option W:=i2 fun i j=>.bl (decide (i<=j))
def fGt:W->W->Option W:=i2 fun i j=>.bl (decide (j<i))
def fGe:W->W->Option W:=i2 fun i j=>.bl (decide (j<=i))
theorem zbF(ha:PE X a (zax G E da))(hb:PE X b (zax G E db)):PE X (.BinOp a .Add b pos) (zax G E (dOp zcl da db)):=zjv zoH (zgn fun _ _=>rfl) ha hb
theorem ze4(ha:PE X a (zax G E da))(hb:PE X b (zax G E db)):PE X (.BinOp a .Sub b pos) (zax G E (dOp zkL da db)):=zjv zoI (zgn fun _ _=>rfl) ha hb
theorem zcm(ha:PE X a (zax G E da))(hb:PE X b (zax G E db)):PE X (.BinOp a .Mult b pos) (zax G E (dOp zeG da db)):=zjv zoJ (zjw fun _ _=>rfl) ha hb
theorem zbW(ha:PE X a (zax G E da))(hb:PE X b (zax G E db)):PE X (.BinOp a .Mod b pos) (zax G E (dOp zeH da db)):=zjv zoK (zjw fun _ _=>rfl) ha hb
theorem zo4(ha:PE X a (zax G E da))(hb:PE X b (zax G E db)):PE X (.BinOp a .FloorDiv b pos) (zax G E (dOp zoe da db)):=zjv zm1 (zjw fun _ _=>rfl) ha hb
theorem zrk(ha:PE X a (zax G E da))(hb:PE X b (zax G E db)):PE X (.Compare a [.Lt] [b] pos) (zax G E (dOp fLt da db)):=zhB zoN (zgn fun _ _=>rfl) ha hb (zb4 _)
theorem zrl(ha:PE X a (zax G E da))(hb:PE X b (zax G E db)):PE X (.Compare a [.Gt] [b] pos) (zax G E (dOp fGt da db)):=zhB zoO (zgn fun _ _=>rfl) ha hb (zb4 _)
theorem zrm(ha:PE X a (zax G E da))(hb:PE X b (zax G E db)):PE X (.Compare a [.GtE] [b] pos) (zax G E (dOp fGe da db)):=zhB zqY (zgn fun _ _=>rfl) ha hb (zb4 _)
def znj:W->Option W
 | .int i=>some (.int (-i))
 | _=>none
theorem zjx(ha:PE X a (zax G E da)):PE X (.UnaryOp .USub a pos) (zax G E (dUn znj da)):=by
 refine PE.imp (zqU zoL ha) fun σ H Q zz_=>el6 zz_ fun F as sl ce S P=>(step S P).mono fun x H1 zz_=>el8 zz_ fun wx F1 as1 ce1 l1 S1 rx P1=>?_
 revert P1
 unfold look znj
 cases wx<;>first|exact fun P=>P.elim|skip
 simp only[Rep] at rx
 subst rx
 exact fun P=>⟨_,rfl,P.done S1 (by simp only[Rep])⟩
def isNon:W->Bool
 | .non=>true
 | _=>false
def zr1:W->Option W:=fun w=>some (.bl (isNon w))
def zo5:W->Option W:=fun w=>some (.bl (!isNon w))
theorem Rep.isN{F:Hp}{as:List Addr}{w:W}{v:V}(r:Rep F as w v):decide (v=.non)=isNon w:=by
 cases w<;>simp only[Rep] at r<;>first|(subst r;rfl)|(obtain⟨_,_,rfl,_⟩:=r;rfl)|(obtain⟨_,rfl,_⟩:=r;rfl)
def zg2(ce:Ce):W->Option Bool
 | .non=>some false
 | .bl b=>some b
 | .int i=>some (i != 0)
 | .str x=>if x.length<=sizeLine then some ((x.length:Int) != 0) else none
 | .lst xs=>some (!xs.isEmpty)
 | .tup xs=>some (!xs.isEmpty)
 | .cel k=>match ce[k]? with
  | some (.lst xs)=>some (!xs.isEmpty)
  | some (.dct xs)=>some (!xs.isEmpty)
  | _=>none
 | _=>none
theorem Reps.empty{F:Hp}{as:List Addr}{ws:List W}{vs:List V}(r:Reps F as ws vs):vs.isEmpty=ws.isEmpty:=by
 have:=r.length
 cases ws<;>cases vs<;>simp_all
theorem Rd.sub{G:Ga}{F:Hp}{as:List Addr}{H:Hp}{ce:Ce}(S:Store G F as H ce){a:Addr}{o:HO}(r:Rd F a o):Rd H a o:=by
 rcases r with r|⟨u,r⟩
 ·exact .inl (S.sub _ _ r)
 ·exact .inr ⟨u,S.sub _ _ r⟩
theorem znk{F:Hp}{as:List Addr}{H:Hp}{ce:Ce}{w:W}{v:V}{k:Bool}(S:Store G F as H ce)(r:Rep F as w v)(e:zg2 ce w=some k)(K:PySem.W.Frag):zqr K v H k:=by
 cases w with
 | non=>simp only[Rep] at r;simp only[zg2,Option.some.injEq] at e;subst r;exact e.symm
 | bl b=>simp only[Rep] at r;simp only[zg2,Option.some.injEq] at e;subst r;exact e.symm
 | int i=>simp only[Rep] at r;simp only[zg2,Option.some.injEq] at e;subst r;exact e.symm
 | str x =>
  simp only[Rep] at r
  subst r
  simp only[zg2] at e
  split at e
  ·rename_i h
   exact⟨h,(Option.some.inj e).symm⟩
  ·cases e
 | ty n=>simp only[zg2,reduceCtorEq] at e
 | lst xs =>
  simp only[Rep] at r
  obtain⟨a,vs,rfl,h,rs⟩:=r
  simp only[zg2,Option.some.injEq] at e
  exact .inl ⟨vs,.inl (Rd.sub S h),by rw[<- e,rs.empty]⟩
 | tup xs =>
  simp only[Rep] at r
  obtain⟨a,vs,rfl,h,rs⟩:=r
  simp only[zg2,Option.some.injEq] at e
  exact .inr (.inl ⟨vs,.inl (.inl (S.sub _ _ h)),by rw[<- e,rs.empty]⟩)
 | cel n =>
  simp only[Rep] at r
  obtain⟨a,rfl,h⟩:=r
  simp only[zg2] at e
  split at e
  ·rename_i xs hc
   obtain⟨_,vs,h2,rs⟩:=S.cell _ _ _ h hc
   exact .inl ⟨vs,.inl (.inl h2),by rw[<- Option.some.inj e,rs.empty]⟩
  ·rename_i xs hc
   obtain⟨_,vs,h2,rs⟩:=S.cell _ _ _ h hc
   refine .inr (.inr ⟨vs,h2,?_⟩)
   rw[<- Option.some.inj e]
   cases rs<;>rfl
  ·cases e
def zkM(d:Sl->M W):Sl->M Bool:=fun sl=>bnd (d sl) fun w=>look fun ce=>zg2 ce w
theorem zjy{da:Sl->M W}(ha:PE X a (zax G E da))(he:∀whole,isTrue a X.env whole=(do let v <- whole;standAt a.pos;holding [v] (truthy v)):=by intro _;rfl):PT X a (zck G E (zkM da)):=by
 refine PT.imp (zrf (K:=X.K) ha he) fun σ H Q zz_=>el6 zz_ fun F as sl ce S P=>(step S P).mono fun x H1 zz_=>el8 zz_ fun wx F1 as1 ce1 l1 S1 rx P1=>?_
 obtain⟨k,e,P⟩:=zbA P1
 exact⟨k,znk S1.st rx e _,Post.done (RP:=rB) S1 P rfl⟩
def dB(d:Sl->M W):Sl->M Bool:=fun sl=>bnd (d sl) fun w=>look fun _=>match w with|.bl b=>some b|_=>none
theorem znl{t:TE}{σ:VS.St}{H:Hp}{Q:Bool->Hp->Prop}{d:Sl->M W}(h:zck G E (dB d) σ H Q):tB (zax G E d) σ H Q:=by
 obtain⟨F,as,sl,ce,S,P⟩:=h
 refine(step S P).mono fun x H1 zz_=>el8 zz_ fun wx F1 as1 ce1 l1 S1 rx P1=>?_
 revert P1
 unfold look
 cases wx<;>first|exact fun P=>P.elim|skip
 simp only[Rep] at rx
 subst rx
 exact fun P=>⟨_,rfl,P.done S1 rfl⟩
theorem zhC{e:Expr}{d:Sl->M W}(h:PE X e (zax G E d))(he:∀whole,isTrue e X.env whole=(do let v <- whole;standAt e.pos;holding [v] (truthy v)):=by intro _;rfl):PT X e (zck G E (dB d)) :=
 PT.imp (zos h he) fun σ H Q q=>znl (t:=zax G E d) q
theorem zgo{op:CmpOp}{d:Sl->M W}{r:R2}(ho:OpR X (compareOp op) r)(ha:PE X a (zax G E da))(hb:PE X b (zax G E db))(hm:behindInMarks op b=false)(q:∀σ H Q,zax G E d σ H Q->tOp r (zax G E da) (zax G E db) σ H Q):PT X (.Compare a [op] [b] pos) (zck G E (dB d)):=by
 refine PT.imp (zm2 ho ha hb hm) fun σ H Q h=>?_
 exact q σ H _ (znl (t:=zax G E d) h)
theorem znm{op:CmpOp}{d:Sl->M W}(h:∃t,PC X op a b t/\∀σ H Q,zax G E d σ H Q->t σ H Q)(h1:behindInMarks op b=false):PT X (.Compare a [op] [b] pos) (zck G E (dB d)):=by
 obtain⟨t,h,q⟩:=h
 exact PT.imp (zor h h1) fun σ H Q z=>q _ _ _ (znl (t:=zax G E d) z)
end
end VS
namespace VS
open PySem PySem.Spec PyProof.Rows L2
mutual
def peq:W->W->Bool
 | .non,y=>match y with|.non=>true|_=>false
 | .bl a,y=>match y with|.bl b=>a==b|.int b=>(if a then 1 else 0)==b|_=>false
 | .int a,y=>match y with|.int b=>a==b|.bl b=>a==(if b then 1 else 0)|_=>false
 | .str a,y=>match y with|.str b=>a==b|_=>false
 | .lst xs,y=>match y with|.lst ys=>peqs xs ys|_=>false
 | .tup xs,y=>match y with|.tup ys=>peqs xs ys|_=>false
 | .ty _,_=>false
 | .cel _,_=>false
def peqs:List W->List W->Bool
 | [],ys=>match ys with|[]=>true|_=>false
 | x::xs,ys=>match ys with|y::ys=>peq x y&&peqs xs ys|[]=>false
end
def cln:Nat->W->Bool
 | _,.non=>true
 | _,.bl _=>true
 | _,.int _=>true
 | _,.str _=>true
 | _,.ty _=>false
 | _,.cel _=>false
 | 0,.lst _=>false
 | 0,.tup _=>false
 | n+1,.lst xs=>xs.all (cln n)
 | n+1,.tup xs=>xs.all (cln n)
theorem zix{F:Hp}{a:Addr}{vs us:List V}(h:Rd F a (.lst vs))(h':Rd F a (.lst us)):vs=us:=by
 rcases h with h|⟨o,h⟩<;>rcases h' with h'|⟨o',h'⟩<;>(first|(rw[h] at h';cases h';rfl)|(rw[h] at h';cases h'))
theorem ziy{F:Hp}{a:Addr}{vs us:List V}(h:Rd F a (.tup vs))(h':Rd F a (.tup us)):vs=us:=by
 rcases h with h|⟨o,h⟩<;>rcases h' with h'|⟨o',h'⟩<;>(first|(rw[h] at h';cases h';rfl)|(rw[h] at h';cases h'))
theorem zhD{F:Hp}{a:Addr}{vs us:List V}(h:Rd F a (.lst vs))(h':Rd F a (.tup us)):False:=by
 rcases h with h|⟨o,h⟩<;>rcases h' with h'|⟨o',h'⟩<;>(rw[h] at h';cases h')
theorem zjz{F:Hp}{as:List Addr}:∀(n:Nat) {w w':W} {v:V},cln n w=true->cln n w'=true->Rep F as w v->Rep F as w' v->w=w':=by
 intro n
 induction n with
 | zero =>
  intro w w' v c c' r r'
  cases w<;>cases w'<;>simp only[cln,reduceCtorEq] at c c'<;>simp only[Rep] at r r'<;>(subst r;cases r')<;>rfl
 | succ n ih =>
  have its:∀{ws ws':List W} {vs:List V},ws.all (cln n)=true->ws'.all (cln n)=true->Reps F as ws vs->Reps F as ws' vs->ws=ws':=by
   intro ws
   induction ws with
   | nil =>
    intro ws' vs _ _ r r'
    simp only[Reps] at r
    subst r
    cases ws' with
    | nil=>rfl
    | cons y ys=>simp only[Reps] at r';obtain⟨v,r,e,_⟩:=r';cases e
   | cons x xs ihx =>
    intro ws' vs c c' r r'
    simp only[Reps] at r
    obtain⟨v,vs',rfl,h1,h2⟩:=r
    cases ws' with
    | nil=>simp only[Reps] at r';cases r'
    | cons y ys =>
     simp only[Reps] at r'
     obtain⟨v',r',e,h3,h4⟩:=r'
     cases e
     simp only[List.all_cons,Bool.and_eq_true] at c c'
     rw[ih c.1 c'.1 h1 h3,ihx c.2 c'.2 h2 h4]
  intro w w' v c c' r r'
  cases w<;>cases w'<;>simp only[cln,reduceCtorEq] at c c'<;>simp only[Rep] at r r'<;>first
   | (subst r;cases r';rfl)
   | (subst r;cases r';done)
   | (subst r;obtain⟨_,_,e,_⟩:=r';cases e)
   | (subst r';obtain⟨_,_,e,_⟩:=r;cases e)
   | (obtain⟨a,vs,rfl,q,s⟩:=r
      obtain⟨b,us,e,q',s'⟩:=r'
      cases e
      first
       | exact(zhD q (.inl q')).elim
       | exact(zhD q' (.inl q)).elim
       | (cases zix q q';rw[its c c' s s'])
       | (cases ziy (.inl q) (.inl q');rw[its c c' s s']))
theorem zhE:∀(n:Nat) {w:W},cln n w=true->peq w w=true:=by
 intro n
 induction n with
 | zero=>intro w c;cases w<;>simp_all[cln,peq]
 | succ n ih =>
  have its:∀{ws:List W},ws.all (cln n)=true->peqs ws ws=true:=by
   intro ws
   induction ws with
   | nil=>intro _;simp[peqs]
   | cons x xs ihx =>
    intro c
    simp only[List.all_cons,Bool.and_eq_true] at c
    simp only[peqs,ih c.1,ihx c.2,Bool.and_self]
  intro w c
  cases w<;>simp only[cln,reduceCtorEq] at c<;>first|(simp only[peq];exact its c)|simp[peq]
theorem zfo:∀(xs ys:List W),xs.length=ys.length->peqs xs ys=(List.range xs.length).all fun j=>match xs[j]?,ys[j]? with|some a,some b=>peq a b|_,_=>false
 | [],[],_=>by simp[peqs]
 | x::xs,y::ys,h=>by
  have e:xs.length=ys.length:=by simpa using h
  simp only[peqs]
  rw[zfo xs ys e,List.length_cons,List.range_succ_eq_map,List.all_cons,List.all_map]
  rfl
 | [],_::_,h=>by simp at h
 | _::_,[],h=>by simp at h
theorem zhF:∀{xs ys:List W},peqs xs ys=true->xs.length=ys.length
 | [],[],_=>rfl
 | x::xs,y::ys,h=>by
  simp only[peqs,Bool.and_eq_true] at h
  simp only[List.length_cons,zhF h.2]
 | [],_::_,h=>by simp[peqs] at h
 | _::_,[],h=>by simp[peqs] at h
theorem zjA{xs ys:List W}(h:xs.length≠ys.length):peqs xs ys=false:=by
 cases e:peqs xs ys with
 | false=>rfl
 | true=>exact absurd (zhF e) h
section
variable {X:Cx} {pins:List (Addr×Obj)} {σ:VS.St} {H F:Hp} {as:List Addr} {s:Shared}
theorem zjB{A:Around}{ws zs:List W}{vs us:List V}{ps qs:List Value}(it:∀{w z:W} {v u:V} {p q:Value},w∈ws->z∈zs->Rep F as w v->Rep F as z u->L2.RelV v p->L2.RelV u q->SeqAt.EqAt A s p q (peq w z))(h1:Reps F as ws vs)(h2:Reps F as zs us)(r1:Vals vs ps)(r2:Vals us qs) :
  ∀j (k1:j<ps.toArray.size) (k2:j<qs.toArray.size),SeqAt.EqAt A s ps.toArray[j] qs.toArray[j] (match ws[j]?,zs[j]? with|some a,some b=>peq a b|_,_=>false):=by
 intro j k1 k2
 have k1':j<ps.length:=by simpa using k1
 have k2':j<qs.length:=by simpa using k2
 have l1:=r1.length
 have l2:=r2.length
 have e1:vs[j]?=some (vs[j]'(by omega)):=by simp
 have e2:us[j]?=some (us[j]'(by omega)):=by simp
 obtain⟨u,hu1,ru⟩:=r1.get e1
 obtain⟨z,hz1,rz⟩:=r2.get e2
 obtain⟨a,ha,ra⟩:=h1.get' e1
 obtain⟨b,hb,rb⟩:=h2.get' e2
 have eu:ps.toArray[j]=u:=by
  have:ps[j]?=some ps[j]:=by simp
  rw[hu1] at this
  simpa using (Option.some.inj this).symm
 have ez:qs.toArray[j]=z:=by
  have:qs[j]?=some qs[j]:=by simp
  rw[hz1] at this
  simpa using (Option.some.inj this).symm
 rw[eu,ez,ha,hb]
 exact it (List.mem_of_getElem? ha) (List.mem_of_getElem? hb) ra rb ru rz
theorem zk9{A:Around}{ws zs:List W}{vs us:List V}{a b:Addr}(I:Inv X pins σ H s)(hu:A.units<cLine)(ha:SqL X.K H a vs)(hb:SqL X.K H b us)(h1:Reps F as ws vs)(h2:Reps F as zs us)(it:∀{w z:W} {v u:V} {p q:Value},w∈ws->z∈zs->Rep F as w v->Rep F as z u->L2.RelV v p->L2.RelV u q->SeqAt.EqAt A.in1 s p q (peq w z)) :
  SeqAt.RcAt A s (.ref a) (.ref b) (peqs ws zs)/\SeqAt.RcNeAt A s (.ref a) (.ref b) (!peqs ws zs):=by
 obtain⟨ps,r1,p1,z1⟩:=I.list ha
 obtain⟨qs,r2,p2,z2⟩:=I.list hb
 have l1:=r1.length
 have l2:=r2.length
 have l3:=h1.length
 have l4:=h2.length
 by_cases hl:ws.length=zs.length
 ·have hsz:ps.toArray.size=qs.toArray.size:=by rw[List.size_toArray,List.size_toArray];omega
  have ia:=zjB (A:=A.in1) it h1 h2 r1 r2
  have a1:=SeqAt.RcAt.lists p1.isList p2.isList hsz hu ia
  have a2:=SeqAt.RcNeAt.lists p1.isList p2.isList hsz hu ia
  rw[List.size_toArray,show ps.length=ws.length by omega,<- zfo ws zs hl] at a1 a2
  exact⟨a1,a2⟩
 ·have hne:(ps.toArray.size != qs.toArray.size)=true:=by
   rw[List.size_toArray,List.size_toArray]
   simp
   omega
  rw[zjA hl]
  exact⟨SeqAt.RcAt.lists_lengths p1.isList p2.isList hne hu,SeqAt.RcNeAt.lists_lengths p1.isList p2.isList hne hu⟩
theorem znn{A:Around}{ws zs:List W}{vs us:List V}{a b:Addr}(I:Inv X pins σ H s)(hu:A.units<cLine)(ha:SqT X.K H a vs)(hb:SqT X.K H b us)(h1:Reps F as ws vs)(h2:Reps F as zs us)(it:∀{w z:W} {v u:V} {p q:Value},w∈ws->z∈zs->Rep F as w v->Rep F as z u->L2.RelV v p->L2.RelV u q->SeqAt.EqAt A.in1 s p q (peq w z)) :
  SeqAt.RcAt A s (.ref a) (.ref b) (peqs ws zs)/\SeqAt.RcNeAt A s (.ref a) (.ref b) (!peqs ws zs):=by
 obtain⟨ps,r1,p1,z1⟩:=I.tuple ha
 obtain⟨qs,r2,p2,z2⟩:=I.tuple hb
 have l1:=r1.length
 have l2:=r2.length
 have l3:=h1.length
 have l4:=h2.length
 have ia:=zjB (A:=A.in1) it h1 h2 r1 r2
 have e:((List.range (min ps.toArray.size qs.toArray.size)).all (fun j=>match ws[j]?,zs[j]? with|some a,some b=>peq a b|_,_=>false)&&ps.toArray.size==qs.toArray.size)=peqs ws zs:=by
  rw[List.size_toArray,List.size_toArray]
  by_cases hl:ws.length=zs.length
  ·have h1:ps.length=ws.length:=by omega
   have h2:qs.length=ws.length:=by omega
   rw[h1,h2,Nat.min_self,zfo ws zs hl]
   simp
  ·have e1:(ps.length==qs.length)=false:=by simp;omega
   rw[e1,Bool.and_false,zjA hl]
 have a1:=SeqAt.RcAt.tuples p1 p2 hu ia
 have a2:=SeqAt.RcNeAt.tuples p1 p2 hu ia
 rw[e] at a1 a2
 exact⟨a1,a2⟩
inductive Sh (F:Hp) (as:List Addr):W->V->Value->Prop where
 | non:Sh F as .non .non .none
 | bl (b:Bool):Sh F as (.bl b) (.bl b) (.bool b)
 | int (i:Int) (t:Tok):Sh F as (.int i) (.int i) (.int i t)
 | str (x:Str) (t:Tok):Sh F as (.str x) (.str x) (.str x t)
 | lst {xs:List W} {a:Addr} {vs:List V} (h:Rd F a (.lst vs)) (r:Reps F as xs vs):Sh F as (.lst xs) (.ref a) (.ref a)
 | tup {xs:List W} {a:Addr} {vs:List V} (h:Rd F a (.tup vs)) (r:Reps F as xs vs):Sh F as (.tup xs) (.ref a) (.ref a)
theorem zla{n:Nat}{w:W}{v:V}{p:Value}(c:cln n w=true)(r:Rep F as w v)(rv:L2.RelV v p):Sh F as w v p:=by
 cases w with
 | non=>simp only[Rep] at r;subst r;cases rv;exact .non
 | bl b=>simp only[Rep] at r;subst r;cases rv;exact .bl b
 | int i=>simp only[Rep] at r;subst r;obtain⟨t,rfl⟩:=rv;exact .int i t
 | str i=>simp only[Rep] at r;subst r;obtain⟨t,rfl⟩:=rv;exact .str i t
 | ty i=>cases n<;>simp only[cln,reduceCtorEq] at c
 | cel i=>cases n<;>simp only[cln,reduceCtorEq] at c
 | lst xs=>simp only[Rep] at r;obtain⟨a,vs,rfl,h,q⟩:=r;cases rv;exact .lst h q
 | tup xs=>simp only[Rep] at r;obtain⟨a,vs,rfl,h,q⟩:=r;cases rv;exact .tup (.inl h) q
set_option maxHeartbeats 0 in
theorem zrn(hs:∀a o,F a=some o->H a=some o)(I:Inv X pins σ H s):∀(n:Nat) {A:Around} {w z:W} {v u:V} {p q:Value},A.units+n<cLine->cln n w=true->cln n z=true->Rep F as w v->Rep F as z u->L2.RelV v p->L2.RelV u q ->
  SeqAt.RcAt A s p q (peq w z)/\SeqAt.RcNeAt A s p q (!peq w z)/\SeqAt.EqAt A s p q (peq w z):=by
 have sub:∀{a:Addr} {o:HO},Rd F a o->Rd H a o:=fun {a o} r=>by
  rcases r with r|⟨u,r⟩
  ·exact .inl (hs _ _ r)
  ·exact .inr ⟨u,hs _ _ r⟩
 have isL:∀{a:Addr} {vs:List V},Rd F a (.lst vs)->∃its,s.heap.IsList a its:=fun {a vs} h=>by
  obtain⟨its,_,p,_⟩:=I.list (.inl (sub h))
  exact⟨_,p.isList⟩
 have isT:∀{a:Addr} {vs:List V},Rd F a (.tup vs)->∃its,s.heap.IsTuple a its:=fun {a vs} h=>by
  obtain⟨its,_,p,_⟩:=I.tuple (.inl (sub h))
  exact⟨_,p⟩
 intro n
 induction n with
 | zero =>
  intro A w z v u p q hu c c' r r' rv ru
  have sh:=zla c r rv
  have sh':=zla c' r' ru
  cases sh with
  | non =>
   cases sh' with
   | non =>
    simp only[peq]
    exact⟨SeqAt.RcAt.none_none ,SeqAt.RcNeAt.none_none ,SeqAt.EqAt.same _⟩
   | bl b2 =>
    simp only[peq]
    exact⟨SeqAt.RcAt.none_bool _,SeqAt.RcNeAt.none_bool _,SeqAt.EqAt.none_bool _⟩
   | int i2 t2 =>
    simp only[peq]
    exact⟨SeqAt.RcAt.none_int _ _,SeqAt.RcNeAt.none_int _ _,SeqAt.EqAt.none_int _ _⟩
   | str x2 t2 =>
    simp only[peq]
    exact⟨SeqAt.RcAt.none_str _ _,SeqAt.RcNeAt.none_str _ _,SeqAt.EqAt.none_str _ _⟩
   | lst q2 s2 =>
    simp only[cln,reduceCtorEq] at c'
   | tup q2 s2 =>
    simp only[cln,reduceCtorEq] at c'
  | bl b =>
   cases sh' with
   | non =>
    simp only[peq]
    exact⟨SeqAt.RcAt.bool_none _,SeqAt.RcNeAt.bool_none _,SeqAt.EqAt.bool_none _⟩
   | bl b2 =>
    simp only[peq]
    exact⟨SeqAt.RcAt.bool_bool _ _,SeqAt.RcNeAt.bool_bool _ _,SeqAt.EqAt.bool_bool _ _⟩
   | int i2 t2 =>
    simp only[peq]
    exact⟨SeqAt.RcAt.bool_int _ _ _,SeqAt.RcNeAt.bool_int _ _ _,SeqAt.EqAt.bool_int _ _ _⟩
   | str x2 t2 =>
    simp only[peq]
    exact⟨SeqAt.RcAt.bool_str _ _ _,SeqAt.RcNeAt.bool_str _ _ _,SeqAt.EqAt.bool_str _ _ _⟩
   | lst q2 s2 =>
    simp only[cln,reduceCtorEq] at c'
   | tup q2 s2 =>
    simp only[cln,reduceCtorEq] at c'
  | int i t =>
   cases sh' with
   | non =>
    simp only[peq]
    exact⟨SeqAt.RcAt.int_none _ _,SeqAt.RcNeAt.int_none _ _,SeqAt.EqAt.int_none _ _⟩
   | bl b2 =>
    simp only[peq]
    exact⟨SeqAt.RcAt.int_bool _ _ _,SeqAt.RcNeAt.int_bool _ _ _,SeqAt.EqAt.int_bool _ _ _⟩
   | int i2 t2 =>
    simp only[peq]
    exact⟨SeqAt.RcAt.int_int _ _ _ _,SeqAt.RcNeAt.int_int _ _ _ _,SeqAt.EqAt.int_int _ _ _ _⟩
   | str x2 t2 =>
    simp only[peq]
    exact⟨SeqAt.RcAt.int_str _ _ _ _,SeqAt.RcNeAt.int_str _ _ _ _,SeqAt.EqAt.int_str _ _ _ _⟩
   | lst q2 s2 =>
    simp only[cln,reduceCtorEq] at c'
   | tup q2 s2 =>
    simp only[cln,reduceCtorEq] at c'
  | str x t =>
   cases sh' with
   | non =>
    simp only[peq]
    exact⟨SeqAt.RcAt.str_none _ _,SeqAt.RcNeAt.str_none _ _,SeqAt.EqAt.str_none _ _⟩
   | bl b2 =>
    simp only[peq]
    exact⟨SeqAt.RcAt.str_bool _ _ _,SeqAt.RcNeAt.str_bool _ _ _,SeqAt.EqAt.str_bool _ _ _⟩
   | int i2 t2 =>
    simp only[peq]
    exact⟨SeqAt.RcAt.str_int _ _ _ _,SeqAt.RcNeAt.str_int _ _ _ _,SeqAt.EqAt.str_int _ _ _ _⟩
   | str x2 t2 =>
    simp only[peq]
    exact⟨SeqAt.RcAt.str_str _ _ _ _,SeqAt.RcNeAt.str_str _ _ _ _,SeqAt.EqAt.str_str _ _ _ _⟩
   | lst q2 s2 =>
    simp only[cln,reduceCtorEq] at c'
   | tup q2 s2 =>
    simp only[cln,reduceCtorEq] at c'
  | lst q1 s1 =>
   simp only[cln,reduceCtorEq] at c
  | tup q1 s1 =>
   simp only[cln,reduceCtorEq] at c
 | succ n ih =>
  intro A w z v u p q hu c c' r r' rv ru
  have hu0:A.units<cLine:=by omega
  have hu1:A.in1.units+n<cLine:=by show A.units+1+n<cLine;omega
  have ref:∀{a b:Addr},v=.ref a->u=.ref b->(SeqAt.RcAt A s (.ref a) (.ref b) (peq w z)/\SeqAt.RcNeAt A s (.ref a) (.ref b) (!peq w z))->SeqAt.RcAt A s (.ref a) (.ref b) (peq w z)/\SeqAt.RcNeAt A s (.ref a) (.ref b) (!peq w z)/\SeqAt.EqAt A s (.ref a) (.ref b) (peq w z):=by
   intro a b e1 e2 ⟨h1,h2⟩
   subst e1 e2
   refine⟨h1,h2,?_⟩
   by_cases e:a=b
   ·subst e
    rw[zjz (n+1) c c' r r',zhE (n+1) c']
    exact SeqAt.EqAt.same _
   ·exact SeqAt.EqAt.of_refs e h1
  have sh:=zla c r rv
  have sh':=zla c' r' ru
  cases sh with
  | non =>
   cases sh' with
   | non =>
    simp only[peq]
    exact⟨SeqAt.RcAt.none_none ,SeqAt.RcNeAt.none_none ,SeqAt.EqAt.same _⟩
   | bl b2 =>
    simp only[peq]
    exact⟨SeqAt.RcAt.none_bool _,SeqAt.RcNeAt.none_bool _,SeqAt.EqAt.none_bool _⟩
   | int i2 t2 =>
    simp only[peq]
    exact⟨SeqAt.RcAt.none_int _ _,SeqAt.RcNeAt.none_int _ _,SeqAt.EqAt.none_int _ _⟩
   | str x2 t2 =>
    simp only[peq]
    exact⟨SeqAt.RcAt.none_str _ _,SeqAt.RcNeAt.none_str _ _,SeqAt.EqAt.none_str _ _⟩
   | lst q2 s2 =>
    obtain⟨_,p1⟩:=isL q2
    simp only[peq]
    exact⟨SeqAt.RcAt.none_list p1 hu0,SeqAt.RcNeAt.none_list p1 hu0,SeqAt.EqAt.none_list p1 hu0⟩
   | tup q2 s2 =>
    obtain⟨_,p1⟩:=isT q2
    simp only[peq]
    exact⟨SeqAt.RcAt.none_tuple p1 hu0,SeqAt.RcNeAt.none_tuple p1 hu0,SeqAt.EqAt.none_tuple p1 hu0⟩
  | bl b =>
   cases sh' with
   | non =>
    simp only[peq]
    exact⟨SeqAt.RcAt.bool_none _,SeqAt.RcNeAt.bool_none _,SeqAt.EqAt.bool_none _⟩
   | bl b2 =>
    simp only[peq]
    exact⟨SeqAt.RcAt.bool_bool _ _,SeqAt.RcNeAt.bool_bool _ _,SeqAt.EqAt.bool_bool _ _⟩
   | int i2 t2 =>
    simp only[peq]
    exact⟨SeqAt.RcAt.bool_int _ _ _,SeqAt.RcNeAt.bool_int _ _ _,SeqAt.EqAt.bool_int _ _ _⟩
   | str x2 t2 =>
    simp only[peq]
    exact⟨SeqAt.RcAt.bool_str _ _ _,SeqAt.RcNeAt.bool_str _ _ _,SeqAt.EqAt.bool_str _ _ _⟩
   | lst q2 s2 =>
    obtain⟨_,p1⟩:=isL q2
    simp only[peq]
    exact⟨SeqAt.RcAt.bool_list _ p1 hu0,SeqAt.RcNeAt.bool_list _ p1 hu0,SeqAt.EqAt.bool_list _ p1 hu0⟩
   | tup q2 s2 =>
    obtain⟨_,p1⟩:=isT q2
    simp only[peq]
    exact⟨SeqAt.RcAt.bool_tuple _ p1 hu0,SeqAt.RcNeAt.bool_tuple _ p1 hu0,SeqAt.EqAt.bool_tuple _ p1 hu0⟩
  | int i t =>
   cases sh' with
   | non =>
    simp only[peq]
    exact⟨SeqAt.RcAt.int_none _ _,SeqAt.RcNeAt.int_none _ _,SeqAt.EqAt.int_none _ _⟩
   | bl b2 =>
    simp only[peq]
    exact⟨SeqAt.RcAt.int_bool _ _ _,SeqAt.RcNeAt.int_bool _ _ _,SeqAt.EqAt.int_bool _ _ _⟩
   | int i2 t2 =>
    simp only[peq]
    exact⟨SeqAt.RcAt.int_int _ _ _ _,SeqAt.RcNeAt.int_int _ _ _ _,SeqAt.EqAt.int_int _ _ _ _⟩
   | str x2 t2 =>
    simp only[peq]
    exact⟨SeqAt.RcAt.int_str _ _ _ _,SeqAt.RcNeAt.int_str _ _ _ _,SeqAt.EqAt.int_str _ _ _ _⟩
   | lst q2 s2 =>
    obtain⟨_,p1⟩:=isL q2
    simp only[peq]
    exact⟨SeqAt.RcAt.int_list _ _ p1 hu0,SeqAt.RcNeAt.int_list _ _ p1 hu0,SeqAt.EqAt.int_list _ _ p1 hu0⟩
   | tup q2 s2 =>
    obtain⟨_,p1⟩:=isT q2
    simp only[peq]
    exact⟨SeqAt.RcAt.int_tuple _ _ p1 hu0,SeqAt.RcNeAt.int_tuple _ _ p1 hu0,SeqAt.EqAt.int_tuple _ _ p1 hu0⟩
  | str x t =>
   cases sh' with
   | non =>
    simp only[peq]
    exact⟨SeqAt.RcAt.str_none _ _,SeqAt.RcNeAt.str_none _ _,SeqAt.EqAt.str_none _ _⟩
   | bl b2 =>
    simp only[peq]
    exact⟨SeqAt.RcAt.str_bool _ _ _,SeqAt.RcNeAt.str_bool _ _ _,SeqAt.EqAt.str_bool _ _ _⟩
   | int i2 t2 =>
    simp only[peq]
    exact⟨SeqAt.RcAt.str_int _ _ _ _,SeqAt.RcNeAt.str_int _ _ _ _,SeqAt.EqAt.str_int _ _ _ _⟩
   | str x2 t2 =>
    simp only[peq]
    exact⟨SeqAt.RcAt.str_str _ _ _ _,SeqAt.RcNeAt.str_str _ _ _ _,SeqAt.EqAt.str_str _ _ _ _⟩
   | lst q2 s2 =>
    obtain⟨_,p1⟩:=isL q2
    simp only[peq]
    exact⟨SeqAt.RcAt.str_list _ _ p1 hu0,SeqAt.RcNeAt.str_list _ _ p1 hu0,SeqAt.EqAt.str_list _ _ p1 hu0⟩
   | tup q2 s2 =>
    obtain⟨_,p1⟩:=isT q2
    simp only[peq]
    exact⟨SeqAt.RcAt.str_tuple _ _ p1 hu0,SeqAt.RcNeAt.str_tuple _ _ p1 hu0,SeqAt.EqAt.str_tuple _ _ p1 hu0⟩
  | lst q1 s1 =>
   cases sh' with
   | non =>
    obtain⟨_,p1⟩:=isL q1
    simp only[peq]
    exact⟨SeqAt.RcAt.list_none p1 hu0,SeqAt.RcNeAt.list_none p1 hu0,SeqAt.EqAt.list_none p1 hu0⟩
   | bl b2 =>
    obtain⟨_,p1⟩:=isL q1
    simp only[peq]
    exact⟨SeqAt.RcAt.list_bool _ p1 hu0,SeqAt.RcNeAt.list_bool _ p1 hu0,SeqAt.EqAt.list_bool _ p1 hu0⟩
   | int i2 t2 =>
    obtain⟨_,p1⟩:=isL q1
    simp only[peq]
    exact⟨SeqAt.RcAt.list_int _ _ p1 hu0,SeqAt.RcNeAt.list_int _ _ p1 hu0,SeqAt.EqAt.list_int _ _ p1 hu0⟩
   | str x2 t2 =>
    obtain⟨_,p1⟩:=isL q1
    simp only[peq]
    exact⟨SeqAt.RcAt.list_str _ _ p1 hu0,SeqAt.RcNeAt.list_str _ _ p1 hu0,SeqAt.EqAt.list_str _ _ p1 hu0⟩
   | lst q2 s2 =>
    refine ref rfl rfl ?_
    simp only[peq]
    simp only[cln] at c c'
    exact zk9 I hu0 (.inl (sub q1)) (.inl (sub q2)) s1 s2 fun {w z v u p q} m m' r r' rv ru=>(ih hu1 (List.all_eq_true.mp c _ m) (List.all_eq_true.mp c' _ m') r r' rv ru).2.2
   | tup q2 s2 =>
    refine ref rfl rfl ?_
    simp only[peq]
    obtain⟨_,p1⟩:=isL q1
    obtain⟨_,p2⟩:=isT q2
    exact⟨SeqAt.RcAt.list_tuple p1 p2 hu0,SeqAt.RcNeAt.list_tuple p1 p2 hu0⟩
  | tup q1 s1 =>
   cases sh' with
   | non =>
    obtain⟨_,p1⟩:=isT q1
    simp only[peq]
    exact⟨SeqAt.RcAt.tuple_none p1 hu0,SeqAt.RcNeAt.tuple_none p1 hu0,SeqAt.EqAt.tuple_none p1 hu0⟩
   | bl b2 =>
    obtain⟨_,p1⟩:=isT q1
    simp only[peq]
    exact⟨SeqAt.RcAt.tuple_bool _ p1 hu0,SeqAt.RcNeAt.tuple_bool _ p1 hu0,SeqAt.EqAt.tuple_bool _ p1 hu0⟩
   | int i2 t2 =>
    obtain⟨_,p1⟩:=isT q1
    simp only[peq]
    exact⟨SeqAt.RcAt.tuple_int _ _ p1 hu0,SeqAt.RcNeAt.tuple_int _ _ p1 hu0,SeqAt.EqAt.tuple_int _ _ p1 hu0⟩
   | str x2 t2 =>
    obtain⟨_,p1⟩:=isT q1
    simp only[peq]
    exact⟨SeqAt.RcAt.tuple_str _ _ p1 hu0,SeqAt.RcNeAt.tuple_str _ _ p1 hu0,SeqAt.EqAt.tuple_str _ _ p1 hu0⟩
   | lst q2 s2 =>
    refine ref rfl rfl ?_
    simp only[peq]
    obtain⟨_,p1⟩:=isT q1
    obtain⟨_,p2⟩:=isL q2
    exact⟨SeqAt.RcAt.tuple_list p1 p2 hu0,SeqAt.RcNeAt.tuple_list p1 p2 hu0⟩
   | tup q2 s2 =>
    refine ref rfl rfl ?_
    simp only[peq]
    simp only[cln] at c c'
    exact znn I hu0 (.inl (sub q1)) (.inl (sub q2)) s1 s2 fun {w z v u p q} m m' r r' rv ru=>(ih hu1 (List.all_eq_true.mp c _ m) (List.all_eq_true.mp c' _ m') r r' rv ru).2.2
end
end VS
namespace VS
open PySem PySem.Spec PyProof.Rows L2
def drf(ce:Ce):W->W
 | .cel k=>match ce[k]? with
  | some (.lst xs)=>.lst xs
  | _=>.cel k
 | w=>w
def zdV(ce:Ce):W->Option (List W)
 | .lst xs=>some xs
 | .cel k=>match ce[k]? with
  | some (.lst xs)=>some xs
  | _=>none
 | _=>none
def zf3(ce:Ce):W->Option (List W)
 | .tup xs=>some xs
 | w=>zdV ce w
def zof(ce:Ce):W->Option (List (Key×W))
 | .cel k=>match ce[k]? with
  | some (.dct xs)=>some xs
  | _=>none
 | _=>none
def zog(ce:Ce):W->Option (List (Key×W))
 | .cel k=>match ce[k]? with
  | some (.dct xs)=>some xs
  | some (.fzd xs)=>some xs
  | _=>none
 | _=>none
def ziV:W->Option Key
 | .int i=>some (.inl i)
 | .str x=>some (.inr x)
 | _=>none
section
variable {G:Ga} {F:Hp} {as:List Addr} {H:Hp} {ce:Ce} {w:W} {v:V}
theorem Store.toH(S:Store G F as H ce):Le F as H as:=⟨S.sub,fun _ _ h=>h⟩
theorem zg3(S:Store G F as H ce)(r:Rep F as w v):Rep H as (drf ce w) v:=by
 cases w with
 | cel k =>
  simp only[drf]
  split
  ·rename_i xs hc
   simp only[Rep] at r ⊢
   obtain⟨a,rfl,h⟩:=r
   obtain⟨_,vs,h2,rs⟩:=S.cell _ _ _ h hc
   exact⟨a,vs,rfl,.inl h2,rs.le S.toH⟩
  ·exact r.le S.toH
 | _=>exact r.le S.toH
theorem zcu{xs:List W}(S:Store G F as H ce)(r:Rep F as w v)(e:zdV ce w=some xs):∃a vs,v=.ref a/\Rd H a (.lst vs)/\Reps F as xs vs:=by
 cases w<;>simp only[zdV,reduceCtorEq,Option.some.injEq] at e
 ·subst e
  simp only[Rep] at r
  obtain⟨a,vs,rfl,h,q⟩:=r
  exact⟨a,vs,rfl,Rd.sub S h,q⟩
 ·split at e
  ·rename_i xs' hc
   cases e
   simp only[Rep] at r
   obtain⟨a,rfl,h⟩:=r
   obtain⟨_,vs,h2,rs⟩:=S.cell _ _ _ h hc
   exact⟨a,vs,rfl,.inl h2,rs⟩
  ·cases e
theorem zfp{xs:List W}(S:Store G F as H ce)(r:Rep F as w v)(e:zf3 ce w=some xs):∃a vs,v=.ref a/\(Rd H a (.lst vs)\/Rd H a (.tup vs))/\Reps F as xs vs:=by
 cases w with
 | tup ys =>
  simp only[zf3,Option.some.injEq] at e
  subst e
  simp only[Rep] at r
  obtain⟨a,vs,rfl,h,q⟩:=r
  exact⟨a,vs,rfl,.inr (.inl (S.sub _ _ h)),q⟩
 | _ =>
  obtain⟨a,vs,h1,h2,h3⟩:=zcu S r e
  exact⟨a,vs,h1,.inl h2,h3⟩
theorem zjC{xs:List (Key×W)}(S:Store G F as H ce)(r:Rep F as w v)(e:zof ce w=some xs):∃k a ps,w=.cel k/\v=.ref a/\as[k]?=some a/\H a=some (.dK ps)/\RepKV F as xs ps:=by
 cases w<;>simp only[zof,reduceCtorEq] at e
 split at e
 ·rename_i k xs' hc
  cases e
  simp only[Rep] at r
  obtain⟨a,rfl,h⟩:=r
  obtain⟨_,ps,h2,rs⟩:=S.cell _ _ _ h hc
  exact⟨_,a,ps,rfl,rfl,h,h2,rs⟩
 ·cases e
theorem zhG{xs:List (Key×W)}(S:Store G F as H ce)(r:Rep F as w v)(e:zog ce w=some xs):∃k a ps,w=.cel k/\v=.ref a/\as[k]?=some a/\Rd H a (.dK ps)/\RepKV F as xs ps:=by
 cases w<;>simp only[zog,reduceCtorEq] at e
 split at e
 ·rename_i k xs' hc
  cases e
  simp only[Rep] at r
  obtain⟨a,rfl,h⟩:=r
  obtain⟨_,ps,h2,rs⟩:=S.cell _ _ _ h hc
  exact⟨_,a,ps,rfl,rfl,h,.inl h2,rs⟩
 ·rename_i k xs' hc
  cases e
  simp only[Rep] at r
  obtain⟨a,rfl,h⟩:=r
  obtain⟨_,o,ps,_,h2,rs⟩:=S.cell _ _ _ h hc
  exact⟨_,a,ps,rfl,rfl,h,.inr ⟨o,h2⟩,rs⟩
 ·cases e
theorem zg4{k:Key}(r:Rep F as w v)(e:ziV w=some k):v=kV k:=by
 cases w<;>simp only[ziV,reduceCtorEq,Option.some.injEq] at e<;>subst e<;>simp only[Rep] at r<;>exact r
end
def zro(ng:Bool):R2:=fun x y H Q=>∃as w z,Rep H as w x/\Rep H as z y/\cln 8 w=true/\cln 8 z=true/\Q (.bl (if ng then !peq w z else peq w z)) H
def zrp(K:PySem.W.Frag)(ng:Bool):R2:=fun x y H Q=>∃as w ys a vs,Rep H as w x/\y=.ref a/\(SqL K H a vs\/SqT K H a vs)/\Reps H as ys vs/\cln 8 w=true/\ys.all (cln 8)=true/\Q (.bl (if ng then !ys.any (peq · w) else ys.any (peq · w))) H
section
variable {X:Cx}
theorem zo6(hu:X.A.units+8<cLine):OpR X (compareOp .Eq) (zro false):=by
 intro pins s σ H x y v u Q I rx ry ⟨as,w,z,r1,r2,c1,c2,q⟩
 exact(zrn (fun _ _ h=>h) I 8 hu c1 c2 r1 r2 rx ry).1 X.prog X.w X.xe _ ⟨.bl _,H,I,rfl,q⟩
theorem zo7(hu:X.A.units+8<cLine):OpR X (compareOp .NotEq) (zro true):=by
 intro pins s σ H x y v u Q I rx ry ⟨as,w,z,r1,r2,c1,c2,q⟩
 exact(zrn (fun _ _ h=>h) I 8 hu c1 c2 r1 r2 rx ry).2.1 X.prog X.w X.xe _ ⟨.bl _,H,I,rfl,q⟩
open Classical in
theorem zcf{pins:List (Addr×Obj)}{σ:VS.St}{H:Hp}{s:Shared}{as:List Addr}{A:Around}{w:W}{x:V}{u:Value}{ys:List W}{vs:List V}{ps:List Value}(I:Inv X pins σ H s)(hu:A.units+8<cLine)(rw':Rep H as w x)(c:cln 8 w=true)(cs:ys.all (cln 8)=true)(ru:L2.RelV x u)(rs:Reps H as ys vs)(rp:Vals vs ps):∃e:Value->Bool,(∀y,y∈ps.toArray->SeqAt.EqAt A s y u (e y))/\ps.toArray.any e=ys.any (peq · w):=by
 have hl:=rs.length
 have hl2:=rp.length
 have key:∀{j:Nat} {p:Value},ps[j]?=some p->∃y v,ys[j]?=some y/\Rep H as y v/\L2.RelV v p/\cln 8 y=true:=fun {j p} hp=>by
  have hj:=zaz hp
  have e1:vs[j]?=some (vs[j]'(by omega)):=by simp
  obtain⟨q,hq,rq⟩:=rp.get e1
  rw[hp] at hq
  cases hq
  obtain⟨y,hy,ry⟩:=rs.get' e1
  exact⟨y,_,hy,ry,rq,List.all_eq_true.mp cs _ (List.mem_of_getElem? hy)⟩
 have uniq:∀{j j':Nat} {p:Value} {y y':W},ps[j]?=some p->ps[j']?=some p->ys[j]?=some y->ys[j']?=some y'->y=y':=fun {j j' p y y'} h1 h2 h3 h4=>by
  obtain⟨z,v,hz,rz,rv,cz⟩:=key h1
  obtain⟨z',v',hz',rz',rv',cz'⟩:=key h2
  rw[h3] at hz;cases hz
  rw[h4] at hz';cases hz'
  cases rv.inj rv'
  exact zjz 8 cz cz' rz rz'
 refine⟨fun p=>decide (∃(j:Nat) (y:W),ps[j]?=some p/\ys[j]?=some y/\peq y w=true),fun p hp=>?_,?_⟩
 ·have hp':p∈ps:=by simpa using hp
  obtain⟨j,hj⟩:=List.getElem?_of_mem hp'
  obtain⟨y,v,hy,ry,rv,cy⟩:=key hj
  have q:=(zrn (fun _ _ h=>h) I 8 hu cy c ry rw' rv ru).2.2
  have e:decide (∃(j:Nat) (y:W),ps[j]?=some p/\ys[j]?=some y/\peq y w=true)=peq y w:=by
   rw[Bool.eq_iff_iff,decide_eq_true_iff]
   constructor
   ·rintro⟨j',y',h1,h2,h3⟩
    rw[uniq hj h1 hy h2];exact h3
   ·intro h
    exact⟨j,y,hj,hy,h⟩
  show SeqAt.EqAt A s p u (decide (∃(j:Nat) (y:W),ps[j]?=some p/\ys[j]?=some y/\peq y w=true))
  rw[e];exact q
 ·rw[Bool.eq_iff_iff,Array.any_eq_true',List.any_eq_true]
  constructor
  ·rintro⟨p,_,hp⟩
   obtain⟨j,y,h1,h2,h3⟩:=of_decide_eq_true hp
   exact⟨y,List.mem_of_getElem? h2,h3⟩
  ·rintro⟨y,hy,h⟩
   obtain⟨j,hj⟩:=List.getElem?_of_mem hy
   have hlt:=zaz hj
   have e1:ps[j]?=some (ps[j]'(by omega)):=by simp
   refine⟨ps[j]'(by omega),by simp,decide_eq_true ⟨j,y,e1,hj,h⟩⟩
theorem zo8{K:PySem.W.Frag}(hu:X.A.units+9<cLine)(hK:X.K=K:=by rfl):OpR X (compareOp .In) (zrp K false):=by
 subst hK
 intro pins s σ H x y v u Q I rx ry ⟨as,w,ys,a,vs,r1,ey,sq,rs,c1,c2,q⟩
 subst ey
 cases ry
 rcases sq with sq|sq
 ·obtain⟨ps,rp,pl,_⟩:=I.list sq
  obtain⟨e,he,ea⟩:=zcf (A:=X.A.in1) I (by show X.A.units+1+8<cLine;omega) r1 c1 c2 rx rs rp
  exact SeqAt.in_listAt e pl.isList he ⟨.bl _,H,I,rfl,by rw[ea];exact q⟩
 ·obtain⟨ps,rp,pl,_⟩:=I.tuple sq
  obtain⟨e,he,ea⟩:=zcf (A:=X.A.in1) I (by show X.A.units+1+8<cLine;omega) r1 c1 c2 rx rs rp
  exact SeqAt.in_tupleAt e pl he ⟨.bl _,H,I,rfl,by rw[ea];exact q⟩
theorem zjD{K:PySem.W.Frag}(hu:X.A.units+9<cLine)(hK:X.K=K:=by rfl):OpR X (compareOp .NotIn) (zrp K true):=by
 subst hK
 intro pins s σ H x y v u Q I rx ry ⟨as,w,ys,a,vs,r1,ey,sq,rs,c1,c2,q⟩
 subst ey
 cases ry
 rcases sq with sq|sq
 ·obtain⟨ps,rp,pl,_⟩:=I.list sq
  obtain⟨e,he,ea⟩:=zcf (A:=X.A.in1) I (by show X.A.units+1+8<cLine;omega) r1 c1 c2 rx rs rp
  exact SeqAt.notIn_listAt e pl.isList he ⟨.bl _,H,I,rfl,by rw[ea];exact q⟩
 ·obtain⟨ps,rp,pl,_⟩:=I.tuple sq
  obtain⟨e,he,ea⟩:=zcf (A:=X.A.in1) I (by show X.A.units+1+8<cLine;omega) r1 c1 c2 rx rs rp
  exact SeqAt.notIn_tupleAt e pl he ⟨.bl _,H,I,rfl,by rw[ea];exact q⟩
end
def eqW(ng:Bool)(ce:Ce)(x y:W):Option W:=if (cln 8 (drf ce x)&&cln 8 (drf ce y))=true then some (.bl (if ng then !peq (drf ce x) (drf ce y) else peq (drf ce x) (drf ce y))) else none
def inW(ng:Bool)(ce:Ce)(x y:W):Option W:=match zf3 ce y with
 | some ys=>if (cln 8 (drf ce x)&&ys.all (cln 8))=true then some (.bl (if ng then !ys.any (peq · (drf ce x)) else ys.any (peq · (drf ce x)))) else none
 | none=>none
def zaI(f:Ce->W->W->Option W)(a b:Sl->M W):Sl->M W:=fun sl=>bnd (a sl) fun x=>bnd (b sl) fun y=>look fun ce=>f ce x y
section
variable {X:Cx} {G:Ga} {E:XK} {a b c:Expr} {da db dc:Sl->M W} {pos:Pos}
def OpC(r:R2)(f:Ce->W->W->Option W):Prop:=∀(G:Ga) F as H ce x y wx wy w,Store G F as H ce->Rep F as wx x->Rep F as wy y->f ce wx wy=some w->∀Q:VK,(∀v,Rep F as w v->Q v H)->r x y H Q
theorem zb1{r:R2}{f:Ce->W->W->Option W}(hf:OpC r f)(σ:L2.St)(H:Hp)(Q:VK)(h:zax G E (zaI f da db) σ H Q):tOp r (zax G E da) (zax G E db) σ H Q:=by
 refine zgm h fun F as sl ce H2 x y wx wy S rx ry P=>?_
 obtain⟨w,e,P⟩:=zbA P
 exact hf G F as H2 ce x y wx wy w S.st rx ry e Q fun v r=>P.done S r
theorem zl4(ng:Bool):OpC (zro ng) (eqW ng):=by
 intro G F as H ce x y wx wy w S rx ry e Q q
 unfold eqW at e
 split at e
 ·rename_i hc
  rw[Bool.and_eq_true] at hc
  cases e
  exact⟨as,_,_,zg3 S rx,zg3 S ry,hc.1,hc.2,q _ (by simp only[Rep])⟩
 ·cases e
theorem zl5(K:PySem.W.Frag)(ng:Bool):OpC (zrp K ng) (inW ng):=by
 intro G F as H ce x y wx wy w S rx ry e Q q
 unfold inW at e
 split at e
 ·rename_i ys hy
  split at e
  ·rename_i hc
   rw[Bool.and_eq_true] at hc
   cases e
   obtain⟨a,vs,rfl,h,rs⟩:=zfp S ry hy
   exact⟨as,_,ys,a,vs,zg3 S rx,rfl,h.imp .inl .inl,rs.le S.toH,hc.1,hc.2,q _ (by simp only[Rep])⟩
  ·cases e
 ·cases e
theorem zrq(hu:X.A.units+9<cLine)(ha:PE X a (zax G E da))(hb:PE X b (zax G E db))(hm:behindInMarks .In b=false):PE X (.Compare a [.In] [b] pos) (zax G E (zaI (inW false) da db)):=PE.imp (zi9 (zo8 hu rfl) ha hb hm) (zb1 (zl5 _ false))
theorem zeh(hu:X.A.units+8<cLine)(ha:PE X a (zax G E da))(hb:PE X b (zax G E db)):PT X (.Compare a [.Eq] [b] pos) (zck G E (dB (zaI (eqW false) da db))):=zgo (zo6 hu) ha hb (zb4 _) (zb1 (zl4 false))
theorem zjE(hu:X.A.units+8<cLine)(ha:PE X a (zax G E da))(hb:PE X b (zax G E db)):PT X (.Compare a [.NotEq] [b] pos) (zck G E (dB (zaI (eqW true) da db))):=zgo (zo7 hu) ha hb (zb4 _) (zb1 (zl4 true))
theorem zd2(hu:X.A.units+9<cLine)(ha:PE X a (zax G E da))(hb:PE X b (zax G E db))(hm:behindInMarks .NotIn b=false):PT X (.Compare a [.NotIn] [b] pos) (zck G E (dB (zaI (inW true) da db))):=zgo (zjD hu rfl) ha hb hm (zb1 (zl5 _ true))
theorem zgp{r:R2}{f:W->W->Option W}(hf:Sc2 r f):OpC r (fun _=>f):=by
 intro G F as H ce x y wx wy w S rx ry e Q q
 obtain⟨vx,vy,vw,e1,e2,e3,k⟩:=hf _ _ _ e
 rw[rx.sc e1,ry.sc e2]
 exact k _ _ (q _ (Rep.of_sc e3))
theorem zo9(ha:PE X a (zax G E da))(hb:PE X b (zax G E db)):PT X (.Compare a [.Lt] [b] pos) (zck G E (dB (dOp fLt da db))):=zgo zoN ha hb (zb4 _) (zb1 (zgp (zgn fun _ _=>rfl)))
theorem zrr(ha:PE X a (zax G E da))(hb:PE X b (zax G E db)):PT X (.Compare a [.LtE] [b] pos) (zck G E (dB (dOp fLe da db))):=zgo zqX ha hb (zb4 _) (zb1 (zgp (zgn fun _ _=>rfl)))
theorem zrs(ha:PE X a (zax G E da))(hb:PE X b (zax G E db)):PT X (.Compare a [.Gt] [b] pos) (zck G E (dB (dOp fGt da db))):=zgo zoO ha hb (zb4 _) (zb1 (zgp (zgn fun _ _=>rfl)))
theorem zpa{j pos'}(ha:PE X a (zax G E da)):PT X (.Compare a [.Is] [.Constant .none j pos'] pos) (zck G E (dB (dUn zr1 da))) :=
 znm ⟨_,zoq ha,fun σ H Q zz_=>el6 zz_ fun F as sl ce S P=>(step S P).mono fun x H1 zz_=>el8 zz_ fun wx F1 as1 ce1 l1 S1 rx P1=>Post.done S1 (a:=W.bl _) P1 (by simp only[Rep];rw[rx.isN])⟩ (zb4 _)
theorem zno{j pos'}(ha:PE X a (zax G E da)):PT X (.Compare a [.IsNot] [.Constant .none j pos'] pos) (zck G E (dB (dUn zo5 da))) :=
 znm ⟨_,zmT ha,fun σ H Q zz_=>el6 zz_ fun F as sl ce S P=>(step S P).mono fun x H1 zz_=>el8 zz_ fun wx F1 as1 ce1 l1 S1 rx P1=>Post.done S1 (a:=W.bl _) P1 (by simp only[Rep];rw[rx.isN])⟩ (zb4 _)
def znp(a b:Sl->M W):Sl->M W:=fun sl=>bnd (a sl) fun x=>match x with
 | .bl true=>b sl
 | .bl false=>ret (.bl false)
 | _=>ziw
def dOr(a b:Sl->M W):Sl->M W:=fun sl=>bnd (a sl) fun x=>match x with
 | .bl true=>ret (.bl true)
 | .bl false=>b sl
 | _=>ziw
def zpb(a:Sl->M W):Sl->M W:=fun sl=>bnd (a sl) fun x=>match x with
 | .bl b=>ret (.bl (!b))
 | _=>ziw
def zei(a b:Sl->M Bool):Sl->M Bool:=fun sl=>bnd (a sl) fun x=>match x with
 | true=>b sl
 | false=>ret false
def zl6(a b:Sl->M Bool):Sl->M Bool:=fun sl=>bnd (a sl) fun x=>match x with
 | true=>ret true
 | false=>b sl
def zfq(a:Sl->M Bool):Sl->M Bool:=fun sl=>bnd (a sl) fun x=>ret (!x)
def ztd(c:Sl->M Bool)(a b:Sl->M W):Sl->M W:=fun sl=>bnd (c sl) fun x=>match x with
 | true=>a sl
 | false=>b sl
variable {zdw:List Expr} {ta tb:Sl->M Bool}
theorem zhH{op}(h:PE X a (zax G E da)):PE X (.BoolOp op [a] pos) (zax G E da):=zow h
theorem zl7(ha:PE X a (zax G E da))(hb:PE X (.BoolOp .And (b::zdw) pos) (zax G E db)):PE X (.BoolOp .And (a::b::zdw) pos) (zax G E (znp da db)):=by
 refine PE.imp (zox ha hb) fun σ H Q zz_=>el6 zz_ fun F as sl ce S P=>(step S P).mono fun x H1 zz_=>el8 zz_ fun wx F1 as1 ce1 l1 S1 rx P1=>?_
 cases wx<;>first|exact(show False from P1).elim|skip
 rename_i k
 simp only[Rep] at rx
 subst rx
 cases k
 ·exact⟨false,rfl,by rw[if_neg Bool.false_ne_true];exact Post.done S1 (a:=W.bl false) P1 (by simp only[Rep])⟩
 ·exact⟨true,rfl,by rw[if_pos rfl];exact⟨F1,as1,sl,ce1,S1,P1⟩⟩
theorem zpc(ha:PE X a (zax G E da))(hb:PE X (.BoolOp .Or (b::zdw) pos) (zax G E db)):PE X (.BoolOp .Or (a::b::zdw) pos) (zax G E (dOr da db)):=by
 refine PE.imp (zqI ha hb) fun σ H Q zz_=>el6 zz_ fun F as sl ce S P=>(step S P).mono fun x H1 zz_=>el8 zz_ fun wx F1 as1 ce1 l1 S1 rx P1=>?_
 cases wx<;>first|exact(show False from P1).elim|skip
 rename_i k
 simp only[Rep] at rx
 subst rx
 cases k
 ·exact⟨false,rfl,by rw[if_neg Bool.false_ne_true];exact⟨F1,as1,sl,ce1,S1,P1⟩⟩
 ·exact⟨true,rfl,by rw[if_pos rfl];exact Post.done S1 (a:=W.bl true) P1 (by simp only[Rep])⟩
theorem zpd(ha:PE X a (zax G E da)):PE X (.UnaryOp .Not a pos) (zax G E (zpb da)):=by
 refine PE.imp (zoy ha) fun σ H Q zz_=>el6 zz_ fun F as sl ce S P=>(step S P).mono fun x H1 zz_=>el8 zz_ fun wx F1 as1 ce1 l1 S1 rx P1=>?_
 cases wx<;>first|exact(show False from P1).elim|skip
 rename_i k
 simp only[Rep] at rx
 subst rx
 exact⟨k,rfl,Post.done S1 (a:=W.bl (!k)) P1 (by simp only[Rep])⟩
theorem zdy(ha:PT X a (zck G E ta)):PW X (.BoolOp .And [a] pos) (zck G E ta):=zmU ha
theorem zjF(ha:PT X a (zck G E ta)):PW X (.BoolOp .Or [a] pos) (zck G E ta):=zot ha
theorem ze5(ha:PT X a (zck G E ta))(hb:PW X (.BoolOp .And (b::zdw) pos) (zck G E tb)):PW X (.BoolOp .And (a::b::zdw) pos) (zck G E (zei ta tb)):=by
 refine PW.imp (zou ha hb) fun σ H Q zz_=>el6 zz_ fun F as sl ce S P=>(step (RP:=rB) S P).mono fun x H1 zz_=>el8 zz_ fun wx F1 as1 ce1 l1 S1 rx P1=>?_
 have rx:wx=x:=rx
 subst rx
 cases wx
 ·rw[if_neg Bool.false_ne_true];exact Post.done (RP:=rB) S1 (a:=false) P1 rfl
 ·rw[if_pos rfl];exact⟨F1,as1,sl,ce1,S1,P1⟩
theorem znq(ha:PT X a (zck G E ta))(hb:PW X (.BoolOp .Or (b::zdw) pos) (zck G E tb)):PW X (.BoolOp .Or (a::b::zdw) pos) (zck G E (zl6 ta tb)):=by
 refine PW.imp (zqF ha hb) fun σ H Q zz_=>el6 zz_ fun F as sl ce S P=>(step (RP:=rB) S P).mono fun x H1 zz_=>el8 zz_ fun wx F1 as1 ce1 l1 S1 rx P1=>?_
 have rx:wx=x:=rx
 subst rx
 cases wx
 ·rw[if_neg Bool.false_ne_true];exact⟨F1,as1,sl,ce1,S1,P1⟩
 ·rw[if_pos rfl];exact Post.done (RP:=rB) S1 (a:=true) P1 rfl
theorem zl8(ha:PT X a (zck G E ta)):PT X (.UnaryOp .Not a pos) (zck G E (zfq ta)):=by
 refine PT.imp (zov ha) fun σ H Q zz_=>el6 zz_ fun F as sl ce S P=>(step (RP:=rB) S P).mono fun x H1 zz_=>el8 zz_ fun wx F1 as1 ce1 l1 S1 rx P1=>?_
 have rx:wx=x:=rx
 subst rx
 exact Post.done (RP:=rB) S1 (a:=!wx) P1 rfl
end
end VS
namespace VS
open PySem PySem.Spec PyProof.Rows L2
section
def zan:Sl->M (List W):=fun _=>ret []
def zae(a:Sl->M W)(r:Sl->M (List W)):Sl->M (List W):=fun sl=>bnd (a sl) fun x=>bnd (r sl) fun xs=>ret (x::xs)
open Classical in
def mkF(w:W)(n:Nat):M W:=fun ce=>if n<=sizeLine then some (.ok w ce) else none
open Classical in
def mkC(c:C)(n:Nat):M W:=fun ce=>if n<=sizeLine then some (.ok (.cel ce.length) (ce++[c])) else none
def zbU(r:Sl->M (List W)):Sl->M W:=fun sl=>bnd (r sl) fun xs=>mkF (.tup xs) xs.length
def zeI(r:Sl->M (List W)):Sl->M W:=fun sl=>bnd (r sl) fun xs=>mkF (.lst xs) xs.length
def zb5(r:Sl->M (List W)):Sl->M W:=fun sl=>bnd (r sl) fun xs=>mkC (.lst xs) xs.length
section
variable {X:Cx} {G:Ga} {E:XK} {e:Expr} {es:List Expr} {da:Sl->M W} {dr:Sl->M (List W)} {pos:Pos} {F:Hp} {as:List Addr} {H:Hp} {σ:VS.St} {sl:Sl} {ce:Ce} {Q:VK}
theorem zaf:PA X [] (zfn G E zan):=PA.imp zlZ fun σ H Q zz_=>el6 zz_ fun F as sl ce S P=>Post.done (RP:=Reps) S (a:=[]) P Reps.nil
theorem zaa(ha:PE X e (zax G E da))(hr:PA X es (zfn G E dr))(hs:starEach (e::es) X.env=(false,eval e X.env)::starEach es X.env:=by rfl):PA X (e::es) (zfn G E (zae da dr)):=by
 refine PA.imp (zjd ha hr hs) fun σ H Q zz_=>el6 zz_ fun F as sl ce S P=>(step S P).mono fun x H1 zz_=>el8 zz_ fun wx F1 as1 ce1 l1 S1 rx P1=>(step (RP:=Reps) S1 P1).mono fun y H2 zz_=>el8 zz_ fun wy F2 as2 ce2 l2 S2 ry P2=>?_
 exact Post.done (RP:=Reps) S2 (a:=wx::wy) P2 (.cons (rx.le l2) ry)
theorem zjG{xs:List W}{vs:List V}{n:Nat}(S:SR G F as H σ sl ce)(rs:Reps F as xs vs)(P:Post G E Rep F as σ sl Q (mkF (.lst xs) n ce)):n<=sizeLine/\∀p,H p=none->Q (.ref p) (upd H p (.lst vs)):=by
 revert P
 unfold mkF
 split
 ·rename_i h
  intro P
  refine⟨h,fun p hp=>?_⟩
  obtain⟨S',l⟩:=S.st.freeze (o:=.lst vs) hp
  exact P _ _ _ _ l (S.slots S' l) (by simp only[Rep];exact⟨p,vs,rfl,.inl zaH,rs.le l⟩)
 ·exact fun P=>P.elim
theorem zg5{xs:List W}{vs:List V}{n:Nat}(S:SR G F as H σ sl ce)(rs:Reps F as xs vs)(P:Post G E Rep F as σ sl Q (mkF (.tup xs) n ce)):n<=sizeLine/\∀p,H p=none->Q (.ref p) (upd H p (.tup vs)):=by
 revert P
 unfold mkF
 split
 ·rename_i h
  intro P
  refine⟨h,fun p hp=>?_⟩
  obtain⟨S',l⟩:=S.st.freeze (o:=.tup vs) hp
  exact P _ _ _ _ l (S.slots S' l) (by simp only[Rep];exact⟨p,vs,rfl,zaH,rs.le l⟩)
 ·exact fun P=>P.elim
theorem zjH{c:C}{o:HO}{n:Nat}(S:SR G F as H σ sl ce)(hc:∀p as',Le F as F as'->CRep G F as' (upd H p o) p c)(P:Post G E Rep F as σ sl Q (mkC c n ce)):n<=sizeLine/\∀p,H p=none->Q (.ref p) (upd H p o):=by
 revert P
 unfold mkC
 split
 ·rename_i h
  intro P
  refine⟨h,fun p hp=>?_⟩
  obtain⟨S',l⟩:=S.st.alloc (c:=c) hp (hc p)
  exact P _ _ _ _ l (S.slots S' l) (by simp only[Rep];exact⟨p,rfl,by rw[<- S.st.len];simp⟩)
 ·exact fun P=>P.elim
theorem zjI{xs:List W}{vs:List V}{n:Nat}(S:SR G F as H σ sl ce)(rs:Reps F as xs vs)(P:Post G E Rep F as σ sl Q (mkC (.lst xs) n ce)):n<=sizeLine/\∀p,H p=none->Q (.ref p) (upd H p (.lst vs)) :=
 zjH (c:=.lst xs) S (fun p as' l=>⟨vs,zaH,rs.le l⟩) P
theorem zaQ{x1}(h:PA X es (zfn G E dr)):PE X (.Tuple es x1 pos) (zax G E (zbU dr)):=by
 refine PE.imp (zoS h) fun σ H Q zz_=>el6 zz_ fun F as sl ce S P=>(step (RP:=Reps) S P).mono fun x H1 zz_=>el8 zz_ fun wx F1 as1 ce1 l1 S1 rx P1=>?_
 have:=zg5 S1 rx P1
 rwa [<- Reps.length rx] at this
theorem zbM(h:PA X es (zfn G E dr)):PE X (.List es pos) (zax G E (zeI dr)):=by
 refine PE.imp (zje h) fun σ H Q zz_=>el6 zz_ fun F as sl ce S P=>(step (RP:=Reps) S P).mono fun x H1 zz_=>el8 zz_ fun wx F1 as1 ce1 l1 S1 rx P1=>?_
 have:=zjG S1 rx P1
 rwa [<- Reps.length rx] at this
theorem zb2(h:PA X es (zfn G E dr)):PE X (.List es pos) (zax G E (zb5 dr)):=by
 refine PE.imp (zje h) fun σ H Q zz_=>el6 zz_ fun F as sl ce S P=>(step (RP:=Reps) S P).mono fun x H1 zz_=>el8 zz_ fun wx F1 as1 ce1 l1 S1 rx P1=>?_
 have:=zjI S1 rx P1
 rwa [<- Reps.length rx] at this
def ziz:Sl->M W:=fun _=>mkC (.dct []) 0
theorem zjJ:PE X (.Dict [] [] pos) (zax G E ziz):=by
 refine PE.imp zk7 fun σ H Q zz_=>el6 zz_ fun F as sl ce S P=>?_
 exact(zjH (c:=.dct []) (o:=.dK []) S (fun p as' l=>⟨[],zaH,.nil⟩) P).2
end
def ziA(kvs:List (Key×W))(k:Key):Option W:=(kvs.find? fun kv=>decide (kv.1=k)).map (·.2)
def ziB(kvs:List (Key×W))(k:Key)(v:W):List (Key×W) :=
 if (kvs.any fun kv=>decide (kv.1=k))=true then kvs.map (fun kv=>if kv.1=k then (kv.1,v) else kv) else kvs++[(k,v)]
section
variable {F:Hp} {as:List Addr} {kvs:List (Key×W)} {ps:List (Key×V)}
theorem RepKV.val(r:RepKV F as kvs ps)(k:Key):(ziA kvs k=none/\ziu ps k=none)\/∃w v,ziA kvs k=some w/\ziu ps k=some v/\Rep F as w v:=by
 induction r with
 | nil=>exact .inl ⟨rfl,rfl⟩
 | @cons p q l1 l2 h t ih =>
  obtain⟨e,rv⟩:=h
  by_cases hk:p.1=k
  ·refine .inr ⟨p.2,q.2,?_,zd0 (by rw[<- e];exact hk),rv⟩
   simp[ziA,List.find?_cons,hk]
  ·have e1:ziA (p::l1) k=ziA l1 k:=by simp only[ziA,List.find?_cons,hk,decide_false]
   rw[e1,zd1 (by rw[<- e];exact hk)]
   exact ih
theorem RepKV.any(r:RepKV F as kvs ps)(k:Key):(kvs.any fun kv=>decide (kv.1=k))=(ps.any fun kv=>decide (kv.1=k)):=by
 induction r with
 | nil=>rfl
 | cons h t ih=>rw[List.any_cons,List.any_cons,ih,h.1]
theorem RepKV.mapPut{w:W}{v:V}(k:Key)(rv:Rep F as w v)(r:RepKV F as kvs ps):RepKV F as (kvs.map fun kv=>if kv.1=k then (kv.1,w) else kv) (ps.map fun kv=>if kv.1=k then (kv.1,v) else kv):=by
 induction r with
 | nil=>exact .nil
 | @cons p q l1 l2 h t ih =>
  rw[List.map_cons,List.map_cons]
  refine .cons ?_ ih
  by_cases hk:p.1=k
  ·rw[if_pos hk,if_pos (by rw[<- h.1];exact hk)]
   exact⟨h.1,rv⟩
  ·rw[if_neg hk,if_neg (by rw[<- h.1];exact hk)]
   exact h
theorem RepKV.put{w:W}{v:V}(r:RepKV F as kvs ps)(k:Key)(rv:Rep F as w v):RepKV F as (ziB kvs k w) (zf2 ps k v):=by
 unfold ziB zf2
 rw[r.any k]
 split
 ·exact r.mapPut k rv
 ·exact Paired.app r (.cons ⟨rfl,rv⟩ .nil)
theorem RepKV.length(r:RepKV F as kvs ps):kvs.length=ps.length:=Paired.length r
end
def zl9(ng:Bool)(ce:Ce)(x y:W):Option W:=match ziV x,zof ce y with
 | some k,some kvs=>some (.bl (if ng then !(ziA kvs k).isSome else (ziA kvs k).isSome))
 | _,_=>none
section
variable {X:Cx} {G:Ga} {E:XK} {a b c:Expr} {da db dc:Sl->M W} {pos:Pos}
theorem znr(ng:Bool)(σ:L2.St)(H:Hp)(Q:VK)(h:zax G E (zaI (zl9 ng) da db) σ H Q) :
  zax G E da σ H fun y H1=>zax G E db σ H1 fun x H2=>∃a o,x=.ref a/\DGet H2 a y o/\Q (.bl (if ng then !o.isSome else o.isSome)) H2:=by
 obtain⟨F,as,sl,ce,S,P⟩:=h
 refine(step S P).mono fun x H1 zz_=>el8 zz_ fun wx F1 as1 ce1 l1 S1 rx P1=>(step S1 P1).mono fun y H2 zz_=>el8 zz_ fun wy F2 as2 ce2 l2 S2 ry P2=>?_
 obtain⟨w,e,P3⟩:=zbA P2
 unfold zl9 at e
 split at e
 ·rename_i k kvs hk hd
  cases e
  obtain⟨n,a,ps,rfl,rfl,ha,hH,rk⟩:=zjC S2.st ry hd
  rw[zg4 rx hk]
  refine⟨a,_,rfl,DGet.k hH,?_⟩
  rcases rk.val k with ⟨e1,e2⟩|⟨w,v,e1,e2,_⟩
  ·rw[e1] at P3;rw[e2];exact P3.done S2 (by simp only[Rep];cases ng<;>rfl)
  ·rw[e1] at P3;rw[e2];exact P3.done S2 (by simp only[Rep];cases ng<;>rfl)
 ·cases e
theorem zgq(hu:X.A.units+1<cLine)(ha:PE X a (zax G E da))(hb:PE X b (zax G E db))(h1:behindInMarks .NotIn b=false):PT X (.Compare a [.NotIn] [b] pos) (zck G E (dB (zaI (zl9 true) da db))):=znm ⟨_,zjr hu ha hb,znr true⟩ h1
def ixW(ce:Ce)(x y:W):Option W:=match zf3 ce x,y with
 | some xs,.int i=>atI xs i
 | _,_=>none
theorem Reps.atI{F:Hp}{as:List Addr}{ws:List W}{vs:List V}{i:Int}{w:W}(r:Reps F as ws vs)(h:L2.atI ws i=some w):∃v,L2.atI vs i=some v/\Rep F as w v:=by
 unfold L2.atI at h ⊢
 rw[r.length]
 cases e:ixN ws.length i with
 | none=>rw[e] at h;cases h
 | some j=>rw[e] at h;exact r.get h
theorem zpe(K:PySem.W.Frag):OpC (fun x y H Q=>zq7 K x y H Q\/zq8 K x y H Q) ixW:=by
 intro G F as H ce x y wx wy w S rx ry e Q q
 unfold ixW at e
 split at e
 ·rename_i xs i hs
  obtain⟨a,vs,rfl,h,rs⟩:=zfp S rx hs
  obtain⟨v,hv,rv⟩:=rs.atI e
  simp only[Rep] at ry
  subst ry
  rcases h with h|h
  ·exact .inl ⟨a,vs,i,v,rfl,rfl,.inl h,hv,q _ rv⟩
  ·exact .inr ⟨a,vs,i,v,rfl,rfl,.inl h,hv,q _ rv⟩
 ·cases e
theorem zaD(ha:PE X a (zax G E da))(hb:PE X b (zax G E db))(hs:zji b):PE X (.Subscript a b pos) (zax G E (zaI ixW da db)):=PE.imp (zq6 (IxR.or (ixL X.K rfl) (ixT X.K rfl)) ha hb hs) (zb1 (zpe _))
def zte(xs:List W)(lo hi:Option Int):List W:=(xs.drop (HT.sIx xs.length 0 lo)).take (HT.sIx xs.length xs.length hi-HT.sIx xs.length 0 lo)
def zbX(xs:List W):M W:=mkF (.lst xs) xs.length
def zfr(xs:List W):M W:=mkC (.lst xs) xs.length
def zrt(xs:List W):M W:=mkF (.tup xs) xs.length
def MkL(G:Ga)(E:XK)(mk:List W->M W):Prop:=∀{F:Hp} {as:List Addr} {H:Hp} {σ:VS.St} {sl:Sl} {ce:Ce} {Q:VK} {xs:List W} {vs:List V},SR G F as H σ sl ce->Reps F as xs vs->Post G E Rep F as σ sl Q (mk xs ce)->xs.length<=sizeLine/\∀p,H p=none->Q (.ref p) (upd H p (.lst vs))
theorem zf4:MkL G E zbX:=fun S rs P=>zjG S rs P
theorem zkN:MkL G E zfr:=fun S rs P=>zjI S rs P
open Classical in
def zru(mk:List W->M W)(x y:W):M W:=fun ce=>match zdV ce x,zdV ce y with
 | some xs,some ys=>if xs.length+ys.length<=sizeLine then mk (xs++ys) ce else none
 | _,_=>none
def ziW(mk:List W->M W)(a b:Sl->M W):Sl->M W:=fun sl=>bnd (a sl) fun x=>bnd (b sl) fun y=>zru mk x y
def zrv:R2:=fun x y H Q=>∃l b xs zs,x=.ref l/\y=.ref b/\Rd H l (.lst xs)/\Rd H b (.lst zs)/\xs.length+zs.length<=sizeLine/\∀p,H p=none->Q (.ref p) (upd H p (.lst (xs++zs)))
theorem Inv.lstR{pins:List (Addr×Obj)}{σ:VS.St}{H:Hp}{s:Shared}{l:Addr}{xs:List V}(I:Inv X pins σ H s)(hH:Rd H l (.lst xs)):xs.length<=sizeLine/\∃(its:List Value) (n:Nat),Vals xs its/\xs.length=its.length/\s.heap.get? l=some { cls:=.type "list",data:=.seq its.toArray n }:=by
 obtain⟨z,its,n,r,e⟩:=hH.ok I.hok
 exact⟨z,its,n,r,r.length,e⟩
theorem zns:OpR X (binaryOp .Add) zrv:=by
 intro pins s σ H x y v u Q I rx ry h
 obtain⟨l,b,xs,zs,rfl,rfl,hH,hB,hz,q⟩:=h
 cases rx
 cases ry
 obtain⟨z,its,n,r,hl,e⟩:=Inv.lstR I hH
 obtain⟨z2,its2,n2,r2,hl2,e2⟩:=Inv.lstR I hB
 refine PySem.P.add_list e e2 ?_ (by rw[List.size_toArray,List.size_toArray];omega)
 have ea:its.toArray++its2.toArray=(its++its2).toArray:=by simp
 rw[ea]
 exact⟨.ref _,_,I.lnew (t':=s.toks) (r.append r2) (by rw[List.length_append];omega),rfl,q _ I.fresh⟩
theorem ze6{mk:List W->M W}(hm:MkL G E mk)(ha:PE X a (zax G E da))(hb:PE X b (zax G E db)):PE X (.BinOp a .Add b pos) (zax G E (ziW mk da db)):=by
 refine PE.imp (zkU zns ha hb) fun σ H Q h=>zgm h fun F as sl ce H2 x y wx wy S rx ry P=>?_
 unfold zru at P
 split at P
 ·rename_i xs ys h1 h2
  split at P
  ·rename_i hl
   obtain⟨p,vs,rfl,q1,r1⟩:=zcu S.st rx h1
   obtain⟨p',us,rfl,q2,r2⟩:=zcu S.st ry h2
   exact⟨p,p',vs,us,rfl,rfl,q1,q2,by rw[r1.length,r2.length];exact hl,(hm S (r1.append r2) P).2⟩
  ·exact(show False from P).elim
 ·exact(show False from P).elim
end
end
end VS
namespace VS
open PySem PySem.Spec PyProof.Rows L2
section
inductive Fl where
 | nx|bk|ct|rt (w:W)
inductive O where
 | go (f:Fl) (sl:Sl) (ce:Ce)|ex (x:Exn) (ce:Ce)
abbrev DS:=Sl->Ce->Option O
def zrw(D:Ends)(F:Hp)(as:List Addr)(σ:VS.St)(H:Hp):Fl->Prop
 | .nx=>D.nx σ H
 | .bk=>D.bk σ H
 | .ct=>D.ct σ H
 | .rt w=>∀v,Rep F as w v->D.rt v H
def PostS(G:Ga)(E:XK)(D:Ends)(F:Hp)(as:List Addr):Option O->Prop
 | some (.go f sl' ce')=>∀σ' H' F' as',Le F as F' as'->SR G F' as' H' σ' sl' ce'->zrw D F' as' σ' H' f
 | some (.ex x ce')=>∀H' F' as' cv od,Le F as F' as'->Store G F' as' H' ce'->G.xr x cv od H'->E cv od H'
 | none=>False
def toTS(G:Ga)(E:XK)(d:DS):TS:=fun D σ H=>∃F as sl ce,SR G F as H σ sl ce/\PostS G E D F as (d sl ce)
def lft{α:Type}(m:Option (R α))(k:α->Ce->Option O):Option O:=match m with
 | some (.ok a ce')=>k a ce'
 | some (.ex x ce')=>some (.ex x ce')
 | none=>none
section
variable {α β:Type} {G:Ga} {E:XK} {RP:Hp->List Addr->α->β->Prop} {F F':Hp} {as as':List Addr} {H:Hp} {σ:VS.St} {sl:Sl} {ce:Ce} {D D':Ends}
theorem PostS.le{r:Option O}(l:Le F as F' as')(P:PostS G E D F as r):PostS G E D F' as' r:=by
 cases r with
 | none=>exact P
 | some r=>cases r with
  | go f sl' ce'=>exact fun σ' H' F2 as2 l2=>P σ' H' F2 as2 (l.trans l2)
  | ex x ce'=>exact fun H' F2 as2 cv od l2=>P H' F2 as2 cv od (l.trans l2)
theorem zdz{d:Sl->M α}{k:α->Ce->Option O}(S:SR G F as H σ sl ce)(P:PostS G E D F as (lft (d sl ce) k)) :
  toT G E RP d σ H fun b H2=>∃a F' as' ce',Le F as F' as'/\SR G F' as' H2 σ sl ce'/\RP F' as' a b/\PostS G E D F' as' (k a ce'):=by
 refine⟨F,as,sl,ce,S,?_⟩
 revert P
 unfold lft
 cases d sl ce with
 | none=>exact fun P=>P
 | some r=>cases r with
  | ok a ce'=>exact fun P b H' F' as' l S' r=>⟨a,F',as',ce',l,S',r,P.le l⟩
  | ex x ce'=>exact fun P=>P
theorem PostS.nxt(S:SR G F as H σ sl ce)(P:PostS G E D F as (some (.go .nx sl ce))):D.nx σ H:=P σ H F as .refl S
end
def za4:DS:=fun sl ce=>some (.go .nx sl ce)
def zr2:DS:=fun sl ce=>some (.go .ct sl ce)
def zaA(a b:DS):DS:=fun sl ce=>match a sl ce with
 | some (.go .nx sl' ce')=>b sl' ce'
 | r=>r
def dEx(d:Sl->M W):DS:=fun sl ce=>lft (d sl ce) fun _ ce'=>some (.go .nx sl ce')
def zbB(d:Sl->M W):DS:=fun sl ce=>lft (d sl ce) fun w ce'=>some (.go (.rt w) sl ce')
def dIf(c:Sl->M Bool)(a b:DS):DS:=fun sl ce=>lft (c sl ce) fun t ce'=>match t with
 | true=>a sl ce'
 | false=>b sl ce'
abbrev DG:=W->Sl->Ce->Option (Sl×Ce)
def gN(i:Nat):DG:=fun w sl ce=>some (sl.set i (some w),ce)
def zhI(d:Sl->M W)(g:DG):DS:=fun sl ce=>lft (d sl ce) fun w ce'=>match g w sl ce' with
 | some (sl',ce'')=>some (.go .nx sl' ce'')
 | none=>none
def zbf(i:Nat)(d:Sl->M W):DS:=fun sl ce=>lft (d sl ce) fun w ce'=>some (.go .nx (sl.set i (some w)) ce')
def PGv(G:Ga)(X:Cx)(tg:Expr)(g:DG):Prop:=∃t:TG,PG X tg t/\∀F as H σ sl ce w v sl' ce' (Q:VS.St->Hp->Prop),SR G F as H σ sl ce->Rep F as w v->g w sl ce=some (sl',ce') ->
 (∀σ' H' F' as',Le F as F' as'->SR G F' as' H' σ' sl' ce'->Q σ' H')->t v σ H Q
def zqs(G:Ga)(X:Cx)(tgs:List Expr)(g:List W->Sl->Ce->Option (Sl×Ce)):Prop:=∃t:TGs,PGs X tgs t/\∀F as H σ sl ce ws vs sl' ce' (Q:VS.St->Hp->Prop),SR G F as H σ sl ce->Reps F as ws vs->g ws sl ce=some (sl',ce') ->
 (∀σ' H' F' as',Le F as F' as'->SR G F' as' H' σ' sl' ce'->Q σ' H')->t vs σ H Q
def znt:List W->Sl->Ce->Option (Sl×Ce):=fun ws sl ce=>match ws with
 | []=>some (sl,ce)
 | _=>none
def ze7(g:DG)(r:List W->Sl->Ce->Option (Sl×Ce)):List W->Sl->Ce->Option (Sl×Ce):=fun ws sl ce=>match ws with
 | w::ws=>match g w sl ce with
  | some (sl',ce')=>r ws sl' ce'
  | none=>none
 | []=>none
def gT(n:Nat)(r:List W->Sl->Ce->Option (Sl×Ce)):DG:=fun w sl ce=>match w with
 | .tup ws=>if ws.length=n then r ws sl ce else none
 | _=>none
section
variable {X:Cx} {G:Ga} {E:XK} {st:Stmt} {zdw:List Stmt} {a b:DS} {e tg:Expr} {d da db dc:Sl->M W} {c:Sl->M Bool} {g:DG} {pos:Pos}
theorem zaM:PSs X [] (toTS G E za4):=PSs.imp zmV fun D σ H zz_=>el6 zz_ fun F as sl ce S P=>P.nxt S
theorem zg6:PS X (.Continue pos) (toTS G E zr2):=PS.imp zgW fun D σ H zz_=>el6 zz_ fun F as sl ce S P=>P σ H F as .refl S
theorem zal(h:PS X st (toTS G E a)):PSs X [st] (toTS G E a):=zmW h
theorem zah(h1:PS X st (toTS G E a))(h2:PSs X zdw (toTS G E b)):PSs X (st::zdw) (toTS G E (zaA a b)):=by
 refine PSs.imp (zkR h1 h2) fun D σ H zz_=>el6 zz_ fun F as sl ce S P=>⟨F,as,sl,ce,S,?_⟩
 revert P
 unfold zaA
 cases a sl ce with
 | none=>exact fun P=>P.elim
 | some r=>cases r with
  | ex x ce'=>exact fun P=>P
  | go f sl' ce'=>cases f with
   | nx=>exact fun P σ' H' F' as' l S'=>⟨F',as',sl',ce',S',P.le l⟩
   | bk=>exact fun P=>P
   | ct=>exact fun P=>P
   | rt w=>exact fun P=>P
theorem zbC(he:PE X e (zax G E d))(hs:swapsWith e none pos.line X.env=pure false:=by rfl):PS X (.Expr e pos) (toTS G E (dEx d)) :=
 PS.imp (zmX he hs) fun D σ H zz_=>el6 zz_ fun F as sl ce S P=>(zdz S P).mono fun x H1 zz_=>el8 zz_ fun wx F1 as1 ce1 l1 S1 rx P1=>P1.nxt S1
theorem zaC(he:PE X e (zax G E d)):PS X (.Return (some e) pos) (toTS G E (zbB d)) :=
 PS.imp (zoz he) fun D σ H zz_=>el6 zz_ fun F as sl ce S P=>(zdz S P).mono fun x H1 zz_=>el8 zz_ fun wx F1 as1 ce1 l1 S1 rx P1=>P1 σ H1 F1 as1 .refl S1 x rx
theorem zbr{t:Expr}{sa sb:List Stmt}(hc:PT X t (zck G E c))(ha:PSs X sa (toTS G E a))(hb:PSs X sb (toTS G E b)):PS X (.If t sa sb pos) (toTS G E (dIf c a b)):=by
 refine PS.imp (zqM hc ha hb) fun D σ H zz_=>el6 zz_ fun F as sl ce S P=>(zdz (RP:=rB) S P).mono fun x H1 zz_=>el8 zz_ fun wx F1 as1 ce1 l1 S1 rx P1=>?_
 have rx:wx=x:=rx
 subst rx
 cases wx
 ·rw[if_neg Bool.false_ne_true];exact⟨F1,as1,sl,ce1,S1,P1⟩
 ·rw[if_pos rfl];exact⟨F1,as1,sl,ce1,S1,P1⟩
theorem zat{i:Nat}{x:Str}{pos':Pos}(hN:X.N.Nodup)(hi:X.N[i]?=some x)(hx:Loc X.env.scope x)(he:PE X e (zax G E d))(hs:swapsWith e (some (.Name x pos')) pos.line X.env=pure false:=by rfl)(hf:X.fn x=true\/X.env.scope.names.lookup x=some .local:=by first|exact .inl rfl|exact .inr rfl|assumption):PS X (.Assign [.Name x pos'] e pos) (toTS G E (zbf i d)) :=
 PS.imp (zoD hN hi hx he hs hf) fun D σ H zz_=>el6 zz_ fun F as sl ce S P=>(zdz S P).mono fun x H1 zz_=>el8 zz_ fun wx F1 as1 ce1 l1 S1 rx P1=>P1 _ H1 F1 as1 .refl (S1.put rx i)
theorem zaT{i:Nat}{x:Str}(hN:X.N.Nodup)(hi:X.N[i]?=some x)(hx:Loc X.env.scope x)(hf:X.fn x=true\/X.env.scope.names.lookup x=some .local:=by first|exact .inl rfl|exact .inr rfl|assumption):PGv G X (.Name x pos) (gN i) :=
 ⟨gName i,zgX hN hi hx hf,fun F as H σ sl ce w v sl' ce' Q S r e k=>by
  cases e
  exact k _ _ _ _ .refl (S.put r i)⟩
theorem znu:zqs G X [] znt:=⟨_,zmY,fun F as H σ sl ce ws vs sl' ce' Q S r e k=>by
 cases ws with
 | nil=>cases e;simp only[Reps] at r;exact⟨r,k _ _ _ _ .refl S⟩
 | cons w ws=>cases e⟩
theorem zhJ{es:List Expr}{r:List W->Sl->Ce->Option (Sl×Ce)}(h1:PGv G X e g)(h2:zqs G X es r)(hs:(assignEach (e::es) X.env).map (·.2)=assign e X.env::(assignEach es X.env).map (·.2):=by rfl):zqs G X (e::es) (ze7 g r):=by
 obtain⟨t,h1,q1⟩:=h1
 obtain⟨u,h2,q2⟩:=h2
 refine⟨_,zkS h1 h2 hs,fun F as H σ sl ce ws vs sl' ce' Q S rs e k=>?_⟩
 cases ws with
 | nil=>cases e
 | cons w ws =>
  simp only[Reps] at rs
  obtain⟨v,vs',rfl,rv,rs⟩:=rs
  simp only[ze7] at e
  split at e
  ·rename_i sl1 ce1 eg
   refine⟨v,vs',rfl,q1 F as H σ sl ce w v sl1 ce1 _ S rv eg fun σ' H' F' as' l S'=>?_⟩
   exact q2 F' as' H' σ' sl1 ce1 ws vs' sl' ce' Q S' (rs.le l) e fun σ2 H2 F2 as2 l2 S2=>k _ _ _ _ (l.trans l2) S2
  ·cases e
theorem zpf{es:List Expr}{k n:Nat}{r:List W->Sl->Ce->Option (Sl×Ce)}(hc:X.calm=true)(h:zqs G X es r)(hn:(assignEach es X.env).length=n:=by rfl)(hst:(assignEach es X.env).findIdx? (·.1)=none:=by rfl):PGv G X (.Tuple es k pos) (gT n r):=by
 obtain⟨t,h,q⟩:=h
 refine⟨_,zoA hc h hn hst,fun F as H σ sl ce w v sl' ce' Q S rw' e k=>?_⟩
 cases w<;>simp only[gT,reduceCtorEq] at e
 split at e
 ·rename_i ws hl
  simp only[Rep] at rw'
  obtain⟨a,vs,rfl,ha,rs⟩:=rw'
  exact⟨a,vs,rfl,.inl (.inl (S.st.sub _ _ ha)),by rw[rs.length];exact hl,q F as H σ sl ce _ vs sl' ce' Q S rs e k⟩
 ·cases e
theorem zej(he:PE X e (zax G E d))(hg:PGv G X tg g)(hs:swapsWithSole [tg] e pos.line X.env=pure false:=by rfl)(hw:swappedStores [tg] e X.env=pure none:=by rfl)(h1:(assignEach [tg] X.env).map (·.2)=[assign tg X.env]:=by rfl):PS X (.Assign [tg] e pos) (toTS G E (zhI d g)):=by
 obtain⟨t,hg,q⟩:=hg
 refine PS.imp (zoC he hg hs hw h1) fun D σ H zz_=>el6 zz_ fun F as sl ce S P=>(zdz S P).mono fun x H1 zz_=>el8 zz_ fun wx F1 as1 ce1 l1 S1 rx P1=>?_
 split at P1
 ·rename_i sl' ce'' eg
  exact q F1 as1 H1 σ sl ce1 wx x sl' ce'' _ S1 rx eg fun σ' H' F' as' l S'=>P1 σ' H' F' as' l S'
 ·exact(show False from P1).elim
def zjK(ce:Ce):W->Option (Nat×List W)
 | .cel k=>match ce[k]? with
  | some (.lst xs)=>some (k,xs)
  | _=>none
 | _=>none
def zma(ce:Ce):W->Option (Nat×List (Key×W))
 | .cel k=>match ce[k]? with
  | some (.dct xs)=>some (k,xs)
  | _=>none
 | _=>none
theorem zdc{F:Hp}{as:List Addr}{H:Hp}{ce:Ce}{w:W}{v:V}{k:Nat}{xs:List W}(S:Store G F as H ce)(r:Rep F as w v)(e:zjK ce w=some (k,xs)):∃a vs,v=.ref a/\as[k]?=some a/\H a=some (.lst vs)/\Reps F as xs vs:=by
 cases w<;>simp only[zjK,reduceCtorEq] at e
 split at e
 ·rename_i hc
  cases e
  simp only[Rep] at r
  obtain⟨a,rfl,h⟩:=r
  obtain⟨_,vs,h2,rs⟩:=S.cell _ _ _ h hc
  exact⟨a,vs,rfl,h,h2,rs⟩
 ·cases e
theorem zlb{F:Hp}{as:List Addr}{H:Hp}{ce:Ce}{w:W}{v:V}{k:Nat}{xs:List (Key×W)}(S:Store G F as H ce)(r:Rep F as w v)(e:zma ce w=some (k,xs)):∃a ps,v=.ref a/\as[k]?=some a/\H a=some (.dK ps)/\RepKV F as xs ps:=by
 cases w<;>simp only[zma,reduceCtorEq] at e
 split at e
 ·rename_i hc
  cases e
  simp only[Rep] at r
  obtain⟨a,rfl,h⟩:=r
  obtain⟨_,ps,h2,rs⟩:=S.cell _ _ _ h hc
  exact⟨a,ps,rfl,h,h2,rs⟩
 ·cases e
def zdW(o i:Sl->M W):DG:=fun w sl ce=>match o sl ce with
 | some (.ok ow ce1)=>match i sl ce1 with
  | some (.ok (.int j) ce2)=>match zjK ce2 ow with
   | some (k,xs)=>match ixN xs.length j with
    | some n=>some (sl,ce2.set k (.lst (xs.set n w)))
    | none=>none
   | none=>none
  | _=>none
 | _=>none
theorem zdA{o i:Expr}(ho:PE X o (zax G E da))(hi:PE X i (zax G E db))(hA:∀v,assign (.Subscript o i pos) X.env v=(do
   let ov <- holding [v] (eval o X.env)
   let iv <- holding [v,ov] (eval i X.env)
   standAt pos
   holding [v,ov,iv] (setItem ov iv v)
   release [v,ov,iv] []):=by intro _;rfl):PGv G X (.Subscript o i pos) (zdW da db):=by
 refine⟨_,zoB ho hi zk1 hA,fun F as H σ sl ce w v sl' ce' Q S rw' e k=>?_⟩
 unfold zdW at e
 refine⟨F,as,sl,ce,S,?_⟩
 cases e1:da sl ce with
 | none=>rw[e1] at e;cases e
 | some r1=>cases r1 with
  | ex x c=>rw[e1] at e;cases e
  | ok ow ce1 =>
   rw[e1] at e
   intro ov H1 F1 as1 l1 S1 ro
   refine⟨F1,as1,sl,ce1,S1,?_⟩
   dsimp only at e
   cases e2:db sl ce1 with
   | none=>rw[e2] at e;cases e
   | some r2=>cases r2 with
    | ex x c=>rw[e2] at e;cases e
    | ok iw ce2 =>
     rw[e2] at e
     intro iv H2 F2 as2 l2 S2 ri
     cases iw<;>simp only[reduceCtorEq] at e
     rename_i j
     split at e
     ·rename_i kk xs hk
      split at e
      ·rename_i n hn
       cases e
       simp only[Rep] at ri
       subst ri
       obtain⟨a,vs,rfl,ha,hH,rs⟩:=zdc S2.st (ro.le l2) hk
       have rset:=rs.set n ((rw'.le l1).le l2)
       refine⟨a,vs,j,n,rfl,rfl,hH,by rw[rs.length];exact hn,?_⟩
       exact k _ _ _ _ (l1.trans l2) (S2.slots (S2.st.write (o:=.lst (vs.set n v)) (c:=.lst (xs.set n w)) ha ⟨_,zaH,rset⟩) .refl)
      ·cases e
     ·cases e
open Classical in
def zmb(o i v:Sl->M W):DS:=fun sl ce=>lft (v sl ce) fun w ce1=>lft (o sl ce1) fun ow ce2=>lft (i sl ce2) fun iw ce3=>match ziV iw,zma ce3 ow with
 | some key,some (k,kvs)=>if kvs.length<sizeLine then some (.go .nx sl (ce3.set k (.dct (ziB kvs key w)))) else none
 | _,_=>none
theorem zjL{o i value:Expr}{pos':Pos}(hu:X.A.units+1<cLine)(ho:PE X o (zax G E da))(hi:PE X i (zax G E db))(hv:PE X value (zax G E dc))(hs:swapsWith value (some (.Subscript o i pos')) pos.line X.env=pure false:=by rfl) :
  PS X (.Assign [.Subscript o i pos'] value pos) (toTS G E (zmb da db dc)):=by
 refine PS.imp (zng hu ho hi hv hs) fun D σ H zz_=>el6 zz_ fun F as sl ce S P=>(zdz S P).mono fun x H1 zz_=>el8 zz_ fun wx F1 as1 ce1 l1 S1 rx P1=>(zdz S1 P1).mono fun y H2 zz_=>el8 zz_ fun wy F2 as2 ce2 l2 S2 ry P2=>(zdz S2 P2).mono fun z H3 zz_=>el8 zz_ fun wz F3 as3 ce3 l3 S3 rz P3=>?_
 split at P3
 ·rename_i key kk kvs hk hc
  split at P3
  ·rename_i hl
   obtain⟨a,ps,rfl,ha,hH,rk⟩:=zlb S3.st (ry.le l3) hc
   rw[zg4 rz hk]
   have rput:=rk.put key ((rx.le l2).le l3)
   refine⟨a,_,rfl,DPut.k hH (by rw[<- rk.length];exact hl),?_⟩
   exact P3 _ _ _ _ .refl (S3.slots (S3.st.write (o:=.dK (zf2 ps key x)) (c:=.dct (ziB kvs key wx)) ha ⟨_,zaH,rput⟩) .refl)
  ·exact(show False from P3).elim
 ·exact(show False from P3).elim
end
end
end VS
namespace VS
open PySem PySem.Spec PyProof.Rows L2
section
inductive Src where
 | lst (xs:List W)|tup (xs:List W)|cell (k:Nat) (xs:List W)|rng (lo:Int) (n:Nat)|dky (xs:List W)
def kW:Key->W
 | .inl i=>.int i
 | .inr x=>.str x
def Src.items:Src->List W
 | .lst xs=>xs
 | .tup xs=>xs
 | .cell _ xs=>xs
 | .rng lo n=>(List.range n).map fun(i:Nat)=>W.int (lo+(i:Int))
 | .dky xs=>xs
def Src.Stays(ce:Ce):Src->Prop
 | .cell k xs=>ce[k]?=some (.lst xs)
 | _=>True
def IRep(K:PySem.W.Frag)(F:Hp)(as:List Addr):Src->It->Prop
 | .lst xs,J=>∃a vs,J=Itl K a/\Rd F a (.lst vs)/\Reps F as xs vs
 | .tup xs,J=>∃a vs,J=Itt K a/\Rd F a (.tup vs)/\Reps F as xs vs
 | .cell k _,J=>∃a,J=Itl K a/\as[k]?=some a
 | .rng lo n,J=>J=Itr lo n
 | .dky xs,J=>∃a o ps,J=Itd a o ps/\F a=some (.frz o (.dK ps))/\xs=ps.map fun p=>kW p.1
theorem IRep.le{K:PySem.W.Frag}{F F':Hp}{as as':List Addr}{s:Src}{J:It}(l:Le F as F' as')(h:IRep K F as s J):IRep K F' as' s J:=by
 cases s with
 | lst xs=>obtain⟨a,vs,e,h,r⟩:=h;exact⟨a,vs,e,l.rd h,r.le l⟩
 | tup xs=>obtain⟨a,vs,e,h,r⟩:=h;exact⟨a,vs,e,l.rd h,r.le l⟩
 | cell k xs=>obtain⟨a,e,h⟩:=h;exact⟨a,e,l.c _ _ h⟩
 | rng lo n=>exact h
 | dky xs=>obtain⟨a,o,ps,e,h,q⟩:=h;exact⟨a,o,ps,e,l.f _ _ h,q⟩
theorem IRep.turn{G:Ga}{K:PySem.W.Frag}{F:Hp}{as:List Addr}{H:Hp}{ce:Ce}{s:Src}{J:It}(S:Store G F as H ce)(h:IRep K F as s J)(hs:s.Stays ce)(i:Nat) :
  (i<s.items.length->J.go i H/\∀x H',J.yld i H x H'->H'=H/\∃w,s.items[i]?=some w/\Rep F as w x)/\(i=s.items.length->J.stop i H):=by
 have lst:∀{a:Addr} {vs:List V} {xs:List W},SqL K H a vs->Reps F as xs vs->(i<xs.length->(Itl K a).go i H/\∀x H',(Itl K a).yld i H x H'->H'=H/\∃w,xs[i]?=some w/\Rep F as w x)/\(i=xs.length->(Itl K a).stop i H):=by
  intro a vs xs hq rs
  have hl:=rs.length
  refine⟨fun hi=>⟨⟨vs,vs[i]'(by omega),hq,by simp⟩,fun x H' y=>?_⟩,fun hi=>⟨vs,hq,by omega⟩⟩
  obtain⟨e,y⟩:=y
  exact⟨e,rs.get' (y vs hq)⟩
 cases s with
 | lst xs=>obtain⟨a,vs,rfl,h,r⟩:=h;exact lst (.inl (Rd.sub S h)) r
 | cell k xs =>
  obtain⟨a,rfl,h⟩:=h
  obtain⟨_,vs,h2,rs⟩:=S.cell _ _ _ h hs
  exact lst (.inl (.inl h2)) rs
 | tup xs =>
  obtain⟨a,vs,rfl,h,rs⟩:=h
  have hq:SqT K H a vs:=.inl (Rd.sub S h)
  have hl:=rs.length
  refine⟨fun hi=>⟨⟨vs,vs[i]'(by show i<_;simp only[Src.items] at hi;omega),hq,by simp⟩,fun x H' y=>?_⟩,fun hi=>⟨vs,hq,by simp only[Src.items] at hi;omega⟩⟩
  obtain⟨e,y⟩:=y
  exact⟨e,rs.get' (y vs hq)⟩
 | rng lo n =>
  cases h
  have hl:(Src.rng lo n).items.length=n:=by simp[Src.items]
  rw[hl]
  refine⟨fun hi=>⟨hi,fun x H' y=>?_⟩,fun hi=>by rw[hi];exact Nat.le_refl _⟩
  obtain⟨e,rfl⟩:=y
  refine⟨e,.int (lo+i),?_,by simp only[Rep]⟩
  simp[Src.items,hi]
 | dky xs =>
  obtain⟨a,o,ps,rfl,h,rfl⟩:=h
  have hH:=S.sub _ _ h
  have hl:(Src.dky (ps.map fun p=>kW p.1)).items.length=ps.length:=by simp[Src.items]
  rw[hl]
  refine⟨fun hi=>⟨⟨hH,hi⟩,fun x H' y=>?_⟩,fun hi=>⟨hH,hi.symm⟩⟩
  obtain⟨e,p,hp,rfl⟩:=y
  refine⟨e,kW p.1,by simp only[Src.items,List.getElem?_map,hp,Option.map_some],?_⟩
  cases p.1<;>simp only[kW,kV,Rep]
abbrev zmc(G:Ga)(E:XK)(K:PySem.W.Frag)(d:Sl->M Src):TI:=toT G E (IRep K) d
theorem PI.imp{X:Cx}{tg e:Expr}{t t':TI}(h:PI X tg e t)(q:∀σ H R,t' σ H R->t σ H R):PI X tg e t':=fun pins s σ H Q I z=>h pins s σ H Q I (q _ _ _ z)
def zhK(ce:Ce):W->Option Src
 | .lst xs=>some (.lst xs)
 | .cel k=>match ce[k]? with
  | some (.lst xs)=>some (.cell k xs)
  | _=>none
 | _=>none
def zrx:W->Option Src
 | .tup xs=>some (.tup xs)
 | _=>none
def dIL(d:Sl->M W):Sl->M Src:=fun sl=>bnd (d sl) fun w=>look fun ce=>zhK ce w
def dIT(d:Sl->M W):Sl->M Src:=fun sl=>bnd (d sl) fun w=>look fun _=>zrx w
open Classical in
def ziX:List W->Option Src
 | [.int j]=>@ite _ (-4611686018427387904<=j/\j<4611686018427387904) (Classical.propDecidable _) (some (.rng 0 j.toNat)) none
 | _=>none
open Classical in
def zqt:List W->Option Src
 | [.int i,.int j]=>@ite _ (-4611686018427387904<=i/\i<4611686018427387904/\-4611686018427387904<=j/\j<4611686018427387904) (Classical.propDecidable _) (some (.rng i (j-i).toNat)) none
 | _=>none
def zhL(d:Sl->M (List W)):Sl->M Src:=fun sl=>bnd (d sl) fun ws=>look fun _=>ziX ws
def zqu(d:Sl->M (List W)):Sl->M Src:=fun sl=>bnd (d sl) fun ws=>look fun _=>zqt ws
section
variable {X:Cx} {G:Ga} {E:XK} {tg a b:Expr} {da:Sl->M W} {dr:Sl->M (List W)} {p pos:Pos}
theorem zg7(hl:PE X a (zax G E da)):PI X tg a (zmc G E X.K (dIL da)):=by
 refine PI.imp (zm0 hl) fun σ H R zz_=>el6 zz_ fun F as sl ce S P=>(step S P).mono fun x H1 zz_=>el8 zz_ fun wx F1 as1 ce1 l1 S1 rx P1=>?_
 obtain⟨src,e,P2⟩:=zbA P1
 cases wx<;>simp only[zhK,reduceCtorEq,Option.some.injEq] at e
 ·subst e
  simp only[Rep] at rx
  obtain⟨a,vs,rfl,h,rs⟩:=rx
  exact⟨a,rfl,⟨vs,.inl (Rd.sub S1.st h)⟩,Post.done (RP:=IRep X.K) S1 P2 ⟨a,vs,rfl,h,rs⟩⟩
 ·split at e
  ·rename_i hc
   cases e
   simp only[Rep] at rx
   obtain⟨a,rfl,h⟩:=rx
   obtain⟨_,vs,h2,rs⟩:=S1.st.cell _ _ _ h hc
   exact⟨a,rfl,⟨vs,.inl (.inl h2)⟩,Post.done (RP:=IRep X.K) S1 P2 ⟨a,rfl,h⟩⟩
  ·cases e
theorem znv(hl:PE X a (zax G E da)):PI X tg a (zmc G E X.K (dIT da)):=by
 refine PI.imp (zoF hl) fun σ H R zz_=>el6 zz_ fun F as sl ce S P=>(step S P).mono fun x H1 zz_=>el8 zz_ fun wx F1 as1 ce1 l1 S1 rx P1=>?_
 obtain⟨src,e,P2⟩:=zbA P1
 cases wx<;>simp only[zrx,reduceCtorEq,Option.some.injEq] at e
 subst e
 simp only[Rep] at rx
 obtain⟨a,vs,rfl,h,rs⟩:=rx
 exact⟨a,rfl,⟨vs,.inl (.inl (S1.st.sub _ _ h))⟩,Post.done (RP:=IRep X.K) S1 P2 ⟨a,vs,rfl,.inl h,rs⟩⟩
theorem zeN(hg:Gl X "range")(hm:X.mg "range" = none)(ha:PA X [a] (zfn G E dr))(hs:starEach [a] X.env=[(false,eval a X.env)]:=by rfl):PI X tg (.Call (.Name "range" p) [a] [] pos) (zmc G E X.K (zhL dr)):=by
 refine PI.imp (zi3 hg hm ha hs) fun σ H R zz_=>el6 zz_ fun F as sl ce S P=>(step (RP:=Reps) S P).mono fun x H1 zz_=>el8 zz_ fun wx F1 as1 ce1 l1 S1 rx P1=>?_
 obtain⟨src,e,P2⟩:=zbA P1
 unfold ziX at e
 split at e
 ·rename_i j
  split at e
  ·rename_i hj
   cases e
   simp only[Reps,Rep] at rx
   obtain⟨v,r,rfl,rfl,rfl⟩:=rx
   exact⟨j,rfl,by omega,by omega,Post.done (RP:=IRep X.K) S1 P2 rfl⟩
  ·cases e
 ·cases e
theorem zry(hg:Gl X "range")(hm:X.mg "range" = none)(ha:PA X [a,b] (zfn G E dr))(hs:starEach [a,b] X.env=[(false,eval a X.env),(false,eval b X.env)]:=by rfl)(hs2:starEach [b] X.env=[(false,eval b X.env)]:=by rfl):PI X tg (.Call (.Name "range" p) [a,b] [] pos) (zmc G E X.K (zqu dr)):=by
 refine PI.imp (zi4 hg hm ha hs hs2) fun σ H R zz_=>el6 zz_ fun F as sl ce S P=>(step (RP:=Reps) S P).mono fun x H1 zz_=>el8 zz_ fun wx F1 as1 ce1 l1 S1 rx P1=>?_
 obtain⟨src,e,P2⟩:=zbA P1
 unfold zqt at e
 split at e
 ·rename_i i j
  split at e
  ·rename_i hj
   cases e
   simp only[Reps,Rep] at rx
   obtain⟨v,r,rfl,rfl,v',r',rfl,rfl,rfl⟩:=rx
   exact⟨i,j,rfl,by omega,Post.done (RP:=IRep X.K) S1 P2 rfl⟩
  ·cases e
 ·cases e
end
open Classical in
def zhM(s:Src)(g:DG)(body:DS):List W->DS
 | []=>fun sl ce=>if s.Stays ce then some (.go .nx sl ce) else none
 | x::r=>fun sl ce=>if s.Stays ce then (match g x sl ce with
  | some (sl1,ce1)=>match body sl1 ce1 with
   | some (.go .nx sl2 ce2)=>zhM s g body r sl2 ce2
   | some (.go .ct sl2 ce2)=>zhM s g body r sl2 ce2
   | some (.go .bk sl2 ce2)=>some (.go .nx sl2 ce2)
   | o=>o
  | none=>none) else none
def zcW(i:Sl->M Src)(g:DG)(body:DS):DS:=fun sl ce=>lft (i sl ce) fun s ce'=>zhM s g body s.items sl ce'
def zcn(c:Sl->M Bool)(body:DS):Nat->DS
 | 0=>fun _ _=>none
 | n+1=>fun sl ce=>lft (c sl ce) fun t ce1=>match t with
  | false=>some (.go .nx sl ce1)
  | true=>match body sl ce1 with
   | some (.go .nx sl2 ce2)=>zcn c body n sl2 ce2
   | some (.go .ct sl2 ce2)=>zcn c body n sl2 ce2
   | some (.go .bk sl2 ce2)=>some (.go .nx sl2 ce2)
   | o=>o
section
variable {X:Cx} {G:Ga} {E:XK} {tg iter t:Expr} {body:List Stmt} {di:Sl->M Src} {g:DG} {b:DS} {c:Sl->M Bool} {pos:Pos}
theorem zgr{D:Ends}{F:Hp}{as:List Addr}{N:VS.St->Hp->Prop}{k:DS}{r:Option O}(P:PostS G E D F as (match r with
   | some (.go .nx sl2 ce2)=>k sl2 ce2
   | some (.go .ct sl2 ce2)=>k sl2 ce2
   | some (.go .bk sl2 ce2)=>some (.go .nx sl2 ce2)
   | o=>o))(hN:∀σ H F' as' sl ce,Le F as F' as'->SR G F' as' H σ sl ce->PostS G E D F' as' (k sl ce)->N σ H):PostS G E { D with nx:=N,ct:=N,bk:=D.nx } F as r:=by
 cases r with
 | none=>exact P
 | some r=>cases r with
  | ex x ce'=>exact P
  | go f sl' ce'=>cases f with
   | nx=>exact fun σ' H' F' as' l S'=>hN σ' H' F' as' sl' ce' l S' (P.le l)
   | ct=>exact fun σ' H' F' as' l S'=>hN σ' H' F' as' sl' ce' l S' (P.le l)
   | bk=>exact fun σ' H' F' as' l S'=>P σ' H' F' as' l S'
   | rt w=>exact fun σ' H' F' as' l S'=>P σ' H' F' as' l S'
theorem za8(hp:PassesOwn (model X.prog X.w) X.A X.env X.xe)(hc:X.calm=true)(hi:PI X tg iter (zmc G E X.K di))(hg:PGv G X tg g)(hb:PSs X body (toTS G E b))(hs:∀x,foldedSetIterable iter X.env x=pure x:=by intro _;rfl):PS X (.For tg iter body [] pos) (toTS G E (zcW di g b)):=by
 obtain⟨tgt,hg,qg⟩:=hg
 refine PS.imp (zoG hp hc hi hg hb hs) fun D σ H zz_=>el6 zz_ fun F as sl ce S P=>(zdz (RP:=IRep X.K) S P).mono fun J H1 zz_=>el8 zz_ fun s F1 as1 ce1 l1 S1 rJ P1=>?_
 refine⟨fun i m σ H=>∃F as sl ce,SR G F as H σ sl ce/\IRep X.K F as s J/\m=s.items.length-i/\i<=s.items.length/\PostS G E D F as (zhM s g b (s.items.drop i) sl ce),⟨s.items.length,F1,as1,sl,ce1,S1,rJ,rfl,Nat.zero_le _,P1⟩,?_⟩
 rintro i m σ H ⟨F,as,sl,ce,S,rJ,rfl,hi,P⟩
 by_cases hlt:i<s.items.length
 ·rw[List.drop_eq_getElem_cons hlt] at P
  simp only[zhM] at P
  split at P
  ·rename_i hst
   obtain⟨t1,t2⟩:=rJ.turn S.st hst i
   obtain⟨go,yl⟩:=t1 hlt
   refine .inr ⟨go,_,fun σ' H' h=>h,fun x H' y=>?_⟩
   obtain⟨rfl,w,hw,rw'⟩:=yl x H' y
   rw[List.getElem?_eq_getElem hlt] at hw
   cases hw
   split at P
   ·rename_i sl1 ce1 eg
    refine qg F as H' σ sl ce _ x sl1 ce1 _ S rw' eg fun σ' H2 F' as' l S'=>⟨F',as',sl1,ce1,S',?_⟩
    refine zgr (P.le l) fun σ3 H3 F3 as3 sl3 ce3 l3 S3 P3=>?_
    exact⟨s.items.length-(i+1),by omega,F3,as3,sl3,ce3,S3,rJ.le (l.trans l3),rfl,hlt,P3⟩
   ·exact(show False from P).elim
  ·exact(show False from P).elim
 ·have e:i=s.items.length:=by omega
  subst e
  rw[List.drop_length] at P
  simp only[zhM] at P
  split at P
  ·rename_i hst
   exact .inl ⟨(rJ.turn S.st hst _).2 rfl,P.nxt S⟩
  ·exact(show False from P).elim
theorem zhN(n:Nat)(hp:PassesOwn (model X.prog X.w) X.A X.env X.xe)(hc:PT X t (zck G E c))(hb:PSs X body (toTS G E b)):PS X (.While t body [] pos) (toTS G E (zcn c b n)):=by
 refine PS.imp (zkT hp hc hb) fun D σ H zz_=>el6 zz_ fun F as sl ce S P=>?_
 refine⟨fun m σ H=>∃F as sl ce,SR G F as H σ sl ce/\PostS G E D F as (zcn c b m sl ce),⟨n,F,as,sl,ce,S,P⟩,?_⟩
 rintro m σ H ⟨F,as,sl,ce,S,P⟩
 cases m with
 | zero=>exact(show False from P).elim
 | succ m =>
  refine(zdz (RP:=rB) S P).mono fun x H1 zz_=>el8 zz_ fun wx F1 as1 ce1 l1 S1 rx P1=>?_
  have rx:wx=x:=rx
  subst rx
  cases wx
  ·rw[if_neg Bool.false_ne_true];exact P1.nxt S1
  ·rw[if_pos rfl]
   refine⟨fun σ' H'=>∃F as sl ce,SR G F as H' σ' sl ce/\PostS G E D F as (zcn c b m sl ce),fun σ' H' h=>⟨m,Nat.lt_succ_self _,h⟩,F1,as1,sl,ce1,S1,?_⟩
   exact zgr P1 fun σ3 H3 F3 as3 sl3 ce3 l3 S3 P3=>⟨F3,as3,sl3,ce3,S3,P3⟩
end
def zdx(js:List Nat)(sl:Sl):Sl:=js.map fun j=>sl.getD j none
open Classical in
def lcL(s:Src)(cs:Sl)(c:Sl->M Bool)(e:Sl->M W):List W->List W->M (List W)
 | [],ys=>fun ce=>if s.Stays ce then some (.ok ys ce) else none
 | x::r,ys=>fun ce=>if s.Stays ce/\ys.length<sizeLine then bnd (c (some x::cs)) (fun t=>match t with
   | true=>bnd (e (some x::cs)) fun y=>lcL s cs c e r (ys++[y])
   | false=>lcL s cs c e r ys) ce else none
def dLC(mk:List W->M W)(js:List Nat)(i:Sl->M Src)(c:Sl->M Bool)(e:Sl->M W):Sl->M W:=fun sl=>bnd (i sl) fun s=>bnd (lcL s (zdx js sl) c e s.items []) mk
def zeJ:Sl->M Bool:=fun _=>ret true
section
variable {X:Cx} {G:Ga} {E:XK} {elt iter:Expr} {x:Str} {px pos:Pos} {ifs:List Expr} {scope:Scope} {js:List Nat} {caps:List Str} {di:Sl->M Src} {c:Sl->M Bool} {e:Sl->M W} {mk:List W->M W}
theorem PIfs.imp{Y:Cx}{ifs:List Expr}{t t':TT}(h:PIfs Y ifs t)(q:∀σ H Q,t' σ H Q->t σ H Q):PIfs Y ifs t':=fun pins s σ H Q I z=>h pins s σ H Q I (q _ _ _ z)
theorem zcL{Y:Cx}:PIfs Y [] (zck G E zeJ):=PIfs.imp zk4 fun σ H Q zz_=>el6 zz_ fun F as sl ce S P=>Post.done (RP:=rB) S (a:=true) P rfl
theorem zd3{Y:Cx}{t:Expr}(h:PT Y t (zck G E c)):PIfs Y [t] (zck G E c):=zk5 h
theorem SR.cap{F:Hp}{as:List Addr}{H:Hp}{σ:VS.St}{sl:Sl}{ce:Ce}(S:SR G F as H σ sl ce)(js:List Nat){w:W}{v:V}(r:Rep F as w v):SR G F as H (some v::zis js σ) (some w::zdx js sl) ce:=by
 refine⟨S.st,by simp[zis,zdx],fun i u h=>?_⟩
 cases i with
 | zero=>simp at h;subst h;exact⟨v,rfl,r⟩
 | succ i =>
  simp only[zdx,List.getElem?_cons_succ,List.getElem?_map] at h
  cases e:js[i]? with
  | none=>rw[e] at h;cases h
  | some j =>
   rw[e] at h
   have hj:sl[j]?=some (some u):=by
    have h':sl.getD j none=some u:=by simpa using h
    rw[List.getD_eq_getElem?_getD] at h'
    cases q:sl[j]? with
    | none=>rw[q] at h';cases h'
    | some z=>rw[q] at h';simp at h';rw[h']
   obtain⟨v',h1,h2⟩:=S.slot j u hj
   refine⟨v',?_,h2⟩
   simp only[zis,List.getElem?_cons_succ,List.getElem?_map,e,Option.map_some,List.getD_eq_getElem?_getD,h1,Option.getD_some]
theorem zpg{α β γ δ:Type}{RP:Hp->List Addr->α->β->Prop}{RQ:Hp->List Addr->γ->δ->Prop}{F:Hp}{as:List Addr}{H:Hp}{σ σ':VS.St}{sl sl':Sl}{ce:Ce}{d:Sl->M α}{f:α->M γ}{Q:δ->Hp->Prop}(S:SR G F as H σ sl ce)(S':SR G F as H σ' sl' ce)(P:Post G E RQ F as σ sl Q (bnd (d sl') f ce)) :
  toT G E RP d σ' H fun b H2=>∃a F' as' ce',Le F as F' as'/\SR G F' as' H2 σ sl ce'/\SR G F' as' H2 σ' sl' ce'/\RP F' as' a b/\Post G E RQ F' as' σ sl Q (f a ce'):=by
 refine⟨F,as,sl',ce,S',?_⟩
 revert P
 unfold bnd
 cases d sl' ce with
 | none=>exact fun P=>P
 | some r=>cases r with
  | ok a ce'=>exact fun P b H' F' as' l S2 r=>⟨a,F',as',ce',l,S.slots S2.st l,S2,r,P.le l⟩
  | ex x ce'=>exact fun P=>P
theorem zgs{α β γ:Type}(m:M α)(f:α->M β)(g:β->M γ):bnd (bnd m f) g=bnd m fun a=>bnd (f a) g:=by
 funext ce
 unfold bnd
 cases m ce with
 | none=>rfl
 | some r=>cases r<;>rfl
theorem zjM{α β:Type}{m m':M α}{g:α->M β}{ce:Ce}(h:m ce=m' ce):bnd m g ce=bnd m' g ce:=by simp only[bnd,h]
theorem zfs{s:Src}{cs:Sl}{c:Sl->M Bool}{e:Sl->M W}{x:W}{r ys:List W}{ce:Ce}(h:s.Stays ce/\ys.length<sizeLine):lcL s cs c e (x::r) ys ce=bnd (c (some x::cs)) (fun t=>match t with
   | true=>bnd (e (some x::cs)) fun y=>lcL s cs c e r (ys++[y])
   | false=>lcL s cs c e r ys) ce:=by simp only[lcL,if_pos h]
theorem zph{s:Src}{cs:Sl}{c:Sl->M Bool}{e:Sl->M W}{x:W}{r ys:List W}{ce:Ce}(h:¬(s.Stays ce/\ys.length<sizeLine)):lcL s cs c e (x::r) ys ce=none:=by simp only[lcL,if_neg h]
theorem zmd(hm:MkL G E mk)(σ:L2.St)(H:Hp)(Q:VK)(h:zax G E (dLC mk js di c e) σ H Q):tLC js (zmc G E X.K di) (zck G E c) (zax G E e) σ H Q:=by
 obtain⟨F,as,sl,ce,S,P⟩:=h
 refine(step (RP:=IRep X.K) S P).mono fun J H1 zz_=>el8 zz_ fun s F1 as1 ce1 l1 S1 rJ P1=>?_
 refine⟨fun i m ys H=>∃F as ce ws,SR G F as H σ sl ce/\IRep X.K F as s J/\m=s.items.length-i/\i<=s.items.length/\Reps F as ws ys/\Post G E Rep F as σ sl Q (bnd (lcL s (zdx js sl) c e (s.items.drop i) ws) mk ce),⟨s.items.length,F1,as1,ce1,[],S1,rJ,rfl,Nat.zero_le _,.nil,P1⟩,?_⟩
 rintro i m ys H ⟨F,as,ce,ws,S,rJ,rfl,hi,rs,P⟩
 by_cases hlt:i<s.items.length
 ·rw[List.drop_eq_getElem_cons hlt] at P
  by_cases hst:s.Stays ce/\ws.length<sizeLine
  ·obtain⟨go,yl⟩:=(rJ.turn S.st hst.1 i).1 hlt
   refine .inr ⟨go,by rw[rs.length];exact hst.2,_,fun ys' H' h=>h,fun x H' y=>?_⟩
   obtain⟨rfl,w,hw,rw'⟩:=yl x H' y
   rw[List.getElem?_eq_getElem hlt] at hw
   cases hw
   have P':=P
   rw[zjM (zfs hst)] at P'
   rw[zgs] at P'
   refine(zpg (RP:=rB) S (S.cap js rw') P').mono fun b H2 ⟨t,F2,as2,ce2,l2,S2,S2',rt,P2⟩=>?_
   have rt:t=b:=rt
   subst rt
   cases t
   ·rw[if_neg Bool.false_ne_true]
    exact⟨s.items.length-(i+1),by omega,F2,as2,ce2,ws,S2,rJ.le l2,rfl,hlt,rs.le l2,P2⟩
   ·rw[if_pos rfl]
    dsimp only at P2
    rw[zgs] at P2
    refine(zpg (RP:=Rep) S2 S2' P2).mono fun y H3 ⟨wy,F3,as3,ce3,l3,S3,S3',ry,P3⟩=>?_
    exact⟨s.items.length-(i+1),by omega,F3,as3,ce3,ws++[wy],S3,rJ.le (l2.trans l3),rfl,hlt,(rs.le (l2.trans l3)).append (.cons ry .nil),P3⟩
  ·have P':=P
   simp only[bnd,zph hst] at P'
   exact(show False from P').elim
 ·have e':i=s.items.length:=by omega
  subst e'
  rw[List.drop_length] at P
  by_cases hst:s.Stays ce
  ·have eq:bnd (lcL s (zdx js sl) c e [] ws) mk ce=mk ws ce:=by simp only[bnd,lcL,if_pos hst]
   rw[eq] at P
   exact .inl ⟨(rJ.turn S.st hst _).2 rfl,(hm S rs P).2⟩
  ·have eq:bnd (lcL s (zdx js sl) c e [] ws) mk ce=none:=by simp only[bnd,lcL,if_neg hst]
   rw[eq] at P
   exact(show False from P).elim
theorem zgt(hm:MkL G E mk)(B:BlkS X.N X.env.scope js (x::caps) scope)(hc:X.calm=true)(hx:scope.names.lookup x=some .local)(hi:PI X (.Name x px) iter (zmc G E X.K di))(ht:∀C fp s₀ H₀,PIfs (blk X (x::caps) scope C fp s₀ H₀) ifs (zck G E c))(he:∀C fp s₀ H₀,PE (blk X (x::caps) scope C fp s₀ H₀) elt (zax G E e))(hs:∀v,foldedSetIterable iter X.env v=pure v:=by intro _;rfl):PE X (.ListComp elt [⟨.Name x px,iter,ifs,0⟩] scope pos) (zax G E (dLC mk js di c e)):=PE.imp (zrc B hc hx hi ht he hs) (zmd hm)
theorem zpi{y:Str}{py spos:Pos}{k:Nat}(hm:MkL G E mk)(B:BlkS X.N X.env.scope js (x::caps) scope)(hc:X.calm=true)(hx:scope.names.lookup x=some .local)(hi:PI X (.Name x px) iter (zmc G E X.K di))(ht:∀C fp s₀ H₀,PIfs (blk X (x::caps) scope C fp s₀ H₀) ifs (zck G E c))(he:∀C fp s₀ H₀,PE (blk X (x::caps) scope C fp s₀ H₀) elt (zax G E e))(hN:X.N.Nodup)(hk:X.N[k]?=some y)(hy:X.env.scope.names.lookup y=some .local)(hsw:swapsWith (.ListComp elt [⟨.Name x px,iter,ifs,0⟩] scope pos) (some (.Name y py)) spos.line X.env=pure true)(hs:∀v,foldedSetIterable iter X.env v=pure v:=by intro _;rfl):PS X (.Assign [.Name y py] (.ListComp elt [⟨.Name x px,iter,ifs,0⟩] scope pos) spos) (toTS G E (zbf k (dLC mk js di c e))):=by
 refine PS.imp (zrd B hc hx hi ht he hN hk hy hsw hs) fun D σ H zz_=>el6 zz_ fun F as sl ce S P=>?_
 refine zmd (X:=X) hm σ H _ ((zdz S P).mono fun x H1 zz_=>el8 zz_ fun wx F1 as1 ce1 l1 S1 rx P1=>?_)
 exact P1 _ H1 F1 as1 .refl (S1.put rx k)
end
end
end VS
namespace VS
open PySem PySem.Spec PyProof.Rows L2
section
mutual
def Bel(n:Nat):W->Prop
 | .cel k=>k<n
 | .lst xs=>zc9 n xs
 | .tup xs=>zc9 n xs
 | .non=>True
 | .bl _=>True
 | .int _=>True
 | .str _=>True
 | .ty _=>True
def zc9(n:Nat):List W->Prop
 | []=>True
 | x::xs=>Bel n x/\zc9 n xs
end
mutual
theorem Rep.bel{F:Hp}{as:List Addr}:∀{w:W} {v:V},Rep F as w v->Bel as.length w
 | .non,_,_=>by simp only[Bel]
 | .bl _,_,_=>by simp only[Bel]
 | .int _,_,_=>by simp only[Bel]
 | .str _,_,_=>by simp only[Bel]
 | .ty _,_,_=>by simp only[Bel]
 | .lst xs,_,r=>by
  simp only[Rep] at r
  obtain⟨a,vs,_,_,s⟩:=r
  simp only[Bel]
  exact Reps.bel s
 | .tup xs,_,r=>by
  simp only[Rep] at r
  obtain⟨a,vs,_,_,s⟩:=r
  simp only[Bel]
  exact Reps.bel s
 | .cel k,_,r=>by
  simp only[Rep] at r
  obtain⟨a,_,h⟩:=r
  simp only[Bel]
  exact zaz h
theorem Reps.bel{F:Hp}{as:List Addr}:∀{ws:List W} {vs:List V},Reps F as ws vs->zc9 as.length ws
 | [],_,_=>by simp only[zc9]
 | _::_,_,r=>by
  simp only[Reps] at r
  obtain⟨v,vs',_,h,t⟩:=r
  simp only[zc9]
  exact⟨Rep.bel h,Reps.bel t⟩
end
mutual
theorem Rep.cut{F:Hp}{as as':List Addr}{n:Nat}(hl:∀k,k<n->as'[k]?=as[k]?):∀{w:W} {v:V},Bel n w->Rep F as w v->Rep F as' w v
 | .non,_,_,r=>by simpa only[Rep] using r
 | .bl _,_,_,r=>by simpa only[Rep] using r
 | .int _,_,_,r=>by simpa only[Rep] using r
 | .str _,_,_,r=>by simpa only[Rep] using r
 | .ty _,_,_,r=>by simpa only[Rep] using r
 | .lst xs,_,b,r=>by
  simp only[Rep] at r ⊢
  simp only[Bel] at b
  obtain⟨a,vs,h1,h2,s⟩:=r
  exact⟨a,vs,h1,h2,Reps.cutS hl b s⟩
 | .tup xs,_,b,r=>by
  simp only[Rep] at r ⊢
  simp only[Bel] at b
  obtain⟨a,vs,h1,h2,s⟩:=r
  exact⟨a,vs,h1,h2,Reps.cutS hl b s⟩
 | .cel k,_,b,r=>by
  simp only[Rep] at r ⊢
  simp only[Bel] at b
  obtain⟨a,h1,h⟩:=r
  exact⟨a,h1,by rw[hl k b];exact h⟩
theorem Reps.cutS{F:Hp}{as as':List Addr}{n:Nat}(hl:∀k,k<n->as'[k]?=as[k]?):∀{ws:List W} {vs:List V},zc9 n ws->Reps F as ws vs->Reps F as' ws vs
 | [],_,_,r=>by simpa only[Reps] using r
 | _::_,_,b,r=>by
  simp only[Reps] at r ⊢
  simp only[zc9] at b
  obtain⟨v,vs',h1,h,t⟩:=r
  exact⟨v,vs',h1,Rep.cut hl b.1 h,Reps.cutS hl b.2 t⟩
end
def zf5(n:Nat):C->Prop
 | .lst xs=>zc9 n xs
 | .dct kvs=>∀p∈kvs,Bel n p.2
 | .ins _ fs=>∀p∈fs,Bel n p.2
 | .exn _=>True
 | .dead=>True
 | .fzd kvs=>∀p∈kvs,Bel n p.2
 | .dtp kvs=>∀p∈kvs,Bel n p.2
theorem RepKV.bel{κ:Type}{F:Hp}{as:List Addr}{kvs:List (κ×W)}{ps:List (κ×V)}(r:RepKV F as kvs ps):∀p∈kvs,Bel as.length p.2:=by
 induction r with
 | nil=>simp
 | cons h t ih =>
  intro p hp
  rcases List.mem_cons.mp hp with rfl|hp
  ·exact h.2.bel
  ·exact ih p hp
theorem RepKV.cut{κ:Type}{F:Hp}{as as':List Addr}{n:Nat}(hl:∀k,k<n->as'[k]?=as[k]?){kvs:List (κ×W)}{ps:List (κ×V)}(b:∀p∈kvs,Bel n p.2)(r:RepKV F as kvs ps):RepKV F as' kvs ps:=by
 induction r with
 | nil=>exact .nil
 | cons h t ih=>exact .cons ⟨h.1,h.2.cut hl (b _ List.mem_cons_self)⟩ (ih fun p hp=>b p (List.mem_cons_of_mem _ hp))
section
variable {G:Ga} {F:Hp} {as as':List Addr} {H:Hp} {a:Addr} {c:C} {n:Nat}
theorem CRep.bel(h:CRep G F as H a c):zf5 as.length c:=by
 cases c with
 | lst xs=>obtain⟨vs,_,r⟩:=h;exact r.bel
 | dct xs=>obtain⟨vs,_,r⟩:=h;exact r.bel
 | ins c xs=>obtain⟨dx,vs,_,r⟩:=h;exact r.bel
 | exn c=>trivial
 | dead=>trivial
 | fzd xs=>obtain⟨o,ps,_,_,r⟩:=h;exact r.bel
 | dtp xs=>obtain⟨vs,_,r⟩:=h;exact r.bel
theorem CRep.cut(hl:∀k,k<n->as'[k]?=as[k]?)(b:zf5 n c)(h:CRep G F as H a c):CRep G F as' H a c:=by
 cases c with
 | lst xs=>obtain⟨vs,e,r⟩:=h;exact⟨vs,e,r.cutS hl b⟩
 | dct xs=>obtain⟨vs,e,r⟩:=h;exact⟨vs,e,RepKV.cut hl b r⟩
 | ins c xs=>obtain⟨dx,vs,e,r⟩:=h;exact⟨dx,vs,e,RepKV.cut hl b r⟩
 | exn c=>exact h
 | dead=>exact h
 | fzd xs=>obtain⟨o,ps,e1,e2,r⟩:=h;exact⟨o,ps,e1,e2,RepKV.cut hl b r⟩
 | dtp xs=>obtain⟨vs,e,r⟩:=h;exact⟨vs,e,RepKV.cut hl b r⟩
end
def zft(ce ce':Ce):Prop:=ce.length<=ce'.length/\∀(k:Nat) (c:C),k<ce.length->ce'[k]?=some c->ce[k]?=some c\/zf5 ce.length c
section
variable {G:Ga} {F F':Hp} {as as':List Addr} {H H':Hp} {ce ce':Ce}
theorem zbx{α:Type}{l:List α}{n k:Nat}(h:k<n):(l.take n)[k]?=l[k]?:=List.getElem?_take_of_lt h
theorem Store.cut(S:Store G F as H ce)(S':Store G F' as' H' ce')(l:Le F as F' as')(h:zft ce ce'):Store G F' (as'.take ce.length) H' (ce'.take ce.length)/\Le F as F' (as'.take ce.length):=by
 have hl:∀k,k<ce.length->(as'.take ce.length)[k]?=as'[k]?:=fun k hk=>zbx hk
 refine⟨⟨S'.sub,S'.nd.sublist (List.take_sublist _ _),by rw[List.length_take,List.length_take,S'.len],fun k a c h1 h2=>?_⟩,l.f,fun k a e=>?_⟩
 ·have hk:k<ce.length:=by have:=zaz h2;rw[List.length_take] at this;omega
  rw[zbx hk] at h1 h2
  obtain⟨q1,q2⟩:=S'.cell k a c h1 h2
  refine⟨q1,q2.cut hl ?_⟩
  rcases h.2 k c hk h2 with h3|h3
  ·obtain⟨a0,e0,_,q0⟩:=S.at h3
   rw[<- S.len];exact q0.bel
  ·exact h3
 ·have hk:k<ce.length:=by rw[<- S.len];exact zaz e
  rw[zbx hk];exact l.c k a e
end
open Classical in
def finC(ce ce':Ce)(w:W):Option (R W):=if zft ce ce'/\Bel ce.length w then some (.ok w (ce'.take ce.length)) else none
open Classical in
def finO(ce ce':Ce)(w:W):Option (R W):=match w with
 | .cel k=>match ce'[k]? with
  | some c=>if zft ce ce'/\ce.length<=k/\zf5 ce.length c then some (.ok (.cel ce.length) (ce'.take ce.length++[c])) else none
  | none=>none
 | _=>none
def zoh(_ce ce':Ce)(w:W):Option (R W):=some (.ok w ce')
def zlc(G:Ga)(fin:Ce->Ce->W->Option (R W)):Prop:=∀(F F':Hp) (as as':List Addr) (H H':Hp) (ce ce':Ce) (w:W) (v:V) (r:R W),Store G F as H ce->Store G F' as' H' ce'->Le F as F' as'->Rep F' as' w v->fin ce ce' w=some r ->
 ∃w2 ce2 as2,r=.ok w2 ce2/\Le F as F' as2/\Store G F' as2 H' ce2/\Rep F' as2 w2 v
theorem znw{G:Ga}:zlc G zoh:=fun F F' as as' H H' ce ce' w v r S S' l rw' e=>by
 cases e
 exact⟨w,ce',as',rfl,l,S',rw'⟩
theorem zcg{G:Ga}:zlc G finC:=fun F F' as as' H H' ce ce' w v r S S' l rw' e=>by
 unfold finC at e
 split at e
 ·rename_i h
  cases e
  obtain⟨S2,l2⟩:=S.cut S' l h.1
  exact⟨w,_,_,rfl,l2,S2,rw'.cut (fun k hk=>zbx hk) h.2⟩
 ·cases e
theorem zek{G:Ga}:zlc G finO:=fun F F' as as' H H' ce ce' w v r S S' l rw' e=>by
 cases w<;>simp only[finO,reduceCtorEq] at e
 rename_i k
 split at e
 ·rename_i c hc
  split at e
  ·rename_i h
   obtain⟨h1,h2,h3⟩:=h
   cases e
   obtain⟨S2,l2⟩:=S.cut S' l h1
   simp only[Rep] at rw'
   obtain⟨a,rfl,ha⟩:=rw'
   obtain⟨q1,q2⟩:=S'.cell k a c ha hc
   have hlen:(as'.take ce.length).length=ce.length:=by rw[List.length_take,S'.len];exact Nat.min_eq_left h1.1
   have hlen2:(ce'.take ce.length).length=ce.length:=by rw[List.length_take];exact Nat.min_eq_left h1.1
   have l3:Le F' (as'.take ce.length) F' (as'.take ce.length++[a]):=⟨fun _ _ h=>h,fun j b hb=>by rw[List.getElem?_append_left (zaz hb)];exact hb⟩
   refine⟨_,_,as'.take ce.length++[a],rfl,l2.trans l3,⟨S'.sub,?_,by rw[List.length_append,List.length_append,hlen,hlen2];rfl,fun j b c' e1 e2=>?_⟩,?_⟩
   ·rw[List.nodup_append]
    refine⟨S2.nd,by simp,fun b hb d hd=>?_⟩
    rw[List.mem_singleton] at hd
    subst hd
    rintro rfl
    obtain⟨j,hj⟩:=List.getElem?_of_mem hb
    have hj1:j<ce.length:=by have:=zaz hj;omega
    rw[zbx hj1] at hj
    have ha':=zaz ha
    have hj':=zaz hj
    rw[List.getElem?_eq_getElem ha'] at ha
    rw[List.getElem?_eq_getElem hj'] at hj
    have:=zgl S'.nd ha' hj' ((Option.some.inj ha).trans (Option.some.inj hj).symm)
    omega
   ·by_cases hj:j<ce.length
    ·rw[List.getElem?_append_left (by omega)] at e1 e2
     obtain⟨p1,p2⟩:=S2.cell j b c' e1 e2
     exact⟨p1,p2.le l3 rfl⟩
    ·rw[List.getElem?_append_right (by omega),hlen] at e1
     rw[List.getElem?_append_right (by omega),hlen2] at e2
     have hz:j-ce.length=0:=by
      cases q:j-ce.length with
      | zero=>rfl
      | succ m=>rw[q] at e1;simp at e1
     rw[hz] at e1 e2
     simp at e1 e2
     subst e1;subst e2
     exact⟨q1,(q2.cut (n:=ce.length) (fun i hi=>zbx hi) h3).le l3 rfl⟩
   ·simp only[Rep]
    exact⟨a,rfl,by rw[List.getElem?_append_right (by omega),hlen];simp⟩
  ·cases e
 ·cases e
open Classical in
def dFn(fin:Ce->Ce->W->Option (R W))(n:Nat)(body:DS):List W->M W:=fun ws ce=>match body (ws.map some++List.replicate (n-ws.length) none) ce with
 | some (.go (.rt w) _ ce')=>fin ce ce' w
 | some (.go .nx _ ce')=>fin ce ce' .non
 | some (.ex x ce')=>if zft ce ce' then some (.ex x (ce'.take ce.length)) else none
 | _=>none
def PostF(G:Ga)(E:XK)(F:Hp)(as:List Addr)(Q:VK):Option (R W)->Prop
 | some (.ok w ce')=>∀v H' F' as',Le F as F' as'->Store G F' as' H' ce'->Rep F' as' w v->Q v H'
 | some (.ex x ce')=>∀H' F' as' cv od,Le F as F' as'->Store G F' as' H' ce'->G.xr x cv od H'->E cv od H'
 | none=>False
def spV(G:Ga)(fe:XK->XK)(n:Nat)(d:List W->M W):Sp:=fun vs H Q E=>vs.length=n/\∃F as ws ce,Store G F as H ce/\Reps F as ws vs/\PostF G (fe E) F as Q (d ws ce)
theorem zld{G:Ga}{F:Hp}{as:List Addr}{H:Hp}{ce:Ce}{ws:List W}{vs:List V}(S:Store G F as H ce)(rs:Reps F as ws vs)(N:List Str):SR G F as H (L2.start N vs) (ws.map some++List.replicate (N.length-ws.length) none) ce:=by
 have hl:=rs.length
 refine⟨S,by unfold L2.start;simp[hl],fun i w h=>?_⟩
 have hi:i<ws.length:=by
  by_cases hi:i<ws.length
  ·exact hi
  ·rw[List.getElem?_append_right (by simpa using hi),List.getElem?_replicate] at h
   split at h<;>cases h
 rw[List.getElem?_append_left (by simpa using hi),List.getElem?_map] at h
 cases e:ws[i]? with
 | none=>rw[e] at h;cases h
 | some w' =>
  rw[e] at h
  simp only[Option.map_some,Option.some.injEq] at h
  subst h
  obtain⟨v,h1,h2⟩:=rs.get e
  refine⟨v,?_,h2⟩
  unfold L2.start
  rw[List.getElem?_append_left (by simp;omega),List.getElem?_map,h1]
  rfl
theorem zaB{G:Ga}{E:XK}{F:Hp}{as:List Addr}{H:Hp}{ce:Ce}{ws:List W}{vs:List V}{Q:VK}{fin:Ce->Ce->W->Option (R W)}{body:DS}(hf:zlc G fin)(N:List Str)(S:Store G F as H ce)(rs:Reps F as ws vs)(P:PostF G E F as Q (dFn fin N.length body ws ce)) :
  toTS G E body { nx:=fun _ H'=>Q .non H',rt:=Q } (L2.start N vs) H:=by
 refine⟨F,as,_,ce,zld S rs N,?_⟩
 revert P
 unfold dFn
 have key:∀{w:W} {ce':Ce},PostF G E F as Q (fin ce ce' w)->∀v H' F' as',Le F as F' as'->Store G F' as' H' ce'->Rep F' as' w v->Q v H':=by
  intro w ce' P v H' F' as' l S' rw'
  cases e:fin ce ce' w with
  | none=>rw[e] at P;exact P.elim
  | some r =>
   obtain⟨w2,ce2,as2,rfl,l2,S2,r2⟩:=hf F F' as as' H H' ce ce' w v r S S' l rw' e
   rw[e] at P
   exact P v H' F' as2 l2 S2 r2
 cases body (ws.map some++List.replicate (N.length-ws.length) none) ce with
 | none=>exact fun P=>P
 | some o=>cases o with
  | ex x ce' =>
   intro P H' F' as' cv od l S' hx
   dsimp only at P
   split at P
   ·rename_i h
    obtain⟨S2,l2⟩:=S.cut S' l h
    exact P H' F' _ cv od l2 S2 hx
   ·exact P.elim
  | go f sl' ce'=>cases f with
   | nx=>exact fun P σ' H' F' as' l S'=>key P .non H' F' as' l S'.st (by simp only[Rep])
   | bk=>exact fun P=>P.elim
   | ct=>exact fun P=>P.elim
   | rt w=>exact fun P σ' H' F' as' l S' v r=>key P v H' F' as' l S'.st r
def zay(n:Nat)(f:List W->M W)(args:Sl->M (List W)):Sl->M W:=fun sl=>bnd (args sl) fun ws=>if ws.length=n then f ws else ziw
section
variable {X:Cx} {G:Ga} {E E1:XK} {CX:CXT} {k n:Nat} {f:Addr} {fd:FuncData} {ps:List Str} {df:List W->M W} {x:Str} {p pos:Pos} {e:Expr} {es:List Expr} {dr:Sl->M (List W)} {fe:XK->XK}
theorem PostF.of{F:Hp}{as:List Addr}{H:Hp}{σ:VS.St}{sl:Sl}{ce:Ce}{Q:VK}{r:Option (R W)}(S:SR G F as H σ sl ce)(P:Post G E Rep F as σ sl Q r):PostF G E F as Q r:=by
 cases r with
 | none=>exact P
 | some r=>cases r with
  | ok w ce'=>exact fun v H' F' as' l S' rv=>P v H' F' as' l (S.slots S' l) rv
  | ex y ce'=>exact P
theorem zap(Fk:FnOk X.prog X.w X.K X.mg X.base CX k f fd ps (spV G fe n df))(hr:Room k X.A)(hg:Gl X x)(hm:X.mg x=some (.ref f))(hk:PySem.W.keepIn X.K (.ref f)=true)(hb:Binds X.K fd ps [])(hx:zcT CX X E1)(ha:PA X (e::es) (zfn G E dr))(hfe:fe E1=E:=by rfl)(hdb:(x==("__debug__" : Str))=false:=by decide)(he:starEach (e::es) X.env=(false,eval e X.env)::starEach es X.env:=by rfl)(hpl:(backTo pos (starEach es X.env)).any (·.1)=false:=by rfl) :
  PE X (.Call (.Name x p) (e::es) [] pos) (zax G E (zay n df dr)):=by
 refine PE.imp (zm6 Fk hr hg hm hk hb .nil hx ha hdb he hpl) fun σ H Q zz_=>el6 zz_ fun F as sl ce S P=>(step (RP:=Reps) S P).mono fun vs H1 zz_=>el8 zz_ fun ws F1 as1 ce1 l1 S1 rs P1=>?_
 split at P1
 ·rename_i hn
  rw[List.append_nil]
  exact⟨by rw[rs.length];exact hn,F1,as1,ws,ce1,S1.st,rs,by rw[hfe];exact PostF.of S1 P1⟩
 ·exact(show False from P1).elim
end
open Classical in
def zce(d:List W->M W):List W->M W:=fun ws ce=>match d ws ce with
 | some (.ok (.cel k) ce')=>match ce'[k]? with
  | some (.lst xs)=>if zft ce ce'/\k=ce.length/\zc9 ce.length xs then some (.ok (.lst xs) (ce'.take ce.length)) else none
  | _=>none
 | some (.ok w ce')=>some (.ok w ce')
 | r=>r
theorem zbs{P:Program}{w:World}{K:PySem.W.Frag}{mg:Str->Option Value}{base:Heap}{CX:CXT}{k n:Nat}{f:Addr}{fd:FuncData}{ps:List Str}{G:Ga}{fe:XK->XK}{d:List W->M W}(h:FnOk P w K mg base CX k f fd ps (spV G fe n d)):FnOk P w K mg base CX k f fd ps (spV G fe n (zce d)):=by
 refine h.imp fun vs H Q E ⟨hl,F,as,ws,ce,S,rs,Pf⟩=>⟨hl,F,as,ws,ce,S,rs,?_⟩
 revert Pf
 unfold zce
 cases d ws ce with
 | none=>exact fun P=>P
 | some r=>cases r with
  | ex x ce'=>exact fun P=>P
  | ok w ce' =>
   cases w<;>first|exact fun P=>P|skip
   rename_i j
   dsimp only
   intro Pf v H' F' as' l S' rv
   simp only[Rep] at rv
   obtain⟨a,rfl,ha⟩:=rv
   split at Pf
   ·rename_i xs hc
    split at Pf
    ·rename_i h
     obtain⟨h1,h2,h3⟩:=h
     obtain⟨q1,vs',hH,rs'⟩:=S'.cell j a _ ha hc
     have q1:=q1 rfl
     obtain⟨S2,l2⟩:=S.cut S' l h1
     have rs2:Reps F' (as'.take ce.length) xs vs':=rs'.cutS (fun i hi=>zbx hi) h3
     have l3:Le F' (as'.take ce.length) (upd F' a (.lst vs')) (as'.take ce.length):=⟨upd_sub q1,fun _ _ h=>h⟩
     refine Pf (.ref a) H' (upd F' a (.lst vs')) (as'.take ce.length) (l2.trans l3) ⟨fun b o e=>?_,S2.nd,S2.len,fun i b c e1 e2=>?_⟩ (by simp only[Rep];exact⟨a,vs',rfl,.inl zaH,rs2.le l3⟩)
     ·by_cases hb:b=a
      ·subst hb;rw[zaH] at e;cases e;exact hH
      ·rw[zaG hb] at e;exact S2.sub _ _ e
     ·obtain⟨p1,p2⟩:=S2.cell i b c e1 e2
      have hb:b≠a:=by
       rintro rfl
       have hi:i<ce.length:=by have:=zaz e2;rw[List.length_take] at this;omega
       rw[zbx hi] at e1
       have a1:=zaz ha
       have a2:=zaz e1
       rw[List.getElem?_eq_getElem a1] at ha
       rw[List.getElem?_eq_getElem a2] at e1
       have:=zgl S'.nd a1 a2 ((Option.some.inj ha).trans (Option.some.inj e1).symm)
       omega
      exact⟨fun hn=>by rw[zaG hb];exact p1 hn,p2.le l3 rfl⟩
    ·exact Pf.elim
   ·exact Pf.elim
end
end VS
namespace VS
open PySem PySem.Spec PyProof.Rows L2
section
def zgu:List W->Option (List Int)
 | []=>some []
 | .int i::r=>(zgu r).map (i::·)
 | _=>none
def zme:List W->Option (List Bool)
 | []=>some []
 | .bl i::r=>(zme r).map (i::·)
 | _=>none
def zgv:List (Key×W)->Option (List Int)
 | []=>some []
 | (.inl i,_)::r=>(zgv r).map (i::·)
 | _=>none
theorem zgw:∀ns:List Int,zgu (ns.map W.int)=some ns
 | []=>rfl
 | n::r=>by simp only[List.map_cons,zgu,zgw r,Option.map_some]
theorem zhO:∀{ws:List W} {ns:List Int},zgu ws=some ns->ws=ns.map W.int
 | [],ns,h=>by simp only[zgu,Option.some.injEq] at h;subst h;rfl
 | w::r,ns,h=>by
  cases w<;>simp only[zgu,reduceCtorEq,Option.map_eq_some_iff] at h
  obtain⟨ms,h1,rfl⟩:=h
  rw[zhO h1,List.map_cons]
theorem zfu:∀{kvs:List (Key×W)} {ns:List Int},zgv kvs=some ns->kvs.map (·.1)=ns.map Sum.inl
 | [],ns,h=>by simp only[zgv,Option.some.injEq] at h;subst h;rfl
 | (k,w)::r,ns,h=>by
  cases k<;>simp only[zgv,reduceCtorEq,Option.map_eq_some_iff] at h
  obtain⟨ms,h1,rfl⟩:=h
  rw[List.map_cons,zfu h1,List.map_cons]
def srt(ns:List Int):List Int:=ns.mergeSort fun a b=>decide (a<=b)
theorem zby(ns:List Int):(srt ns).Perm ns:=List.mergeSort_perm ns _
theorem zcM(ns:List Int):(srt ns).Pairwise (·<=·):=by
 have:=List.pairwise_mergeSort (le:=fun a b:Int=>decide (a<=b)) (fun a b c=>by simp;omega) (fun a b=>by simp;omega) ns
 exact this.imp fun h=>by simpa using h
theorem zch:∀{a b:List Int},a.Perm b->a.Pairwise (·<=·)->b.Pairwise (·<=·)->a=b
 | [],b,p,_,_=>by rw[List.nil_perm] at p;exact p.symm
 | x::a,[],p,_,_=>by have:=p.length_eq;simp at this
 | x::a,y::b,p,sa,sb=>by
  rw[List.pairwise_cons] at sa sb
  have h1:x=y:=by
   have hx:x∈y::b:=p.subset List.mem_cons_self
   have hy:y∈x::a:=p.symm.subset List.mem_cons_self
   rcases List.mem_cons.mp hx with e|hx
   ·exact e
   ·rcases List.mem_cons.mp hy with e|hy
    ·exact e.symm
    ·have:=sb.1 x hx
     have:=sa.1 y hy
     omega
  subst h1
  rw[zch (List.Perm.cons_inv p) sa.2 sb.2]
theorem zmf{ms ns:List Int}(p:ms.Perm ns)(s:ms.Pairwise (·<=·)):ms=srt ns:=zch (p.trans (zby ns).symm) s (zcM ns)
def dBi(f:List W->M W)(args:Sl->M (List W)):Sl->M W:=fun sl=>bnd (args sl) f
def Bi(G:Ga)(E:XK)(r:List V->Hp->VK->Prop)(f:List W->M W):Prop:=∀F as H σ sl ce ws vs Q,SR G F as H σ sl ce->Reps F as ws vs->Post G E Rep F as σ sl Q (f ws ce)->r vs H Q
open Classical in
def zcv:List W->M W:=fun ws ce=>match ws with
 | [.str x]=>if x.length<=sizeLine then some (.ok (.int x.length) ce) else none
 | [w]=>match zf3 ce w with
  | some xs=>some (.ok (.int xs.length) ce)
  | none=>match zof ce w with
   | some kvs=>some (.ok (.int kvs.length) ce)
   | none=>none
 | _=>none
open Classical in
def za3(mk:List W->M W):List W->M W:=fun ws ce=>match ws with
 | [w]=>match zdV ce w with
  | some xs=>match zgu xs with
   | some ns=>if ns.length<64 then mk ((srt ns).map W.int) ce else none
   | none=>none
  | none=>match zog ce w with
   | some kvs=>match zgv kvs with
    | some ns=>if ns.length<64 then mk ((srt ns).map W.int) ce else none
    | none=>none
   | none=>none
 | _=>none
def ziC(mk:List W->M W):List W->M W:=fun ws ce=>match ws with
 | [w]=>match zf3 ce w with
  | some xs=>mk xs ce
  | none=>match zog ce w with
   | some kvs=>match zgv kvs with
    | some ns=>mk (ns.map W.int) ce
    | none=>none
   | none=>none
 | _=>none
def zbi:List W->M W:=fun ws ce=>match ws with
 | [.tup xs]=>some (.ok (.tup xs) ce)
 | [w]=>match zdV ce w with
  | some xs=>zrt xs ce
  | none=>none
 | _=>none
def ztf:List W->M W:=fun ws ce=>match ws with
 | [w]=>match zdV ce w with
  | some xs=>match zme xs with
   | some bs=>some (.ok (.bl (bs.all id)) ce)
   | none=>none
  | none=>none
 | _=>none
def ztg:List W->M W:=fun ws ce=>match ws with
 | [.int i,.int j]=>some (.ok (.int (if j<i then j else i)) ce)
 | _=>none
def zth:List W->M W:=fun ws ce=>match ws with
 | [.int i,.int j]=>some (.ok (.int (if j>i then j else i)) ce)
 | _=>none
def tyW(ce:Ce):W->Option String
 | .non=>some "NoneType"
 | .bl _=>some "bool"
 | .int _=>some "int"
 | .str _=>some "str"
 | .lst _=>some "list"
 | .tup _=>some "tuple"
 | .cel k=>match ce[k]? with
  | some (.lst _)=>some "list"
  | some (.dct _)=>some "dict"
  | _=>none
 | .ty _=>none
def zrz(a b:String):Bool:=a==b||(a == "bool" && b == "int")
def kinds:List String:=["NoneType", "bool", "int", "str", "list", "tuple", "dict"]
def zti:List W->M W:=fun ws ce=>match ws with
 | [w,.ty T]=>match tyW ce w with
  | some t=>if (kinds.contains t&&["int", "bool", "list", "tuple", "str", "dict"].contains T)=true then some (.ok (.bl (zrz t T)) ce) else none
  | none=>none
 | _=>none
section
variable {X:Cx} {G:Ga} {E:XK} {F:Hp} {as:List Addr} {H:Hp} {ce:Ce} {w:W} {v:V}
theorem CallR.or{f:Value}{r r':List V->Hp->VK->Prop}(h:CallR X f r)(h':CallR X f r'):CallR X f (fun xs H Q=>r xs H Q\/r' xs H Q):=by
 intro pins s σ H xs us Q I rx q
 rcases q with q|q
 ·exact h pins s σ H xs us Q I rx q
 ·exact h' pins s σ H xs us Q I rx q
theorem zbD{vs:List V}(h:Reps F as [w] vs):∃v,vs=[v]/\Rep F as w v:=by
 simp only[Reps] at h
 obtain⟨v,r,rfl,h1,rfl⟩:=h
 exact⟨v,rfl,h1⟩
def zpj(K:PySem.W.Frag):List V->Hp->VK->Prop:=fun xs H Q=>(∃x n,xs=[x]/\zrX K x H n/\Q (.int n) H)\/∃a kvs,xs=[V.ref a]/\H a=some (.dK kvs)/\Q (.int kvs.length) H
theorem zcq{K:PySem.W.Frag}(hK:X.K=K:=by rfl):CallR X (.builtin "len") (zpj K):=by subst hK;exact CallR.or zkW zjt
theorem zcr(K:PySem.W.Frag):Bi G E (zpj K) zcv:=by
 intro F as H σ sl ce ws vs Q S rs P
 unfold zcv at P
 split at P
 ·rename_i x
  split at P
  ·rename_i hl
   obtain⟨v,rfl,r⟩:=zbD rs
   simp only[Rep] at r
   subst r
   exact .inl ⟨_,_,rfl,⟨hl,rfl⟩,P.done S (by simp only[Rep])⟩
  ·exact P.elim
 ·rename_i w _
  obtain⟨v,rfl,r⟩:=zbD rs
  split at P
  ·rename_i xs hx
   obtain⟨a,us,rfl,h,rs'⟩:=zfp S.st r hx
   refine .inl ⟨_,us.length,rfl,?_,P.done S (by simp only[Rep];rw[rs'.length])⟩
   rcases h with h|h
   ·exact .inl ⟨us,.inl h,rfl⟩
   ·exact .inr ⟨us,.inl h,rfl⟩
  ·split at P
   ·rename_i kvs hd
    obtain⟨n,a,ps,rfl,rfl,ha,hH,rk⟩:=zjC S.st r hd
    exact .inr ⟨a,ps,rfl,hH,P.done S (by simp only[Rep];rw[rk.length])⟩
   ·exact P.elim
 ·exact P.elim
def zr3(K:PySem.W.Frag):List V->Hp->VK->Prop:=fun xs H Q=>znc K xs H Q\/∃(a:Addr) (kvs:List (Key×V)) (ns:List Int),xs=[.ref a]/\Rd H a (.dK kvs)/\kvs.map (·.1)=ns.map Sum.inl/\ns.length<64 /\
  ∀ms:List Int,ms.Perm ns->ms.Pairwise (·<=·)->∀l,H l=none->Q (.ref l) (upd H l (.lst (ms.map V.int)))
theorem zjN{K:PySem.W.Frag}(hc:X.calm=true:=by rfl)(hK:X.K=K:=by rfl):CallR X (.builtin "sorted") (zr3 K):=by subst hK;exact CallR.or zgZ (zgj hc)
theorem RepKV.keys{kvs:List (Key×W)}{ps:List (Key×V)}(r:RepKV F as kvs ps):ps.map (·.1)=kvs.map (·.1):=by
 induction r with
 | nil=>rfl
 | cons h t ih=>rw[List.map_cons,List.map_cons,ih,h.1]
theorem zjO{mk:List W->M W}(K:PySem.W.Frag)(hm:MkL G E mk):Bi G E (zr3 K) (za3 mk):=by
 intro F as H σ sl ce ws vs Q S rs P
 unfold za3 at P
 split at P
 ·rename_i w
  obtain⟨v,rfl,r⟩:=zbD rs
  split at P
  ·rename_i xs hx
   split at P
   ·rename_i ns hi
    split at P
    ·rename_i h64
     obtain⟨a,us,rfl,h,rs'⟩:=zcu S.st r hx
     cases zhO hi
     cases rs'.of_ints
     refine .inl ⟨a,ns,rfl,.inl h,h64,fun ms p s l hl=>?_⟩
     rw[zmf p s]
     exact(hm S (Reps.ints (srt ns)) P).2 l hl
    ·exact P.elim
   ·exact P.elim
  ·split at P
   ·rename_i kvs hd
    split at P
    ·rename_i ns hk
     split at P
     ·rename_i h64
      obtain⟨n,a,ps,rfl,rfl,ha,hH,rk⟩:=zhG S.st r hd
      refine .inr ⟨a,ps,ns,rfl,hH,by rw[rk.keys];exact zfu hk,h64,fun ms p s l hl=>?_⟩
      rw[zmf p s]
      exact(hm S (Reps.ints (srt ns)) P).2 l hl
     ·exact P.elim
    ·exact P.elim
   ·exact P.elim
 ·exact P.elim
def zpk(K:PySem.W.Frag):List V->Hp->VK->Prop:=fun xs H Q=>znd K xs H Q\/∃(a:Addr) (kvs:List (Key×V)) (ns:List Int),xs=[.ref a]/\Rd H a (.dK kvs)/\kvs.map (·.1)=ns.map Sum.inl/\∀l,H l=none->Q (.ref l) (upd H l (.lst (ns.map V.int)))
theorem zmg{K:PySem.W.Frag}(hc:X.calm=true:=by rfl)(hK:X.K=K:=by rfl):CallR X (.type "list") (zpk K):=by subst hK;exact CallR.or zge (ziv hc)
theorem zmh{mk:List W->M W}(K:PySem.W.Frag)(hm:MkL G E mk):Bi G E (zpk K) (ziC mk):=by
 intro F as H σ sl ce ws vs Q S rs P
 unfold ziC at P
 split at P
 ·rename_i w
  obtain⟨v,rfl,r⟩:=zbD rs
  split at P
  ·rename_i xs hx
   obtain⟨a,us,rfl,h,rs'⟩:=zfp S.st r hx
   exact .inl ⟨a,us,rfl,h.imp .inl .inl,(hm S rs' P).2⟩
  ·split at P
   ·rename_i kvs hd
    split at P
    ·rename_i ns hk
     obtain⟨n,a,ps,rfl,rfl,ha,hH,rk⟩:=zhG S.st r hd
     exact .inr ⟨a,ps,ns,rfl,hH,by rw[rk.keys];exact zfu hk,(hm S (Reps.ints ns) P).2⟩
    ·exact P.elim
   ·exact P.elim
 ·exact P.elim
theorem zcw(K:PySem.W.Frag):Bi G E (zl2 K) zbi:=by
 intro F as H σ sl ce ws vs Q S rs P
 unfold zbi at P
 split at P
 ·rename_i xs
  obtain⟨v,rfl,r⟩:=zbD rs
  have r':=r
  simp only[Rep] at r
  obtain⟨a,us,rfl,h,rs'⟩:=r
  exact⟨a,us,rfl,.inr ⟨.inl (.inl (S.st.sub _ _ h)),P.done S r'⟩⟩
 ·rename_i w _
  obtain⟨v,rfl,r⟩:=zbD rs
  split at P
  ·rename_i xs hx
   obtain⟨a,us,rfl,h,rs'⟩:=zcu S.st r hx
   exact⟨a,us,rfl,.inl ⟨.inl h,(zg5 S rs' P).2⟩⟩
  ·exact P.elim
 ·exact P.elim
end
end
end VS
namespace VS
open PySem PySem.Spec PyProof.Rows L2
section
section
variable {X:Cx} {G:Ga} {E:XK} {x:Str} {p pos:Pos} {e:Expr} {es:List Expr} {dr:Sl->M (List W)} {id T:String} {r:List V->Hp->VK->Prop} {f:List W->M W}
theorem zaJ(hc:CallR X (.builtin id) r)(hf:Bi G E r f)(hg:Gl X x)(hm:X.mg x=none)(hv:bootBuiltins x=some (.builtin id))(ha:PA X (e::es) (zfn G E dr))(hn:x ≠ "__name__" := by decide)(hdb:(x==("__debug__" : Str))=false:=by decide)(he:starEach (e::es) X.env=(false,eval e X.env)::starEach es X.env:=by rfl)(hpl:(backTo pos (starEach es X.env)).any (·.1)=false:=by rfl):PE X (.Call (.Name x p) (e::es) [] pos) (zax G E (dBi f dr)) :=
 PE.imp (zk0 hc hg hm hv ha hn hdb he hpl) fun σ H Q zz_=>el6 zz_ fun F as sl ce S P=>(step (RP:=Reps) S P).mono fun vs H1 zz_=>el8 zz_ fun ws F1 as1 ce1 l1 S1 rs P1=>hf F1 as1 H1 σ sl ce1 ws vs Q S1 rs P1
theorem za9(hc:CallR X (.type T) r)(hf:Bi G E r f)(hg:Gl X x)(hm:X.mg x=none)(hv:bootBuiltins x=some (.type T))(ha:PA X (e::es) (zfn G E dr))(hn:x ≠ "__name__" := by decide)(hdb:(x==("__debug__" : Str))=false:=by decide)(he:starEach (e::es) X.env=(false,eval e X.env)::starEach es X.env:=by rfl)(hpl:(backTo pos (starEach es X.env)).any (·.1)=false:=by rfl):PE X (.Call (.Name x p) (e::es) [] pos) (zax G E (dBi f dr)) :=
 PE.imp (zgd hc hg hm hv ha hn hdb he hpl) fun σ H Q zz_=>el6 zz_ fun F as sl ce S P=>(step (RP:=Reps) S P).mono fun vs H1 zz_=>el8 zz_ fun ws F1 as1 ce1 l1 S1 rs P1=>hf F1 as1 H1 σ sl ce1 ws vs Q S1 rs P1
open Classical in
def zfv(mk:List W->M W):List W->M W:=fun ws ce=>match ziX ws with
 | some (.rng lo n)=>if n<=sizeLine then mk ((List.range n).map fun(i:Nat)=>W.int (lo+(i:Int))) ce else none
 | _=>none
theorem Reps.rng{F:Hp}{as:List Addr}(lo:Int):∀(l:List Nat),Reps F as (l.map fun(i:Nat)=>W.int (lo+(i:Int))) (l.map fun(i:Nat)=>V.int (lo+(i:Int)))
 | []=>.nil
 | a::r=>.cons (by simp only[Rep]) (Reps.rng lo r)
theorem zjP{a:Expr}{p2 pos2:Pos}{mk:List W->M W}(hmk:MkL G E mk)(hc:X.calm=true)(hgl:Gl X "list")(hml:X.mg "list" = none)(hg:Gl X "range")(hm:X.mg "range" = none)(ha:PA X [a] (zfn G E dr))(hs:starEach [a] X.env=[(false,eval a X.env)]:=by rfl)(he:starEach [.Call (.Name "range" p2) [a] [] pos2] X.env=[(false,eval (.Call (.Name "range" p2) [a] [] pos2) X.env)]:=by rfl) :
  PE X (.Call (.Name "list" p) [.Call (.Name "range" p2) [a] [] pos2] [] pos) (zax G E (dBi (zfv mk) dr)):=by
 refine PE.imp (zgd (zgk hc) hgl hml boot_list (zjd (zju hg hm ha hs) zlZ (by rw[he];rfl)) (by decide) (by decide) (by rw[he];rfl) rfl) fun σ H Q zz_=>el6 zz_ fun F as sl ce S P=>(step (RP:=Reps) S P).mono fun vs H1 zz_=>el8 zz_ fun ws F1 as1 ce1 l1 S1 rs P1=>?_
 unfold zfv at P1
 split at P1
 ·rename_i lo n hr
  unfold ziX at hr
  split at hr
  ·rename_i j
   split at hr
   ·rename_i hj
    cases hr
    split at P1
    ·rename_i hz
     obtain⟨v,rfl,r1⟩:=zbD rs
     simp only[Rep] at r1
     subst r1
     refine⟨j,rfl,fun q hq=>?_⟩
     refine⟨q,0,j,rfl,zaH,by omega,by omega,by omega,by omega,by rw[Int.sub_zero];exact hz,fun l hl=>?_⟩
     rw[Int.sub_zero]
     obtain⟨S2,l2⟩:=S1.st.freeze (o:=.rng 0 j) hq
     exact(hmk (S1.slots S2 l2) (Reps.rng 0 _) (P1.le l2)).2 l hl
    ·exact(show False from P1).elim
   ·cases hr
  ·cases hr
 ·exact(show False from P1).elim
def zkO(ce:Ce)(w:W):Option Unit:=(zdV ce w).map fun _=>()
def dMt(f:W->List W->M W)(o:Sl->M W)(args:Sl->M (List W)):Sl->M W:=fun sl=>bnd (o sl) fun x=>bnd (look fun ce=>zkO ce x) fun _=>bnd (args sl) fun ws=>f x ws
def Mt(G:Ga)(E:XK)(r:V->List V->Hp->VK->Prop)(f:W->List W->M W):Prop:=∀F as H σ sl ce w v ws vs Q,SR G F as H σ sl ce->Rep F as w v->Reps F as ws vs->Post G E Rep F as σ sl Q (f w ws ce)->r v vs H Q
variable {o:Expr} {name:Str} {apos cpos:Pos} {do':Sl->M W} {rm:V->List V->Hp->VK->Prop} {fm:W->List W->M W}
theorem zgx{F:Hp}{as:List Addr}{σ:VS.St}{sl:Sl}{ce:Ce}{Q:VK}{w:W}{k:Unit->M W}(P:Post G E Rep F as σ sl Q (bnd (look fun ce=>zkO ce w) k ce)):∃xs,zdV ce w=some xs/\Post G E Rep F as σ sl Q (k () ce):=by
 revert P
 simp only[bnd,look,zkO]
 cases zdV ce w with
 | none=>exact fun P=>P.elim
 | some xs=>exact fun P=>⟨xs,rfl,P⟩
theorem zdB(slot:Slot "list" name id)(hty:typeOf (.builtin id)=pure (.type "method_descriptor"))(hm:MtR X id rm)(hf:Mt G E rm fm)(ho:PE X o (zax G E do'))(ha:PA X (e::es) (zfn G E dr))(hbase:attributeBase o name X.env (eval o X.env)=eval o X.env:=by rfl)(hfew:((backTo cpos (starEach (e::es) X.env)).all (fun x=>!x.1)&&(backToKw cpos (keywordEach [] X.env)).all (fun x=>x.1.isSome)
   && decide ((e::es).length+([]:List Keyword).length+(if ([]:List Keyword).isEmpty then 0 else 1)<30))=true:=by rfl)(hline:(apos.endLine==cpos.line)=true:=by rfl)(hs:starEach (e::es) X.env=(false,eval e X.env)::starEach es X.env:=by rfl)(hplain:(backTo cpos (starEach es X.env)).any (·.1)=false:=by rfl) :
  PE X (.Call (.Attribute o name apos) (e::es) [] cpos) (zax G E (dMt fm do' dr)):=by
 refine PE.imp (zra PySem.F.plainAttrs_list slot hty hm ho ha hbase hfew hline hs hplain) fun σ H Q zz_=>el6 zz_ fun F as sl ce S P=>(step S P).mono fun x H1 zz_=>el8 zz_ fun wx F1 as1 ce1 l1 S1 rx P1=>?_
 obtain⟨xs,hx,P2⟩:=zgx P1
 obtain⟨a,us,rfl,h,_⟩:=zcu S1.st rx hx
 refine⟨.inl ⟨rfl,us,.inl h⟩,(step (RP:=Reps) S1 P2).mono fun vs H2 zz_=>el8 zz_ fun ws F2 as2 ce2 l2 S2 rs P3=>?_⟩
 exact hf F2 as2 H2 σ sl ce2 wx _ ws vs Q S2 (rx.le l2) rs P3
def zpl(f:W->List W->M W)(o:Sl->M W):Sl->M W:=fun sl=>bnd (o sl) fun x=>bnd (look fun ce=>zkO ce x) fun _=>f x []
theorem zpm(slot:Slot "list" name id)(hty:typeOf (.builtin id)=pure (.type "method_descriptor"))(hm:MtR X id rm)(hf:Mt G E rm fm)(ho:PE X o (zax G E do'))(hbase:attributeBase o name X.env (eval o X.env)=eval o X.env:=by rfl)(hline:(apos.endLine==cpos.line)=true:=by rfl):PE X (.Call (.Attribute o name apos) [] [] cpos) (zax G E (zpl fm do')):=by
 refine PE.imp (zoU PySem.F.plainAttrs_list slot hty hm ho hbase hline) fun σ H Q zz_=>el6 zz_ fun F as sl ce S P=>(step S P).mono fun x H1 zz_=>el8 zz_ fun wx F1 as1 ce1 l1 S1 rx P1=>?_
 obtain⟨xs,hx,P2⟩:=zgx P1
 obtain⟨a,us,rfl,h,_⟩:=zcu S1.st rx hx
 exact⟨.inl ⟨rfl,us,.inl h⟩,hf F1 as1 H1 σ sl ce1 wx _ [] [] Q S1 rx Reps.nil P2⟩
open Classical in
def zeK:W->List W->M W:=fun w ws ce=>match zjK ce w,ws with
 | some (k,xs),[y]=>if xs.length<sizeLine then some (.ok .non (ce.set k (.lst (xs++[y])))) else none
 | _,_=>none
def zpn:W->List W->M W:=fun w ws ce=>match zjK ce w,ws with
 | some (k,xs),[]=>match xs[xs.length-1]? with
  | some y=>some (.ok y (ce.set k (.lst xs.dropLast)))
  | none=>none
 | _,_=>none
open Classical in
def znx:W->List W->M W:=fun w ws ce=>match zjK ce w,ws with
 | some (k,xs),[y]=>match zdV ce y with
  | some ys=>if xs.length+ys.length<=sizeLine then some (.ok .non (ce.set k (.lst (xs++ys)))) else none
  | none=>none
 | _,_=>none
theorem zfw:Mt G E zjj zeK:=by
 intro F as H σ sl ce w v ws vs Q S rw' rs P
 unfold zeK at P
 split at P
 ·rename_i k xs y hk
  split at P
  ·rename_i hl
   obtain⟨a,us,rfl,ha,hH,r⟩:=zdc S.st rw' hk
   obtain⟨u,rfl,ry⟩:=zbD rs
   refine⟨a,us,u,rfl,rfl,hH,by rw[r.length];exact hl,?_⟩
   exact P .non _ F as .refl (S.slots (S.st.write (o:=.lst (us++[u])) (c:=.lst (xs++[y])) ha ⟨_,zaH,r.append (.cons ry .nil)⟩) .refl) (by simp only[Rep])
  ·exact(show False from P).elim
 ·exact(show False from P).elim
theorem zrA:Mt G E zrY zpn:=by
 intro F as H σ sl ce w v ws vs Q S rw' rs P
 unfold zpn at P
 split at P
 ·rename_i k xs hk
  split at P
  ·rename_i y hy
   obtain⟨a,us,rfl,ha,hH,r⟩:=zdc S.st rw' hk
   simp only[Reps] at rs
   obtain⟨u,hu,ru⟩:=r.get hy
   refine⟨a,us,u,rfl,rs,hH,by rw[r.length];exact hu,?_⟩
   exact P u _ F as .refl (S.slots (S.st.write (o:=.lst us.dropLast) (c:=.lst xs.dropLast) ha ⟨_,zaH,r.dropLast⟩) .refl) ru
  ·exact(show False from P).elim
 ·exact(show False from P).elim
def zpo:V->List V->Hp->VK->Prop:=fun x vs H Q=>∃l b xs zs,x=.ref l/\vs=[.ref b]/\H l=some (.lst xs)/\Rd H b (.lst zs)/\xs.length+zs.length<=sizeLine/\Q .non (upd H l (.lst (xs++zs)))
theorem zg8:MtR X "list.extend" zpo:=by
 intro pins s σ H x vs v us Q I rx rv h
 obtain⟨l,b,xs,zs,rfl,rfl,hH,hB,hz,q⟩:=h
 cases rx
 obtain⟨u,rfl,ru⟩:=rv.one
 cases ru
 obtain⟨z,its,n,r,hl,e⟩:=I.lstM hH
 obtain⟨z2,its2,n2,r2,hl2,e2⟩:=Inv.lstR I hB
 have hsz:its.toArray.size+its2.toArray.size<=sizeLine:=by rw[List.size_toArray,List.size_toArray];omega
 have hlong:¬(!its.toArray.isEmpty&&Builtin.List.listTooLong (its.toArray.size+its2.toArray.size))=true:=by
  rw[zhw hsz,Bool.and_false]
  exact Bool.false_ne_true
 refine call_meets F.slot_list_extend ⟨_,e,rfl⟩ F.entry_list_extend (F.args_list_extend_2 _ _)
  (AutoSeq1.list_extend_list_list_0 l its.toArray n b its2.toArray n2 hlong (by rw[List.size_toArray];omega) (by omega)) ⟨e,e2,?_⟩
 refine⟨.non,_,I.lset (its':=its++its2) hH e (by simp) (r.append r2) ?_,rfl,q⟩
 rw[List.length_append]
 omega
theorem zny:Mt G E zpo znx:=by
 intro F as H σ sl ce w v ws vs Q S rw' rs P
 unfold znx at P
 split at P
 ·rename_i k xs y hk
  split at P
  ·rename_i ys hy
   split at P
   ·rename_i hl
    obtain⟨a,us,rfl,ha,hH,r⟩:=zdc S.st rw' hk
    obtain⟨u,rfl,ry⟩:=zbD rs
    obtain⟨b,zs,rfl,hb,r2⟩:=zcu S.st ry hy
    refine⟨a,b,us,zs,rfl,rfl,hH,hb,by rw[r.length,r2.length];exact hl,?_⟩
    exact P .non _ F as .refl (S.slots (S.st.write (o:=.lst (us++zs)) (c:=.lst (xs++ys)) ha ⟨_,zaH,r.append r2⟩) .refl) (by simp only[Rep])
   ·exact(show False from P).elim
  ·exact(show False from P).elim
 ·exact(show False from P).elim
variable {a b:Expr} {da db:Sl->M W}
open Classical in
def zpp(mk:List W->M W)(xs:List W)(y:W):M W:=fun ce=>match y with
 | .int k=>@ite _ (-9223372036854775808<=k/\k<9223372036854775808/\xs.length*k.toNat<=sizeLine) (Classical.propDecidable _) (mk (List.replicate k.toNat xs).flatten ce) none
 | _=>none
open Classical in
def zqv(n:Nat):M Unit:=fun ce=>if n<=sizeLine then some (.ok () ce) else none
def zeO(mk:List W->M W)(a:Sl->M (List W))(b:Sl->M W):Sl->M W:=fun sl=>bnd (a sl) fun xs=>bnd (zqv xs.length) fun _=>bnd (b sl) fun y=>zpp mk xs y
theorem zg9{mk:List W->M W}{es:List Expr}{ds:Sl->M (List W)}{lpos:Pos}(hm:MkL G E mk)(ha:PA X es (zfn G E ds))(hb:PE X b (zax G E db)):PE X (.BinOp (.List es lpos) .Mult b pos) (zax G E (zeO mk ds db)):=by
 refine PE.imp (zkU zoW (zje ha) hb) fun σ H Q zz_=>el6 zz_ fun F as sl ce S P=>(step (RP:=Reps) S P).mono fun vs H1 zz_=>el8 zz_ fun ws F1 as1 ce1 l1 S1 rs P1=>?_
 have q:ws.length<=sizeLine/\Post G E Rep F1 as1 σ sl Q (bnd (db sl) (fun y=>zpp mk ws y) ce1):=by
  revert P1
  unfold zqv
  by_cases hl:ws.length<=sizeLine
  ·simp only[bnd,if_pos hl];exact fun P=>⟨hl,P⟩
  ·simp only[bnd,if_neg hl];exact fun P=>P.elim
 obtain⟨hlen,P1⟩:=q
 rw[<- rs.length] at hlen
 refine⟨hlen,fun p hp=>?_⟩
 obtain⟨S2,l2⟩:=S1.st.freeze (o:=.lst vs) hp
 refine(step (S1.slots S2 l2) (P1.le l2)).mono fun y H2 zz_=>el8 zz_ fun wy F2 as2 ce2 l3 S3 ry P2=>?_
 unfold zpp at P2
 cases wy<;>first|exact(show False from P2).elim|skip
 rename_i k
 dsimp only at P2
 split at P2
 ·rename_i hk
  simp only[Rep] at ry
  refine⟨p,k,vs,rfl,ry,S3.st.sub _ _ (l3.f _ _ zaH),by omega,by omega,by rw[rs.length];exact hk.2.2,?_⟩
  exact(hm S3 (((rs.le l2).le l3).rep k.toNat) P2).2
 ·exact(show False from P2).elim
theorem zle{i:Int}(hg:Gl X x)(hm:∃t,X.mg x=some (.int i t))(hd:(x==("__debug__" : Str))=false:=by decide):PE X (.Name x pos) (zax G E (dC (.int i))):=by
 obtain⟨t,hm⟩:=hm
 exact zo3 (zmS (v:=.int i) hg hm ⟨t,rfl⟩ hd) rfl
end
end
end VS
namespace VS
open PySem PySem.Spec PyProof.Rows L2
section
section
variable {X:Cx} {G:Ga} {E:XK} {a b:Expr} {da db:Sl->M W} {pos:Pos}
def zgS:W->W->Option W:=i2 fun i j=>.bl (decide (i=j))
def zmi:W->W->Option W:=i2 fun i j=>.bl (!decide (i=j))
theorem zmj:Sc2 rEq zgS:=by
 intro x y w e
 cases x<;>cases y<;>simp only[zgS,i2,Option.some.injEq,reduceCtorEq] at e
 subst e
 exact⟨_,_,_,rfl,rfl,rfl,fun H Q hq=>⟨rfl,by simpa using hq⟩⟩
theorem zpq:Sc2 rNe zmi:=by
 intro x y w e
 cases x<;>cases y<;>simp only[zmi,i2,Option.some.injEq,reduceCtorEq] at e
 subst e
 exact⟨_,_,_,rfl,rfl,rfl,fun H Q hq=>⟨rfl,by simpa using hq⟩⟩
theorem zhP(ha:PE X a (zax G E da))(hb:PE X b (zax G E db)):PE X (.Compare a [.Eq] [b] pos) (zax G E (dOp zgS da db)):=zhB zoM zmj ha hb (zb4 _)
theorem zgy(ha:PE X a (zax G E da))(hb:PE X b (zax G E db)):PT X (.Compare a [.Eq] [b] pos) (zck G E (dB (dOp zgS da db))):=zgo zoM ha hb (zb4 _) (zb1 (zgp zmj))
theorem zjQ(ha:PE X a (zax G E da))(hb:PE X b (zax G E db)):PT X (.Compare a [.NotEq] [b] pos) (zck G E (dB (dOp zmi da db))):=zgo zqW ha hb (zb4 _) (zb1 (zgp zpq))
def zgz(k v:Sl->M W):Sl->M W:=fun sl ce=>match bnd (k sl) (fun kw=>bnd (v sl) fun vw=>ret (kw,vw)) (ce++[.dct []]) with
 | some (.ok (kw,vw) ce2)=>match ziV kw,ce2[ce.length]? with
  | some key,some (.dct [])=>some (.ok (.cel ce.length) (ce2.set ce.length (.dct [(key,vw)])))
  | _,_=>none
 | some (.ex x ce2)=>some (.ex x ce2)
 | none=>none
theorem zlf{k v:Expr}{dk dv:Sl->M W}(hk:PE X k (zax G E dk))(hv:PE X v (zax G E dv)):PE X (.Dict [some k] [v] pos) (zax G E (zgz dk dv)):=by
 refine PE.imp (zni (zk8 hk hv znh) rfl rfl (by intro h;cases h) (by simp)) fun σ H Q zz_=>el6 zz_ fun F as sl ce S P=>?_
 intro p hp
 obtain⟨S1,l1⟩:=S.st.alloc (o:=.dK []) (c:=.dct []) hp (fun as' l=>⟨[],zaH,.nil⟩)
 have hlen:as.length=ce.length:=S.st.len
 have P':Post G E (fun F as (a:W×W) (b:V×V)=>Rep F as a.1 b.1/\Rep F as a.2 b.2) F (as++[p]) σ sl (fun b H2=>H2 p=some (.dK [])/\∃kvs:List (Key×V),[b]=kvs.map (fun kv=>(kV kv.1,kv.2))/\kvs.length<=15/\Q (.ref p) (upd H2 p (.dK (zeg [] kvs))))
   (bnd (dk sl) (fun kw=>bnd (dv sl) fun vw=>ret (kw,vw)) (ce++[.dct []])):=by
  unfold zgz at P
  cases e:bnd (dk sl) (fun kw=>bnd (dv sl) fun vw=>ret (kw,vw)) (ce++[.dct []]) with
  | none=>rw[e] at P;exact P.elim
  | some r=>cases r with
   | ex x ce2=>rw[e] at P;exact fun H' F' as' cv od l=>P H' F' as' cv od (l1.trans l)
   | ok a ce2 =>
    obtain⟨kw,vw⟩:=a
    rw[e] at P
    dsimp only at P
    split at P
    ·rename_i key hkey hcell
     intro b H' F' as' l S' r
     obtain⟨kv,vv⟩:=b
     have hp':as'[ce.length]?=some p:=l.c _ _ (by rw[<- hlen];simp)
     obtain⟨_,ps,h2,rk⟩:=S'.st.cell _ _ _ hp' hcell
     cases rk
     have rput:RepKV F' as' [(key,vw)] [(key,vv)]:=.cons ⟨rfl,r.2⟩ .nil
     refine⟨h2,[(key,vv)],?_,by simp,?_⟩
     ·simp only[List.map_cons,List.map_nil];rw[show kv=kV key from zg4 r.1 hkey]
     ·exact P (.ref p) _ F' as' (l1.trans l) (S'.slots (S'.st.write (o:=.dK (zeg [] [(key,vv)])) (c:=.dct [(key,vw)]) hp' ⟨_,zaH,rput⟩) .refl) (by simp only[Rep];exact⟨p,rfl,hp'⟩)
    ·exact P.elim
 refine(step (S.slots S1 l1) P').mono fun x H1 zz_=>el8 zz_ fun wx F1 as1 ce1 l2 S2 rx P1=>(step S2 P1).mono fun y H2 zz_=>el8 zz_ fun wy F2 as2 ce2 l3 S3 ry P2=>?_
 exact Post.done (RP:=fun F as (a:W×W) (b:V×V)=>Rep F as a.1 b.1/\Rep F as a.2 b.2) (a:=(wx,wy)) (b:=(x,y)) S3 P2 ⟨rx.le l3,ry⟩
end
end
end VS
namespace VS
open PySem PySem.Spec PyProof.Rows L2
section
def noL(K:PySem.W.Frag):Bool:=K.all fun p=>match p.2.cls with
 | .type "list" => false
 | _=>true
theorem zpr{K:PySem.W.Frag}(h:noL K=true){a:Addr}{o:Obj}(e:K.lookup a=some o):o.cls≠.type "list" := by
 intro hc
 have hm:∀{l:PySem.W.Frag},l.lookup a=some o->(a,o)∈l:=by
  intro l
  induction l with
  | nil=>intro e;cases e
  | cons p r ih =>
   intro e
   obtain⟨b,q⟩:=p
   by_cases hb:a=b
   ·subst hb
    have:List.lookup a ((a,q)::r)=some q:=by simp[List.lookup]
    rw[this] at e;cases e;exact List.mem_cons_self
   ·have:List.lookup a ((b,q)::r)=List.lookup a r:=by
     have hb':(a==b)=false:=by simpa using hb
     simp[List.lookup,hb']
    rw[this] at e
    exact List.mem_cons_of_mem _ (ih e)
 have:=List.all_eq_true.mp h _ (hm e)
 simp only[hc] at this
 cases this
def spLaw(G:PySem.W.Frag->Ga)(d:List W->M W)(K:PySem.W.Frag):Sp:=fun vs H Q E=>noL K=true->spV (G K) (fun _=>E0) 1 d vs H Q E
theorem law_sp{G:PySem.W.Frag->Ga}{d:List W->M W}{n:Nat}(main:∀ns:List Int,ns.length<=n->∃ce',d [.lst (ns.map W.int)] []=some (.ok (.bl true) ce'))(K:PySem.W.Frag)(H:Hp)(a:Addr)(ns:List Int)(hl:ns.length<=n)(_hO:zoX H)(hS:SqL K H a (ns.map V.int)):spLaw G d K [.ref a] H (fun v _=>v=.bl true) fun _ _ _=>False:=by
 intro nl
 rcases hS with hS|⟨o,its,m,hk,hc,_⟩
 ·obtain⟨ce',e⟩:=main ns hl
  refine⟨rfl,H,[],[.lst (ns.map W.int)],[],⟨fun _ _ h=>h,by simp,rfl,fun k a c h _=>by simp at h⟩,.cons (by simp only[Rep];exact⟨a,_,rfl,hS,Reps.ints ns⟩) .nil,?_⟩
  rw[e]
  intro v H' F' as' _ _ r
  simpa only[Rep] using r
 ·exact absurd hc (zpr nl hk)
section
variable {α β:Type}
theorem zbY{m:M α}{f:α->M β}{ce ce':Ce}{a:α}(h:m ce=some (.ok a ce')):bnd m f ce=f a ce':=by simp only[bnd,h]
theorem zjR{a b:DS}{sl sl':Sl}{ce ce':Ce}(h:a sl ce=some (.go .nx sl' ce')):zaA a b sl ce=b sl' ce':=by simp only[zaA,h]
theorem znz{a b:DS}{sl sl':Sl}{ce ce':Ce}{w:W}(h:a sl ce=some (.go (.rt w) sl' ce')):zaA a b sl ce=some (.go (.rt w) sl' ce'):=by simp only[zaA,h]
end
section
variable {ce l:Ce} {c:C} {n:Nat}
theorem zqw(ce l:Ce)(j:Nat):(ce++l)[ce.length+j]?=l[j]?:=by rw[List.getElem?_append_right (Nat.le_add_right _ _),Nat.add_sub_cancel_left]
theorem zps(ce l:Ce):(ce++l)[ce.length]?=l[0]?:=zqw ce l 0
theorem zr4(ce l:Ce)(j:Nat)(c:C):(ce++l).set (ce.length+j) c=ce++l.set j c:=by rw[List.set_append_right _ _ (Nat.le_add_right _ _),Nat.add_sub_cancel_left]
theorem zrB(ce l:Ce)(c:C):(ce++l).set ce.length c=ce++l.set 0 c:=zr4 ce l 0 c
theorem cutOk_app(ce l:Ce):zft ce (ce++l):=⟨by rw[List.length_append];omega,fun k c hk h=>.inl (by rwa [List.getElem?_append_left hk] at h)⟩
theorem zfx(ce l:Ce):(ce++l).take ce.length=ce:=List.take_left
theorem belInts(n:Nat):∀ns:List Int,zc9 n (ns.map W.int)
 | []=>by simp only[List.map_nil,zc9]
 | a::r=>by simp only[List.map_cons,zc9,Bel];exact⟨trivial,belInts n r⟩
end
theorem zlg{ce l:Ce}{j:Nat}{c:C}(h:l[j]?=some c)(hb:zf5 ce.length c):finO ce (ce++l) (.cel (ce.length+j))=some (.ok (.cel ce.length) (ce++[c])):=by
 have e:(ce++l)[ce.length+j]?=some c:=by rw[zqw];exact h
 simp only[finO,e]
 rw[if_pos ⟨cutOk_app ce l,Nat.le_add_right _ _,hb⟩,zfx]
theorem zfy{ce l:Ce}{w:W}(hb:Bel ce.length w):finC ce (ce++l) w=some (.ok w ce):=by
 unfold finC
 rw[if_pos ⟨cutOk_app ce l,hb⟩,zfx]
theorem zaO{ce:Ce}{w:W}(hb:Bel ce.length w):finC ce ce w=some (.ok w ce):=by
 have:=zfy (l:=[]) hb
 rwa [List.append_nil] at this
theorem zbE{d:List W->M W}{ws:List W}{ce:Ce}{xs:List W}(h:d ws ce=some (.ok (.cel ce.length) (ce++[.lst xs])))(hb:zc9 ce.length xs):zce d ws ce=some (.ok (.lst xs) ce):=by
 have e:(ce++[C.lst xs])[ce.length]?=some (.lst xs):=by rw[zps];rfl
 simp only[zce,h,e]
 rw[if_pos ⟨cutOk_app ce _,rfl,hb⟩,zfx]
end
end VS
namespace VS
open PySem PySem.Spec PyProof.Rows L2
end VS
namespace VS
open L2
section
variable {α β:Type}
@[simp] theorem zlh(m:M α)(f:α->M β)(ce:Ce):bnd m f ce=match m ce with|some (.ok a ce')=>f a ce'|some (.ex x ce')=>some (.ex x ce')|none=>none:=rfl
@[simp] theorem zrC(m:Option (R α))(k:α->Ce->Option O):lft m k=match m with|some (.ok a ce')=>k a ce'|some (.ex x ce')=>some (.ex x ce')|none=>none:=rfl
@[simp] theorem zpt(a:α)(ce:Ce):ret a ce=some (.ok a ce):=rfl
@[simp] theorem zmk(f:Ce->Option α)(ce:Ce):look f ce=(f ce).map fun a=>R.ok a ce:=rfl
end
variable (a b c:Sl->M W) (ta tb:Sl->M Bool) (s t:DS) (sl:Sl) (ce:Ce) (i:Nat) (w:W)
@[simp] theorem zhQ:zag i sl ce=match sl[i]? with|some (some w)=>some (.ok w ce)|_=>none:=rfl
@[simp] theorem ztj:dC w sl ce=some (.ok w ce):=rfl
@[simp] theorem zsX(f:W->W->Option W):dOp f a b sl ce=bnd (a sl) (fun x=>bnd (b sl) fun y=>look fun _=>f x y) ce:=rfl
@[simp] theorem zpu(f:Ce->W->W->Option W):zaI f a b sl ce=bnd (a sl) (fun x=>bnd (b sl) fun y=>look fun ce=>f ce x y) ce:=rfl
@[simp] theorem zsY(f:W->Option W):dUn f a sl ce=bnd (a sl) (fun x=>look fun _=>f x) ce:=rfl
@[simp] theorem ztk:dB a sl ce=bnd (a sl) (fun w=>look fun _=>match w with|.bl b=>some b|_=>none) ce:=rfl
@[simp] theorem zr5:zkM a sl ce=bnd (a sl) (fun w=>look fun ce=>zg2 ce w) ce:=rfl
@[simp] theorem zrD:zei ta tb sl ce=bnd (ta sl) (fun x=>match x with|true=>tb sl|false=>ret false) ce:=rfl
@[simp] theorem zr6:zl6 ta tb sl ce=bnd (ta sl) (fun x=>match x with|true=>ret true|false=>tb sl) ce:=rfl
@[simp] theorem zrE:zfq ta sl ce=bnd (ta sl) (fun x=>ret (!x)) ce:=rfl
@[simp] theorem zr7:zaA s t sl ce=match s sl ce with|some (.go .nx sl' ce')=>t sl' ce'|r=>r:=rfl
@[simp] theorem zrF:za4 sl ce=some (.go .nx sl ce):=rfl
@[simp] theorem zr8:zbf i a sl ce=lft (a sl ce) fun w ce'=>some (.go .nx (sl.set i (some w)) ce'):=rfl
@[simp] theorem zr9:zbB a sl ce=lft (a sl ce) fun w ce'=>some (.go (.rt w) sl ce'):=rfl
@[simp] theorem zrG:dEx a sl ce=lft (a sl ce) fun _ ce'=>some (.go .nx sl ce'):=rfl
@[simp] theorem zsZ:dIf ta s t sl ce=lft (ta sl ce) fun x ce'=>match x with|true=>s sl ce'|false=>t sl ce':=rfl
@[simp] theorem zml:zan sl ce=some (.ok [] ce):=rfl
@[simp] theorem zjS(r:Sl->M (List W)):zae a r sl ce=bnd (a sl) (fun x=>bnd (r sl) fun xs=>ret (x::xs)) ce:=rfl
@[simp] theorem zrH(f:List W->M W)(r:Sl->M (List W)):dBi f r sl ce=bnd (r sl) f ce:=rfl
@[simp] theorem zrI(n:Nat)(f:List W->M W)(r:Sl->M (List W)):zay n f r sl ce=bnd (r sl) (fun ws=>if ws.length=n then f ws else ziw) ce:=rfl
@[simp] theorem zsa(r:Sl->M (List W)):zbU r sl ce=bnd (r sl) (fun xs=>mkF (.tup xs) xs.length) ce:=rfl
@[simp] theorem zsb(r:Sl->M (List W)):zeI r sl ce=bnd (r sl) (fun xs=>mkF (.lst xs) xs.length) ce:=rfl
@[simp] theorem zrJ(r:Sl->M (List W)):zb5 r sl ce=bnd (r sl) (fun xs=>mkC (.lst xs) xs.length) ce:=rfl
@[simp] theorem zrK:ziz sl ce=mkC (.dct []) 0 ce:=rfl
@[simp] theorem zs0{n:Nat}(h:n<=PySem.sizeLine):mkF w n ce=some (.ok w ce):=if_pos h
@[simp] theorem zs1(c:C){n:Nat}(h:n<=PySem.sizeLine):mkC c n ce=some (.ok (.cel ce.length) (ce++[c])):=if_pos h
@[simp] theorem zjT{xs:List W}(h:xs.length<=PySem.sizeLine):zbX xs ce=some (.ok (.lst xs) ce):=if_pos h
@[simp] theorem zsc{xs:List W}(h:xs.length<=PySem.sizeLine):zfr xs ce=some (.ok (.cel ce.length) (ce++[.lst xs])):=if_pos h
@[simp] theorem zpv{xs:List W}(h:xs.length<=PySem.sizeLine):zrt xs ce=some (.ok (.tup xs) ce):=if_pos h
@[simp] theorem zrL(f:W->List W->M W)(r:Sl->M (List W)):dMt f a r sl ce=bnd (a sl) (fun x=>bnd (look fun ce=>zkO ce x) fun _=>bnd (r sl) fun ws=>f x ws) ce:=rfl
@[simp] theorem zsd(f:W->List W->M W):zpl f a sl ce=bnd (a sl) (fun x=>bnd (look fun ce=>zkO ce x) fun _=>f x []) ce:=rfl
@[simp] theorem ztl:gN i w sl ce=some (sl.set i (some w),ce):=rfl
theorem zmm{o i v:Sl->M W}{sl:Sl}{ce ce1 ce2 ce3:Ce}{w ow iw:W}{key:Key}{k:Nat}{kvs:List (Key×W)}(h1:v sl ce=some (.ok w ce1))(h2:o sl ce1=some (.ok ow ce2))(h3:i sl ce2=some (.ok iw ce3))(h4:ziV iw=some key)(h5:zma ce3 ow=some (k,kvs))(h6:kvs.length<PySem.sizeLine) :
  zmb o i v sl ce=some (.go .nx sl (ce3.set k (.dct (ziB kvs key w)))):=by
 simp only[zmb,lft,h1,h2,h3,h4,h5,if_pos h6]
theorem zpw{w y:W}{ce:Ce}{k:Nat}{xs:List W}(h:zjK ce w=some (k,xs))(hl:xs.length<PySem.sizeLine):zeK w [y] ce=some (.ok .non (ce.set k (.lst (xs++[y])))):=by simp only[zeK,h,if_pos hl]
@[simp] theorem zse(x y:Int):zcl (.int x) (.int y)=some (.int (x+y)):=rfl
@[simp] theorem zsf(x y:Int):zkL (.int x) (.int y)=some (.int (x-y)):=rfl
@[simp] theorem zs2(x y:Int):fLt (.int x) (.int y)=some (.bl (decide (x<y))):=rfl
@[simp] theorem zs3(x y:Int):fLe (.int x) (.int y)=some (.bl (decide (x<=y))):=rfl
@[simp] theorem zs4(x y:Int):fGt (.int x) (.int y)=some (.bl (decide (y<x))):=rfl
@[simp] theorem zs5(x y:Int):fGe (.int x) (.int y)=some (.bl (decide (y<=x))):=rfl
@[simp] theorem zsg(x y:Int):zgS (.int x) (.int y)=some (.bl (decide (x=y))):=rfl
@[simp] theorem zsh(x y:Int):zmi (.int x) (.int y)=some (.bl (!decide (x=y))):=rfl
@[simp] theorem zsi(x:Int):znj (.int x)=some (.int (-x)):=rfl
theorem zpx{x y:Int}(h:CMul x y):zeG (.int x) (.int y)=some (.int (x*y)):=by simp only[zeG,i2c,if_pos h]
theorem zmn{x y:Int}(h:0<y):zeH (.int x) (.int y)=some (.int (x % y)):=by simp only[zeH,i2c,if_pos h]
theorem zpy{x y:Int}(h:0<y/\y<1073741824):zoe (.int x) (.int y)=some (.int (x / y)):=by
 have h':zqV x y:=h
 simp only[zoe,i2c,if_pos h']
@[simp] theorem zsj(xs:List W):zf3 ce (.tup xs)=some xs:=rfl
@[simp] theorem zsk(xs:List W):zf3 ce (.lst xs)=some xs:=rfl
@[simp] theorem zpz(xs:List W):zdV ce (.lst xs)=some xs:=rfl
theorem zb6{ce:Ce}{k:Nat}{xs:List W}(h:ce[k]?=some (.lst xs)):zdV ce (.cel k)=some xs:=by simp only[zdV,h]
theorem zhR{ce:Ce}{k:Nat}{xs:List W}(h:ce[k]?=some (.lst xs)):zf3 ce (.cel k)=some xs:=by simp only[zf3,zdV,h]
theorem zpA{ce:Ce}{k:Nat}{xs:List (Key×W)}(h:ce[k]?=some (.dct xs)):zof ce (.cel k)=some xs:=by simp only[zof,h]
theorem ze8{ce:Ce}{k:Nat}{xs:List W}(h:ce[k]?=some (.lst xs)):zjK ce (.cel k)=some (k,xs):=by simp only[zjK,h]
theorem zjU{ce:Ce}{k:Nat}{xs:List (Key×W)}(h:ce[k]?=some (.dct xs)):zma ce (.cel k)=some (k,xs):=by simp only[zma,h]
@[simp] theorem zsl(j:Int):ziV (.int j)=some (.inl j):=rfl
theorem zli{α:Type}{xs:List α}{j:Nat}:atI xs (j:Int)=xs[j]?:=by
 unfold atI ixN
 by_cases h:j<xs.length
 ·rw[if_pos (by omega),if_pos (by omega)];simp
 ·rw[if_pos (by omega),if_neg (by omega),List.getElem?_eq_none (by omega)];rfl
theorem ziD{xs:List W}{x y:W}{ce:Ce}{j:Nat}(h:zf3 ce x=some xs)(hy:y=.int j):ixW ce x y=xs[j]?:=by
 subst hy
 simp only[ixW,h]
 exact zli
theorem zdd(c0:C):(ce++[c0])[ce.length]?=some c0:=by rw[zps];rfl
end VS
namespace VS
open L2
def nW(n:Nat):W:=.int (n:Int)
def wT(l:List Nat):W:=.tup (l.map nW)
def wB(b:List (List Nat)):W:=.tup (b.map wT)
def kvs(F:List Nat):List (Key×W):=F.map fun(x:Nat)=>((Sum.inl (x:Int):Key),W.bl true)
def toI(F:List Nat):List Int:=F.map fun(x:Nat)=>(x:Int)
theorem znA(F:List Nat)(y:Nat):(ziA (kvs F) (.inl (y:Int))).isSome=decide (y∈F):=by
 induction F with
 | nil=>rfl
 | cons x F ih =>
  by_cases h:x=y
  ·subst h;simp[kvs,ziA]
  ·have h':¬((x:Int)=(y:Int)):=by omega
   have e:ziA (kvs (x::F)) (.inl (y:Int))=ziA (kvs F) (.inl (y:Int)):=by simp[kvs,ziA,List.find?_cons,h']
   have hm:(y∈x::F)↔y∈F:=by simp[Ne.symm h]
   rw[e,ih]
   simp[hm]
theorem zha(F:List Nat)(y:Nat)(h:y∉F):ziB (kvs F) (.inl (y:Int)) (.bl true)=kvs (F++[y]):=by
 have e:((kvs F).any fun kv=>decide (kv.1=(.inl (y:Int):Key)))=false:=by
  rw[Bool.eq_false_iff]
  intro q
  obtain⟨p,hp,e⟩:=List.any_eq_true.mp q
  obtain⟨x,hx,rfl⟩:=List.mem_map.mp hp
  have e:=of_decide_eq_true e
  have:(x:Int)=y:=Sum.inl.inj e
  exact h (by rw[<- Int.ofNat_inj.mp this];exact hx)
 unfold ziB
 rw[e]
 simp[kvs]
theorem zdC(F:List Nat):(kvs F).length=F.length:=by simp[kvs]
theorem zlj(F:List Nat):zgv (kvs F)=some (toI F):=by
 induction F with
 | nil=>rfl
 | cons x F ih=>simp only[kvs,toI,List.map_cons,zgv] at ih ⊢;rw[ih];rfl
theorem zbI(F:List Nat):(toI F).length=F.length:=by simp[toI]
theorem zjV(F:List Nat):F.map nW=(toI F).map W.int:=by simp[toI,nW]
theorem zfz(F:List Nat):zgu (F.map nW)=some (toI F):=by rw[zjV,zgw]
theorem zjW{F F':List Nat}(h:F.Perm F'):srt (toI F)=srt (toI F') :=
 zch ((zby _).trans ((show(toI F).Perm (toI F') from h.map _).trans (zby _).symm)) (zcM _) (zcM _)
theorem zde{F F':List Nat}(h:F.Nodup)(h':F'.Nodup)(e:∀x,x∈F↔x∈F'):F.Perm F':=by
 rw[List.perm_iff_count]
 intro x
 rw[h.count,h'.count]
 simp[e x]
theorem zaP:∀{n:Nat} {F:List Nat},F.Nodup->(∀x∈F,x<n)->F.length<=n
 | 0,F,_,hl=>by
  cases F with
  | nil=>simp
  | cons a r=>exact absurd (hl a List.mem_cons_self) (Nat.not_lt_zero _)
 | n+1,F,h,hl=>by
  by_cases hn:n∈F
  ·have h1:=zaP (n:=n) (h.erase n) fun x hx=>by
    have hx':=(List.Nodup.mem_erase_iff h).mp hx
    have:=hl x hx'.2
    have:=hx'.1
    omega
   rw[List.length_erase_of_mem hn] at h1
   have:=List.length_pos_of_mem hn
   omega
  ·have h1:=zaP (n:=n) h fun x hx=>by
    have:=hl x hx
    have:x≠n:=fun e=>hn (e▸hx)
    omega
   omega
inductive Reach (b:List (List Nat)) (ok:Nat->Prop) (s:Nat):Nat->Prop where
 | refl:Reach b ok s s
 | step {x y:Nat} (h:Reach b ok s x) (hy:y∈b.getD x []) (o:ok y):Reach b ok s y
structure Comp (b:List (List Nat)) (ok:Nat->Prop) (s:Nat) (F:List Nat):Prop where
 nd:F.Nodup
 st:s∈F
 lt:∀x∈F,x<b.length
 cl:∀x∈F,∀y∈b.getD x [],ok y->y∈F
 re:∀x∈F,Reach b ok s x
theorem Comp.mem{b:List (List Nat)}{ok:Nat->Prop}{s:Nat}{F:List Nat}(h:Comp b ok s F)(x:Nat):x∈F↔Reach b ok s x:=by
 refine⟨h.re x,fun r=>?_⟩
 induction r with
 | refl=>exact h.st
 | step _ hy o ih=>exact h.cl _ ih _ hy o
def Bd(b:List (List Nat)):Prop:=∀r∈b,∀x∈r,x<b.length
theorem Bd.get{b:List (List Nat)}(h:Bd b){x y:Nat}(hy:y∈b.getD x []):y<b.length:=by
 rw[List.getD_eq_getElem?_getD] at hy
 cases e:b[x]? with
 | none=>rw[e] at hy;simp at hy
 | some r=>rw[e] at hy;exact h r (List.mem_of_getElem? e) y (by simpa using hy)
structure Row (row:List Nat) (ok:Nat->Prop) (F F':List Nat) (r new:List Nat):Prop where
 app:F'=F++new
 nd:F'.Nodup
 mem:∀y∈new,y∈row/\ok y
 done:∃d,row=d++r/\∀y∈d,ok y->y∈F'
theorem zfA{ce:Ce}{x:W}{xs:List W}{j:Nat}(h:zf3 ce x=some xs):ixW ce x (nW j)=xs[j]?:=ziD h rfl
theorem zpB(T:List Nat)(y:Nat):(T.map nW).any (fun z=>peq z (nW y))=decide (y∈T):=by
 induction T with
 | nil=>rfl
 | cons x T ih =>
  rw[List.map_cons,List.any_cons,ih]
  by_cases h:x=y
  ·subst h;simp[nW,peq]
  ·have h':¬((x:Int)=(y:Int)):=by omega
   simp[nW,peq,h',Ne.symm h]
theorem zpC(T:List Nat):(T.map nW).all (cln 8)=true:=by
 rw[List.all_eq_true]
 intro w hw
 obtain⟨x,_,rfl⟩:=List.mem_map.mp hw
 rfl
theorem zcN(T:List Int)(n:Nat):(T.map W.int).all (cln n)=true:=by
 rw[List.all_eq_true]
 intro w hw
 obtain⟨x,_,rfl⟩:=List.mem_map.mp hw
 cases n<;>rfl
theorem zpD{ce:Ce}{x:W}{T:List Nat}{y:Nat}(h:zf3 ce x=some (T.map nW))(ng:Bool):inW ng ce (nW y) x=some (.bl (if ng then !decide (y∈T) else decide (y∈T))):=by
 have c:cln 8 (nW y)=true:=rfl
 have e:drf ce (nW y)=nW y:=rfl
 simp only[inW,h,e,c,zpC,Bool.and_self,if_true,zpB]
theorem zjX(a b:Int):peq (.int a) (.int b)=decide (a=b):=by simp[peq];rfl
theorem zel:∀(l m:List Int),peqs (l.map W.int) (m.map W.int)=decide (l=m)
 | [],[]=>by simp[peqs]
 | [],_::_=>by simp[peqs]
 | _::_,[]=>by simp[peqs]
 | a::l,b::m=>by
  simp only[List.map_cons,peqs,zjX,zel l m]
  by_cases h1:a=b<;>by_cases h2:l=m<;>simp[h1,h2]
theorem zlk(l m:List Int):peq (.lst (l.map W.int)) (.lst (m.map W.int))=decide (l=m):=by simp only[peq,zel]
theorem zeL:(36:Nat)<PySem.sizeLine:=by decide
end VS
namespace VS
open L2
theorem zmo{s:Src}{cs:Sl}{e:Sl->M W}{ce:Ce}(hst:s.Stays ce)(P:W->W->Prop):∀(l ys:List W),(∀x∈l,∃y,P x y/\e (some x::cs) ce=some (.ok y ce))->ys.length+l.length<=PySem.sizeLine ->
  ∃zs,lcL s cs zeJ e l ys ce=some (.ok (ys++zs) ce)/\PySem.Paired P l zs
 | [],ys,_,_=>⟨[],by simp only[lcL,if_pos hst,List.append_nil],.nil⟩
 | x::r,ys,h,hz=>by
  have hl:ys.length<PySem.sizeLine:=by simp only[List.length_cons] at hz;omega
  obtain⟨y,py,ey⟩:=h x List.mem_cons_self
  obtain⟨zs,ez,pz⟩:=zmo hst P r (ys++[y]) (fun z hz=>h z (List.mem_cons_of_mem _ hz)) (by simp only[List.length_append,List.length_cons,List.length_nil] at hz ⊢;omega)
  refine⟨y::zs,?_,.cons py pz⟩
  rw[zfs ⟨hst,hl⟩]
  show bnd (ret true) _ ce=_
  rw[zbY (m:=ret true) rfl]
  show bnd (e (some x::cs)) (fun y=>lcL s cs zeJ e r (ys++[y])) ce=_
  rw[zbY ey,ez,List.append_assoc]
  rfl
theorem zpE{mk:List W->M W}{js:List Nat}{di:Sl->M Src}{e:Sl->M W}{sl:Sl}{ce ce0:Ce}{s:Src}(hi:di sl ce0=some (.ok s ce))(hst:s.Stays ce)(P:W->W->Prop)(h:∀x∈s.items,∃y,P x y/\e (some x::zdx js sl) ce=some (.ok y ce))(hz:s.items.length<=PySem.sizeLine) :
  ∃zs,dLC mk js di zeJ e sl ce0=mk zs ce/\PySem.Paired P s.items zs:=by
 obtain⟨zs,e1,p⟩:=zmo hst P s.items [] h (by simpa using hz)
 refine⟨zs,?_,p⟩
 show bnd (di sl) (fun s=>bnd (lcL s (zdx js sl) zeJ e s.items []) mk) ce0=_
 rw[zbY hi,zbY e1,List.nil_append]
theorem zgA{s:Src}{cs:Sl}(hst:∀ce,s.Stays ce):∀(l ys:List W) (ce:Ce),ys.length+l.length<=PySem.sizeLine ->
  lcL s cs zeJ (zb5 zan) l ys ce=some (.ok (ys++(List.range l.length).map fun i=>W.cel (ce.length+i)) (ce++List.replicate l.length (C.lst [])))
 | [],ys,ce,_=>by simp[lcL,if_pos (hst ce)]
 | x::r,ys,ce,hz=>by
  have hl:ys.length<PySem.sizeLine:=by simp only[List.length_cons] at hz;omega
  have ih:=zgA (s:=s) (cs:=cs) hst r (ys++[W.cel ce.length]) (ce++[C.lst []]) (by simp only[List.length_append,List.length_cons,List.length_nil] at hz ⊢;omega)
  rw[zfs ⟨hst ce,hl⟩]
  show bnd (ret true) _ ce=_
  rw[zbY (m:=ret true) rfl]
  have ex:zb5 zan (some x::cs) ce=some (.ok (W.cel ce.length) (ce++[C.lst []])):=by simp
  show bnd (zb5 zan (some x::cs)) (fun y=>lcL s cs zeJ (zb5 zan) r (ys++[y])) ce=_
  rw[zbY ex,ih]
  have e1:(List.range (r.length+1)).map (fun i=>W.cel (ce.length+i))=W.cel ce.length::(List.range r.length).map fun i=>W.cel ((ce++[C.lst []]).length+i):=by
   rw[List.range_succ_eq_map,List.map_cons,List.map_map]
   congr 1
   apply List.map_congr_left
   intro i _
   simp only[Function.comp,List.length_append,List.length_cons,List.length_nil]
   congr 1
   omega
  have e2:ce++List.replicate (r.length+1) (C.lst [])=ce++[C.lst []]++List.replicate r.length (C.lst []):=by
   rw[List.replicate_succ,List.append_assoc];rfl
  rw[List.length_cons,e1,e2,List.append_assoc]
  rfl
theorem zpF{n:Nat}(h:n<=1000):ziX [nW n]=some (.rng 0 n):=by
 have h1:(-4611686018427387904:Int)<=(n:Int)/\(n:Int)<4611686018427387904:=by omega
 simp only[ziX,nW,if_pos h1,Int.toNat_natCast]
theorem zpG{d:Sl->M (List W)}{sl:Sl}{ce ce':Ce}{n:Nat}(hd:d sl ce=some (.ok [nW n] ce'))(h:n<=1000):zhL d sl ce=some (.ok (.rng 0 n) ce'):=by
 show bnd (d sl) (fun ws=>look (fun _=>ziX ws)) ce=_
 rw[zbY hd]
 show(ziX [nW n]).map _=_
 rw[zpF h]
 rfl
theorem zjY(k:Int){n:Nat}(h:0<n):∃j:Nat,j<n/\k % (n:Int)=j:=by
 have h1:=Int.emod_nonneg k (b:=(n:Int)) (by omega)
 have h2:=Int.emod_lt_of_pos k (b:=(n:Int)) (by omega)
 exact⟨(k % (n:Int)).toNat,by omega,by omega⟩
theorem zmp{k:Int}{n j:Nat}(h:0<n)(e:k % (n:Int)=j):zeH (.int k) (.int (n:Int))=some (nW j):=by rw[zmn (by omega),e];rfl
theorem zmq{fin:Ce->Ce->W->Option (R W)}{n:Nat}{body:DS}{ws:List W}{ce ce':Ce}{sl:Sl}{w:W}{r:Option (R W)}(h:body (ws.map some++List.replicate (n-ws.length) none) ce=some (.go (.rt w) sl ce'))(hf:fin ce ce' w=r):dFn fin n body ws ce=r:=by
 unfold dFn
 rw[h]
 exact hf
theorem zll{s:Src}{g:DG}{body:DS}{sl:Sl}{ce:Ce}(hst:s.Stays ce):zhM s g body [] sl ce=some (.go .nx sl ce):=by
 simp only[zhM,if_pos hst]
theorem zhb{di:Sl->M Src}{g:DG}{body:DS}{sl:Sl}{ce ce0:Ce}{src:Src}(hi:di sl ce=some (.ok src ce0)):zcW di g body sl ce=zhM src g body src.items sl ce0:=by simp only[zcW,lft,hi]
theorem zjZ{i:Nat}{d:Sl->M W}{sl:Sl}{ce ce':Ce}{w:W}(h:d sl ce=some (.ok w ce')):zbf i d sl ce=some (.go .nx (sl.set i (some w)) ce'):=by simp only[zbf,lft,h]
theorem zpH{c:Sl->M Bool}{a b:DS}{sl:Sl}{ce ce':Ce}(h:c sl ce=some (.ok true ce')):dIf c a b sl ce=a sl ce':=by simp only[dIf,lft,h]
theorem zpI{c:Sl->M Bool}{a b:DS}{sl:Sl}{ce ce':Ce}(h:c sl ce=some (.ok false ce')):dIf c a b sl ce=b sl ce':=by simp only[dIf,lft,h]
theorem zem(n:Nat):(Src.rng 0 n).items=(List.range n).map nW:=by
 simp only[Src.items,Int.zero_add]
 rfl
theorem bels_nW(n:Nat):∀l:List Nat,zc9 n (l.map nW)
 | []=>by simp only[List.map_nil,zc9]
 | a::r=>by simp only[List.map_cons,zc9,nW,Bel];exact⟨trivial,bels_nW n r⟩
theorem zmr(n:Nat)(b:List (List Nat)):Bel n (wB b):=by
 simp only[wB,Bel]
 induction b with
 | nil=>simp only[List.map_nil,zc9]
 | cons r b ih=>simp only[List.map_cons,zc9,wT,Bel];exact⟨bels_nW n r,ih⟩
def zbV(r:List Nat):List Nat:=(srt (toI r)).map Int.toNat
theorem zdf(r:List Nat):(srt (toI r)).map W.int=(zbV r).map nW:=by
 unfold zbV
 rw[List.map_map]
 apply List.map_congr_left
 intro x hx
 have hx':=(zby (toI r)).subset hx
 obtain⟨y,_,rfl⟩:=List.mem_map.mp hx'
 show W.int (y:Int)=W.int (((y:Int).toNat:Nat):Int)
 simp
theorem zdg(r:List Nat)(x:Nat):x∈zbV r↔x∈r:=by
 unfold zbV
 constructor
 ·intro h
  obtain⟨z,hz,rfl⟩:=List.mem_map.mp h
  obtain⟨y,hy,rfl⟩:=List.mem_map.mp ((zby (toI r)).subset hz)
  simpa using hy
 ·intro h
  refine List.mem_map.mpr ⟨(x:Int),(zby (toI r)).symm.subset (List.mem_map.mpr ⟨x,h,rfl⟩),by simp⟩
theorem Reach.trans{b:List (List Nat)}{ok:Nat->Prop}{s x y:Nat}(h:Reach b ok s x)(h':Reach b ok x y):Reach b ok s y:=by
 induction h' with
 | refl=>exact h
 | step _ hy o ih=>exact .step ih hy o
theorem Reach.okOf{b:List (List Nat)}{ok:Nat->Prop}{s x:Nat}(hs:ok s)(h:Reach b ok s x):ok x:=by
 cases h with
 | refl=>exact hs
 | step _ _ o=>exact o
theorem Reach.symm{b:List (List Nat)}{ok:Nat->Prop}{s x:Nat}(sym:∀i j,j∈b.getD i []->i∈b.getD j [])(hs:ok s)(h:Reach b ok s x):Reach b ok x s:=by
 induction h with
 | refl=>exact .refl
 | step h hy o ih=>exact Reach.trans (.step .refl (sym _ _ hy) (h.okOf hs)) ih
theorem Paired.nth{α β:Type}{P:α->β->Prop}{l:List α}{m:List β}(h:PySem.Paired P l m):l.length=m.length/\∀(i:Nat) (a:α) (b:β),l[i]?=some a->m[i]?=some b->P a b:=by
 refine⟨PySem.Paired.length h,fun i a b h1 h2=>?_⟩
 obtain⟨b',e,p⟩:=L2.Paired.at2 h i a h1
 rw[h2] at e;cases e;exact p
end VS
namespace VS
open L2
def Run(s:DS)(sl:Sl)(ce:Ce)(Q:O->Prop):Prop:=∃o,s sl ce=some o/\Q o
def Nx(P:Sl->Ce->Prop):O->Prop
 | .go .nx sl ce=>P sl ce
 | .go .ct sl ce=>P sl ce
 | _=>False
def Rt(P:W->Ce->Prop):O->Prop
 | .go (.rt w) _ ce=>P w ce
 | _=>False
def NR(P:Sl->Ce->Prop)(T:W->Ce->Prop):O->Prop
 | .go .nx sl ce=>P sl ce
 | .go .ct sl ce=>P sl ce
 | .go (.rt w) _ ce=>T w ce
 | _=>False
section
variable {s a b:DS} {sl sl':Sl} {ce ce' c1 c2 c3:Ce} {Q Q':O->Prop} {d e:Sl->M W} {w x y:W} {i:Nat} {p q:Bool} {ta tb:Sl->M Bool}
theorem Run.mono(h:Run s sl ce Q)(m:∀o,Q o->Q' o):Run s sl ce Q':=by
 obtain⟨o,e,q⟩:=h;exact⟨o,e,m o q⟩
theorem zpJ{o:O}(h:s sl ce=some o)(q:Q o):Run s sl ce Q:=⟨o,h,q⟩
theorem zbp(q:Q (.go .nx sl ce)):Run za4 sl ce Q:=⟨_,rfl,q⟩
theorem zen(h:e sl ce=some (.ok w ce'))(q:Q (.go .nx (sl.set i (some w)) ce')):Run (zbf i e) sl ce Q:=⟨_,zjZ h,q⟩
theorem zas(h:e sl ce=some (.ok w ce'))(q:Q (.go (.rt w) sl ce')):Run (zbB e) sl ce Q:=⟨_,by simp only[zbB,lft,h],q⟩
theorem zeo(h:e sl ce=some (.ok w ce'))(q:Q (.go .nx sl ce')):Run (dEx e) sl ce Q:=⟨_,by simp only[dEx,lft,h],q⟩
theorem zb7(h:ta sl ce=some (.ok p ce'))(ht:p=true->Run a sl ce' Q)(hf:p=false->Run b sl ce' Q):Run (dIf ta a b) sl ce Q:=by
 cases p with
 | true=>obtain⟨o,e,q⟩:=ht rfl;exact⟨o,by rw[zpH h];exact e,q⟩
 | false=>obtain⟨o,e,q⟩:=hf rfl;exact⟨o,by rw[zpI h];exact e,q⟩
theorem zcX(h:a sl ce=some (.go .nx sl' ce'))(q:Run b sl' ce' Q):Run (zaA a b) sl ce Q:=by
 obtain⟨o,e,q⟩:=q;exact⟨o,by rw[zjR h];exact e,q⟩
theorem zar(h:e sl ce=some (.ok w ce'))(q:Run b (sl.set i (some w)) ce' Q):Run (zaA (zbf i e) b) sl ce Q:=zcX (zjZ h) q
theorem zms(h:e sl ce=some (.ok w ce'))(q:Run b sl ce' Q):Run (zaA (dEx e) b) sl ce Q:=zcX (by simp only[dEx,lft,h]) q
theorem zaY{c:DS}(h:Run c sl ce Q):Run (zaA za4 c) sl ce Q:=h
theorem zbN{c:DS}(h:Run (zbB e) sl ce Q):Run (zaA (zbB e) c) sl ce Q:=by
 obtain⟨o,e',q⟩:=h
 refine⟨o,?_,q⟩
 simp only[zaA]
 simp only[zbB,lft] at e' ⊢
 cases h:e sl ce with
 | none=>rw[h] at e';cases e'
 | some r=>rw[h] at e';cases r<;>exact e'
theorem zbg{c:DS}(h:ta sl ce=some (.ok p ce'))(ht:p=true->Run (zaA a c) sl ce' Q)(hf:p=false->Run (zaA b c) sl ce' Q):Run (zaA (dIf ta a b) c) sl ce Q:=by
 cases p with
 | true=>obtain⟨o,e,q⟩:=ht rfl;exact⟨o,by rw[<- e];simp only[zaA,zpH h],q⟩
 | false=>obtain⟨o,e,q⟩:=hf rfl;exact⟨o,by rw[<- e];simp only[zaA,zpI h],q⟩
end
section
variable {α:Type} {en:α->W} {src:Src} {g:DG} {body b:DS} {Q:O->Prop}
theorem zfB(xs:List α)(R:List α->Sl->Ce->Prop)(T:W->Ce->Prop)(step:∀d x r sl ce,d++x::r=xs->R d sl ce->src.Stays ce/\∃sl1,g (en x) sl ce=some (sl1,ce)/\Run body sl1 ce (NR (R (d++[x])) T))(hst:∀sl ce,R xs sl ce->src.Stays ce) :
  ∀(r d:List α) (sl:Sl) (ce:Ce),d++r=xs->R d sl ce->Run (zhM src g body (r.map en)) sl ce fun o=>(∃sl' ce',o=.go .nx sl' ce'/\R xs sl' ce')\/∃w sl' ce',o=.go (.rt w) sl' ce'/\T w ce'
 | [],d,sl,ce,e,h=>by
  rw[List.append_nil] at e
  subst e
  exact⟨_,zll (hst _ _ h),.inl ⟨_,_,rfl,h⟩⟩
 | x::r,d,sl,ce,e,h=>by
  obtain⟨hs,sl1,e1,o,e2,q⟩:=step d x r sl ce e h
  have go:∀sl2 ce2,R (d++[x]) sl2 ce2->Run (zhM src g body (r.map en)) sl2 ce2 fun o=>(∃sl' ce',o=.go .nx sl' ce'/\R xs sl' ce')\/∃w sl' ce',o=.go (.rt w) sl' ce'/\T w ce':=fun sl2 ce2 h2=>zfB xs R T step hst r (d++[x]) sl2 ce2 (by rw[List.append_assoc];exact e) h2
  cases o with
  | ex x c=>exact q.elim
  | go f sl2 ce2 =>
   cases f with
   | nx =>
    obtain⟨o,e3,q3⟩:=go sl2 ce2 q
    exact⟨o,by simp only[List.map_cons,zhM,if_pos hs,e1,e2];exact e3,q3⟩
   | ct =>
    obtain⟨o,e3,q3⟩:=go sl2 ce2 q
    exact⟨o,by simp only[List.map_cons,zhM,if_pos hs,e1,e2];exact e3,q3⟩
   | bk=>exact q.elim
   | rt w=>exact⟨.go (.rt w) sl2 ce2,by simp only[List.map_cons,zhM,if_pos hs,e1,e2],.inr ⟨w,sl2,ce2,rfl,q⟩⟩
theorem zj0{di:Sl->M Src}{sl:Sl}{ce ce0:Ce}{i:Nat}{xs:List α}(hi:di sl ce=some (.ok src ce0))(hx:src.items=xs.map en)(R:List α->Sl->Ce->Prop)(h0:R [] sl ce0)(step:∀d x r sl ce,d++x::r=xs->x∈xs->R d sl ce->src.Stays ce/\Run body (sl.set i (some (en x))) ce (Nx (R (d++[x]))))(hst:∀sl ce,R xs sl ce->src.Stays ce)(fin:∀sl ce,R xs sl ce->Q (.go .nx sl ce)):Run (zcW di (gN i) body) sl ce Q:=by
 obtain⟨o,e,q⟩:=zfB (g:=gN i) (body:=body) (en:=en) (src:=src) xs R (fun _ _=>False) (fun d x r sl ce e h=>by
  obtain⟨h1,h2⟩:=step d x r sl ce e (by rw[<- e];simp) h
  exact⟨h1,_,rfl,h2.mono fun o q=>by
   cases o with
   | ex x c=>exact q.elim
   | go f sl2 ce2=>cases f<;>first|exact q|exact q.elim⟩) hst xs [] sl ce0 rfl h0
 rcases q with ⟨sl',ce',rfl,h⟩|⟨w,sl',ce',rfl,h⟩
 ·exact⟨_,by rw[zhb hi,hx];exact e,fin _ _ h⟩
 ·exact h.elim
theorem zhc{di:Sl->M Src}{sl:Sl}{ce ce0:Ce}{i:Nat}{xs:List α}(hi:di sl ce=some (.ok src ce0))(hx:src.items=xs.map en)(R:List α->Sl->Ce->Prop)(h0:R [] sl ce0)(step:∀d x r sl ce,d++x::r=xs->x∈xs->R d sl ce->src.Stays ce/\Run body (sl.set i (some (en x))) ce (Nx (R (d++[x]))))(hst:∀sl ce,R xs sl ce->src.Stays ce)(fin:∀sl ce,R xs sl ce->Run b sl ce Q):Run (zaA (zcW di (gN i) body) b) sl ce Q:=by
 obtain⟨o,e,q⟩:=zj0 (Q:=fun o=>∃sl' ce',o=.go .nx sl' ce'/\Run b sl' ce' Q) (body:=body) (i:=i) hi hx R h0 step hst fun sl ce h=>⟨sl,ce,rfl,fin sl ce h⟩
 obtain⟨sl',ce',rfl,h⟩:=q
 exact zcX e h
theorem zj1{σ:Type}{c:Sl->M Bool}{sl:Sl}{ce:Ce}{fu:Nat}(R:σ->Sl->Ce->Prop)(m:σ->Nat)(s0:σ)(h0:R s0 sl ce)(hm:m s0<fu)(step:∀s sl ce,R s sl ce->∃p,c sl ce=some (.ok p ce)/\(p=true->Run body sl ce (Nx fun sl2 ce2=>∃s2,m s2<m s/\R s2 sl2 ce2))/\(p=false->Q (.go .nx sl ce))):Run (zcn c body fu) sl ce Q:=by
 induction fu generalizing s0 sl ce with
 | zero=>exact absurd hm (Nat.not_lt_zero _)
 | succ fu ih =>
  obtain⟨p,e,ht,hf⟩:=step s0 sl ce h0
  cases p with
  | false=>exact⟨_,by simp only[zcn,lft,e],hf rfl⟩
  | true =>
   obtain⟨o,e2,q⟩:=ht rfl
   cases o with
   | ex x c=>exact q.elim
   | go f sl2 ce2 =>
    cases f with
    | nx =>
     obtain⟨s2,hs,r⟩:=q
     obtain⟨o,e3,q3⟩:=ih s2 r (by omega)
     exact⟨o,by simp only[zcn,lft,e,e2];exact e3,q3⟩
    | ct =>
     obtain⟨s2,hs,r⟩:=q
     obtain⟨o,e3,q3⟩:=ih s2 r (by omega)
     exact⟨o,by simp only[zcn,lft,e,e2];exact e3,q3⟩
    | bk=>exact q.elim
    | rt w=>exact q.elim
theorem znB{a b:DS}{sl:Sl}{ce:Ce}(h:Run a sl ce fun o=>∃sl' ce',o=.go .nx sl' ce'/\Run b sl' ce' Q):Run (zaA a b) sl ce Q:=by
 obtain⟨o,e,sl',ce',rfl,q⟩:=h
 exact zcX e q
end
section
variable {sl:Sl} {ce c1 c2 c3:Ce} {a b:Sl->M W} {w x y:W} {i:Nat} {p q:Bool} {ta tb:Sl->M Bool} {ra:Sl->M (List W)} {xs ws:List W} {src:Src}
theorem zad(h:sl[i]?=some (some w)):zag i sl ce=some (.ok w ce):=by simp only[zag,h]
theorem zaN:dC w sl ce=some (.ok w ce):=rfl
theorem zaK{f:W->W->Option W}(ha:a sl ce=some (.ok x c1))(hb:b sl c1=some (.ok y c2))(h:f x y=some w):dOp f a b sl ce=some (.ok w c2):=by simp only[dOp,bnd,look,ha,hb,h,Option.map_some]
theorem zaq{f:Ce->W->W->Option W}(ha:a sl ce=some (.ok x c1))(hb:b sl c1=some (.ok y c2))(h:f c2 x y=some w):zaI f a b sl ce=some (.ok w c2):=by simp only[zaI,bnd,look,ha,hb,h,Option.map_some]
theorem zgB{f:W->Option W}(ha:a sl ce=some (.ok x c1))(h:f x=some w):dUn f a sl ce=some (.ok w c1):=by simp only[dUn,bnd,look,ha,h,Option.map_some]
theorem zcO(ha:a sl ce=some (.ok (.bl p) c1)):dB a sl ce=some (.ok p c1):=by simp only[dB,bnd,look,ha,Option.map_some]
theorem zj2(ha:a sl ce=some (.ok x c1))(h:zg2 c1 x=some p):zkM a sl ce=some (.ok p c1):=by simp only[zkM,bnd,look,ha,h,Option.map_some]
theorem zep(ha:ta sl ce=some (.ok p c1))(hb:p=true->tb sl c1=some (.ok q c1)):zei ta tb sl ce=some (.ok (p&&q) c1):=by
 cases p with
 | true=>simp only[zei,bnd,ha,hb rfl,Bool.true_and]
 | false=>simp only[zei,bnd,ha,Bool.false_and];rfl
theorem zhS(ha:ta sl ce=some (.ok p c1))(hb:p=false->tb sl c1=some (.ok q c1)):zl6 ta tb sl ce=some (.ok (p||q) c1):=by
 cases p with
 | true=>simp only[zl6,bnd,ha,Bool.true_or];rfl
 | false=>simp only[zl6,bnd,ha,hb rfl,Bool.false_or]
theorem zhd(ha:ta sl ce=some (.ok p c1)):zfq ta sl ce=some (.ok (!p) c1):=by simp only[zfq,bnd,ha];rfl
theorem zaj:zan sl ce=some (.ok [] ce):=rfl
theorem zac(ha:a sl ce=some (.ok x c1))(hr:ra sl c1=some (.ok xs c2)):zae a ra sl ce=some (.ok (x::xs) c2):=by simp only[zae,bnd,ha,hr];rfl
theorem zbe{f:List W->M W}(hr:ra sl ce=some (.ok ws c1))(h:f ws c1=some (.ok w c2)):dBi f ra sl ce=some (.ok w c2):=by simp only[dBi,bnd,hr,h]
theorem zav{f:List W->M W}{n:Nat}(hr:ra sl ce=some (.ok ws c1))(hl:ws.length=n)(h:f ws c1=some (.ok w c2)):zay n f ra sl ce=some (.ok w c2):=by simp only[zay,bnd,hr,if_pos hl,h]
theorem zbd(hr:ra sl ce=some (.ok ws c1))(hl:ws.length<=PySem.sizeLine):zbU ra sl ce=some (.ok (.tup ws) c1):=by simp only[zbU,bnd,hr,mkF,if_pos hl]
theorem zbO(hr:ra sl ce=some (.ok ws c1))(hl:ws.length<=PySem.sizeLine):zeI ra sl ce=some (.ok (.lst ws) c1):=by simp only[zeI,bnd,hr,mkF,if_pos hl]
theorem zcx(hr:ra sl ce=some (.ok ws c1))(hl:ws.length<=PySem.sizeLine):zb5 ra sl ce=some (.ok (.cel c1.length) (c1++[.lst ws])):=by simp only[zb5,bnd,hr,mkC,if_pos hl]
theorem znC:ziz sl ce=some (.ok (.cel ce.length) (ce++[.dct []])):=by simp[ziz,mkC]
theorem zfC{f:W->List W->M W}{ys:List W}(ha:a sl ce=some (.ok x c1))(hl:zdV c1 x=some ys)(hr:ra sl c1=some (.ok ws c2))(h:f x ws c2=some (.ok w c3)):dMt f a ra sl ce=some (.ok w c3):=by simp only[dMt,bnd,ha,look,zkO,hl,hr,h,Option.map_some]
theorem zpK{f:W->List W->M W}{ys:List W}(ha:a sl ce=some (.ok x c1))(hl:zdV c1 x=some ys)(h:f x [] c1=some (.ok w c3)):zpl f a sl ce=some (.ok w c3):=by simp only[zpl,bnd,ha,look,zkO,hl,h,Option.map_some]
theorem zlm(ha:a sl ce=some (.ok x c1))(h:zhK c1 x=some src):dIL a sl ce=some (.ok src c1):=by simp only[dIL,bnd,ha,look,h,Option.map_some]
theorem zpL(ha:a sl ce=some (.ok x c1))(h:zrx x=some src):dIT a sl ce=some (.ok src c1):=by simp only[dIT,bnd,ha,look,h,Option.map_some]
theorem zj3{n:Nat}(ha:ra sl ce=some (.ok [nW n] c1))(h:n<=1000):zhL ra sl ce=some (.ok (.rng 0 n) c1):=zpG ha h
theorem zpM{α:Type}{mk:List W->M W}{js:List Nat}{di:Sl->M Src}{c:Sl->M Bool}{e:Sl->M W}{en:α->W}{zs:List α}{t:α->Bool}{g:α->W}(hi:di sl ce=some (.ok src c1))(hx:src.items=zs.map en)(hst:src.Stays c1)(hc:∀x∈zs,c (some (en x)::zdx js sl) c1=some (.ok (t x) c1))(he:∀x∈zs,t x=true->e (some (en x)::zdx js sl) c1=some (.ok (g x) c1))(hz:zs.length<=PySem.sizeLine)(hm:mk ((zs.filter t).map g) c1=some (.ok w c2)):dLC mk js di c e sl ce=some (.ok w c2):=by
 have key:∀(l:List α) (ys:List W),(∀x∈l,x∈zs)->ys.length+l.length<=PySem.sizeLine->lcL src (zdx js sl) c e (l.map en) ys c1=some (.ok (ys++(l.filter t).map g) c1):=by
  intro l
  induction l with
  | nil=>intro ys _ _;simp only[List.map_nil,lcL,if_pos hst,List.filter_nil,List.append_nil]
  | cons x r ih =>
   intro ys hl hz
   simp only[List.length_cons] at hz
   rw[List.map_cons,zfs ⟨hst,by omega⟩,zbY (hc x (hl x List.mem_cons_self))]
   cases ht:t x with
   | true =>
    show bnd (e (some (en x)::zdx js sl)) (fun y=>lcL src (zdx js sl) c e (r.map en) (ys++[y])) c1=_
    rw[zbY (he x (hl x List.mem_cons_self) ht),ih _ (fun y hy=>hl y (List.mem_cons_of_mem _ hy)) (by simp only[List.length_append,List.length_cons,List.length_nil];omega),List.filter_cons_of_pos ht,List.map_cons,List.append_assoc]
    rfl
   | false =>
    show lcL src (zdx js sl) c e (r.map en) ys c1=_
    rw[ih _ (fun y hy=>hl y (List.mem_cons_of_mem _ hy)) (by omega),List.filter_cons_of_neg (by simp[ht])]
 show bnd (di sl) (fun s=>bnd (lcL s (zdx js sl) c e s.items []) mk) ce=_
 rw[zbY hi,hx,zbY (key zs [] (fun _ h=>h) (by simpa using hz)),List.nil_append]
 exact hm
theorem zeq(h:xs.length<=PySem.sizeLine):zbX xs ce=some (.ok (.lst xs) ce):=if_pos h
theorem zcy(h:xs.length<=PySem.sizeLine):zfr xs ce=some (.ok (.cel ce.length) (ce++[.lst xs])):=if_pos h
theorem zpN{o i v:Sl->M W}{ow iw:W}{key:Key}{k:Nat}{kvs:List (Key×W)}{Q:O->Prop}(h1:v sl ce=some (.ok w c1))(h2:o sl c1=some (.ok ow c2))(h3:i sl c2=some (.ok iw c3))(h4:ziV iw=some key)(h5:zma c3 ow=some (k,kvs))(h6:kvs.length<PySem.sizeLine)(q:Q (.go .nx sl (c3.set k (.dct (ziB kvs key w))))):Run (zmb o i v) sl ce Q:=⟨_,zmm h1 h2 h3 h4 h5 h6,q⟩
theorem znD{o i v:Sl->M W}{s:DS}{ow iw:W}{key:Key}{k:Nat}{kvs:List (Key×W)}{Q:O->Prop}(h1:v sl ce=some (.ok w c1))(h2:o sl c1=some (.ok ow c2))(h3:i sl c2=some (.ok iw c3))(h4:ziV iw=some key)(h5:zma c3 ow=some (k,kvs))(h6:kvs.length<PySem.sizeLine)(q:Run s sl (c3.set k (.dct (ziB kvs key w))) Q):Run (zaA (zmb o i v) s) sl ce Q:=zcX (zmm h1 h2 h3 h4 h5 h6) q
end
structure Own (b ce:Ce) (l:List (Nat×C)):Prop where
 cut:∃t,ce=b++t
 get:∀p∈l,ce[p.1]?=some p.2
 ge:∀p∈l,b.length<=p.1
 nd:(l.map Prod.fst).Nodup
namespace Own
variable {b ce:Ce} {l:List (Nat×C)} {k k1 k2 k3:Nat} {c c' q1 q2 q3:C}
theorem start(b:Ce):Own b b []:=⟨⟨[],by simp⟩,by simp,by simp,by simp⟩
theorem alloc(h:Own b ce l)(c:C):Own b (ce++[c]) ((ce.length,c)::l):=by
 obtain⟨⟨t,e⟩,h2,h3,h4⟩:=h
 have lt:∀p∈l,p.1<ce.length:=fun p hp=>by
  have:=h2 p hp
  exact(List.getElem?_eq_some_iff.mp this).1
 refine⟨⟨t++[c],by rw[e,List.append_assoc]⟩,fun p hp=>?_,fun p hp=>?_,?_⟩
 ·rcases List.mem_cons.mp hp with rfl|hp
  ·exact zdd _ _
  ·rw[List.getElem?_append_left (lt p hp)];exact h2 p hp
 ·rcases List.mem_cons.mp hp with rfl|hp
  ·simp[e]
  ·exact h3 p hp
 ·simp only[List.map_cons,List.nodup_cons]
  exact⟨fun q=>by obtain⟨p,hp,e⟩:=List.mem_map.mp q;have:=lt p hp;omega,h4⟩
theorem perm{l':List (Nat×C)}(h:Own b ce l)(p:l.Perm l'):Own b ce l' :=
 ⟨h.cut,fun q hq=>h.get q (p.symm.subset hq),fun q hq=>h.ge q (p.symm.subset hq),(p.map _).nodup h.nd⟩
theorem g0(h:Own b ce ((k,c)::l)):ce[k]?=some c:=h.get _ List.mem_cons_self
theorem g1(h:Own b ce ((k1,q1)::(k,c)::l)):ce[k]?=some c:=h.get (k,c) (by simp)
theorem set0(h:Own b ce ((k,c)::l))(c':C):Own b (ce.set k c') ((k,c')::l):=by
 have hk:k<ce.length:=(List.getElem?_eq_some_iff.mp h.g0).1
 obtain⟨⟨t,e⟩,h2,h3,h4⟩:=h
 have hb:=h3 (k,c) List.mem_cons_self
 have hn:∀p∈l,p.1≠k:=fun p hp q=>(List.nodup_cons.mp h4).1 (List.mem_map.mpr ⟨p,hp,q⟩)
 refine⟨⟨t.set (k-b.length) c',?_⟩,fun p hp=>?_,fun p hp=>?_,h4⟩
 ·rw[e,List.set_append_right _ _ hb]
 ·rcases List.mem_cons.mp hp with rfl|hp
  ·simp[hk]
  ·rw[List.getElem?_set_ne (Ne.symm (hn p hp))];exact h2 p (List.mem_cons_of_mem _ hp)
 ·rcases List.mem_cons.mp hp with rfl|hp
  ·exact hb
  ·exact h3 p (List.mem_cons_of_mem _ hp)
theorem set1(h:Own b ce ((k1,q1)::(k,c)::l))(c':C):Own b (ce.set k c') ((k1,q1)::(k,c')::l):=((h.perm (.swap _ _ _)).set0 c').perm (.swap _ _ _)
theorem finC(h:Own b ce l){w:W}(hb:Bel b.length w):finC b ce w=some (.ok w b):=by
 obtain⟨t,rfl⟩:=h.cut
 exact zfy hb
theorem finO(h:Own b ce ((k,c)::l))(hb:zf5 b.length c):finO b ce (.cel k)=some (.ok (.cel b.length) (b++[c])):=by
 have g:=h.g0
 have ge:=h.ge _ List.mem_cons_self
 obtain⟨t,rfl⟩:=h.cut
 obtain⟨j,hj⟩:=Nat.exists_eq_add_of_le ge
 have hj':k=b.length+j:=hj
 subst hj'
 exact zlg (by rw[<- zqw b t j];exact g) hb
end Own
theorem zf8{fin:Ce->Ce->W->Option (R W)}{n:Nat}{body:DS}{ws:List W}{ce:Ce}{r:Option (R W)}(h:Run body (ws.map some++List.replicate (n-ws.length) none) ce (Rt fun w ce'=>fin ce ce' w=r)):dFn fin n body ws ce=r:=by
 obtain⟨o,e,q⟩:=h
 cases o with
 | ex x c=>exact q.elim
 | go f sl c=>cases f with
  | rt w=>exact zmq e q
  | nx=>exact q.elim
  | bk=>exact q.elim
  | ct=>exact q.elim
section
variable {ce:Ce} {k n p j:Nat} {b:List (List Nat)} {is:List Int} {l:List Nat} {xs:List W}
abbrev wS(is:List Int):W:=.tup (is.map W.int)
abbrev wL(l:List Nat):W:=.lst (l.map nW)
abbrev sW(ns:List Int):W:=.lst (ns.map W.int)
theorem zhT(h:p<b.length):ixW ce (wB b) (nW p)=some (wT (b.getD p [])):=by
 rw[zfA (xs:=b.map wT) rfl,List.getElem?_map,List.getD_eq_getElem?_getD,List.getElem?_eq_getElem h];rfl
theorem zdO(h:p<l.length):ixW ce (wL l) (nW p)=some (nW (l.getD p 0)):=by
 rw[zfA (xs:=l.map nW) rfl,List.getElem?_map,List.getD_eq_getElem?_getD,List.getElem?_eq_getElem h];rfl
theorem zbZ(h:p<is.length):ixW ce (wS is) (nW p)=some (.int (is.getD p 0)):=by
 rw[zfA (xs:=is.map W.int) rfl,List.getElem?_map,List.getD_eq_getElem?_getD,List.getElem?_eq_getElem h];rfl
theorem zmt(g:ce[k]?=some (.lst (l.map nW)))(h:p<l.length):ixW ce (.cel k) (nW p)=some (nW (l.getD p 0)):=by
 rw[zfA (zhR g),List.getElem?_map,List.getD_eq_getElem?_getD,List.getElem?_eq_getElem h];rfl
theorem zj4(g:ce[k]?=some (.lst (l.map nW))):zcv [.cel k] ce=some (.ok (nW l.length) ce):=by simp only[zcv,zhR g,List.length_map];rfl
theorem zfD:zcv [wL l] ce=some (.ok (nW l.length) ce):=by simp[zcv];rfl
theorem zci:zcv [wB b] ce=some (.ok (nW b.length) ce):=by simp[zcv,wB];rfl
theorem zhe:zcv [wS is] ce=some (.ok (nW is.length) ce):=by simp[zcv];rfl
theorem zpO(g:ce[k]?=some (.lst (l.map nW))){ng:Bool}:inW ng ce (nW p) (.cel k)=some (.bl (if ng then !decide (p∈l) else decide (p∈l))):=zpD (zhR g) ng
theorem znE{F:List Nat}(g:ce[k]?=some (.dct (kvs F))){ng:Bool}:zl9 ng ce (nW p) (.cel k)=some (.bl (if ng then !decide (p∈F) else decide (p∈F))):=by
 have ky:ziV (nW p)=some (.inl (p:Int)):=rfl
 simp only[zl9,ky,zpA g,znA]
theorem zgC{y:W}(g:ce[k]?=some (.lst xs))(h:xs.length<PySem.sizeLine):zeK (.cel k) [y] ce=some (.ok .non (ce.set k (.lst (xs++[y])))):=zpw (ze8 g) h
end
end VS
namespace VS
open L2
def ins(F:List Nat)(y:Nat):List Nat:=if y∈F then F else F++[y]
theorem ins_mem{F:List Nat}{y x:Nat}:x∈ins F y↔x∈F\/x=y:=by
 unfold ins
 split
 ·rename_i h
  exact⟨.inl,fun q=>q.elim id fun e=>e▸h⟩
 ·simp
theorem zmu{F:List Nat}{y:Nat}(h:F.Nodup):(ins F y).Nodup:=by
 unfold ins
 split
 ·exact h
 ·rename_i hn
  rw[List.nodup_append]
  exact⟨h,by simp,fun a ha b hb=>by rw[List.mem_singleton] at hb;subst hb;intro q;subst q;exact hn ha⟩
theorem zj5(F:List Nat)(y:Nat):ziB (kvs F) (.inl (y:Int)) (.bl true)=kvs (ins F y):=by
 unfold ins
 split
 ·rename_i h
  have e:((kvs F).any fun kv=>decide (kv.1=(.inl (y:Int):Key)))=true:=List.any_eq_true.mpr ⟨(.inl (y:Int),.bl true),List.mem_map.mpr ⟨y,h,rfl⟩,by simp⟩
  unfold ziB
  rw[e]
  simp only[if_true]
  conv=>rhs;rw[<- List.map_id (kvs F)]
  apply List.map_congr_left
  intro p hp
  obtain⟨x,hx,rfl⟩:=List.mem_map.mp hp
  simp only[id]
  split
  ·rename_i q;simp at q;rw[q]
  ·rfl
 ·rename_i h;exact zha F y h
theorem zfE{F:List Nat}{n:Nat}(nd:F.Nodup)(lt:∀x∈F,x<n):zbV F=(List.range n).filter fun x=>decide (x∈F):=by
 have h:srt (toI F)=toI ((List.range n).filter fun x=>decide (x∈F)):=by
  refine zch ((zby _).trans ?_) (zcM _) ?_
  ·refine List.Perm.map _ (zde nd (List.Pairwise.filter _ List.nodup_range) fun x=>?_)
   simp only[List.mem_filter,List.mem_range,decide_eq_true_eq]
   exact⟨fun h=>⟨lt x h,h⟩,fun h=>h.2⟩
  ·unfold toI
   rw[List.pairwise_map]
   exact(List.Pairwise.filter _ List.pairwise_lt_range).imp fun h=>by omega
 unfold zbV
 rw[h]
 unfold toI
 rw[List.map_map]
 conv=>rhs;rw[<- List.map_id (List.filter _ _)]
 apply List.map_congr_left
 intro x _
 simp
theorem zhU{ce:Ce}{k:Nat}{F:List Nat}{mk:List W->M W}(g:ce[k]?=some (.dct (kvs F)))(h:F.length<64):za3 mk [.cel k] ce=mk ((zbV F).map nW) ce:=by
 have l:zdV ce (.cel k)=none:=by simp only[zdV,g]
 have g':zog ce (.cel k)=some (kvs F):=by simp only[zog,g]
 simp only[za3,l,g',zlj,zbI,if_pos h,zdf]
theorem zln{ce:Ce}{k:Nat}{l:List Nat}{mk:List W->M W}(g:ce[k]?=some (.lst (l.map nW)))(h:l.length<64):za3 mk [.cel k] ce=mk ((zbV l).map nW) ce:=by
 simp only[za3,zb6 g,zfz,zbI,if_pos h,zdf]
inductive LstOf (ce:Ce):W->List W->Prop where
 | fr (xs:List W):LstOf ce (.lst xs) xs
 | cl {k:Nat} {xs:List W} (h:ce[k]?=some (.lst xs)):LstOf ce (.cel k) xs
namespace LstOf
variable {ce:Ce} {w:W} {xs:List W}
theorem drf(h:LstOf ce w xs):drf ce w=.lst xs:=by
 cases h with
 | fr=>rfl
 | cl h=>simp only[VS.drf,h]
theorem src(h:LstOf ce w xs):∃s,zhK ce w=some s/\s.items=xs/\s.Stays ce:=by
 cases h with
 | fr=>exact⟨.lst xs,rfl,rfl,trivial⟩
 | cl h=>exact⟨.cell _ xs,by simp only[zhK,h],rfl,h⟩
theorem eqI{w':W}{l m:List Int}(h:LstOf ce w (l.map W.int))(h':LstOf ce w' (m.map W.int))(ng:Bool):eqW ng ce w w'=some (.bl (if ng then !decide (l=m) else decide (l=m))):=by
 have c1:cln 8 (.lst (l.map W.int))=true:=zcN l 7
 have c2:cln 8 (.lst (m.map W.int))=true:=zcN m 7
 simp only[eqW,h.drf,h'.drf,c1,c2,zlk,Bool.and_self,if_true]
theorem eqN{w':W}{l m:List Nat}(h:LstOf ce w (l.map nW))(h':LstOf ce w' (m.map nW))(ng:Bool):eqW ng ce w w'=some (.bl (if ng then !decide (l=m) else decide (l=m))):=by
 rw[zjV] at h h'
 rw[h.eqI h' ng]
 have inj:(toI l=toI m)↔l=m:=by
  unfold toI
  exact⟨fun h=>by simpa using List.map_inj_right (f:=fun(x:Nat)=>(x:Int)) (fun x y h=>by have h:(x:Int)=(y:Int):=h;omega) |>.mp h,fun h=>by rw[h]⟩
 simp only[inj]
end LstOf
theorem zdh{ce:Ce}{w:W}{xs:List W}(h:LstOf ce w xs)(hz:xs.length<=PySem.sizeLine):zbi [w] ce=some (.ok (.tup xs) ce):=by
 cases h with
 | fr=>exact if_pos hz
 | cl h=>simp only[zbi,zb6 h];exact if_pos hz
theorem zj6{ce:Ce}{w:W}{xs:List W}{mk:List W->M W}(h:zf3 ce w=some xs):ziC mk [w] ce=mk xs ce:=by simp only[ziC,h]
def zeP(di:Sl->M Src)(sl:Sl)(ce c1:Ce)(xs:List W):Prop:=∃s,di sl ce=some (.ok s c1)/\s.items=xs/\s.Stays c1
def SrcFix(di:Sl->M Src)(sl:Sl)(ce c1:Ce)(xs:List W):Prop:=∃s,di sl ce=some (.ok s c1)/\s.items=xs/\∀c,s.Stays c
section
variable {di:Sl->M Src} {sl:Sl} {ce c1 c2:Ce} {xs:List W} {a:Sl->M W} {ra:Sl->M (List W)} {w:W}
theorem SrcFix.is(h:SrcFix di sl ce c1 xs):zeP di sl ce c1 xs:=by obtain⟨s,h1,h2,h3⟩:=h;exact⟨s,h1,h2,h3 _⟩
theorem zgD(h:a sl ce=some (.ok (.lst xs) c1)):SrcFix (dIL a) sl ce c1 xs:=⟨.lst xs,zlm h rfl,rfl,fun _=>trivial⟩
theorem znF(h:a sl ce=some (.ok (.tup xs) c1)):SrcFix (dIT a) sl ce c1 xs:=⟨.tup xs,zpL h rfl,rfl,fun _=>trivial⟩
theorem zer{l:List Nat}(h:a sl ce=some (.ok (wT l) c1)):SrcFix (dIT a) sl ce c1 (l.map nW):=znF h
theorem zeQ{n:Nat}(h:ra sl ce=some (.ok [nW n] c1))(hn:n<=1000):SrcFix (zhL ra) sl ce c1 ((List.range n).map nW):=⟨.rng 0 n,zj3 h hn,zem n,fun _=>trivial⟩
theorem zj7(h:a sl ce=some (.ok w c1))(hw:LstOf c1 w xs):zeP (dIL a) sl ce c1 xs:=by
 obtain⟨s,h1,h2,h3⟩:=hw.src
 exact⟨s,zlm h h1,h2,h3⟩
variable {α:Type} {en:α->W} {zs:List α} {t:α->Bool} {g:α->W} {js:List Nat} {c:Sl->M Bool} {e:Sl->M W}
theorem lcF(hi:zeP di sl ce c1 (zs.map en))(hz:zs.length<=PySem.sizeLine)(hc:∀x∈zs,c (some (en x)::zdx js sl) c1=some (.ok (t x) c1))(he:∀x∈zs,t x=true->e (some (en x)::zdx js sl) c1=some (.ok (g x) c1)) :
  dLC zbX js di c e sl ce=some (.ok (.lst ((zs.filter t).map g)) c1):=by
 obtain⟨s,h1,h2,h3⟩:=hi
 exact zpM h1 h2 h3 hc he hz (zeq (by rw[List.length_map];exact Nat.le_trans (List.length_filter_le _ _) hz))
theorem lcC(hi:zeP di sl ce c1 (zs.map en))(hz:zs.length<=PySem.sizeLine)(hc:∀x∈zs,c (some (en x)::zdx js sl) c1=some (.ok (t x) c1))(he:∀x∈zs,t x=true->e (some (en x)::zdx js sl) c1=some (.ok (g x) c1)) :
  dLC zfr js di c e sl ce=some (.ok (.cel c1.length) (c1++[.lst ((zs.filter t).map g)])):=by
 obtain⟨s,h1,h2,h3⟩:=hi
 exact zpM h1 h2 h3 hc he hz (zcy (by rw[List.length_map];exact Nat.le_trans (List.length_filter_le _ _) hz))
theorem zhV(zs:List α):zs.filter (fun _=>true)=zs:=List.filter_eq_self.mpr fun _ _=>rfl
theorem zqx(hi:zeP di sl ce c1 (zs.map en))(hz:zs.length<=PySem.sizeLine)(he:∀x∈zs,e (some (en x)::zdx js sl) c1=some (.ok (g x) c1)) :
  dLC zbX js di zeJ e sl ce=some (.ok (.lst (zs.map g)) c1):=by
 have h:=lcF (t:=fun _=>true) (js:=js) hi hz (c:=zeJ) (fun _ _=>rfl) (fun x hx _=>he x hx)
 rwa [zhV] at h
theorem zsm(hi:zeP di sl ce c1 (zs.map en))(hz:zs.length<=PySem.sizeLine)(he:∀x∈zs,e (some (en x)::zdx js sl) c1=some (.ok (g x) c1)) :
  dLC zfr js di zeJ e sl ce=some (.ok (.cel c1.length) (c1++[.lst (zs.map g)])):=by
 have h:=lcC (t:=fun _=>true) (js:=js) hi hz (c:=zeJ) (fun _ _=>rfl) (fun x hx _=>he x hx)
 rwa [zhV] at h
theorem zpP{f:α->Int}(hi:zeP di sl ce c1 (zs.map en))(hz:zs.length<=PySem.sizeLine)(he:∀x∈zs,e (some (en x)::zdx js sl) c1=some (.ok (.int (f x)) c1)):dLC zbX js di zeJ e sl ce=some (.ok (sW (zs.map f)) c1):=by
 rw[zqx hi hz he,sW,List.map_map];rfl
theorem zrM{f:α->Nat}(hi:zeP di sl ce c1 (zs.map en))(hz:zs.length<=PySem.sizeLine)(he:∀x∈zs,e (some (en x)::zdx js sl) c1=some (.ok (nW (f x)) c1)):dLC zbX js di zeJ e sl ce=some (.ok (wL (zs.map f)) c1):=by
 rw[zqx hi hz he,wL,List.map_map];rfl
theorem zqy(hi:zeP di sl ce c1 (zs.map en))(hz:zs.length<=PySem.sizeLine)(hc:∀x∈zs,c (some (en x)::zdx js sl) c1=some (.ok (t x) c1)):dLC zbX js di c (zag 0) sl ce=some (.ok (.lst ((zs.filter t).map en)) c1) :=
 lcF hi hz hc fun _ _ _=>rfl
theorem zsn(hi:zeP di sl ce c1 (zs.map en))(hz:zs.length<=PySem.sizeLine)(hc:∀x∈zs,c (some (en x)::zdx js sl) c1=some (.ok (t x) c1)):dLC zfr js di c (zag 0) sl ce=some (.ok (.cel c1.length) (c1++[.lst ((zs.filter t).map en)])) :=
 lcC hi hz hc fun _ _ _=>rfl
theorem zdi{body:DS}{i:Nat}{Q:O->Prop}(hi:SrcFix di sl ce c1 (zs.map en))(R:List α->Sl->Ce->Prop)(h0:R [] sl c1)(step:∀d x r sl ce,d++x::r=zs->x∈zs->R d sl ce->Run body (sl.set i (some (en x))) ce (Nx (R (d++[x]))))(fin:∀sl ce,R zs sl ce->Q (.go .nx sl ce)):Run (zcW di (gN i) body) sl ce Q:=by
 obtain⟨s,h1,h2,h3⟩:=hi
 exact zj0 h1 h2 R h0 (fun d x r sl ce e m h=>⟨h3 _,step d x r sl ce e m h⟩) (fun _ _ _=>h3 _) fin
theorem za7{body b:DS}{i:Nat}{Q:O->Prop}(hi:SrcFix di sl ce c1 (zs.map en))(R:List α->Sl->Ce->Prop)(h0:R [] sl c1)(step:∀d x r sl ce,d++x::r=zs->x∈zs->R d sl ce->Run body (sl.set i (some (en x))) ce (Nx (R (d++[x]))))(fin:∀sl ce,R zs sl ce->Run b sl ce Q):Run (zaA (zcW di (gN i) body) b) sl ce Q:=by
 obtain⟨s,h1,h2,h3⟩:=hi
 exact zhc h1 h2 R h0 (fun d x r sl ce e m h=>⟨h3 _,step d x r sl ce e m h⟩) (fun _ _ _=>h3 _) fin
end
theorem zj8(ce:Ce)(x y:Int)(ng:Bool):eqW ng ce (.int x) (.int y)=some (.bl (if ng then !decide (x=y) else decide (x=y))):=by
 have d1:drf ce (.int x)=.int x:=rfl
 have d2:drf ce (.int y)=.int y:=rfl
 have c:∀i:Int,cln 8 (.int i)=true:=fun _=>rfl
 simp only[eqW,d1,d2,c,Bool.and_self,if_true,zjX]
theorem zb8{fin:Ce->Ce->W->Option (R W)}{n:Nat}{body:DS}{ws:List W}{ce:Ce}{w:W}{c':Ce}(sl:Sl)(e:ws.map some++List.replicate (n-ws.length) none=sl)(h:Run body sl ce (Rt fun v ce'=>fin ce ce' v=some (.ok w c'))):dFn fin n body ws ce=some (.ok w c'):=by
 subst e
 exact zf8 h
section
variable {ce:Ce} {k p:Nat} {l:List Nat} {m:List Int} {i j:Int} {w w':W}
theorem eqI0:eqW false ce (.int i) (.int j)=some (.bl (decide (i=j))):=zj8 _ _ _ _
theorem zs6:eqW true ce (.int i) (.int j)=some (.bl (!decide (i=j))):=zj8 _ _ _ _
theorem zso(g:ce[k]?=some (.lst (l.map nW))):inW true ce (nW p) (.cel k)=some (.bl (!decide (p∈l))):=zpO g
theorem zrN(g:ce[k]?=some (.dct (kvs l))):zl9 true ce (nW p) (.cel k)=some (.bl (!decide (p∈l))):=znE g
end
section
variable {x y:W} {i j:Int} {n k:Nat} {ce:Ce}
theorem zcz(hx:x=.int i)(hy:y=.int j):zcl x y=some (.int (i+j)):=by subst hx;subst hy;rfl
theorem zhf(hx:x=.int i)(hy:y=.int j):zkL x y=some (.int (i-j)):=by subst hx;subst hy;rfl
theorem zgE(hx:x=.int i)(hy:y=.int j):fLt x y=some (.bl (decide (i<j))):=by subst hx;subst hy;rfl
theorem zmv(hx:x=.int i)(hy:y=.int j):fGt x y=some (.bl (decide (j<i))):=by subst hx;subst hy;rfl
theorem zcj(hx:x=.int i)(hy:y=.int j):zgS x y=some (.bl (decide (i=j))):=by subst hx;subst hy;rfl
theorem zfF(hx:x=.int i)(hy:y=.int j):zmi x y=some (.bl (!decide (i=j))):=by subst hx;subst hy;rfl
theorem zfG(hx:x=.int i)(hy:y=.int j)(h:0<j):zeH x y=some (.int (i % j)):=by subst hx;subst hy;exact zmn h
theorem zj9(hx:x=.int i)(hy:y=.int j)(h:0<j/\j<1073741824):zoe x y=some (.int (i / j)):=by subst hx;subst hy;exact zpy h
theorem zbt(hx:x=.int i)(hy:y=.int j)(h:CMul i j):zeG x y=some (.int (i*j)):=by subst hx;subst hy;exact zpx h
theorem zpQ(hx:x=.int i):ziV x=some (.inl i):=by subst hx;rfl
theorem zlo{mk:List W->M W}{l:List Nat}(h:l.length<64):za3 mk [wL l] ce=mk ((zbV l).map nW) ce:=by
 simp only[za3,zpz,zfz,zbI,if_pos h,zdf]
end
section
variable {ce:Ce} {l:List Nat} {m:List Int} {w:W}
theorem zlp:eqW false ce (.lst (l.map nW)) (.lst [])=some (.bl (decide (l=[]))):=(LstOf.fr _).eqN (m:=[]) (.fr _) false
theorem znG{P:W->Ce->Prop}{sl:Sl}(h:P w ce):Rt P (.go (.rt w) sl ce):=h
end
section
variable {ce c1:Ce} {l:List Nat} {k:Nat} {sl:Sl} {a:Sl->M W} {α:Type} {en:α->W} {zs:List α}
theorem zb0(l:List Nat):(zbV l).length=l.length:=by rw[zbV,List.length_map,(zby _).length_eq,zbI]
theorem zgF{σ:Type}{c:Sl->M Bool}{body b:DS}{fu:Nat}{Q:O->Prop}(R:σ->Sl->Ce->Prop)(m:σ->Nat)(s0:σ)(h0:R s0 sl ce)(hm:m s0<fu)(step:∀s sl ce,R s sl ce->∃p,c sl ce=some (.ok p ce)/\(p=true->Run body sl ce (Nx fun sl2 ce2=>∃s2,m s2<m s/\R s2 sl2 ce2))/\(p=false->Run b sl ce Q)):Run (zaA (zcn c body fu) b) sl ce Q :=
 znB (zj1 R m s0 h0 hm fun s sl ce h=>by
  obtain⟨p,e,ht,hf⟩:=step s sl ce h
  exact⟨p,e,ht,fun q=>⟨sl,ce,rfl,hf q⟩⟩)
end
theorem zfH(n:Nat):∀cs:List (List Nat),zc9 n (cs.map wL)
 | []=>by simp only[List.map_nil,zc9]
 | a::r=>by simp only[List.map_cons,zc9,wL,Bel];exact⟨bels_nW n a,zfH n r⟩
section
variable {ce:Ce} {k:Nat} {l:List Nat} {b:List (List Nat)} {m:List Int}
theorem zlq(g:ce[k]?=some (.lst (m.map W.int)))(h:m.length<=PySem.sizeLine):zbi [.cel k] ce=some (.ok (wS m) ce):=zdh (.cl g) (by rw[List.length_map];exact h)
theorem zpR(h:b.length<=PySem.sizeLine):zbi [.lst (b.map wT)] ce=some (.ok (wB b) ce):=zdh (.fr _) (by rw[List.length_map];exact h)
theorem zpS(h:m.length<=PySem.sizeLine):zbi [sW m] ce=some (.ok (wS m) ce):=zdh (.fr _) (by rw[List.length_map];exact h)
end
section
variable {ce:Ce} {k:Nat} {l l':List Nat} {m:List Int}
end
end VS
namespace VS
open PySem PySem.Spec PyProof.Rows L2
section
variable {X:Cx}
def zpT(K:PySem.W.Frag):R2:=fun x y H Q=>∃a b xs ys,x=.ref a/\y=.ref b/\SqT K H a xs/\SqT K H b ys/\xs.length+ys.length<=sizeLine /\
 (xs=[]->Q (.ref b) H)/\(ys=[]->Q (.ref a) H)/\(∀p,H p=none->Q (.ref p) (upd H p (.tup (xs++ys))))
theorem zlr:OpR X (binaryOp .Add) (zpT X.K):=by
 intro pins s σ H x y v u Q I rx ry h
 obtain⟨a,b,xs,ys,rfl,rfl,ha,hb,hz,q0,q1,q2⟩:=h
 by_cases hx:xs=[]
 ·cases rx
  cases ry
  obtain⟨its,r1,p1,_⟩:=I.tuple ha
  obtain⟨its2,r2,p2,_⟩:=I.tuple hb
  obtain⟨⟨cls,dd,data,sl⟩,ho,hc,n,hd⟩:=id p1
  obtain⟨⟨cls2,dd2,data2,sl2⟩,ho2,hc2,n2,hd2⟩:=id p2
  simp only at hc hd hc2 hd2
  subst hc hd hc2 hd2
  have he:its=[]:=r1.nil_iff.mpr hx
  exact concat_meets ⟨_,ho,rfl⟩ ⟨_,ho2,rfl⟩ noFill_tuple_add seq_tuple_add PySem.F.slot_tuple_add PySem.F.entry_tuple_add (PySem.F.args_tuple_add_2 _ _)
   (tuple_addW0 a b its.toArray its2.toArray n n2 dd dd2 sl sl2 (by simp[he])) ⟨ho,ho2,⟨.ref b,H,I,rfl,q0 hx⟩⟩
 ·exact zm9 pins s σ H _ _ v u Q I rx ry ⟨a,b,xs,ys,rfl,rfl,ha,hb,hx,hz,q1,fun _=>q2⟩
end
section
variable {X:Cx} {G:Ga} {E:XK} {a b:Expr} {da db:Sl->M W} {pos:Pos}
def znH(x y:W):M W:=fun ce=>match x,y with
 | .tup xs,.tup ys=>if xs.length+ys.length<=sizeLine then some (.ok (.tup (xs++ys)) ce) else none
 | _,_=>none
def ziE(a b:Sl->M W):Sl->M W:=fun sl=>bnd (a sl) fun x=>bnd (b sl) fun y=>znH x y
theorem zka(ha:PE X a (zax G E da))(hb:PE X b (zax G E db)):PE X (.BinOp a .Add b pos) (zax G E (ziE da db)):=by
 refine PE.imp (zkU zlr ha hb) fun σ H Q h=>zgm h fun F as sl ce H2 x y wx wy S rx ry P=>?_
 revert P
 unfold znH
 cases wx<;>first|exact fun P=>P.elim|skip
 rename_i xs
 cases wy<;>first|exact fun P=>P.elim|skip
 rename_i ys
 dsimp only
 split
 ·rename_i hl
  intro P
  simp only[Rep] at rx ry
  obtain⟨p,vs,rfl,h1,r1⟩:=rx
  obtain⟨p',us,rfl,h2,r2⟩:=ry
  have P':Post G E Rep F as σ sl Q (mkF (.tup (xs++ys)) (xs++ys).length ce):=by
   have:mkF (.tup (xs++ys)) (xs++ys).length ce=some (.ok (.tup (xs++ys)) ce):=if_pos (by rw[List.length_append];exact hl)
   rw[this];exact P
  refine⟨p,p',vs,us,rfl,rfl,.inl (.inl (S.st.sub _ _ h1)),.inl (.inl (S.st.sub _ _ h2)),by rw[r1.length,r2.length];exact hl,fun e=>?_,fun e=>?_,(zg5 S (r1.append r2) P').2⟩
  ·have hx:xs=[]:=List.length_eq_zero_iff.mp (by rw[<- r1.length,e];rfl)
   subst hx
   exact P.done S (by simp only[Rep,List.nil_append];exact⟨p',us,rfl,h2,r2⟩)
  ·have hx:ys=[]:=List.length_eq_zero_iff.mp (by rw[<- r2.length,e];rfl)
   subst hx
   exact P.done S (by simp only[Rep,List.append_nil];exact⟨p,vs,rfl,h1,r1⟩)
 ·exact fun P=>P.elim
def ztm(ng:Bool):W->W->Option W
 | .bl c,.bl d=>some (.bl (if ng then c != d else c==d))
 | _,_=>none
end
end VS
namespace VS
open L2
section
variable {sl:Sl} {ce c1 c2:Ce} {a b:Sl->M W} {w x y:W} {xs ys:List W} {k n:Nat} {i:Int} {p q:Bool}
theorem zls{key:Key}(ha:a sl (ce++[.dct []])=some (.ok x (ce++[.dct []])))(hb:b sl (ce++[.dct []])=some (.ok y (ce++[.dct []])))(hk:ziV x=some key):zgz a b sl ce=some (.ok (.cel ce.length) (ce++[.dct [(key,y)]])):=by
 have g:(ce++[C.dct []])[ce.length]?=some (.dct []):=zdd _ _
 have s:(ce++[C.dct []]).set ce.length (.dct [(key,y)])=ce++[.dct [(key,y)]]:=by rw[zrB];rfl
 simp only[zgz,bnd,ha,hb,ret,hk,g,s]
theorem zpU(g:ce[k]?=some (.lst xs))(e:xs=ys++[y]):zpn (.cel k) [] ce=some (.ok y (ce.set k (.lst ys))):=by
 subst e
 simp[zpn,ze8 g]
theorem znI(g:ce[k]?=some (.lst xs)):zg2 ce (.cel k)=some (!xs.isEmpty):=by simp only[zg2,g]
theorem zhg(g:ce[k]?=some (.lst xs))(h:zdV ce w=some ys)(hz:xs.length+ys.length<=PySem.sizeLine):znx (.cel k) [w] ce=some (.ok .non (ce.set k (.lst (xs++ys)))):=by simp only[znx,ze8 g,h,if_pos hz]
theorem znJ(ha:a sl ce=some (.ok (.tup xs) c1))(hb:b sl c1=some (.ok (.tup ys) c2))(hz:xs.length+ys.length<=PySem.sizeLine):ziE a b sl ce=some (.ok (.tup (xs++ys)) c2):=by
 simp only[ziE,bnd,ha,hb,znH,if_pos hz]
variable {α:Type} {en:α->W} {zs:List α} {di:Sl->M Src} {e:Sl->M W} {js:List Nat}
theorem zkb{body:DS}{i:Nat}{Q:O->Prop}(hi:SrcFix di sl ce c1 (zs.map en))(R:List α->Sl->Ce->Prop)(T:W->Ce->Prop)(h0:R [] sl c1)(step:∀d x r sl ce,d++x::r=zs->x∈zs->R d sl ce->Run body (sl.set i (some (en x))) ce (NR (R (d++[x])) T))(tell:∀w sl ce,T w ce->Q (.go (.rt w) sl ce))(fin:∀sl ce,R zs sl ce->Q (.go .nx sl ce)):Run (zcW di (gN i) body) sl ce Q:=by
 obtain⟨s,h1,h2,h3⟩:=hi
 obtain⟨o,e,q⟩:=zfB (g:=gN i) (body:=body) (en:=en) (src:=s) zs R T (fun d x r sl ce e h=>⟨h3 _,_,rfl,step d x r sl ce e (by rw[<- e];simp) h⟩) (fun _ _ _=>h3 _) zs [] sl c1 rfl h0
 rcases q with ⟨sl',ce',rfl,h⟩|⟨w,sl',ce',rfl,h⟩
 ·exact⟨_,by rw[zhb h1,h2];exact e,fin _ _ h⟩
 ·exact⟨_,by rw[zhb h1,h2];exact e,tell _ _ _ h⟩
theorem zlt{a b:DS}{Q:O->Prop}(h:Run a sl ce fun o=>(∃sl' ce',o=.go .nx sl' ce'/\Run b sl' ce' Q)\/∃w sl' ce',o=.go (.rt w) sl' ce'/\Q o):Run (zaA a b) sl ce Q:=by
 obtain⟨o,e,⟨sl',ce',rfl,q⟩|⟨w,sl',ce',rfl,q⟩⟩:=h
 ·exact zcX e q
 ·exact⟨_,znz e,q⟩
theorem zgG{body b:DS}{i:Nat}{Q:O->Prop}(hi:SrcFix di sl ce c1 (zs.map en))(R:List α->Sl->Ce->Prop)(T:W->Ce->Prop)(h0:R [] sl c1)(step:∀d x r sl ce,d++x::r=zs->x∈zs->R d sl ce->Run body (sl.set i (some (en x))) ce (NR (R (d++[x])) T))(tell:∀w sl ce,T w ce->Q (.go (.rt w) sl ce))(fin:∀sl ce,R zs sl ce->Run b sl ce Q):Run (zaA (zcW di (gN i) body) b) sl ce Q :=
 zlt (zkb hi R T h0 step (fun w sl ce h=>.inr ⟨w,sl,ce,rfl,tell w sl ce h⟩) fun sl ce h=>.inl ⟨sl,ce,rfl,fin sl ce h⟩)
end
inductive SetAt:Sl->Nat->Option W->Sl->Prop where
 | zero {x w:Option W} {r:Sl}:SetAt (x::r) 0 w (w::r)
 | succ {x w:Option W} {r r':Sl} {i:Nat} (h:SetAt r i w r'):SetAt (x::r) (i+1) w (x::r')
theorem SetAt.eq{sl sl':Sl}{i:Nat}{w:Option W}(h:SetAt sl i w sl'):sl.set i w=sl':=by
 induction h with
 | zero=>rfl
 | succ _ ih=>rw[List.set_cons_succ,ih]
theorem zam{b:DS}{sl sl':Sl}{i:Nat}{w:Option W}{ce:Ce}{Q:O->Prop}(hs:SetAt sl i w sl')(h:Run b sl' ce Q):Run b (sl.set i w) ce Q:=by rw[hs.eq];exact h
section
variable {b:List (List Nat)} {vl:Nat->Int} {s x y:Nat}
abbrev okV(vl:Nat->Int)(s y:Nat):Prop:=vl y=vl s
abbrev Sym(b:List (List Nat)):Prop:=∀i j,j∈b.getD i []->i∈b.getD j []
open Classical in
def cpt(b:List (List Nat))(vl:Nat->Int)(s:Nat):List Nat:=(List.range b.length).filter fun y=>decide (Reach b (okV vl s) s y)
def zbG(b:List (List Nat))(vl:Nat->Int)(s:Nat):Bool:=(cpt b vl s).all fun y=>decide (s<=y)
def ptc(b:List (List Nat))(vl:Nat->Int):List (List Nat):=((List.range b.length).filter (zbG b vl)).map (cpt b vl)
theorem Reach.lt(hb:Bd b)(hs:s<b.length){ok:Nat->Prop}(h:Reach b ok s x):x<b.length:=by
 cases h with
 | refl=>exact hs
 | step _ hy _=>exact hb.get hy
open Classical in
theorem zb3(hb:Bd b)(hs:s<b.length):x∈cpt b vl s↔Reach b (okV vl s) s x:=by
 unfold cpt
 rw[List.mem_filter,List.mem_range,decide_eq_true_eq]
 exact⟨fun h=>h.2,fun h=>⟨h.lt hb hs,h⟩⟩
theorem cpt_lt(h:x∈cpt b vl s):x<b.length:=List.mem_range.mp (List.mem_filter.mp h).1
theorem zpV:(cpt b vl s).Nodup:=List.Pairwise.filter _ List.nodup_range
theorem znK:(cpt b vl s).length<=b.length:=by
 have:=List.length_filter_le (fun y=>@decide (Reach b (okV vl s) s y) (Classical.propDecidable _)) (List.range b.length)
 rw[List.length_range] at this
 exact this
theorem zcP(hb:Bd b)(hs:s<b.length):s∈cpt b vl s:=(zb3 hb hs).mpr .refl
theorem cpt_val(hb:Bd b)(hs:s<b.length)(h:x∈cpt b vl s):vl x=vl s:=Reach.okOf (ok:=okV vl s) rfl ((zb3 hb hs).mp h)
open Classical in
theorem znL{F:List Nat}(c:Comp b (okV vl s) s F):zbV F=cpt b vl s:=by
 rw[zfE c.nd c.lt]
 unfold cpt
 apply List.filter_congr
 intro x _
 rw[Bool.eq_iff_iff,decide_eq_true_eq,decide_eq_true_eq]
 exact c.mem x
theorem zmw(h:vl x=vl s):okV vl x=okV vl s:=by funext y;unfold okV;rw[h]
open Classical in
theorem zdP(hb:Bd b)(sym:Sym b)(hs:s<b.length)(h:x∈cpt b vl s):cpt b vl x=cpt b vl s:=by
 have v:=cpt_val hb hs h
 have r:=(zb3 hb hs).mp h
 unfold cpt
 apply List.filter_congr
 intro y _
 rw[Bool.eq_iff_iff,decide_eq_true_eq,decide_eq_true_eq,zmw v]
 exact⟨fun q=>r.trans q,fun q=>(Reach.symm (ok:=okV vl s) sym rfl r).trans q⟩
theorem zhW(hb:Bd b)(sym:Sym b)(hs:s<b.length)(h:x∈cpt b vl s):s∈cpt b vl x:=by rw[zdP hb sym hs h];exact zcP hb hs
theorem zgH(hb:Bd b)(sym:Sym b)(hs:s<b.length):∃m,m∈cpt b vl s/\zbG b vl m=true/\cpt b vl m=cpt b vl s:=by
 have key:∀(k:Nat) (s:Nat),s<=k->s<b.length->∃m,m∈cpt b vl s/\zbG b vl m=true/\cpt b vl m=cpt b vl s:=by
  intro k
  induction k with
  | zero =>
   intro s hk hs
   refine⟨s,zcP hb hs,?_,rfl⟩
   unfold zbG
   rw[List.all_eq_true]
   intro y _
   exact decide_eq_true (by omega)
  | succ k ih =>
   intro s hk hs
   by_cases h:zbG b vl s=true
   ·exact⟨s,zcP hb hs,h,rfl⟩
   ·unfold zbG at h
    rw[List.all_eq_true] at h
    obtain⟨y,hy⟩:=Classical.not_forall.mp h
    obtain⟨hy,hn⟩:=Classical.not_imp.mp hy
    have hn':¬s<=y:=fun q=>hn (decide_eq_true q)
    obtain⟨m,h1,h2,h3⟩:=ih y (by omega) (cpt_lt hy)
    have e:=zdP hb sym hs hy
    exact⟨m,by rw[<- e];exact h1,h2,by rw[h3,e]⟩
 exact key s s (Nat.le_refl _) hs
theorem zes(hb:Bd b){c:List Nat}:c∈ptc b vl↔∃s,s<b.length/\zbG b vl s=true/\c=cpt b vl s:=by
 unfold ptc
 rw[List.mem_map]
 constructor
 ·rintro⟨s,hs,rfl⟩
  obtain⟨h1,h2⟩:=List.mem_filter.mp hs
  exact⟨s,List.mem_range.mp h1,h2,rfl⟩
 ·rintro⟨s,h1,h2,rfl⟩
  exact⟨s,List.mem_filter.mpr ⟨List.mem_range.mpr h1,h2⟩,rfl⟩
theorem znM:(ptc b vl).length<=b.length:=by
 unfold ptc
 rw[List.length_map]
 have:=List.length_filter_le (zbG b vl) (List.range b.length)
 rw[List.length_range] at this
 exact this
theorem zd4(hb:Bd b)(hs:s<b.length)(h:zbG b vl s=true):(cpt b vl s).getD 0 0=s:=by
 have hmem:=zcP (vl:=vl) hb hs
 unfold zbG at h
 rw[List.all_eq_true] at h
 have srt:(cpt b vl s).Pairwise (·<·):=List.Pairwise.filter _ List.pairwise_lt_range
 cases e:cpt b vl s with
 | nil=>rw[e] at hmem;simp at hmem
 | cons a r =>
  rw[e] at hmem h srt
  have h1:s<=a:=of_decide_eq_true (h a (by simp))
  rcases List.mem_cons.mp hmem with h2|h2
  ·simp[h2]
  ·have:=(List.pairwise_cons.mp srt).1 s h2
   omega
end
end VS
namespace VS
open PySem PySem.Spec PyProof.Rows L2
mutual
def ze9(n:Nat)(ce:Ce):Nat->W->Option W
 | 0,.cel k=>if k<n then some (.cel k) else none
 | 0,.lst _=>none
 | 0,.tup _=>none
 | d+1,.cel k=>if k<n then some (.cel k) else match ce[k]? with
  | some (.lst xs)=>(zdj n ce d xs).map .lst
  | _=>none
 | d+1,.lst xs=>(zdj n ce d xs).map .lst
 | d+1,.tup xs=>(zdj n ce d xs).map .tup
 | _,w=>some w
def zdj(n:Nat)(ce:Ce):Nat->List W->Option (List W)
 | _,[]=>some []
 | d,x::xs=>match ze9 n ce d x,zdj n ce d xs with
  | some y,some ys=>some (y::ys)
  | _,_=>none
end
section
variable {G:Ga} {F F2:Hp} {as as2:List Addr} {H:Hp} {ce:Ce} {n:Nat}
theorem zhX(h:∀{w w2:W} {v:V},ze9 n ce d w=some w2->Rep F as w v->Rep F2 as2 w2 v):∀{ws ws2:List W} {vs:List V},zdj n ce d ws=some ws2->Reps F as ws vs->Reps F2 as2 ws2 vs
 | [],ws2,vs,e,r=>by
  simp only[zdj,Option.some.injEq] at e
  subst e
  simp only[Reps] at r
  subst r
  exact .nil
 | x::xs,ws2,vs,e,r=>by
  simp only[zdj] at e
  simp only[Reps] at r
  obtain⟨v,r',rfl,q,s⟩:=r
  split at e
  ·rename_i y ys e1 e2
   cases e
   exact .cons (h e1 q) (zhX h e2 s)
  ·cases e
theorem zlu(S:Store G F as H ce)(hF:∀a o,F a=some o->F2 a=some o)(hc:∀(k:Nat) (a:Addr) (xs:List W) (vs:List V),n<=k->as[k]?=some a->ce[k]?=some (.lst xs)->H a=some (.lst vs)->F2 a=some (.lst vs))(ha:∀(k:Nat) (a:Addr),k<n->as[k]?=some a->as2[k]?=some a):∀(d:Nat) {w w2:W} {v:V},ze9 n ce d w=some w2->Rep F as w v->Rep F2 as2 w2 v:=by
 have rd:∀{a:Addr} {o:HO},Rd F a o->Rd F2 a o:=fun r=>by
  rcases r with r|⟨u,r⟩
  ·exact .inl (hF _ _ r)
  ·exact .inr ⟨u,hF _ _ r⟩
 have low:∀{k:Nat} {v:V},k<n->Rep F as (.cel k) v->Rep F2 as2 (.cel k) v:=fun hk r=>by
  simp only[Rep] at r ⊢
  obtain⟨a,rfl,q⟩:=r
  exact⟨a,rfl,ha _ _ hk q⟩
 intro d
 induction d with
 | zero =>
  intro w w2 v e r
  cases w<;>simp only[ze9,Option.some.injEq,reduceCtorEq] at e
  case cel k =>
   split at e
   ·rename_i hk
    cases e
    exact low hk r
   ·cases e
  all_goals (subst e;simp only[Rep] at r ⊢;exact r)
 | succ d ih =>
  have ihs:∀{ws ws2:List W} {vs:List V},zdj n ce d ws=some ws2->Reps F as ws vs->Reps F2 as2 ws2 vs:=fun e r=>zhX ih e r
  intro w w2 v e r
  cases w<;>simp only[ze9,Option.some.injEq] at e
  case cel k =>
   split at e
   ·rename_i hk
    cases e
    exact low hk r
   ·rename_i hk
    split at e
    ·rename_i xs hx
     obtain⟨ys,e1,rfl⟩:=Option.map_eq_some_iff.mp e
     simp only[Rep] at r
     obtain⟨a,rfl,q⟩:=r
     obtain⟨_,vs,h2,rs⟩:=S.cell _ _ _ q hx
     simp only[Rep]
     exact⟨a,vs,rfl,.inl (hc k a xs vs (by omega) q hx h2),ihs e1 rs⟩
    ·cases e
  case lst xs =>
   obtain⟨ys,e1,rfl⟩:=Option.map_eq_some_iff.mp e
   simp only[Rep] at r ⊢
   obtain⟨a,vs,rfl,h2,rs⟩:=r
   exact⟨a,vs,rfl,rd h2,ihs e1 rs⟩
  case tup xs =>
   obtain⟨ys,e1,rfl⟩:=Option.map_eq_some_iff.mp e
   simp only[Rep] at r ⊢
   obtain⟨a,vs,rfl,h2,rs⟩:=r
   exact⟨a,vs,rfl,hF _ _ h2,ihs e1 rs⟩
  all_goals (subst e;simp only[Rep] at r ⊢;exact r)
end
open Classical in
def zkc(d:List W->M W):List W->M W:=fun ws ce=>match d ws ce with
 | some (.ok w ce')=>if zft ce ce' then match ze9 ce.length ce' 6 w with
  | some w2=>some (.ok w2 (ce'.take ce.length))
  | none=>none
  else none
 | r=>r
open Classical in
theorem zhh{P:Program}{w:World}{K:PySem.W.Frag}{mg:Str->Option Value}{base:Heap}{CX:CXT}{k n:Nat}{f:Addr}{fd:FuncData}{ps:List Str}{G:Ga}{fe:XK->XK}{d:List W->M W}(h:FnOk P w K mg base CX k f fd ps (spV G fe n d)):FnOk P w K mg base CX k f fd ps (spV G fe n (zkc d)):=by
 refine h.imp fun vs H Q E ⟨hl,F,as,ws,ce,S,rs,Pf⟩=>⟨hl,F,as,ws,ce,S,rs,?_⟩
 revert Pf
 unfold zkc
 cases d ws ce with
 | none=>exact fun P=>P
 | some r=>cases r with
  | ex x ce'=>exact fun P=>P
  | ok w ce' =>
   dsimp only
   intro Pf v H' F' as' l S' rv
   split at Pf
   ·rename_i h1
    split at Pf
    ·rename_i w2 e2
     obtain⟨S2,l2⟩:=S.cut S' l h1
     let isC:Addr->Prop:=fun a=>∃(k:Nat) (xs:List W),ce.length<=k/\as'[k]?=some a/\ce'[k]?=some (.lst xs)
     let F2:Hp:=fun a=>if isC a then H' a else F' a
     have sub:∀a o,F' a=some o->F2 a=some o:=fun a o e=>by
      have:¬isC a:=by
       rintro⟨k,xs,_,e1,e3⟩
       have:=(S'.cell k a _ e1 e3).1 rfl
       rw[this] at e
       cases e
      show(if isC a then H' a else F' a)=_
      rw[if_neg this];exact e
     have l3:Le F' (as'.take ce.length) F2 (as'.take ce.length):=⟨sub,fun _ _ h=>h⟩
     refine Pf v H' F2 (as'.take ce.length) (l2.trans l3) ⟨fun b o e=>?_,S2.nd,S2.len,fun i b c e1 e3=>?_⟩ ?_
     ·have e:(if isC b then H' b else F' b)=some o:=e
      split at e
      ·exact e
      ·exact S'.sub _ _ e
     ·obtain⟨p1,p2⟩:=S2.cell i b c e1 e3
      refine⟨fun hn=>?_,p2.le l3 rfl⟩
      show(if isC b then H' b else F' b)=none
      rw[if_neg]
      ·exact p1 hn
      ·rintro⟨k,xs,hk,e4,_⟩
       have hi:i<ce.length:=by have:=zaz e3;rw[List.length_take] at this;omega
       rw[zbx hi] at e1
       have a1:=zaz e4
       have a2:=zaz e1
       rw[List.getElem?_eq_getElem a1] at e4
       rw[List.getElem?_eq_getElem a2] at e1
       have:=zgl S'.nd a1 a2 ((Option.some.inj e4).trans (Option.some.inj e1).symm)
       omega
     ·refine zlu S' sub (fun k a xs vs hk e1 e3 e4=>?_) (fun k a hk e1=>by rw[zbx hk];exact e1) 6 e2 rv
      show(if isC a then H' a else F' a)=_
      rw[if_pos ⟨k,xs,hk,e1,e3⟩]
      exact e4
    ·exact Pf.elim
   ·exact Pf.elim
section
variable {X:Cx} {G:Ga} {E:XK} {a b:Expr} {da db:Sl->M W} {pos:Pos}
end
end VS
namespace VS
open L2
section
variable {sl:Sl} {ce c1 c2 c3:Ce} {e o i:Sl->M W} {w x y:W} {xs:List W} {k j:Nat} {b:DS} {Q:O->Prop} {p q:Nat} {ij:Int}
theorem zdD{n j:Nat}(h:j<n):ixN n (j:Int)=some j:=by
 unfold ixN
 rw[if_pos (by omega),if_pos (by omega)]
 simp
theorem zsp(he:e sl ce=some (.ok w c1))(ho:o sl c1=some (.ok (.cel k) c2))(hi:i sl c2=some (.ok (.int ij) c3))(g:c3[k]?=some (.lst xs))(hj:ixN xs.length ij=some j) :
  zhI e (zdW o i) sl ce=some (.go .nx sl (c3.set k (.lst (xs.set j w)))):=by
 simp only[zhI,lft,he,zdW,ho,hi,ze8 g,hj]
theorem zd5(he:e sl ce=some (.ok w c1))(ho:o sl c1=some (.ok (.cel k) c2))(hi:i sl c2=some (.ok (.int ij) c3))(g:c3[k]?=some (.lst xs))(hj:ixN xs.length ij=some j)(q:Q (.go .nx sl (c3.set k (.lst (xs.set j w))))) :
  Run (zhI e (zdW o i)) sl ce Q:=⟨_,zsp he ho hi g hj,q⟩
theorem zhY(he:e sl ce=some (.ok w c1))(ho:o sl c1=some (.ok (.cel k) c2))(hi:i sl c2=some (.ok (.int ij) c3))(g:c3[k]?=some (.lst xs))(hj:ixN xs.length ij=some j)(q:Run b sl (c3.set k (.lst (xs.set j w))) Q) :
  Run (zaA (zhI e (zdW o i)) b) sl ce Q:=zcX (zsp he ho hi g hj) q
abbrev g2(p q:Nat):DG:=gT 2 (ze7 (gN p) (ze7 (gN q) znt))
theorem zrO:g2 p q (.tup [x,y]) sl ce=some ((sl.set p (some x)).set q (some y),ce):=rfl
theorem zlv(he:e sl ce=some (.ok (.tup [x,y]) c1))(q':Run b ((sl.set p (some x)).set q (some y)) c1 Q):Run (zaA (zhI e (g2 p q)) b) sl ce Q :=
 zcX (sl':=(sl.set p (some x)).set q (some y)) (ce':=c1) (by simp only[zhI,lft,he,zrO]) q'
variable {α:Type} {fa fb:α->W} {zs:List α} {di:Sl->M Src} {body:DS}
end
structure Chg (ce b:Ce):Prop where
 len:b.length=ce.length
 cell:∀(k:Nat) (c:C),b[k]?=some c->ce[k]?=some c\/zf5 ce.length c
theorem Chg.refl(ce:Ce):Chg ce ce:=⟨rfl,fun _ _ h=>.inl h⟩
theorem Chg.cut{ce b t:Ce}(h:Chg ce b):zft ce (b++t):=⟨by rw[List.length_append,h.len];omega,fun k c hk e=>h.cell k c (by rwa [List.getElem?_append_left (by rw[h.len];exact hk)] at e)⟩
theorem Chg.take{ce b t:Ce}(h:Chg ce b):(b++t).take ce.length=b:=by rw[<- h.len];exact List.take_left
namespace Own
variable {b ce c:Ce} {l:List (Nat×C)} {k:Nat} {x:C} {w:W}
theorem frzD'{d:List W->M W}{ws:List W}{w2:W}(e:d ws ce=some (.ok w c))(h:Own b c l)(g:Chg ce b)(ht:ze9 ce.length c 6 w=some w2):zkc d ws ce=some (.ok w2 b):=by
 obtain⟨⟨t,rfl⟩,_⟩:=h
 simp only[zkc,e,ht,g.take]
 exact if_pos g.cut
end Own
def pW(p:Nat×Nat):W:=.tup [nW p.1,nW p.2]
section
variable {ce:Ce} {n:Nat}
end
end VS
namespace VS
open L2
section
variable {ce:Ce} {n:Nat}
def Cls(ce:Ce)(ks:List Nat)(cs:List (List Nat)):Prop:=PySem.Paired (fun k c=>ce[k]?=some (.lst (c.map nW))) ks cs
end
end VS
namespace VS
open PySem PySem.Spec PyProof.Rows L2
open MeetsSeq (EqGives)
section
variable {X:Cx} {G:Ga} {E:XK} {o e:Expr} {es:List Expr} {name:Str} {apos cpos:Pos} {do':Sl->M W} {dr:Sl->M (List W)} {id:String} {rm:V->List V->Hp->VK->Prop} {fm:W->List W->M W}
end
section
variable {X:Cx} {G:Ga} {E:XK} {tg a:Expr} {da:Sl->M W}
end
end VS
namespace VS
open L2
section
variable {sl:Sl} {ce c1 c2 c3:Ce} {a b:Sl->M W} {w x y:W} {xs ws:List W} {n:Nat} {ra:Sl->M (List W)}
theorem zkd{k:Nat}(ha:ra sl ce=some (.ok xs c1))(hl:xs.length<=PySem.sizeLine)(hb:b sl c1=some (.ok (nW n) c2))(hz:xs.length*n<=PySem.sizeLine)(h63:n<=100000):zeO zfr ra b sl ce=some (.ok (.cel c2.length) (c2++[.lst (List.replicate n xs).flatten])):=by
 have t:((n:Int)).toNat=n:=Int.toNat_natCast n
 simp only[zeO,bnd,ha,zqv,if_pos hl,hb,zpp,nW,t]
 rw[if_pos ⟨by omega,by omega,hz⟩]
 exact zcy (by rw[L2.len_rep,Nat.mul_comm];exact hz)
end
section
variable {ce:Ce} {k:Nat} {xs:List W}
end
end VS
namespace VS
open PySem PySem.Spec PyProof.Rows L2
section
variable {X:Cx} {G:Ga} {E:XK} {a b:Expr} {da db:Sl->M W} {pos:Pos}
end
end VS
namespace VS
open PySem PySem.Spec PyProof.Rows L2 HT
section
variable {prog:Program} {w:World} {A:Around} {E:Value->Shared->Prop} {s:Shared}
end
section
variable {X:Cx} {G:Ga} {E:XK} {a:Expr} {da:Sl->M W} {pos:Pos}
end
end VS
namespace VS
open PySem PySem.Spec PyProof.Rows L2
def znN:List W->M W:=fun ws ce=>match ws with
 | [.int i]=>some (.ok (.int i) ce)
 | [.bl k]=>some (.ok (.int (if k then 1 else 0)) ce)
 | _=>none
theorem zrP{G:Ga}{E:XK}:Bi G E (fun xs H Q=>(∃i,xs=[.int i]/\Q (.int i) H)\/∃k,xs=[.bl k]/\Q (.int (if k then 1 else 0)) H) znN:=by
 intro F as H σ sl ce ws vs Q S rs P
 revert P
 unfold znN
 split
 ·intro P
  obtain⟨v,rfl,r⟩:=zbD rs
  simp only[Rep] at r
  subst r
  exact .inl ⟨_,rfl,P.done S (by simp only[Rep])⟩
 ·intro P
  obtain⟨v,rfl,r⟩:=zbD rs
  simp only[Rep] at r
  subst r
  exact .inr ⟨_,rfl,P.done S (by simp only[Rep])⟩
 ·exact fun P=>P.elim
end VS
namespace L2
open PySem PySem.Spec PyProof.Rows
theorem ObjOk.there{P:Program}{w:World}{H:Hp}{h:Heap}{a:Addr}{o:HO}(x:ObjOk P w H h a o):∃u,h.get? a=some u:=by
 cases o with
 | lst xs=>obtain⟨_,_,_,_,e⟩:=x;exact⟨_,e⟩
 | tup xs=>obtain⟨_,_,_,u,e,_⟩:=x;exact⟨_,e⟩
 | dK kvs=>obtain⟨_,_,_,_,o,_,_,e,_⟩:=x;exact⟨_,e⟩
 | dT kvs=>obtain⟨_,_,_,_,o,_,_,e,_⟩:=x;exact⟨_,e⟩
 | set S n=>obtain⟨o,_,_,_,e,_⟩:=x;exact⟨_,e⟩
 | ins C dx fs=>obtain⟨_,_,_,e,_⟩:=x;exact⟨_,e⟩
 | own y=>exact x
 | xd fs=>obtain⟨_,⟨_,_,_,e,_⟩,_⟩:=x;exact⟨_,e⟩
 | rng lo hi=>obtain⟨_,_,_,e⟩:=x;exact⟨_,e⟩
 | frz ob u=>obtain⟨e,_⟩:=x;exact⟨_,e⟩
 | tbl ps=>exact⟨_,x⟩
 | met f y=>exact⟨_,x⟩
 | ext φ=>exact x.2.1
def Fl(N:Addr->Prop)(a:Addr)(cls:Value)(H:Hp)(h:Heap):Prop :=
 ∃oe vs a0,N a/\H a=none/\h.get? a=some oe/\oe.cls=cls/\oe.data=.fields vs/\vs[0]?=some a0 /\
  (vs[1]?=some .none\/∃T oT ts,vs[1]?=some (.ref T)/\N T/\H T=none/\T≠a/\h.get? T=some oT/\oT.data=.fields ts/\ts[3]?=some .none)
theorem Fl.mono{N N':Addr->Prop}{a:Addr}{cls:Value}{H:Hp}{h:Heap}(f:Fl N a cls H h)(k:∀b,N b->N' b):Fl N' a cls H h:=by
 obtain⟨oe,vs,a0,n,h1,h2,h3,h4,h5,h6⟩:=f
 refine⟨oe,vs,a0,k _ n,h1,h2,h3,h4,h5,h6.imp id fun⟨T,oT,ts,e1,e2,e⟩=>⟨T,oT,ts,e1,k _ e2,e⟩⟩
theorem zlw{M:Model}{A:Around}{E:Value->Shared->Prop}{s:Shared}{B:Heap}{env:Env}{outer:List Env}{L a:Addr}{oe:Obj}{vs:Array Value}{a0:Value}{Q:Unit->Shared->Prop}(hfr:A.frames=some (env::outer))(hl:s.heap.FunFrames B (env::outer))(hf:env.frame=some L)(he:s.heap.get? a=some oe)(hkb:B.StaysIn s.heap)(hen:B.get? a=none)(hd:oe.data=.fields vs)(h0:vs[0]?=some a0)(h1:vs[1]?=some .none\/∃T oT ts,vs[1]?=some (.ref T)/\B.get? T=none/\T≠a/\s.heap.get? T=some oT/\oT.data=.fields ts/\ts[3]?=some .none)(hQ:∀h',Heap.NotedW B (env::outer) a oe.cls a0 (rawInt L) s.heap h'->Q () { s with heap:=h' }):wpAny M A (noteFrame (.ref a) env) Q E s:=by
 rcases h1 with h1|⟨T,oT,ts,h1,hnT,hTe,hT,hdT,h3⟩
 ·unfold noteFrame
  simp only[hf]
  refine wpAny_bind (wpAny_field he hd h1 ?_)
  rw[if_neg (by decide)]
  exact wpAny_entryW hfr hl hf he hkb hen hd (Array.getElem?_eq_some_iff.mp h1).1 h0 hQ
 ·exact wpAny_noteFrame_onW hfr hl hf ⟨oe,vs,T,oT,ts,he,⟨rfl,h0⟩,hd,h1,hnT,hTe,hT,hdT,h3⟩ hkb hen hQ
structure Flown (stk:List Addr) (N:Addr->Prop) (H:Hp) (a:Addr) (cls:Value) (h h':Heap):Prop where
 keep:∀b o,h.get? b=some o->b∉stk->(H b≠none\/¬N b\/∀vs,o.data≠.fields vs)->h'.get? b=some o
 slot:∀b o,h.get? b=some o->b∈stk->∃sl,h'.get? b=some { o with slots:=sl }
 fl:Fl (fun b=>N b\/h.get? b=none) a cls H h'
theorem flown{X:Cx}{M:Model}{A':Around}{E:Value->Shared->Prop}{pins:List (Addr×Obj)}{σ:St}{H:Hp}{s:Shared}{N:Addr->Prop}{a:Addr}{cls:Value}{Q:Unit->Shared->Prop}(I:Inv X pins σ H s)(hst:X.stack=X.env::X.outer)(hf:X.env.frame=some X.env.locals)(f:Fl N a cls H s.heap)(hQ:∀h',Flown (frs X.stack) N H a cls s.heap h'->Q () { s with heap:=h' }) :
  wpAny M X.A (noteFrame (.ref a) X.env) (fun _ s₂=>wpAny M A' (setFlight (.ref a) none) Q E s₂) E s:=by
 obtain⟨oe,vs,a0,na,ha,he,rfl,hd,h0,h1⟩:=f
 have hstk:=I.stack
 have hfree:=I.stkFree
 have hfr:=I.ok.frames
 obtain⟨hid,hh1,hh2,hh3,hh4⟩:∃hid:List Addr,(∀b∈frs X.stack,b∈hid)/\a∈hid/\(∀b∈hid,b∈frs X.stack\/(N b/\H b=none/\∃o vs,s.heap.get? b=some o/\o.data=.fields vs)) /\
   (vs[1]?=some .none\/∃T oT ts,vs[1]?=some (.ref T)/\T∈hid/\T≠a/\s.heap.get? T=some oT/\oT.data=.fields ts/\ts[3]?=some .none):=by
  rcases h1 with h1|⟨T,oT,ts,h1,nT,hT,hTa,r⟩
  ·refine⟨frs X.stack++[a],fun b hb=>List.mem_append_left _ hb,List.mem_append_right _ (by simp),fun b hb=>?_,.inl h1⟩
   rcases List.mem_append.mp hb with hb|hb
   ·exact .inl hb
   ·rw[List.mem_singleton] at hb;subst hb;exact .inr ⟨na,ha,_,_,he,hd⟩
  ·obtain⟨hT1,hT2,hT3⟩:=r
   refine⟨frs X.stack++[a,T],fun b hb=>List.mem_append_left _ hb,List.mem_append_right _ (by simp),fun b hb=>?_,.inr ⟨T,oT,ts,h1,List.mem_append_right _ (by simp),hTa,hT1,hT2,hT3⟩⟩
   rcases List.mem_append.mp hb with hb|hb
   ·exact .inl hb
   ·rcases List.mem_cons.mp hb with rfl|hb
    ·exact .inr ⟨na,ha,_,_,he,hd⟩
    ·rw[List.mem_singleton] at hb;subst hb;exact .inr ⟨nT,hT,_,_,hT1,hT2⟩
 have hin:∀env∈X.env::X.outer,∀b,env.frame=some b->b∈hid:=fun env he b hb=>hh1 b (List.mem_filterMap.mpr ⟨env,by rw[hst];exact he,hb⟩)
 have hl:s.heap.FunFrames (PySem.W.hideAll s.heap hid) (X.env::X.outer):=PySem.W.funFrames_hide (by rw[<- hst];exact hstk) hin
 refine zlw (by rw[hfr,hst]) hl hf he (fun b o q=>PySem.W.of_hideAll _ q) (PySem.W.hideAll_none _ hh2) hd h0 (hh4.imp id fun⟨T,oT,ts,e1,e2,e3,e4⟩=>⟨T,oT,ts,e1,PySem.W.hideAll_none _ e2,e3,e4⟩) fun h1 z=>?_
 obtain⟨z1,z2,z3,z4⟩:=z
 refine wpAny_landsW (base:=PySem.W.hideAll s.heap hid) (l:=X.env::X.outer) (cls:=oe.cls) (a0:=a0) ⟨z1,PySem.W.hideAll_none _ hh2,z2,z3⟩ fun h2 y1 y2=>hQ h2 ?_
 have up:∀b o,s.heap.get? b=some o->(∀vs,o.data≠.fields vs)->∃sl,h2.get? b=some { o with slots:=sl }:=fun b o e n=>by
  obtain⟨s1,e1⟩:=z4 b o e n
  obtain⟨s2,e2⟩:=y2 b _ e1 n
  exact⟨s2,e2⟩
 have sl:∀b o,s.heap.get? b=some o->b∈frs X.stack->∃sl,h2.get? b=some { o with slots:=sl }:=fun b o e hb=>by
  obtain⟨_,o',e',n⟩:=hstk.mem hb
  rw[e] at e';cases e'
  exact up b o e n
 obtain⟨y1,y3,y4,oe',vs',T',oT',ts',t1,⟨t2,t3⟩,t4,t5,t6,t7,t8,t9,t10⟩:=y1
 refine⟨fun b o e hb hc=>?_,sl,oe',vs',a0,.inl na,ha,t1,t2,t4,t3,.inr ⟨T',oT',ts',t5,?_,?_,t7,t8,t9,t10⟩⟩
 ·refine y1 b o (PySem.W.hideAll_get _ e fun hm=>?_)
  rcases hh3 b hm with q|⟨q1,q2,o',vs',q3,q4⟩
  ·exact hb q
  ·rcases hc with hc|hc|hc
   ·exact hc q2
   ·exact hc q1
   ·rw[e] at q3;cases q3;exact hc _ q4
 all_goals
  cases q:s.heap.get? T' with
  | none =>
   first
    | exact .inr q
    | (cases q2:H T' with
       | none=>rfl
       | some u=>obtain⟨u',e'⟩:=(I.hok T' u q2).there;rw[q] at e';cases e')
  | some o =>
   have hm:T'∈hid:=by
    apply Classical.byContradiction
    intro hm
    have:=PySem.W.hideAll_get _ q hm
    rw[t6] at this;cases this
   rcases hh3 T' hm with hs|⟨q1,q2,_⟩
   ·exfalso
    obtain⟨_,o',e',n⟩:=hstk.mem hs
    rw[q] at e';cases e'
    obtain⟨s2,e2⟩:=up T' o q n
    rw[t8] at e2;cases e2
    exact n _ t9
   ·first|exact .inl q1|exact q2
def CXx(P:Program)(w:World):CXT:=fun outer H s E e s'=>∃a cls H',e=.ref a/\s'.os=s.os/\AllBare s'.gens/\Un (frs outer) [] H H' s.heap s'.heap/\HOk P w H' s'.heap/\Fl (fun b=>s.heap.get? b=none) a cls H' s'.heap/\E cls none H'
def Nw(X:Cx)(pins:List (Addr×Obj))(b:Addr):Prop:=X.s₀.heap.get? b=none/\∀p∈X.pn++pins,p.1≠b
def Flies(X:Cx)(E:XK):Prop:=∀(pins:List (Addr×Obj)) (σ:St) (H:Hp) (s:Shared) (a:Addr) (cls:Value),Inv X pins σ H s->Fl (Nw X pins) a cls H s.heap->E cls none H->X.xe (.ref a) s
theorem zke{X:Cx}{pins:List (Addr×Obj)}{σ:St}{H:Hp}{s:Shared}{b:Addr}(hx:X.ex=[])(I:Inv X pins σ H s)(h:s.heap.get? b=none):Nw X pins b:=by
 refine⟨?_,fun p hp e=>?_⟩
 ·cases q:X.s₀.heap.get? b with
  | none=>rfl
  | some o =>
   obtain⟨o',e⟩:=I.base.there b o q (by rw[hx];simp)
   rw[h] at e;cases e
 ·obtain⟨e1,_⟩:=I.pin p hp
  rw[e,h] at e1;cases e1
theorem Flies.passes{X:Cx}{E:XK}(h:Flies X E)(hx:X.ex=[]):zcT (CXx X.prog X.w) X E:=fun pins σ H s e s' I z=>by
 obtain⟨a,cls,H',rfl,ho,hg,u,hok,f,q⟩:=z
 exact h pins σ H' s' a cls (I.call' ho u hok hg (fun b z=>absurd z (by simp))) (f.mono fun b hb=>zke hx I hb) q
theorem zkf{X:Cx}:zcT (CXx X.prog X.w) X E0:=fun _ _ _ _ _ _ _ z=>by
 obtain⟨_,_,_,_,_,_,_,_,_,q⟩:=z
 exact q.elim
theorem flies_cxOf{P:Program}{w:World}{K:PySem.W.Frag}{mg:Str->Option Value}{base:Heap}{N:List Str}{qual:Str}{scope:Scope}{f:Addr}{cd:Value}{A:Around}{outer:List Env}{s:Shared}{H:Hp}{E:XK} :
  Flies (ziU (CXx P w) P w K mg base N qual scope f cd A outer s H E) E:=by
 intro pins σ H1 s1 a cls I fl q
 show wpAny (model P w) _ (leaving _ _) _ _ s1
 unfold leaving
 refine wpAny_bind (flown I rfl rfl fl fun h' F=>?_)
 have hb:=I.base
 have hstk:=I.stack
 have hlt:∀b o,s.heap.get? b=some o->b≠(ziU (CXx P w) P w K mg base N qual scope f cd A outer s H E).env.locals:=fun b o e q=>absurd (Heap.lt_size e) (by rw[q];exact Nat.not_lt.mpr I.ok.above)
 have hfs:∀b,b∈frs (ziU (CXx P w) P w K mg base N qual scope f cd A outer s H E).stack->b=(ziU (CXx P w) P w K mg base N qual scope f cd A outer s H E).env.locals\/b∈frs outer:=fun b hb=>List.mem_cons.mp (I.stkSub b hb)
 have hout:∀b,b∈frs outer->b∈frs (ziU (CXx P w) P w K mg base N qual scope f cd A outer s H E).stack:=fun b hb=>by
  obtain⟨env,h1,h2⟩:=List.mem_filterMap.mp hb
  exact List.mem_filterMap.mpr ⟨env,List.mem_cons_of_mem _ h1,h2⟩
 refine⟨a,cls,H1,rfl,I.os,I.bare,⟨fun b o e n h1 h2=>?_,fun b o e n h1 h2=>?_,fun b o e n h2=>hb.free b o e n h2,fun b o e h2=>?_,hb.tups,hb.frzs,hb.tbls⟩,fun b o e=>?_,F.fl.mono fun b hb'=>?_,q⟩
 ·have e1:=hb.keep b o e n h1 h2
  refine F.keep b o e1 (fun hm=>?_) (.inr<|.inl fun hn=>by have z:s.heap.get? b=none:=hn.1;rw[z] at e;cases e)
  rcases hfs b hm with z|z
  ·exact hlt b o e z
  ·exact h1 z
 ·obtain⟨sl,e1⟩:=hb.slot b o e n h1 h2
  obtain⟨s2,e2⟩:=F.slot b _ e1 (hout b h1)
  exact⟨s2,e2⟩
 ·obtain⟨o',e1⟩:=hb.there b o e h2
  by_cases hm:b∈frs (ziU (CXx P w) P w K mg base N qual scope f cd A outer s H E).stack
  ·obtain⟨s2,e2⟩:=F.slot b o' e1 hm
   exact⟨_,e2⟩
  ·exact⟨o',F.keep b o' e1 hm (.inr<|.inl fun hn=>by have z:s.heap.get? b=none:=hn.1;rw[z] at e;cases e)⟩
 ·refine(I.hok b o e).stay (fun c u hc r=>?_) (fun _ q=>q) fun _ _ q=>q
  have hH:H1 c≠none:=by
   rcases hc with rfl|hc
   ·rw[e];simp
   ·rw[hc];simp
  exact F.keep c u r (fun hm=>hH (I.stkFree c hm)) (.inl hH)
 ·rcases hb' with hb'|hb'
  ·exact hb'.1
  ·exact(zke (pins:=pins) rfl I hb').1
theorem Fun.okX{P:Program}{w:World}{K:PySem.W.Frag}{mg:Str->Option Value}{base:Heap}{x qual:Str}{st:Stmt}{f:Addr}{fd:FuncData}{N ps:List Str}{k:Nat}{sp:Sp}(F:Fun K x qual st f fd)(S:FnScope N ps (zai st))(len:∀vs H Q E,sp vs H Q E->vs.length=ps.length)(hbody:∀(cdv:Value) (A:Around) (outer:List Env) (s:Shared) (H:Hp) (vs:List V) (Q:VK) (E:XK),Room k (A.deeper (envOfC qual (zai st) s.heap.objs.size f cdv))->sp vs H Q E ->
   ∃t,PSs (ziU (CXx P w) P w K mg base N qual (zai st) f cdv A outer s H E) (zau st) t/\t { nx:=fun _ H'=>Q .non H',rt:=Q } (start N vs) H):FnOk P w K mg base (CXx P w) (k+1) f fd ps sp:=by
 obtain⟨oc,od,kV,doc,pm,an,cdv,ct,osl,rfl,lk,hcd⟩:=F.ex
 refine zq4 lk hcd S len fun A outer s H vs Q E hr hsp=>?_
 obtain⟨t,h,q⟩:=hbody cdv A outer s H vs Q E hr hsp
 exact⟨t,h,q⟩
end L2
namespace L2
open PySem PySem.Spec PyProof.Rows
def bmV:List Value:=[.type "ValueError",.type "Exception",.type "BaseException",.type "object"]
def XC(K:PySem.W.Frag)(C:Addr):Prop:=PySem.W.excIn K C bmV "ValueError.__new__" = true
theorem XC.obj{K:PySem.W.Frag}{h:Heap}{C:Addr}(q:XC K C)(X:K.In h):∃bm N nm qn bs hdct sn sub ab col dd k0 k1 k2 k3 k5 mN,
  h.get? C=some (excClassObj nm qn C N bs bm hdct sn sub ab col dd k0 k1 k2 k3 k5 "ValueError.__new__")/\h.Ns N mN/\mN "__init__" = none/\OwnTail h bmV bm:=by
 unfold XC PySem.W.excIn at q
 split at q
 case h_2=>cases q
 rename_i dd cd sl ho
 split at q
 case h_2=>cases q
 rename_i C' bm k0 k1 k2 k3 n k5 hm hs
 simp only[Bool.and_eq_true,beq_iff_eq,Bool.not_eq_true'] at q
 obtain⟨⟨⟨⟨⟨rfl,rfl⟩,hdel⟩,ht⟩,hok⟩,hni⟩:=q
 obtain⟨nm,bs,mro,ns,qn,hd,sn,sub,ab,col,del⟩:=cd
 dsimp only at hm hdel hok hni
 subst hm hdel
 have hsl:sl=#[k0,k1,k2,k3,some (.builtin "ValueError.__new__"),k5]:=by
  obtain⟨l⟩:=sl
  simp only at hs
  rw[hs]
 subst hsl
 exact⟨bm,ns,nm,qn,bs,hd,sn,sub,ab,col,dd,k0,k1,k2,k3,k5,_,X _ _ ho,.of_isNs (PySem.W.isNs_of_in X hok),PySem.W.nsMap_none_of_in X hok hni,PySem.W.tail_of_in X ht⟩
section
variable {X:Cx}
def PM(X:Cx)(e:Expr)(t:St->Prop):Prop:=∀(pins:List (Addr×Obj)) (s:Shared) (σ:St) (H:Hp),Inv X pins σ H s->t σ->wpAny (model X.prog X.w) X.A (eval e X.env) (fun u s'=>(∃y tk,u=.str y tk/\y.length<=1000)/\Inv X pins σ H s') X.xe s
def PX(X:Cx)(e:Expr)(t:St->Prop):Prop:=∀(pins:List (Addr×Obj)) (s:Shared) (σ:St) (H:Hp),Inv X pins σ H s->t σ->wpAny (model X.prog X.w) X.A (eval e X.env) (fun u s'=>Inv X pins σ H s') X.xe s
def PMs(X:Cx)(es:List Expr)(t:St->Prop):Prop:=∀(out:Str) (pins:List (Addr×Obj)) (s:Shared) (σ:St) (H:Hp),out.length+1000*es.length<=sizeLine->Inv X pins σ H s->t σ->wpAny (model X.prog X.w) X.A (joinParts out (evalEach es X.env)) (fun u s'=>Inv X pins σ H s') X.xe s
theorem zfa{x:Str}{j:Nat}{pos:Pos}(hx:x.length<=1000:=by decide):PM X (.Constant (.str x) j pos) (fun _=>True):=fun pins s σ H I _=>Calls.Constant_str ⟨⟨x,_,rfl,hx⟩,I.tok _⟩
theorem zmx{e:Expr}{pos:Pos}{n:Int}{s:Shared}{pins:List (Addr×Obj)}{σ:St}{H:Hp}(hn:n.natAbs<1000)(I:Inv X pins σ H s)(tk:Tok) :
  wpAny (model X.prog X.w) X.A (formatField (.int n tk) Str.empty) (fun u s'=>(∃y tk,u=.str y tk/\y.length<=1000)/\Inv X pins σ H s') X.xe s:=by
 have hl:n.natAbs.log2<100:=by
  by_cases h0:n.natAbs=0
  ·rw[h0];decide
  ·exact(Nat.log2_lt h0).mpr (Nat.lt_of_lt_of_le hn (by decide))
 refine formatField_int_small (by omega) ⟨⟨_,_,rfl,?_⟩,I.tok _⟩
 have e:=int_text_length_le (k:=100) (by decide) hl
 show(Str.ofString (toString n)).length<=1000
 rw[PySem.ofString_length];omega
theorem zmy{x:Str}{p pos:Pos}(i:Nat)(hN:X.N[i]?=some x:=by rfl)(hv:Vis X.env.scope x:=by first|exact Or.inl rfl|exact Or.inr (Or.inl rfl)|exact Or.inr (Or.inr rfl))(hd:(x==("__debug__" : Str))=false:=by decide)(hcd:(x==("__classdict__" : Str))=false:=by decide):PM X (.FormattedValue (.Name x p) (-1) none pos) (fun σ=>∃n:Int,σ[i]?=some (some (.int n))/\n.natAbs<1000):=fun pins s σ H I ⟨n,e,hn⟩=>by
 refine FormattedValue_plain (thn (zlW (pos:=p) hN hv hd hcd pins s σ H (fun v H'=>v=.int n/\H'=H) I ⟨.int n,e,rfl,rfl⟩) fun u s1 ⟨v,H1,I1,r,hv,hH⟩=>?_)
 subst hv;subst hH
 obtain⟨tk,rfl⟩:∃tk,u=.int n tk:=r
 exact zmx (e:=.Name x p) (pos:=pos) hn I1 tk
theorem znO{x:Str}{p pos:Pos}{n:Int}(hg:Gl X x)(hm:∃t,X.mg x=some (.int n t))(hn:n.natAbs<1000:=by decide)(hd:(x==("__debug__" : Str))=false:=by decide):PM X (.FormattedValue (.Name x p) (-1) none pos) (fun _=>True):=fun pins s σ H I _=>by
 obtain⟨tk,hm⟩:=hm
 refine FormattedValue_plain (zcs I hg hm ?_ hd)
 exact zmx (e:=.Name x p) (pos:=pos) hn I tk
theorem zhi:PMs X [] (fun _=>True):=fun out pins s σ H hl I _=>joinParts_nil (I.tok _) (by simpa using hl)
theorem zbH{e:Expr}{es:List Expr}{t t':St->Prop}(h1:PM X e t)(h2:PMs X es t'):PMs X (e::es) (fun σ=>t σ/\t' σ):=fun out pins s σ H hl I q=>by
 show wpAny _ _ (joinParts out (eval e X.env::evalEach es X.env)) _ _ _
 refine joinParts_cons (thn (h1 pins s σ H I q.1) fun u s1 ⟨⟨y,tk,hu,hy⟩,I1⟩=>?_)
 subst hu
 have hz:(out++y).length=out.length+y.length:=strLen_append _ _
 simp only[List.length_cons] at hl
 exact⟨by omega,h2 (out++y) pins s1 σ H (by omega) I1 q.2⟩
theorem zhj{e1 e2:Expr}{es:List Expr}{t:St->Prop}{pos:Pos}(h:PMs X (e1::e2::es) t)(hl:1000*(es.length+2)<=sizeLine:=by decide):PX X (.JoinedStr (e1::e2::es) pos) t:=fun pins s σ H I q =>
 JoinedStr_many (h Str.empty pins s σ H (by show 0+1000*(es.length+2)<=sizeLine;rw[Nat.zero_add];exact hl) I q)
theorem zlx{E:XK}{C:Addr}{x:Str}{np cpos pos:Pos}{e:Expr}{t:St->Prop}(hx:Flies X E)(hex:X.ex=[])(xc:XC X.K C)(hg:Gl X x)(hm:X.mg x=some (.ref C))(hh:X.A.handled=none)(ha:PX X e t)(he:starEach [e] X.env=[(false,eval e X.env)]:=by rfl)(hd:(x==("__debug__" : Str))=false:=by decide) :
  PS X (.Raise (some (.Call (.Name x np) [e] [] cpos)) none pos) (fun _ σ H=>t σ/\E (.ref C) none H):=by
 intro pins s σ H D I hq
 obtain⟨bm,N,nm,qn,bs,hdct,sn,sub,ab,col,dd,k0,k1,k2,k3,k5,mN,hC,hN,hni,T⟩:=xc.obj I.ok.mod.kin
 refine wpAny_Raise_call_subU (C:=C) (nm:=nm) (q:=qn) (N:=N) (bs:=bs) (bm:=bm) (hdct:=hdct) (sn:=sn) (sub:=sub) (ab:=ab) (col:=col) (dd:=dd) (k0:=k0) (k1:=k1) (k2:=k2) (k3:=k3) (k5:=k5)
  PySem.F.excBase_ValueError (by decide) PySem.F.excBase_ValueError (mN:=mN) (T.hasType PySem.F.excBase_ValueError.hasBase) hh (by rw[he];rfl) hni (zcs I hg hm ⟨rfl,?_⟩ hd)
 rw[he]
 refine Calls.evalArgs_plain (Calls.spliced_cons (thn (ha pins s σ H I hq.1) fun u s1 I1=>Calls.spliced_nil ?_))
 refine⟨rfl,(by show 1<=sizeLine;decide),I1.bk _ _ hC,hN.keeps I1.bk,T.keeps I1.bk,fun h' b hm=>?_⟩
 obtain⟨tt,e1,e2,e3⟩:=hm.there
 refine hx pins σ H { s1 with heap:=h' } b (.ref C) (I1.kept (t':=s1.toks) hm.keeps) ⟨_,_,_,zke hex I1 hm.new,?_,e1,rfl,rfl,rfl,.inl rfl⟩ hq.2
 cases q:H b with
 | none=>rfl
 | some o=>obtain⟨u,e⟩:=(I1.hok b o q).there;rw[hm.new] at e;cases e
end
end L2
namespace L2
open PySem PySem.Spec PyProof.Rows
section
variable {X:Cx} {pins:List (Addr×Obj)} {σ:St} {H:Hp} {s:Shared} {a:Addr} {cls:Value}
theorem Inv.flown{h':Heap}(I:Inv X pins σ H s)(hex:X.ex=[])(F:Flown (frs X.stack) (Nw X pins) H a cls s.heap h'):Inv X pins σ H { s with heap:=h' }:=by
 have neL:∀b o,X.s₀.heap.get? b=some o->b≠X.env.locals:=fun b o e=>Nat.ne_of_lt (Nat.lt_of_lt_of_le (Heap.lt_size e) I.ok.above)
 have hs0:∀b o,X.s₀.heap.get? b=some o->¬Nw X pins b:=fun b o e n=>by rw[n.1] at e;cases e
 have stk:∀b,b≠X.env.locals->b∉X.fs->b∉frs X.stack:=fun b h1 h2=>I.stkNe h1 h2
 have anyK:∀b o,s.heap.get? b=some o->(¬Nw X pins b\/∀vs,o.data≠.fields vs)->∃sl,h'.get? b=some { o with slots:=sl }:=fun b o e hn=>by
  by_cases hm:b∈frs X.stack
  ·exact F.slot b o e hm
  ·exact⟨o.slots,F.keep b o e hm (.inr hn)⟩
 have cellK:∀x c,X.env.cells.lookup x=some c->∀v,s.heap.IsCell c v->h'.IsCell c v:=fun x c e v ⟨o,ho,hd⟩=>by
  obtain⟨sl,q⟩:=anyK c o ho (.inr fun vs q=>by rw[hd] at q;cases q)
  exact⟨_,q,hd⟩
 refine⟨I.ok,I.os,I.bare,⟨fun b o e n hb hx=>?_,fun b o e n hb hx=>?_,I.base.free,fun b o e hx=>?_,I.base.tups,I.base.frzs,I.base.tbls⟩,?_,fun x c e=>?_,I.free,I.freeC,fun p hp=>?_,fun b o e=>?_,I.len⟩
 ·exact F.keep b o (I.base.keep b o e n hb hx) (stk b (neL b o e) hb) (.inr (.inl (hs0 b o e)))
 ·obtain⟨sl,e1⟩:=I.base.slot b o e n hb hx
  obtain⟨sl',e2⟩:=anyK b _ e1 (.inl (hs0 b o e))
  exact⟨sl',e2⟩
 ·obtain⟨o',e1⟩:=I.base.there b o e hx
  obtain⟨sl',e2⟩:=anyK b _ e1 (.inl (hs0 b o e))
  exact⟨_,e2⟩
 ·obtain⟨m,hn,hl⟩:=I.loc
  obtain⟨oL,es,ep,hoL,hdL,r⟩:=id hn
  obtain⟨sl,q⟩:=anyK _ oL hoL (.inr fun vs q=>by rw[hdL] at q;cases q)
  refine⟨m,⟨_,es,ep,q,hdL,r⟩,fun i x v e1 e2 e3=>?_⟩
  obtain⟨u,r,l⟩:=hl i x v e1 e2 e3
  refine⟨u,r,?_⟩
  rcases l with l|⟨k,c,e,z⟩
  ·exact .inl l
  ·exact .inr ⟨k,c,e,cellK x c e _ z⟩
 ·obtain⟨v,z⟩:=I.cell x c e
  exact⟨v,cellK x c e v z⟩
 ·obtain⟨e,n,ne,nf,d⟩:=I.pin p hp
  exact⟨F.keep p.1 p.2 e (stk _ ne nf) (.inr (.inl fun hn=>hn.2 p hp rfl)),n,ne,nf,d⟩
 ·refine(I.hok b o e).stay (fun c u hc r=>?_) (fun _ q=>q) fun _ _ q=>q
  have hH:H c≠none:=by
   rcases hc with rfl|hc
   ·rw[e];simp
   ·rw[hc];simp
  exact F.keep c u r (fun hm=>hH (I.stkFree c hm)) (.inl hH)
theorem Fl.nw{h':Heap}(I:Inv X pins σ H s)(hex:X.ex=[])(F:Flown (frs X.stack) (Nw X pins) H a cls s.heap h'):Fl (Nw X pins) a cls H h':=F.fl.mono fun b hb=>hb.elim id fun hb=>zke hex I hb
theorem zet{N:Addr->Prop}{M:Model}{A:Around}{E:Value->Shared->Prop}{Q:Unit->Shared->Prop}(f:Fl N a cls H s.heap)(h:Q () s):wpAny M A (setFlight (.ref a) none) Q E s:=by
 obtain⟨oe,vs,a0,_,_,he,_,hd,h0,h1⟩:=f
 unfold setFlight
 rcases h1 with h1|⟨T,oT,ts,h1,_,_,_,hT,hdT,h3⟩
 ·refine wpAny_bind (wpAny_field he hd h1 ?_)
  rw[if_neg (by decide)]
  exact wpAny_pure h
 ·refine wpAny_bind (wpAny_field he hd h1 ?_)
  rw[if_pos (show(Value.ref T != Value.none)=true from by simp)]
  refine wpAny_setField hT hdT (Array.getElem?_eq_some_iff.mp h3).1 ?_
  show Q () { s with heap:=s.heap.update T (Obj.mapFields (·.setIfInBounds 3 Value.none)) }
  rw[Heap.update_setField_same s.heap T oT ts 3 Value.none hT hdT h3]
  exact h
end
abbrev Cx.hnd(X:Cx)(a:Addr):Cx:={ X with A:=X.A.mark (some (.ref a)),calm:=false,xe:=fun _ _=>False }
section
variable {X:Cx} {pins:List (Addr×Obj)} {σ:St} {H:Hp} {s:Shared} {a:Addr}
theorem Cx.Ok.hnd(ok:X.Ok)(a:Addr):(X.hnd a).Ok :=
 ⟨ok.mod,ok.kind,ok.glob,ok.blt,ok.above,ok.inj,ok.has,ok.cab,fun h=>absurd (show false=true from h) Bool.false_ne_true,ok.frames,ok.stk,ok.exf,ok.bs,ok.bsz,ok.noex,ok.exfs,ok.funs,ok.frf⟩
theorem Inv.hnd(I:Inv X pins σ H s)(a:Addr):Inv (X.hnd a) pins σ H s:=⟨I.ok.hnd a,I.os,I.bare,I.base,I.loc,I.cell,I.free,I.freeC,I.pin,I.hok,I.len⟩
theorem Inv.unhnd(ok:X.Ok)(I:Inv (X.hnd a) pins σ H s):Inv X pins σ H s:=⟨ok,I.os,I.bare,I.base,I.loc,I.cell,I.free,I.freeC,I.pin,I.hok,I.len⟩
theorem SP.unhnd{D:Ends}{f:Flow}{s':Shared}(ok:X.Ok)(h:SP (X.hnd a) pins D f s'):SP X pins D f s':=by
 cases f with
 | next=>obtain⟨σ',H',I,q⟩:=h;exact⟨σ',H',I.unhnd ok,q⟩
 | brk=>obtain⟨σ',H',I,q⟩:=h;exact⟨σ',H',I.unhnd ok,q⟩
 | cont=>obtain⟨σ',H',I,q⟩:=h;exact⟨σ',H',I.unhnd ok,q⟩
 | ret u=>obtain⟨v,σ',H',I,r,q⟩:=h;exact⟨v,σ',H',I.unhnd ok,r,q⟩
end
end L2
namespace L2
open PySem PySem.Spec PyProof.Rows
section
variable {X:Cx}
def PH(X:Cx)(h:ExceptHandler)(th:Value->TS):Prop:=∀(pins:List (Addr×Obj)) (s:Shared) (σ:St) (H:Hp) (D:Ends) (a:Addr) (cls:Value),Inv X pins σ H s->Fl (Nw X pins) a cls H s.heap->th cls D σ H ->
 wpAny (model X.prog X.w) X.A (handleBy (.ref a) X.env [h]) (SP X pins D) X.xe s
def XP(X:Cx)(pins:List (Addr×Obj))(σ:St)(E:XK)(e:Value)(s':Shared):Prop:=∃a cls H',e=.ref a/\Inv X pins σ H' s'/\Fl (Nw X pins) a cls H' s'.heap/\E cls none H'
def PCx(X:Cx)(e:Expr)(t:XK->TE):Prop:=∀(pins:List (Addr×Obj)) (s:Shared) (σ:St) (H:Hp) (Q:VK) (E:XK),Inv X pins σ H s->t E σ H Q->wpAny (model X.prog X.w) X.A (eval e X.env) (EP X pins σ Q) (XP X pins σ E) s
def PB(X:Cx)(b:List Stmt)(t:XK->TS):Prop:=∀(pins:List (Addr×Obj)) (s:Shared) (σ:St) (H:Hp) (D:Ends) (E:XK),Inv X pins σ H s->t E D σ H->wpAny (model X.prog X.w) X.A (execs b X.env) (SP X pins D) (XP X pins σ E) s
theorem zpW{b:List Stmt}{h:ExceptHandler}{t:XK->TS}{th:Value->TS}{pos:Pos}(hst:X.stack=X.env::X.outer)(hf:X.env.frame=some X.env.locals)(hex:X.ex=[])(hb:PB X b t)(hh:PH X h th) :
  PS X (.Try b [h] [] [] pos) (fun D σ H=>t (fun cls _ H'=>th cls D σ H') D σ H):=by
 intro pins s σ H D I q
 refine wpAny_Try_except (wpAny_mono (hb pins s σ H D _ I q) (fun f s1 z=>?_) fun e s1 ⟨a,cls,H',e1,I1,fl,z⟩=>?_)
 ·cases f with
  | next=>exact wpAny_execs_nil z
  | brk=>exact z
  | cont=>exact z
  | ret u=>exact z
 ·subst e1
  exact flown I1 hst hf fl fun h' F=>hh pins _ σ H' D a cls (I1.flown hex F) (Fl.nw I1 hex F) z
variable {k:Nat} {f:Addr} {fd:FuncData} {ps:List Str} {sp:Sp} {x:Str} {p pos:Pos} {e:Expr} {es:List Expr} {t:TA}
theorem zly(F:FnOk X.prog X.w X.K X.mg X.base (CXx X.prog X.w) k f fd ps sp)(hr:Room k X.A)(hex:X.ex=[])(hg:Gl X x)(hm:X.mg x=some (.ref f))(hk:PySem.W.keepIn X.K (.ref f)=true)(hb:Binds X.K fd ps [])(ha:PA X.nox (e::es) t)(hdb:(x==("__debug__" : Str))=false:=by decide)(he:starEach (e::es) X.env=(false,eval e X.env)::starEach es X.env:=by rfl)(hpl:(backTo pos (starEach es X.env)).any (·.1)=false:=by rfl) :
  PCx X (.Call (.Name x p) (e::es) [] pos) (fun E σ H Q=>t σ H fun vs H1=>sp vs H1 Q E):=by
 intro pins s σ H Q E I h
 refine wpAny_Call_Name_kw (zcs I hg hm ?_ hdb)
 refine PySem.W.callWith_K (h₀:=X.base) I.ok.mod.kin hk (wpAny_mono (ha pos pins s σ H _ (I.wish _) h) (fun us s1 ⟨vs,H1,I1,r,q⟩=>⟨I1.unwish.kIn,?_⟩) fun _ _ z=>z.elim) he hpl
 have I1:=I1.unwish
 have hl:(us++[]).length=ps.length:=by rw[List.append_nil,<- r.length];exact F.len _ _ _ _ q
 have hb':=hb s1 us I1.kIn hl
 rw[List.append_nil] at hb'
 refine wpAny_call (codeAny_mono (F.run X.A X.stack s1 H1 ⟨us,[]⟩ us vs Q E hr I1.env0 hb' r q) fun r s' hq=>?_)
 cases r with
 | error e =>
  obtain⟨a,cls,H',rfl,ho,hgn,u,hok,fl,z⟩:=hq
  exact⟨a,cls,H',rfl,I1.call' ho u hok hgn (fun b z=>absurd z (by simp)),fl.mono fun b hb=>zke hex I1 hb,z⟩
 | ok fl =>
  cases fl with
  | ret u=>exact I1.after hq
  | next=>exact False.elim hq
  | brk=>exact False.elim hq
  | cont=>exact False.elim hq
variable {te:XK->TE}
theorem zpX{i:Nat}{pos':Pos}(hN:X.N.Nodup)(hi:X.N[i]?=some x)(hx:Loc X.env.scope x)(he:PCx X e te)(hs:swapsWith e (some (.Name x pos')) pos.line X.env=pure false:=by rfl)(hf:X.fn x=true\/X.env.scope.names.lookup x=some .local:=by first|exact .inl rfl|exact .inr rfl|assumption):PB X [.Assign [.Name x pos'] e pos] (fun E D σ H=>te E σ H fun v H1=>D.nx (σ.set i (some v)) H1):=by
 intro pins s σ H D E I h
 refine wpAny_execs_cons (wpAny_Assign_Name (wpAny_mono (he pins s σ H _ E I h) (fun v s1 ⟨y,H1,I1,r1,q1⟩=>?_) fun _ _ z=>z) hs)
 exact zfk I1 hN hi hx r1 (fun s2 I2=>wpAny_execs_nil ⟨_,H1,I2,q1⟩) hf
end
end L2
namespace L2
open PySem PySem.Spec PyProof.Rows PySem.W PySem.Builtin PySem.Builtin.ObjectAttr PySem.Builtin.Getset_descriptor
section
variable {prog:Program} {w:World} {A:Around} {E:Value->Shared->Prop} {K:PySem.W.Frag} {h:Heap} {g:Array GenState} {d:Drawn} {t:Nat} {os:OsState} {a C:Addr} {o:Obj}
def zqz(K:PySem.W.Frag)(C:Addr):Bool:=excIn K C bmV "ValueError.__new__" && findIn K (.ref C) "__getattribute__" == some (some (.builtin "BaseException.__getattribute__"))&&findIn K (.ref C) "__getattr__" == some none &&
 findIn K (.ref C) "__class__" == some (some (.builtin "object.__class__"))&&mroIn K C (.type "object")==some true&&mroIn K C (.type "BaseException")==some true&&(clsIn K C).isSome
theorem zhk{C:Addr}(q:zqz K C=true):XC K C/\findIn K (.ref C) "__getattribute__" = some (some (.builtin "BaseException.__getattribute__"))/\findIn K (.ref C) "__getattr__" = some none /\
  findIn K (.ref C) "__class__" = some (some (.builtin "object.__class__"))/\mroIn K C (.type "object")=some true/\mroIn K C (.type "BaseException")=some true/\(clsIn K C).isSome=true:=by
 unfold zqz at q
 simp only[Bool.and_eq_true,beq_iff_eq] at q
 obtain⟨⟨⟨⟨⟨⟨q1,q2⟩,q3⟩,q4⟩,q5⟩,q6⟩,q7⟩:=q
 exact⟨q1,q2,q3,q4,q5,q6,q7⟩
end
end L2
namespace L2
open PySem PySem.Spec PyProof.Rows
section
variable {X:Cx}
end
end L2
namespace VS
open PySem PySem.Spec PyProof.Rows L2
section
def clOf(K:PySem.W.Frag)(nm:Str):Addr:=match PySem.W.nsIn K mainGlobals nm with
 | some (some (.ref C))=>C
 | _=>0
abbrev Gy(K:PySem.W.Frag):Ga:=⟨K,clOf K,fun x cv od _=>cv=.ref (clOf K x.nm)/\od=none⟩
abbrev XTb:=List (Str×Bool×List Str)
def zrQ(K:PySem.W.Frag)(tb:XTb):Bool:=tb.all fun p=>PySem.W.nsIn K mainGlobals p.1==some (some (.ref (clOf K p.1)))&&(!p.2.1||(zqz K (clOf K p.1)&&PySem.W.kitOne K (.ref (clOf K p.1)) (.type "ValueError")==some true &&
 tb.all fun q=>PySem.W.kitOne K (.ref (clOf K p.1)) (.ref (clOf K q.1))==some (p.2.2.contains q.1)&&PySem.W.mroIn K (clOf K p.1) (.ref (clOf K q.1))==some (p.2.2.contains q.1)))
structure XT (K:PySem.W.Frag) (mg:Str->Option Value) (tb:XTb):Prop where
 ok:zrQ K tb=true
 mg:∀p∈tb,mg p.1=some (.ref (clOf K p.1))
theorem zrR{K:PySem.W.Frag}{h:Heap}{mg:Str->Option Value}{tb:XTb}(X:K.In h)(G:h.Ns mainGlobals mg)(ok:zrQ K tb=true):XT K mg tb:=by
 refine⟨ok,fun p hp=>?_⟩
 have:=List.all_eq_true.mp ok p hp
 simp only[Bool.and_eq_true,beq_iff_eq] at this
 exact PySem.W.mg_of X G this.1
section
variable {K:PySem.W.Frag} {mg:Str->Option Value} {tb:XTb}
theorem XT.x(T:XT K mg tb){nm:Str}{anc:List Str}(h:(nm,true,anc)∈tb):zqz K (clOf K nm)=true/\PySem.W.kitOne K (.ref (clOf K nm)) (.type "ValueError")=some true /\
  ∀q∈tb,PySem.W.kitOne K (.ref (clOf K nm)) (.ref (clOf K q.1))=some (anc.contains q.1)/\PySem.W.mroIn K (clOf K nm) (.ref (clOf K q.1))=some (anc.contains q.1):=by
 have:=List.all_eq_true.mp T.ok _ h
 simp only[Bool.not_true,Bool.false_or,Bool.and_eq_true,beq_iff_eq,List.all_eq_true] at this
 exact⟨this.2.1.1,this.2.1.2,fun q hq=>this.2.2 q hq⟩
end
def zeR(tb:XTb)(nm:Str):Option (List Str):=match tb.find? (fun p=>p.1==nm&&p.2.1) with
 | some p=>some p.2.2
 | none=>none
theorem zcA{tb:XTb}{nm:Str}{anc:List Str}(h:zeR tb nm=some anc):(nm,true,anc)∈tb:=by
 unfold zeR at h
 split at h
 ·rename_i p e
  cases h
  have h1:=List.mem_of_find?_eq_some e
  have h2:=List.find?_some e
  simp only[Bool.and_eq_true,beq_iff_eq] at h2
  obtain⟨a,b,c⟩:=p
  dsimp only at h2
  obtain⟨rfl,rfl⟩:=h2
  exact h1
 ·cases h
def noX{α:Type}(m:M α):M α:=fun ce=>match m ce with
 | some (.ok a ce')=>some (.ok a ce')
 | _=>none
section
variable {α β:Type} {X:Cx} {G:Ga} {E E':XK} {RP:Hp->List Addr->α->β->Prop}
theorem toT.noX{d:Sl->M α}{σ:VS.St}{H:Hp}{Q:β->Hp->Prop}(h:toT G E RP (fun sl=>VS.noX (d sl)) σ H Q):toT G E' RP d σ H Q:=by
 obtain⟨F,as,sl,ce,S,P⟩:=h
 refine⟨F,as,sl,ce,S,?_⟩
 unfold VS.noX at P
 dsimp only at P
 split at P
 ·rename_i a ce' e
  rw[e];exact P
 ·exact(show False from P).elim
def ziF{α:Type}(d:Sl->M α):Sl->M α:=fun sl=>noX (d sl)
theorem zpY{e:Expr}{d:Sl->M W}(h:PE X e (zax G E0 d)):PE X e (zax G E (ziF d)):=PE.imp h fun _ _ _ z=>z.noX
theorem zpZ{e:Expr}{d:Sl->M Bool}(h:PT X e (zck G E0 d)):PT X e (zck G E (ziF d)):=PT.imp h fun _ _ _ z=>z.noX
end
def sml(sl:Sl)(i:Nat):Bool:=match sl[i]? with
 | some (some (.int n))=>decide (n.natAbs<1000)
 | _=>false
def zcB(nm:Str)(l:List Nat):DS:=fun sl ce=>if l.all (sml sl)=true then some (.ex ⟨nm,none⟩ ce) else none
section
variable {X:Cx} {K:PySem.W.Frag} {E:XK} {tb:XTb} {x:Str} {np cpos pos:Pos} {e:Expr} {t:L2.St->Prop}
theorem zfI{l:List Nat}{anc:List Str}(hx:Flies X E)(hK:X.K=K)(T:XT K X.mg tb)(hm:zeR tb x=some anc)(hex:X.ex=[])(hg:Gl X x)(hh:X.A.handled=none)(ha:PX X e t)(ht:∀σ:L2.St,(∀i∈l,∃n:Int,σ[i]?=some (some (.int n))/\n.natAbs<1000)->t σ)(he:starEach [e] X.env=[(false,eval e X.env)]:=by rfl)(hd:(x==("__debug__" : Str))=false:=by decide) :
  PS X (.Raise (some (.Call (.Name x np) [e] [] cpos)) none pos) (toTS (Gy K) E (zcB x l)):=by
 have hmem:=zcA hm
 have hx':=(zhk (T.x hmem).1).1
 refine PS.imp (zlx (E:=E) (C:=clOf K x) hx hex (by rw[hK];exact hx') hg (T.mg _ hmem) hh ha he hd) fun D σ H zz_=>el6 zz_ fun F as sl ce S P=>?_
 unfold zcB at P
 split at P
 ·rename_i h
  refine⟨ht σ fun i hi=>?_,P H F as (.ref (clOf K x)) none .refl S.st ⟨rfl,rfl⟩⟩
  have:=List.all_eq_true.mp h i hi
  unfold sml at this
  split at this
  ·rename_i n e
   obtain⟨v,e1,e2⟩:=S.slot i _ e
   simp only[Rep] at e2
   subst e2
   exact⟨n,e1,of_decide_eq_true this⟩
  ·cases this
 ·exact(show False from P).elim
end
def zqA(d:DS):DS:=fun sl ce=>match d sl ce with
 | some (.go f sl' ce')=>some (.go f sl' ce')
 | _=>none
def zsq(put:Option Nat)(sl:Sl)(w:W):Sl:=match put with
 | some i=>sl.set i (some w)
 | none=>sl
def zs7(put:Option Nat)(σ:VS.St)(v:V):VS.St:=match put with
 | some i=>σ.set i (some v)
 | none=>σ
def zmz(c:Sl->M W)(put:Option Nat)(ok:Exn->Bool)(hd:Exn->DS):DS:=fun sl ce=>match c sl ce with
 | some (.ok w ce')=>some (.go .nx (zsq put sl w) ce')
 | some (.ex x ce')=>if ok x=true then hd x sl ce' else none
 | none=>none
def zdE(tb:XTb)(cn:Str)(x:Exn):Bool:=match zeR tb x.nm with
 | some anc=>anc.contains cn&&tb.any (fun p=>p.1==cn)
 | none=>false
section
variable {X:Cx} {K:PySem.W.Frag} {E:XK} {tb:XTb} {k n:Nat} {f:Addr} {fd:FuncData} {ps:List Str} {df:List W->M W} {x cn:Str} {p pos hpos np cpos epos:Pos} {e:Expr} {es:List Expr} {dr:Sl->M (List W)} {h:ExceptHandler} {hd:Exn->DS} {ok:Exn->Bool} {b0:Stmt} {suite:List Stmt} {ds:DS}
def PHv(K:PySem.W.Frag)(E:XK)(X:Cx)(h:ExceptHandler)(ok:Exn->Bool)(hd:Exn->DS):Prop:=∃th:Value->TS,PH X h th/\∀D σ H F as sl ce (x:Exn),SR (Gy K) F as H σ sl ce->ok x=true->PostS (Gy K) E D F as (hd x sl ce)->th (.ref (clOf K x.nm)) D σ H
theorem zkg{G:Ga}{E':XK}{D:Ends}{F:Hp}{as:List Addr}{sl:Sl}{ce:Ce}(P:PostS G E D F as (zqA ds sl ce)):PostS G E' D F as (ds sl ce):=by
 unfold zqA at P
 split at P
 ·rename_i e;rw[e];exact P
 ·exact(show False from P).elim
theorem znP{G:Ga}{D:Ends}{σ:VS.St}{H:Hp}{put:Option Nat}{th:Value->TS}{F:Hp}{as:List Addr}{sl:Sl}{ce:Ce}(hh:∀D σ H F as sl ce (x:Exn),SR (Gy K) F as H σ sl ce->ok x=true->PostS (Gy K) E D F as (hd x sl ce)->th (.ref (clOf K x.nm)) D σ H)(S:SR (Gy K) F as H σ sl ce)(P:PostS (Gy K) E D F as (zmz (zay n df (ziF dr)) put ok hd sl ce)) :
  zfn (Gy K) E0 dr σ H fun vs H1=>spV (Gy K) (fun E=>E) n df vs H1 (fun v H2=>D.nx (zs7 put σ v) H2) (fun cls _ H'=>th cls D σ H'):=by
 refine⟨F,as,sl,ce,S,?_⟩
 unfold zmz zay ziF noX bnd at P
 dsimp only at P
 cases e:dr sl ce with
 | none=>rw[e] at P;exact(show False from P).elim
 | some r=>cases r with
  | ex y ce'=>rw[e] at P;exact(show False from P).elim
  | ok ws ce1 =>
   rw[e] at P
   dsimp only at P
   intro vs H1 F1 as1 l1 S1 rs
   split at P
   ·rename_i w ce2 e2
    split at e2
    ·rename_i hl
     refine⟨by rw[rs.length];exact hl,F1,as1,ws,ce1,S1.st,rs,?_⟩
     rw[e2]
     intro v H2 F2 as2 l2 S2 rv
     have S3:=S1.slots S2 l2
     cases put with
     | none=>exact P σ H2 F2 as2 (l1.trans l2) S3
     | some i=>exact P _ H2 F2 as2 (l1.trans l2) (S3.put rv i)
    ·cases e2
   ·rename_i x ce2 e2
    split at e2
    ·rename_i hl
     refine⟨by rw[rs.length];exact hl,F1,as1,ws,ce1,S1.st,rs,?_⟩
     rw[e2]
     split at P
     ·rename_i hok
      intro H2 F2 as2 cv od l2 S2 hx
      obtain⟨rfl,rfl⟩:=hx
      exact hh D σ H2 F2 as2 sl ce2 x (S1.slots S2 l2) hok (P.le (l1.trans l2))
     ·exact(show False from P).elim
    ·cases e2
   ·exact(show False from P).elim
theorem znQ{i:Nat}{y:Str}{pos':Pos}(hst:X.stack=X.env::X.outer)(hf:X.env.frame=some X.env.locals)(hex:X.ex=[])(hN:X.N.Nodup)(hi:X.N[i]?=some y)(hx:Loc X.env.scope y)(Fk:FnOk X.prog X.w X.K X.mg X.base (CXx X.prog X.w) k f fd ps (spV (Gy K) (fun E=>E) n df))(hr:Room k X.A)(hg:Gl X x)(hm:X.mg x=some (.ref f))(hk:PySem.W.keepIn X.K (.ref f)=true)(hb:Binds X.K fd ps [])(ha:PA X.nox (e::es) (zfn (Gy K) E0 dr))(hh:PHv K E X h ok hd)(hdb:(x==("__debug__" : Str))=false:=by decide)(he:starEach (e::es) X.env=(false,eval e X.env)::starEach es X.env:=by rfl)(hpl:(backTo cpos (starEach es X.env)).any (·.1)=false:=by rfl)(hs:swapsWith (.Call (.Name x p) (e::es) [] cpos) (some (.Name y pos')) epos.line X.env=pure false:=by rfl)(hfn:X.fn y=true\/X.env.scope.names.lookup y=some .local:=by first|exact .inl rfl|exact .inr rfl|assumption) :
  PS X (.Try [.Assign [.Name y pos'] (.Call (.Name x p) (e::es) [] cpos) epos] [h] [] [] pos) (toTS (Gy K) E (zmz (zay n df (ziF dr)) (some i) ok hd)):=by
 obtain⟨th,hh1,hh2⟩:=hh
 exact PS.imp (zpW hst hf hex (zpX hN hi hx (zly Fk hr hex hg hm hk hb ha hdb he hpl) hs hfn) hh1) fun D σ H zz_=>el6 zz_ fun F as sl ce S P=>znP (G:=Gy K) hh2 S P
end
section
variable {X:Cx} {K:PySem.W.Frag} {E:XK} {tb:XTb} {cn:Str} {p pos p2:Pos} {e:Expr} {d:Sl->M W} {F:Hp} {as:List Addr} {H:Hp} {ce:Ce} {w:W} {v:V}
end
end
end VS
namespace VS
open PySem PySem.Spec PyProof.Rows L2
section
section
variable {P:Program} {w:World} {K:PySem.W.Frag} {mg:Str->Option Value} {base:Heap} {k:Nat} {f:Addr} {fd:FuncData} {ps:List Str}
theorem zp0{sp:Sp}(F:FnOk P w K mg base (CXx P w) k f fd ps sp):FnOk P w K mg base CX0 k f fd ps (fun vs H Q _=>sp vs H Q E0):=by
 refine⟨fun vs H Q E h=>F.len vs H Q E0 h,fun A outer s H args us vs Q E hr he hb hv hs=>codeAny_mono (F.run A outer s H args us vs Q E0 hr he hb hv hs) fun r s' h=>?_⟩
 cases r with
 | error e=>obtain⟨_,_,_,_,_,_,_,_,_,z⟩:=h;exact z
 | ok fl=>cases fl<;>exact h
theorem znR{G:PySem.W.Frag->Ga}{d:List W->M W}(nl:noL K=true)(h:FnOk P w K mg base (CXx P w) k f fd ps (spV (G K) (fun E=>E) 1 d)):FnOk P w K mg base CX0 k f fd ps (spLaw G d K):=(zp0 h).imp fun _ _ _ _ q=>q nl
end
end
end VS
namespace VS
open PySem PySem.Spec PyProof.Rows L2
section
def Xt(T:Exn->Ce->Prop):O->Prop
 | .ex x ce=>T x ce
 | _=>False
section
variable {sl:Sl} {ce c1:Ce} {a b:DS} {Q:O->Prop} {x:Exn} {nm:Str} {l:List Nat}
theorem zkh(h:l.all (sml sl)=true)(q:Q (.ex ⟨nm,none⟩ ce)):Run (zcB nm l) sl ce Q:=⟨_,by unfold zcB;rw[if_pos h],q⟩
theorem znS(h:Run a sl ce (Xt fun x c=>Q (.ex x c))):Run (zaA a b) sl ce Q:=by
 obtain⟨o,e,q⟩:=h
 cases o with
 | ex x c=>exact⟨_,by simp only[zaA,e],q⟩
 | go f sl' c=>exact(show False from q).elim
theorem zgI(h:l.all (sml sl)=true)(q:Q (.ex ⟨nm,none⟩ ce)):Run (zaA (zcB nm l) b) sl ce Q:=znS (zkh h q)
variable {f:List W->M W} {n:Nat} {ra:Sl->M (List W)} {ws:List W} {e:Sl->M W} {i:Nat}
theorem zhZ{α:Type}{d:Sl->M α}{v:α}(h:d sl ce=some (.ok v c1)):ziF d sl ce=some (.ok v c1):=by simp only[ziF,noX,h]
theorem zh0{fin:Ce->Ce->W->Option (R W)}{body:DS}(sl:Sl)(e:ws.map some++List.replicate (n-ws.length) none=sl)(h:Run body sl ce (Xt fun y c'=>y=x/\∃t,c'=ce++t)):dFn fin n body ws ce=some (.ex x ce):=by
 subst e
 obtain⟨o,e,q⟩:=h
 cases o with
 | go f sl' c=>exact(show False from q).elim
 | ex y c =>
  obtain⟨rfl,t,rfl⟩:=q
  have hc:zft ce (ce++t):=⟨by simp,fun k c hk e=>.inl (by rw[List.getElem?_append_left hk] at e;exact e)⟩
  simp only[dFn,e]
  rw[if_pos hc]
  simp
theorem zlz{c:Sl->M W}{put:Option Nat}{ok:Exn->Bool}{hd:Exn->DS}{w:W}(h:c sl ce=some (.ok w c1))(q:Run b (zsq put sl w) c1 Q):Run (zaA (zmz c put ok hd) b) sl ce Q:=zcX (by simp only[zmz,h]) q
variable {α:Type} {en:α->W} {src:Src} {g:DG} {body:DS} {zs:List α} {di:Sl->M Src}
end
end
end VS
namespace L2
open PySem PySem.Spec PyProof.Rows
section
variable {X:Cx}
end
end L2
namespace VS
open PySem PySem.Spec PyProof.Rows L2
section
section
variable {G:Ga} {E:XK}
end
end
end VS
namespace VS
open PySem PySem.Spec PyProof.Rows L2
section
end
end VS
namespace L2
open PySem PySem.Spec PyProof.Rows
section
variable {X:Cx}
end
end L2
namespace VS
open PySem PySem.Spec PyProof.Rows L2
section
section
variable {G:Ga} {E:XK}
end
end
end VS
namespace HT
open PySem PySem.Spec PyProof.Rows
section
variable {prog:Program} {w:World} {A:Around} {E:Value->Shared->Prop} {s:Shared}
end
end HT
namespace L2
open PySem PySem.Spec PyProof.Rows
section
variable {X:Cx} {e:Expr} {te:TE} {st:Expr} {ts:TO} {pos p2:Pos}
end
end L2
namespace VS
open PySem PySem.Spec PyProof.Rows L2
section
section
variable {X:Cx} {G:Ga} {E:XK} {a:Expr} {da:Sl->M W} {pos p2:Pos}
end
end
end VS
namespace VS
open PySem PySem.Spec PyProof.Rows L2
theorem us1{fd:FuncData}{ps:List Str}(h:∀a,bindArgs fd { pos:=[a] }=pure (ps.zip [a])):∀us:List Value,us.length=1->bindArgs fd { pos:=us }=pure (ps.zip us)
 | [a],_=>h a
theorem us2{fd:FuncData}{ps:List Str}(h:∀a b,bindArgs fd { pos:=[a,b] }=pure (ps.zip [a,b])):∀us:List Value,us.length=2->bindArgs fd { pos:=us }=pure (ps.zip us)
 | [a,b],_=>h a b
theorem us3{fd:FuncData}{ps:List Str}(h:∀a b c,bindArgs fd { pos:=[a,b,c] }=pure (ps.zip [a,b,c])):∀us:List Value,us.length=3->bindArgs fd { pos:=us }=pure (ps.zip us)
 | [a,b,c],_=>h a b c
theorem us4{fd:FuncData}{ps:List Str}(h:∀a b c d,bindArgs fd { pos:=[a,b,c,d] }=pure (ps.zip [a,b,c,d])):∀us:List Value,us.length=4->bindArgs fd { pos:=us }=pure (ps.zip us)
 | [a,b,c,d],_=>h a b c d
theorem us5{fd:FuncData}{ps:List Str}(h:∀a b c d e,bindArgs fd { pos:=[a,b,c,d,e] }=pure (ps.zip [a,b,c,d,e])):∀us:List Value,us.length=5->bindArgs fd { pos:=us }=pure (ps.zip us)
 | [a,b,c,d,e],_=>h a b c d e
end VS
namespace VS
open PySem PySem.Spec PyProof.Rows L2
section
section
variable {κ:Type} [DecidableEq κ] {F:Hp} {as:List Addr} {kvs:List (κ×W)} {ps:List (κ×V)}
end
section
variable {G:Ga} {F:Hp} {as:List Addr} {H:Hp} {ce:Ce} {w:W} {v:V}
end
section
variable {X:Cx} {G:Ga} {E:XK} {a b c:Expr} {da db dc:Sl->M W} {pos:Pos}
end
section
variable {sl:Sl} {ce c1 c2 c3:Ce} {k:Nat} {a b o i v:Sl->M W} {x y w:W}
end
end
end VS
namespace L2
open PySem PySem.Spec PyProof.Rows PySem.MeetsSeq
open PySem.AutoSeq1 (wpAny_loadPart')
end L2
namespace VS
open PySem PySem.Spec PyProof.Rows L2
section
section
variable {X:Cx}
end
open Classical in
def ztn:W->List W->M W:=fun w ws ce=>match zjK ce w,ws with
 | some (k,xs),[y]=>if (cln 8 (drf ce y)&&xs.all (cln 8))=true/\xs.findIdx (peq · (drf ce y))<xs.length then some (.ok .non (ce.set k (.lst (xs.eraseIdx (xs.findIdx (peq · (drf ce y))))))) else none
 | _,_=>none
open Classical in
def zoi:W->List W->M W:=fun w ws ce=>match zjK ce w,ws with
 | some (k,xs),[.int i]=>if 0<=i/\i<2 ^ 62 then match xs[i.toNat]? with
  | some y=>some (.ok y (ce.set k (.lst (xs.eraseIdx i.toNat))))
  | none=>none
  else none
 | _,_=>none
section
variable {G:Ga} {E:XK}
theorem zp1:Mt G E zl1 zoi:=by
 intro F as H σ sl ce w v ws vs Q S rw' rs P
 revert P
 unfold zoi
 split
 ·rename_i k xs i hc
  intro P
  split at P
  ·rename_i hi
   split at P
   ·rename_i y hy
    obtain⟨a,us,rfl,ha,hH,r⟩:=zdc S.st rw' hc
    obtain⟨v1,rfl,rv⟩:=zbD rs
    simp only[Rep] at rv
    subst rv
    obtain⟨u,hu,ru⟩:=r.get hy
    have hlt:=zaz hu
    refine⟨a,us,i,i.toNat,u,rfl,rfl,hH,by omega,by omega,?_,hu,P u _ F as .refl (S.slots (S.st.write (o:=.lst (us.eraseIdx i.toNat)) (c:=.lst (xs.eraseIdx i.toNat)) ha ⟨_,zaH,r.eraseIdx _⟩) .refl) ru⟩
    have e0:¬i<0:=by omega
    have e2:0<=i:=hi.1
    have e3:i<(us.length:Int):=by omega
    simp[seqIndex?,e0,e2,e3]
   ·exact(show False from P).elim
  ·exact(show False from P).elim
 ·exact fun P=>(show False from P).elim
end
end
end VS
namespace L2
open PySem PySem.Spec PyProof.Rows
section
variable {X:Cx} {e:Expr} {te:TE} {st:Expr} {ts:TO} {pos p2:Pos}
end
end L2
namespace VS
open PySem PySem.Spec PyProof.Rows L2
section
section
variable {X:Cx} {G:Ga} {E:XK} {a:Expr} {da:Sl->M W} {pos p2:Pos}
end
end
end VS
namespace L2
open PySem PySem.Spec PyProof.Rows
section
variable {X:Cx} {e:Expr} {t:TA} {p pos p2 pos2:Pos}
end
end L2
namespace VS
open PySem PySem.Spec PyProof.Rows L2
section
section
variable {X:Cx} {G:Ga} {E:XK} {e:Expr} {dr:Sl->M (List W)} {p pos p2 pos2:Pos}
end
end
end VS
namespace L2
open PySem PySem.Spec PyProof.Rows
section
variable {X:Cx}
end
end L2
namespace VS
open PySem PySem.Spec PyProof.Rows L2
section
section
variable {X:Cx} {G:Ga} {E:XK}
end
end
end VS
namespace VS
open PySem PySem.Spec PyProof.Rows L2
section
variable {X:Cx} {G:Ga} {E:XK} {a b c:Expr} {da db dc:Sl->M W} {pos:Pos}
end
end VS
namespace VS
open PySem PySem.Spec PyProof.Rows L2
section
variable {G:Ga} {E:XK}
end
end VS
namespace L2
open PySem PySem.Spec PyProof.Rows
theorem zdQ{K:PySem.W.Frag}{M:Model}{h:Heap}{S:Addr}(X:K.In h)(xs:XC K S):PySem.W.Looks M h (isExcClass (.ref S)) true:=by
 obtain⟨bm,N,nm,qn,bs,hdct,sn,sub,ab,col,dd,k0,k1,k2,k3,k5,mN,hC,hN,hni,T⟩:=xs.obj X
 have hcB:(Value.ref S::bm).contains (.type "BaseException")=true:=by rw[List.contains_cons,T.hasType PySem.F.excBase_ValueError.hasBase,Bool.or_true]
 intro A Q E s k q
 obtain⟨hh,g,d,tk,os⟩:=s
 have k:∀b o,h.get? b=some o->hh.get? b=some o:=k
 have hC:=k _ _ hC
 have f:=tc_notTuple
 unfold isExcClass
 repeat (first|with_reducible refine wpAny_loadPart_at hC ?_|(with_reducible refine wpAny_isSubtype_exc hC ?_;rw[hcB])|wp_step)
 exact q
open PySem.W in
theorem zeS{K:PySem.W.Frag}{M:Model}{A:Around}{E:Value->Shared->Prop}{s:Shared}{Q:Bool->Shared->Prop}{a C S1 S2 tp:Addr}{oe:Obj}{b1 b2:Bool}(X:K.In s.heap)(he:s.heap.get? a=some oe)(hcls:oe.cls=.ref C)(x1:XC K S1)(x2:XC K S2)(hp:s.heap.get? tp=some { cls:=.type "tuple",data:=.seq [Value.ref S1,.ref S2].toArray })(m1:PySem.W.mroIn K C (.ref S1)=some b1)(m2:PySem.W.mroIn K C (.ref S2)=some b2)(h:Q (b1||b2) s):wpAny M A (excMatches (.ref a) (.ref tp)) Q E s:=by
 have e1:=zdQ (M:=M) X x1
 have e2:=zdQ (M:=M) X x2
 have S1':=PySem.W.looks_mroIn (M:=M) X m1
 have S2':=PySem.W.looks_mroIn (M:=M) X m2
 have LT0:Looks M s.heap (isInstance (.ref tp) (.type "tuple")) true:=((Looks.ld hp).andThen .now).andThen (Looks.of_pure isSubtype_tuple_tuple)
 have LT:Looks M s.heap (typeOf (.ref a)) (.ref C):=by
  rw[<- hcls]
  exact(Looks.ld he).andThen .now
 obtain⟨hh,g,d,tk,os⟩:=s
 unfold excMatches
 refine wpAny_bind (LT0.at ?_)
 dsimp only
 rw[if_pos rfl]
 first
  | refine wpAny_bind (wpAny_seqItems hp rfl ?_)
  | refine wpAny_bind (wpAny_bind (wpAny_seqItems hp rfl (wpAny_pure ?_)))
 dsimp only[Option.getD_some,Option.getD]
 cases b1<;>cases b2<;>((repeat (first|simp only[List.forIn_cons,List.forIn_nil,Bool.not_true,Bool.false_eq_true,if_false,if_true]|lk));exact h)
section
variable {X:Cx}
theorem Fl.push{N:Addr->Prop}{a:Addr}{cls:Value}{H:Hp}{h:Heap}{o:Obj}{x:HO}(f:Fl N a cls H h):Fl N a cls (upd H h.objs.size x) (h.push o):=by
 obtain⟨oe,vs,a0,n,h1,h2,h3,h4,h5,h6⟩:=f
 refine⟨oe,vs,a0,n,by rw[zaG (Nat.ne_of_lt (Heap.lt_size h2))];exact h1,Heap.get?_push_of_some _ h2,h3,h4,h5,h6.imp id ?_⟩
 rintro⟨T,oT,ts,e1,e2,e3,e4,e5,e6⟩
 exact⟨T,oT,ts,e1,e2,by rw[zaG (Nat.ne_of_lt (Heap.lt_size e5))];exact e3,e4,Heap.get?_push_of_some _ e5,e6⟩
theorem zp2{S1 S2:Addr}{c1 c2:Str}{p1 p2 hpos tpos:Pos}{x1}{b0:Stmt}{suite:List Stmt}{ts:TS}(g1:Gl X c1)(m1:X.mg c1=some (.ref S1))(s1:XC X.K S1)(g2:Gl X c2)(m2:X.mg c2=some (.ref S2))(s2:XC X.K S2)(hs:∀a,PSs (X.hnd a) (b0::suite) ts)(d1:(c1==("__debug__" : Str))=false:=by decide)(d2:(c2==("__debug__" : Str))=false:=by decide)(st1:starEach [.Name c1 p1,.Name c2 p2] X.env=(false,eval (.Name c1 p1) X.env)::starEach [.Name c2 p2] X.env:=by rfl)(st2:starEach [.Name c2 p2] X.env=(false,eval (.Name c2 p2) X.env)::starEach [] X.env:=by rfl) :
  PH X (.ExceptHandler (some (.Tuple [.Name c1 p1,.Name c2 p2] x1 tpos)) none (b0::suite) hpos) (fun cls D σ H=>(∃C q1 q2,cls=.ref C/\PySem.W.mroIn X.K C (.ref S1)=some q1/\PySem.W.mroIn X.K C (.ref S2)=some q2/\(q1||q2)=true)/\∀t,H t=none->ts D σ (upd H t (.tup [V.ref S1,V.ref S2]))):=by
 intro pins s σ H D a cls I fl ⟨⟨C,q1,q2,hC,r1,r2,hq12⟩,hq⟩
 subst hC
 refine wpAny_handleBy_cons (codeAny_handlers_test (wpAny_Tuple_spliced ?_)) (by intro q;cases q)
 show wpAny _ _ (spliced (backTo tpos (starEach [.Name c1 p1,.Name c2 p2] (X.hnd a).env))) _ _ s
 have st1:starEach [.Name c1 p1,.Name c2 p2] (X.hnd a).env=(false,eval (.Name c1 p1) (X.hnd a).env)::starEach [.Name c2 p2] (X.hnd a).env:=st1
 have st2:starEach [.Name c2 p2] (X.hnd a).env=(false,eval (.Name c2 p2) (X.hnd a).env)::starEach [] (X.hnd a).env:=st2
 rw[st1]
 refine Calls.spliced_cons (zcs (X:=X.hnd a) (I.hnd a) g1 m1 ?_ d1)
 rw[st2]
 refine Calls.spliced_cons (zcs (X:=X.hnd a) (I.hnd a) g2 m2 ?_ d2)
 refine Calls.spliced_nil ⟨(show 2<=sizeLine by decide),?_⟩
 obtain⟨oe,vs,a0,_,_,he,hc,_⟩:=id fl
 have I':Inv X pins σ (upd H s.heap.objs.size (.tup [V.ref S1,V.ref S2])) { s with heap:=s.heap.push { cls:=.type "tuple",data:=.seq [Value.ref S1,.ref S2].toArray } } :=
  I.laid (t':=s.toks) (fun b u e=>Heap.get?_push_of_some _ e) (Nat.le_refl _) ⟨(show 2<=sizeLine by decide),[.ref S1,.ref S2],.cons rfl (.cons rfl .nil),⟨_,Heap.get?_push_size _ rfl,rfl,⟨_,rfl⟩,rfl⟩⟩
 refine zeS I'.kIn (Heap.get?_push_of_some _ he) hc s1 s2 (Heap.get?_push_size _ rfl) r1 r2 ?_
 rw[hq12]
 have hf:H s.heap.objs.size=none:=I.hok.fresh (Nat.le_refl _)
 exact codeAny_handlers_suite (zet (fl.push (x:=.tup [V.ref S1,V.ref S2])) (wpAny_mono (hs a pins _ σ _ D (I'.hnd a) (hq _ hf)) (fun f s2 z=>z.unhnd I.ok) fun _ _ z=>z.elim))
end
end L2
namespace VS
open PySem PySem.Spec PyProof.Rows L2
section
variable {X:Cx} {K:PySem.W.Frag} {E:XK} {tb:XTb} {c1 c2:Str} {p1 p2 tpos hpos:Pos} {b0:Stmt} {suite:List Stmt} {ds:DS}
theorem zfb{K:PySem.W.Frag}{mg:Str->Option Value}{tb:XTb}(T:XT K mg tb){x:Exn}{anc:List Str}(h:zeR tb x.nm=some anc){cn:Str}{an:List Str}(hc:zeR tb cn=some an):PySem.W.mroIn K (clOf K x.nm) (.ref (clOf K cn))=some (anc.contains cn) :=
 ((T.x (zcA h)).2.2 _ (zcA hc)).2
theorem zp3{a1 a2:List Str}{x1}(hK:X.K=K)(T:XT K X.mg tb)(h1:zeR tb c1=some a1)(h2:zeR tb c2=some a2)(g1:Gl X c1)(g2:Gl X c2)(hs:∀a,PSs (X.hnd a) (b0::suite) (toTS (Gy K) E0 ds))(d1:(c1==("__debug__" : Str))=false:=by decide)(d2:(c2==("__debug__" : Str))=false:=by decide)(st1:starEach [.Name c1 p1,.Name c2 p2] X.env=(false,eval (.Name c1 p1) X.env)::starEach [.Name c2 p2] X.env:=by rfl)(st2:starEach [.Name c2 p2] X.env=(false,eval (.Name c2 p2) X.env)::starEach [] X.env:=by rfl) :
  PHv K E X (.ExceptHandler (some (.Tuple [.Name c1 p1,.Name c2 p2] x1 tpos)) none (b0::suite) hpos) (fun x=>zdE tb c1 x||zdE tb c2 x) (fun _=>zqA ds):=by
 have e1:=zcA h1
 have e2:=zcA h2
 refine⟨_,zp2 g1 (T.mg _ e1) (by rw[hK];exact(zhk (T.x e1).1).1) g2 (T.mg _ e2) (by rw[hK];exact(zhk (T.x e2).1).1) hs d1 d2 st1 st2,fun D σ H F as sl ce x S hx P=>?_⟩
 obtain⟨anc,ha⟩:∃anc,zeR tb x.nm=some anc:=by
  cases q:zeR tb x.nm with
  | some anc=>exact⟨anc,rfl⟩
  | none=>simp only[zdE,q] at hx;cases hx
 refine⟨⟨_,anc.contains c1,anc.contains c2,rfl,by rw[hK];exact zfb T ha h1,by rw[hK];exact zfb T ha h2,by simp only[zdE,ha,Bool.or_eq_true,Bool.and_eq_true] at hx;rw[Bool.or_eq_true];exact hx.imp And.left And.left⟩,fun t ht=>?_⟩
 have keep:∀b o,H b=some o->upd H t (.tup [V.ref (clOf K c1),V.ref (clOf K c2)]) b=some o:=fun b o q=>by rw[zaG (zaE q ht)];exact q
 have S2:Store (Gy K) F as (upd H t (.tup [V.ref (clOf K c1),V.ref (clOf K c2)])) ce:=by
  refine⟨fun b o q=>keep b o (S.st.sub b o q),S.st.nd,S.st.len,fun j b c q1 q2=>?_⟩
  obtain⟨z1,z2⟩:=S.st.cell j b c q1 q2
  obtain⟨o,ho⟩:=z2.tracked
  exact⟨z1,z2.le .refl (by rw[ho];exact keep b o ho)⟩
 exact⟨F,as,sl,ce,⟨S2,S.len,S.slot⟩,zkg P⟩
end
end VS
namespace L2
open PySem PySem.Spec PyProof.Rows
section
variable {X:Cx} {k:Nat} {f C:Addr} {fd:FuncData} {ps:List Str} {sp:Sp} {x m:Str} {p pos apos:Pos} {e o:Expr} {es:List Expr} {t:TA} {ta:TE}
end
end L2
namespace VS
open PySem PySem.Spec PyProof.Rows L2
section
def putA(f:Str)(v:W):List (Str×W)->List (Str×W)
 | []=>[(f,v)]
 | (g,x)::r=>if g=f then (g,v)::r else (g,x)::putA f v r
section
variable {F:Hp} {as:List Addr} {fs:List (Str×W)} {ps:List (Str×V)}
theorem RepKV.look{w:W}{f:Str}(r:RepKV F as fs ps)(e:fs.lookup f=some w):∃v,ps.lookup f=some v/\Rep F as w v:=by
 induction r with
 | nil=>cases e
 | @cons p q l1 l2 h t ih =>
  obtain⟨a,x⟩:=p
  obtain⟨b,y⟩:=q
  obtain⟨e1,rv⟩:=h
  dsimp only at e1 rv
  subst e1
  rw[List.lookup_cons] at e ⊢
  split at e
  ·rename_i h;cases e;exact⟨y,rfl,rv⟩
  ·rename_i h;exact ih e
theorem RepKV.lookN{f:Str}(r:RepKV F as fs ps)(e:fs.lookup f=none):ps.lookup f=none:=by
 induction r with
 | nil=>rfl
 | @cons p q l1 l2 h t ih =>
  obtain⟨a,x⟩:=p
  obtain⟨b,y⟩:=q
  obtain⟨e1,rv⟩:=h
  dsimp only at e1 rv
  subst e1
  rw[List.lookup_cons] at e ⊢
  split at e
  ·cases e
  ·exact ih e
theorem RepKV.putA{w:W}{v:V}(r:RepKV F as fs ps)(f:Str)(rv:Rep F as w v):RepKV F as (VS.putA f w fs) (zfl f v ps):=by
 induction r with
 | nil=>exact .cons ⟨rfl,rv⟩ .nil
 | @cons p q l1 l2 h t ih =>
  obtain⟨a,x⟩:=p
  obtain⟨b,y⟩:=q
  obtain⟨e1,rx⟩:=h
  dsimp only at e1 rx
  subst e1
  simp only[VS.putA,zfl]
  split
  ·exact .cons ⟨rfl,rv⟩ t
  ·exact .cons ⟨rfl,rx⟩ ih
end
def zfJ(ce:Ce)(c:Str):W->Option (Nat×List (Str×W))
 | .cel k=>match ce[k]? with
  | some (.ins c' fs)=>if c'=c then some (k,fs) else none
  | _=>none
 | _=>none
section
variable {G:Ga} {E:XK} {F:Hp} {as:List Addr} {H:Hp} {σ:VS.St} {sl:Sl} {ce:Ce} {w:W} {v:V} {c:Str} {k:Nat} {fs:List (Str×W)}
theorem zfK(S:Store G F as H ce)(r:Rep F as w v)(h:zfJ ce c w=some (k,fs)):∃a dx ps,v=.ref a/\as[k]?=some a/\H a=some (.ins (G.cl c) dx ps)/\RepKV F as fs ps:=by
 unfold zfJ at h
 split at h
 ·rename_i j
  split at h
  ·rename_i c' fs' e
   split at h
   ·rename_i hc
    cases h
    subst hc
    simp only[Rep] at r
    obtain⟨a,rfl,ha⟩:=r
    obtain⟨_,dx,ps,h1,h2⟩:=S.cell _ a _ ha e
    exact⟨a,dx,ps,rfl,ha,h1,h2⟩
   ·cases h
  ·cases h
 ·cases h
end
def ziG(c f:Str)(d:Sl->M W):Sl->M W:=fun sl=>bnd (d sl) fun x=>look fun ce=>match zfJ ce c x with
 | some p=>p.2.lookup f
 | none=>none
def zeT(c f:Str)(d v:Sl->M W):DS:=fun sl ce=>lft (v sl ce) fun w ce1=>lft (d sl ce1) fun x ce2=>match zfJ ce2 c x with
 | some (k,fs)=>if fs.length<1000 then some (.go .nx sl (ce2.set k (.ins c (putA f w fs)))) else none
 | none=>none
def zdF(c m:Str)(n:Nat)(df:List W->M W)(d:Sl->M W)(dr:Sl->M (List W)):Sl->M W:=fun sl=>bnd (d sl) fun x=>bnd (look fun ce=>match zfJ ce c x with
 | some p=>if p.2.lookup m=none then some () else none
 | none=>none) fun _=>bnd (dr sl) fun ws=>if ws.length+1=n then df (x::ws) else ziw
def znT(k:Nat):Option (R W)->Option (R W)
 | some (.ok .non ce')=>some (.ok (.cel k) ce')
 | some (.ex x ce')=>some (.ex x ce')
 | _=>none
def zlA(c:Str)(n:Nat)(df:List W->M W)(dr:Sl->M (List W)):Sl->M W:=fun sl=>bnd (dr sl) fun ws ce=>if ws.length+1=n then znT ce.length (df (.cel ce.length::ws) (ce++[.ins c []])) else none
section
variable {X:Cx} {G:Ga} {E E1:XK} {CX:CXT} {k n:Nat} {f:Addr} {fd:FuncData} {ps:List Str} {df:List W->M W} {x c m:Str} {p pos pos' apos tpos:Pos} {e o value:Expr} {es:List Expr} {d dv:Sl->M W} {dr:Sl->M (List W)} {fe:XK->XK}
theorem zcY(hc:L2.Cls X.K (G.cl c))(hn:L2.NoAttr X.K (G.cl c) m)(he:PE X e (zax G E d))(hb:attributeBase e m X.env (eval e X.env)=eval e X.env:=by rfl):PE X (.Attribute e m pos) (zax G E (ziG c m d)):=by
 refine PE.imp (zoQ he hb) fun σ H Q zz_=>el6 zz_ fun F as sl ce S P=>(step S P).mono fun x H1 zz_=>el8 zz_ fun wx F1 as1 ce1 l1 S1 rx P1=>?_
 obtain⟨w,e1,P2⟩:=zbA P1
 split at e1
 ·rename_i q hq
  obtain⟨j,fs⟩:=q
  obtain⟨a,dx,ps,rfl,ha,hH,rk⟩:=zfK S1.st rx hq
  obtain⟨v,e4,rv⟩:=rk.look e1
  exact⟨a,_,dx,ps,v,rfl,hH,hc,hn,e4,P2.done S1 rv⟩
 ·cases e1
theorem zgJ(hc:L2.Cls X.K (G.cl c))(hn:L2.NoAttr X.K (G.cl c) m)(ho:PE X o (zax G E d))(hv:PE X value (zax G E dv))(hs:swapsWith value (some (.Attribute o m pos')) pos.line X.env=pure false:=by rfl) :
  PS X (.Assign [.Attribute o m pos'] value pos) (toTS G E (zeT c m d dv)):=by
 refine PS.imp (zoR ho hv hs) fun D σ H zz_=>el6 zz_ fun F as sl ce S P=>(zdz S P).mono fun y H1 zz_=>el8 zz_ fun wy F1 as1 ce1 l1 S1 ry P1=>(zdz S1 P1).mono fun x H2 zz_=>el8 zz_ fun wx F2 as2 ce2 l2 S2 rx P2=>?_
 split at P2
 ·rename_i j fs hq
  split at P2
  ·rename_i hl
   obtain⟨a,dx,ps,rfl,ha,hH,rk⟩:=zfK S2.st rx hq
   refine⟨a,_,dx,ps,rfl,hH,hc,hn,by rw[<- Paired.length rk];exact hl,?_⟩
   exact P2 _ _ _ _ .refl (S2.slots (S2.st.write (o:=.ins (G.cl c) dx (zfl m y ps)) (c:=.ins c (putA m wy fs)) ha ⟨_,_,zaH,rk.putA m (ry.le l2)⟩) .refl)
  ·exact(show False from P2).elim
 ·exact(show False from P2).elim
theorem zlB{F:Hp}{as:List Addr}{H:Hp}{σ:VS.St}{sl:Sl}{ce:Ce}{Q:VK}(S:SR G F as H σ sl ce)(P:Post G E Rep F as σ sl Q (zdF c m n df d dr sl ce)) :
  zax G E d σ H fun x H1=>∃a dx fs,x=.ref a/\H1 a=some (.ins (G.cl c) dx fs)/\fs.lookup m=none/\zfn G E dr σ H1 fun vs H2=>vs.length+1=n/\∃F2 as2 ws ce2,SR G F2 as2 H2 σ sl ce2/\Reps F2 as2 ws (x::vs)/\Post G E Rep F2 as2 σ sl Q (df ws ce2):=by
 refine(step S P).mono fun x H1 zz_=>el8 zz_ fun wx F1 as1 ce1 l1 S1 rx P1=>?_
 unfold bnd at P1
 unfold look at P1
 dsimp only at P1
 split at P1
 ·rename_i u ce' e1
  cases hq:zfJ ce1 c wx with
  | none=>rw[hq] at e1;cases e1
  | some q =>
   obtain⟨j,fs⟩:=q
   rw[hq] at e1
   dsimp only at e1
   split at e1
   ·rename_i hl
    cases e1
    obtain⟨a,dx,ps,rfl,ha,hH,rk⟩:=zfK S1.st rx hq
    refine⟨a,dx,ps,rfl,hH,rk.lookN hl,?_⟩
    refine(step (RP:=Reps) S1 P1).mono fun vs H2 zz_=>el8 zz_ fun ws F2 as2 ce2 l2 S2 rs P2=>?_
    split at P2
    ·rename_i hn
     exact⟨by rw[rs.length];exact hn,F2,as2,wx::ws,ce2,S2,.cons (rx.le l2) rs,P2⟩
    ·exact(show False from P2).elim
   ·cases e1
 ·rename_i e1
  cases hq:zfJ ce1 c wx with
  | none=>rw[hq] at e1;cases e1
  | some q=>rw[hq] at e1;dsimp only at e1;split at e1<;>cases e1
 ·exact P1.elim
theorem zcC{pl:Sem Bool}(hc:L2.Cls X.K (G.cl c))(hm:L2.Meth X.K (G.cl c) m f)(Fk:FnOk X.prog X.w X.K X.mg X.base CX k f fd ps (spV G fe n df))(hr:Room k X.A)(hb:Binds X.K fd ps [])(hx:zcT CX X E1)(he:PE X o (zax G E d))(ha:PA X (e::es) (zfn G E dr))(hfe:fe E1=E:=by rfl)(hst:starEach (e::es) X.env=(false,eval e X.env)::starEach es X.env:=by rfl)(hpl:(backTo pos (starEach es X.env)).any (·.1)=false:=by rfl)(ht:eval (.Call (.Attribute o m apos) (e::es) [] pos) X.env=(do
   let ov <- eval o X.env
   standAt apos.atName
   let (f,first) <- holding [ov] (getMethod ov m pl)
   callWith pos f first (backTo pos (starEach (e::es) X.env)) (backToKw pos (keywordEach [] X.env))):=by rfl) :
  PE X (.Call (.Attribute o m apos) (e::es) [] pos) (zax G E (zdF c m n df d dr)):=by
 refine PE.imp (zm7 he hc hm Fk hr hb .nil hx ha hst hpl ht) fun σ H Q zz_=>el6 zz_ fun F as sl ce S P=>(zlB S P).mono fun x H1 h=>?_
 obtain⟨a,dx,fs,e1,e2,e3,h⟩:=h
 refine⟨a,dx,fs,e1,e2,e3,h.mono fun vs H2 h=>?_⟩
 obtain⟨hn,F2,as2,ws,ce2,S2,rs,P2⟩:=h
 rw[List.append_nil]
 exact⟨hn,F2,as2,ws,ce2,S2.st,rs,by rw[hfe];exact PostF.of S2 P2⟩
theorem Store.other{F:Hp}{as:List Addr}{H:Hp}{ce:Ce}{q:Addr}{ho:HO}(S:Store G F as H ce)(hp:H q=none):Store G F as (upd H q ho) ce:=by
 refine⟨fun a u e=>?_,S.nd,S.len,fun k a c' h1 h2=>?_⟩
 ·rw[zaG (zaE (S.sub _ _ e) hp)];exact S.sub _ _ e
 ·obtain⟨q1,q2⟩:=S.cell k a c' h1 h2
  obtain⟨u,hu⟩:=q2.tracked
  exact⟨q1,q2.le .refl (zaG (zaE hu hp))⟩
theorem zlC{F:Hp}{as:List Addr}{H:Hp}{σ:VS.St}{sl:Sl}{ce:Ce}{Q:VK}{ws:List W}{vs:List V}{x dx:Addr}(S:SR G F as H σ sl ce)(rs:Reps F as ws vs)(hx:H x=none)(hdx:H dx=none)(hne:dx≠x)(hl:ws.length+1=n)(P:Post G E Rep F as σ sl Q (znT ce.length (df (.cel ce.length::ws) (ce++[.ins c []])))):spV G (fun _=>E) n df (.ref x::vs) (upd (upd H dx (.own x)) x (.ins (G.cl c) dx [])) (fun v H2=>v=.non/\Q (.ref x) H2) E:=by
 have hx':upd H dx (.own x) x=none:=by rw[zaG (fun z=>hne z.symm)];exact hx
 obtain⟨S2,l2⟩:=(S.st.other (ho:=.own x) hdx).alloc (o:=.ins (G.cl c) dx []) hx' (c:=.ins c []) (fun as' _=>⟨dx,[],zaH,.nil⟩)
 have hr:Rep F (as++[x]) (.cel ce.length) (.ref x):=by
  simp only[Rep]
  exact⟨x,rfl,by rw[<- S.st.len];simp⟩
 refine⟨by rw[List.length_cons,rs.length];exact hl,F,as++[x],_,_,S2,.cons hr (rs.le l2),?_⟩
 revert P
 cases df (.cel ce.length::ws) (ce++[.ins c []]) with
 | none=>exact fun P=>P
 | some r=>cases r with
  | ex y ce'=>exact fun P H' F' as' cv od l S' hx=>P H' F' as' cv od (l2.trans l) S' hx
  | ok w ce' =>
   cases w<;>first|exact fun P=>(show False from P).elim|skip
   intro P v H' F' as' l S' rv
   simp only[Rep] at rv
   exact⟨rv,P (.ref x) H' F' as' (l2.trans l) (S.slots S' (l2.trans l)) (hr.le l)⟩
theorem znU(M:L2.Mk X.K (G.cl c) f)(Fk:FnOk X.prog X.w X.K X.mg X.base CX k f fd ps (spV G fe n df))(hr:Room (k+1) X.A)(hg:Gl X c)(hm:X.mg c=some (.ref (G.cl c)))(hb:Binds X.K fd ps [])(hx:zcT CX X E1)(ha:PA X (e::es) (zfn G E dr))(hfe:fe E1=E:=by rfl)(hdb:(c==("__debug__" : Str))=false:=by decide)(he:starEach (e::es) X.env=(false,eval e X.env)::starEach es X.env:=by rfl)(hpl:(backTo pos (starEach es X.env)).any (·.1)=false:=by rfl) :
  PE X (.Call (.Name c p) (e::es) [] pos) (zax G E (zlA c n df dr)):=by
 refine PE.imp (zm8 M Fk hr hg hm hb .nil hx ha hdb he hpl) fun σ H Q zz_=>el6 zz_ fun F as sl ce S P=>(step (RP:=Reps) S P).mono fun vs H1 zz_=>el8 zz_ fun ws F1 as1 ce1 l1 S1 rs P1=>?_
 intro y dy hy hdy hne
 split at P1
 ·rename_i hn
  rw[List.append_nil]
  have q:=zlC S1 rs hy hdy hne hn P1
  obtain⟨h1,F2,as2,ws2,ce2,S2,rs2,P2⟩:=q
  exact⟨h1,F2,as2,ws2,ce2,S2,rs2,by rw[hfe];exact P2⟩
 ·exact(show False from P1).elim
end
section
variable {X:Cx} {K:PySem.W.Frag} {E:XK} {k n:Nat} {f:Addr} {fd:FuncData} {ps:List Str} {df:List W->M W} {x c m:Str} {p pos apos cpos epos:Pos} {e o:Expr} {es:List Expr} {d:Sl->M W} {dr:Sl->M (List W)} {h:ExceptHandler} {hd:Exn->DS} {ok:Exn->Bool}
end
end
end VS
namespace VS
open PySem PySem.Spec PyProof.Rows L2
section
section
variable {sl:Sl} {ce c1 c2 c3:Ce} {a b:DS} {Q:O->Prop} {d v:Sl->M W} {dr:Sl->M (List W)} {w u:W} {ws:List W} {k n:Nat} {c f m:Str} {fs:List (Str×W)} {df:List W->M W} {x:Exn}
theorem zfL{p:List (Str×W)}{j:Nat}(h:p.length<=j):(putA f w p).length<=j+1:=by
 induction p generalizing j with
 | nil=>simp[putA]
 | cons a r ih =>
  obtain⟨g,y⟩:=a
  rw[List.length_cons] at h
  simp only[putA]
  split
  ·rw[List.length_cons];omega
  ·rw[List.length_cons]
   have:=ih (j:=j-1) (by omega)
   omega
theorem znV(g:ce[k]?=some (.ins c fs)):zfJ ce c (.cel k)=some (k,fs):=by simp only[zfJ,g,if_true]
theorem zcZ(h:d sl ce=some (.ok (.cel k) c1))(g:c1[k]?=some (.ins c fs))(l:fs.lookup f=some w):ziG c f d sl ce=some (.ok w c1):=by
 simp only[ziG,bnd,h,look,znV g,l,Option.map_some]
theorem zmA(hv:v sl ce=some (.ok w c1))(h:d sl c1=some (.ok (.cel k) c2))(g:c2[k]?=some (.ins c fs))(hl:fs.length<1000):zeT c f d v sl ce=some (.go .nx sl (c2.set k (.ins c (putA f w fs)))):=by
 simp only[zeT,lft,hv,h,znV g,if_pos hl]
theorem zlD(hv:v sl ce=some (.ok w c1))(h:d sl c1=some (.ok (.cel k) c2))(g:c2[k]?=some (.ins c fs))(hl:fs.length<1000)(q:Q (.go .nx sl (c2.set k (.ins c (putA f w fs))))):Run (zeT c f d v) sl ce Q:=⟨_,zmA hv h g hl,q⟩
theorem zd6(hv:v sl ce=some (.ok w c1))(h:d sl c1=some (.ok (.cel k) c2))(g:c2[k]?=some (.ins c fs))(hl:fs.length<1000)(q:Run b sl (c2.set k (.ins c (putA f w fs))) Q):Run (zaA (zeT c f d v) b) sl ce Q:=zcX (zmA hv h g hl) q
theorem zp4(h:d sl ce=some (.ok (.cel k) c1))(g:c1[k]?=some (.ins c fs))(l:fs.lookup m=none)(hr:dr sl c1=some (.ok ws c2))(hn:ws.length+1=n):zdF c m n df d dr sl ce=df (.cel k::ws) c2:=by
 simp only[zdF,bnd,h,look,znV g,l,if_true,Option.map_some,hr,hn]
theorem zcD{r:Option (R W)}(h:d sl ce=some (.ok (.cel k) c1))(g:c1[k]?=some (.ins c fs))(l:fs.lookup m=none)(hr:dr sl c1=some (.ok ws c2))(hn:ws.length+1=n)(hf:df (.cel k::ws) c2=r):zdF c m n df d dr sl ce=r:=(zp4 h g l hr hn).trans hf
theorem znW(hr:dr sl ce=some (.ok ws c1))(hn:ws.length+1=n)(hf:df (.cel c1.length::ws) (c1++[.ins c []])=some (.ok .non c2)):zlA c n df dr sl ce=some (.ok (.cel c1.length) c2):=by
 simp only[zlA,bnd,hr,if_pos hn,hf,znT]
theorem zp5{q:Bool}(h:d sl ce=some (.ok (.bl q) c1)):zpb d sl ce=some (.ok (.bl (!q)) c1):=by simp only[zpb,bnd,h,ret]
theorem zrS{fin:Ce->Ce->W->Option (R W)}{body:DS}{r:R W}(sl:Sl)(e:ws.map some++List.replicate (n-ws.length) none=sl)(h:Run body sl ce fun o=>∃sl' c',o=.go .nx sl' c'/\fin ce c' .non=some r):dFn fin n body ws ce=some r:=by
 subst e
 obtain⟨o,e,sl',c',rfl,hf⟩:=h
 simp only[dFn,e,hf]
end
theorem fn_never{P:Program}{w:World}{K:PySem.W.Frag}{mg:Str->Option Value}{base:Heap}{CX:CXT}{k n:Nat}{f:Addr}{fd:FuncData}{ps:List Str}{G:Ga}{fe:XK->XK}(hn:n=ps.length):FnOk P w K mg base CX k f fd ps (spV G fe n fun _ _=>none) :=
 ⟨fun vs H Q E h=>h.1.trans hn,fun A outer s H args us vs Q E hr he hb hv h=>by
  obtain⟨_,_,_,_,_,_,_,h⟩:=h
  exact h.elim⟩
end
end VS
namespace K39
open PySem PySem.Spec PyProof.Rows L2 VS
def XTB:XTb:=[("StoneError",true,["StoneError"]),("NoLay",true,["NoLay", "StoneError"]),("NoBreath",true,["NoBreath", "StoneError"]),("TooMuch",true,["TooMuch", "StoneError"])]
def d_other_hand(fu:Nat):List W->M W:=dFn finC 1
 (zbB (dOp zkL (dC (.int 3)) (zag 0)))
def zeu(fu:Nat):DS :=
 (dIf (zei (dB (zaI (zl9 true) (zag 6) (zag 3))) (dB (zaI (eqW false) (zaI ixW (zag 1) (zag 6)) (zaI ixW (zag 1) (zag 2))))) (zaA (zmb (zag 3) (zag 6) (dC (.bl true)))
 (dEx (dMt zeK (zag 4) (zae (zag 6) zan)))) za4)
def zev(fu:Nat):DS :=
 (zaA (zbf 5 (zpl zpn (zag 4)))
 (zcW (dIT (zaI ixW (zag 0) (zag 5))) (gN 6) (zeu fu)))
def d_patch_of(fu:Nat):List W->M W:=dFn finO 7
 (zaA (zbf 3 (zgz (zag 2) (dC (.bl true))))
 (zaA (zbf 4 (zb5 (zae (zag 2) zan)))
 (zaA (zcn (zkM (zag 4)) (zev fu) fu)
 (zbB (dBi (za3 zfr) (zae (zag 3) zan))))))
def zfc(fu:Nat):DS :=
 (zmb (zag 2) (zag 6) (dC (.bl true)))
def zfd(fu:Nat):DS :=
 (dIf (dB (zaI (zl9 true) (zag 4) (zag 2))) (zaA (zbf 5 (zay 3 (zce (d_patch_of fu)) (zae (zag 0) (zae (zag 1) (zae (zag 4) zan)))))
 (zaA (dEx (dMt zeK (zag 3) (zae (zag 5) zan)))
 (zcW (dIL (zag 5)) (gN 6) (zfc fu)))) za4)
def d_patches(fu:Nat):List W->M W:=dFn finO 7
 (zaA (zbf 2 ziz)
 (zaA (zbf 3 (zb5 zan))
 (zaA (zcW (zhL (zae (dBi zcv (zae (zag 0) zan)) zan)) (gN 4) (zfd fu))
 (zbB (zag 3)))))
def d_patch(fu:Nat):List W->M W:=dFn finO 3
 (zbB (zay 3 (d_patch_of fu) (zae (zag 0) (zae (zag 1) (zae (zag 2) zan)))))
def d_rows(fu:Nat):List W->M W:=dFn finC 2
 (zbB (dLC zbX [1] (dIL (zay 2 (zce (d_patches fu)) (zae (zag 0) (zae (zag 1) zan)))) (dB (zaI (eqW true) (zaI ixW (zag 1) (zaI ixW (zag 0) (dC (.int 0)))) (dC (.int 0)))) (zag 0)))
def zco(fu:Nat):DS :=
 (zmb (zag 2) (zag 4) (dC (.bl true)))
def zcp(fu:Nat):DS :=
 (zcW (dIT (zaI ixW (zag 0) (zag 3))) (gN 4) (zco fu))
def d_points_beside(fu:Nat):List W->M W:=dFn finO 5
 (zaA (zbf 2 ziz)
 (zaA (zcW (dIL (zag 1)) (gN 3) (zcp fu))
 (zbB (dBi (za3 zfr) (zae (zag 2) zan)))))
def d_breaths(fu:Nat):List W->M W:=dFn finO 3
 (zbB (dLC zfr [1] (dIL (zay 2 (zce (d_points_beside fu)) (zae (zag 0) (zae (zag 2) zan)))) (dB (zaI (eqW false) (zaI ixW (zag 1) (zag 0)) (dC (.int 0)))) (zag 0)))
def zgK(fu:Nat):DS :=
 (zhI (zag 2) (zdW (zag 3) (zag 4)))
def d_filled(fu:Nat):List W->M W:=dFn finC 5
 (zaA (zbf 3 (dBi (ziC zfr) (zae (zag 0) zan)))
 (zaA (zcW (dIL (zag 1)) (gN 4) (zgK fu))
 (zbB (dBi zbi (zae (zag 3) zan)))))
def zdk(fu:Nat):DS :=
 (dIf (zei (dB (zaI (eqW false) (zaI ixW (zag 1) (zaI ixW (zag 4) (dC (.int 0)))) (zag 2))) (zfq (zkM (zay 3 (zce (d_breaths fu)) (zae (zag 0) (zae (zag 1) (zae (zag 4) zan))))))) (dEx (dMt znx (zag 3) (zae (zag 4) zan))) za4)
def d_breathless(fu:Nat):List W->M W:=dFn finO 5
 (zaA (zbf 3 (zb5 zan))
 (zaA (zcW (dIL (zay 2 (d_rows fu) (zae (zag 0) (zae (zag 1) zan)))) (gN 4) (zdk fu))
 (zbB (dBi (za3 zfr) (zae (zag 3) zan)))))
def d_laid(fu:Nat):List W->M W:=dFn finC 7
 (zaA (dIf (dB (zaI (eqW true) (zaI ixW (zag 1) (zag 3)) (dC (.int 0)))) (zcB "NoLay" [3]) za4)
 (zaA (zbf 4 (zay 3 (d_filled fu) (zae (zag 1) (zae (zeI (zae (zag 3) zan)) (zae (zag 2) zan)))))
 (zaA (zbf 5 (zay 3 (zce (d_breathless fu)) (zae (zag 0) (zae (zag 4) (zae (zay 1 (d_other_hand fu) (zae (zag 2) zan)) zan)))))
 (zaA (zbf 6 (zay 3 (d_filled fu) (zae (zag 4) (zae (zag 5) (zae (dC (.int 0)) zan)))))
 (zaA (dIf (zfq (zkM (zay 3 (zce (d_breaths fu)) (zae (zag 0) (zae (zag 6) (zae (zay 3 (zce (d_patch fu)) (zae (zag 0) (zae (zag 6) (zae (zag 3) zan)))) zan)))))) (zcB "NoBreath" [3]) za4)
 (zbB (zbU (zae (zag 6) (zae (zag 5) zan)))))))))
def zfe(fu:Nat):DS :=
 (zaA (zmz (zay 4 (d_laid fu) (ziF (zae (zag 0) (zae (zag 1) (zae (zag 2) (zae (zag 5) zan)))))) (some 6) (fun x=>zdE XTB "NoLay" x||zdE XTB "NoBreath" x) (fun _=>zqA zr2))
 (dEx (dMt zeK (zag 4) (zae (zbU (zae (zag 5) (zae (zaI ixW (zag 6) (dC (.int 0))) (zae (zaI ixW (zag 6) (dC (.int 1))) zan)))) zan))))
def d_lays_on(fu:Nat):List W->M W:=dFn finO 7
 (zaA (zbf 4 (zb5 zan))
 (zaA (zcW (dIL (zag 3)) (gN 5) (zfe fu))
 (zbB (zag 4))))
def d_new_lays(fu:Nat):List W->M W:=dFn finC 4
 (zbB (dLC zbX [1] (dIL (zay 4 (zce (d_lays_on fu)) (zae (zag 0) (zae (zaI ixW (zag 1) (dUn znj (dC (.int 1)))) (zae (zag 2) (zae (zag 3) zan)))))) (dB (zaI (inW true) (zaI ixW (zag 0) (dC (.int 1))) (zag 1))) (zag 0)))
def d_steps(fu:Nat):List W->M W:=dFn finO 4
 (zaA (zbf 3 (dLC zfr [] (dIL (zay 4 (d_new_lays fu) (zae (zag 0) (zae (zag 1) (zae (zag 2) (zae (dBi (zfv zbX) (zae (dBi zcv (zae (zag 0) zan)) zan)) zan)))))) zeJ (zbU (zae (zaI ixW (zag 0) (dC (.int 0))) (zae (zaI ixW (zag 0) (dC (.int 1))) zan)))))
 (zaA (dEx (dMt zeK (zag 3) (zae (zbU (zae (dC .non) (zae (zaI ixW (zag 1) (dUn znj (dC (.int 1)))) zan))) zan)))
 (zbB (zag 3))))
def d_Chase_is_spent(fu:Nat):List W->M W:=dFn finC 2
 (zbB (dOp fGe (dOp zoe (dOp zcl (dBi zcv (zae (zag 1) zan)) (dC (.int 1))) (dC (.int 2))) (ziG "Chase" "most" (zag 0))))
def d_Chase_breaths_at(fu:Nat):List W->M W:=dFn finC 2
 (zbB (zay 3 (zce (d_breaths fu)) (zae (ziG "Chase" "joined" (zag 0)) (zae (zag 1) (zae (zay 3 (zce (d_patch fu)) (zae (ziG "Chase" "joined" (zag 0)) (zae (zag 1) (zae (ziG "Chase" "stone" (zag 0)) zan)))) zan)))))
def d_Chase_hunter_lays(fu:Nat):List W->M W:=dFn finC 3
 (zaA (zbf 2 (zay 4 (d_new_lays fu) (zae (ziG "Chase" "joined" (zag 0)) (zae (zag 1) (zae (ziG "Chase" "hunter" (zag 0)) (zae (zdF "Chase" "breaths_at" 2 (d_Chase_breaths_at fu) (zag 0) (zae (zaI ixW (zag 1) (dUn znj (dC (.int 1)))) zan)) zan))))))
 (zbB (dLC zbX [0] (dIL (zag 2)) (ziF (zl6 (dB (zaI (eqW false) (zaI ixW (zaI ixW (zag 0) (dC (.int 1))) (ziG "Chase" "stone" (zag 1))) (dC (.int 0)))) (dB (dOp fLe (dBi zcv (zae (zdF "Chase" "breaths_at" 2 (d_Chase_breaths_at fu) (zag 1) (zae (zaI ixW (zag 0) (dC (.int 1))) zan)) zan)) (dC (.int 1)))))) (zag 0))))
def zdl(fu:Nat)(r_Chase_hunt:List W->M W)(r_Chase_run:List W->M W):DS :=
 (zaA (dIf (dB (zaI (eqW false) (zaI ixW (zaI ixW (zag 4) (dC (.int 1))) (ziG "Chase" "stone" (zag 0))) (dC (.int 0)))) (zbB (zbU (zae (dC (.str "caught")) (zae (zeI (zae (zbU (zae (zag 2) (zae (zaI ixW (zag 4) (dC (.int 0))) zan))) zan)) zan)))) za4)
 (zaA (zbf 5 (zdF "Chase" "run" 3 (zkc r_Chase_run) (zag 0) (zae (ziW zbX (zag 1) (zeI (zae (zaI ixW (zag 4) (dC (.int 1))) zan))) (zae (ziE (zag 2) (zbU (zae (zaI ixW (zag 4) (dC (.int 0))) zan))) zan))))
 (zaA (dIf (dB (zaI (eqW false) (zaI ixW (zag 5) (dC (.int 0))) (dC (.str "caught")))) (zbB (zbU (zae (dC (.str "caught")) (zae (ziW zbX (zeI (zae (zbU (zae (zag 2) (zae (zaI ixW (zag 4) (dC (.int 0))) zan))) zan)) (zaI ixW (zag 5) (dC (.int 1)))) zan)))) za4)
 (dEx (dMt znx (zag 3) (zae (zaI ixW (zag 5) (dC (.int 1))) zan))))))
def zbh(fu:Nat)(r_Chase_hunt:List W->M W)(r_Chase_run:List W->M W):List W->M W:=dFn zoh 6
 (zaA (dIf (dB (zdF "Chase" "is_spent" 2 (d_Chase_is_spent fu) (zag 0) (zae (zag 2) zan))) (zbB (zbU (zae (dC (.str "free")) (zae (zeI zan) zan)))) za4)
 (zaA (zbf 3 (zb5 zan))
 (zaA (zcW (dIL (zdF "Chase" "hunter_lays" 2 (d_Chase_hunter_lays fu) (zag 0) (zae (zag 1) zan))) (gN 4) (zdl fu r_Chase_hunt r_Chase_run))
 (zbB (zbU (zae (dC (.str "free")) (zae (zag 3) zan)))))))
def zdR(fu:Nat)(r_Chase_hunt:List W->M W)(r_Chase_run:List W->M W):DS :=
 (zaA (zbf 5 (zdF "Chase" "hunt" 3 (zkc r_Chase_hunt) (zag 0) (zae (ziW zbX (zag 1) (zeI (zae (zaI ixW (zag 4) (dC (.int 1))) zan))) (zae (ziE (zag 2) (zbU (zae (zaI ixW (zag 4) (dC (.int 0))) zan))) zan))))
 (zaA (dIf (dB (zaI (eqW false) (zaI ixW (zag 5) (dC (.int 0))) (dC (.str "free")))) (zbB (zbU (zae (dC (.str "free")) (zae (ziW zbX (zeI (zae (zbU (zae (zag 2) (zae (zaI ixW (zag 4) (dC (.int 0))) zan))) zan)) (zaI ixW (zag 5) (dC (.int 1)))) zan)))) za4)
 (dEx (dMt znx (zag 3) (zae (zaI ixW (zag 5) (dC (.int 1))) zan)))))
def zbq(fu:Nat)(r_Chase_hunt:List W->M W)(r_Chase_run:List W->M W):List W->M W:=dFn zoh 6
 (zaA (dIf (dB (zdF "Chase" "is_spent" 2 (d_Chase_is_spent fu) (zag 0) (zae (zag 2) zan))) (zbB (zbU (zae (dC (.str "free")) (zae (zeI zan) zan)))) za4)
 (zaA (zbf 3 (zb5 zan))
 (zaA (zcW (dIL (zay 3 (zce (d_steps fu)) (zae (ziG "Chase" "joined" (zag 0)) (zae (zag 1) (zae (ziG "Chase" "runner" (zag 0)) zan))))) (gN 4) (zdR fu r_Chase_hunt r_Chase_run))
 (zbB (zbU (zae (dC (.str "caught")) (zae (zag 3) zan)))))))
def zao(fu:Nat):Nat->(List W->M W)×(List W->M W)
 | 0=>(fun _ _=>none,fun _ _=>none)
 | r+1=>(zbh fu (zao fu r).1 (zao fu r).2,zbq fu (zao fu r).1 (zao fu r).2)
def d_Chase_hunt(fu:Nat):List W->M W:=(zao fu 10).1
def d_Chase_run(fu:Nat):List W->M W:=(zao fu 10).2
def d_Chase___init__(fu:Nat):List W->M W:=dFn zoh 5
 (zaA (zeT "Chase" "joined" (zag 0) (zag 1))
 (zaA (zeT "Chase" "hunter" (zag 0) (zag 2))
 (zaA (zeT "Chase" "runner" (zag 0) (zay 1 (d_other_hand fu) (zae (zag 2) zan)))
 (zaA (zeT "Chase" "stone" (zag 0) (zag 3))
 (zeT "Chase" "most" (zag 0) (zag 4))))))
def d_chase(fu:Nat):List W->M W:=dFn finC 5
 (zaA (dIf (dB (dOp fGt (dBi zcv (zae (zag 0) zan)) (dC (.int 16)))) (zcB "TooMuch" []) za4)
 (zbB (zdF "Chase" "hunt" 3 (zkc (d_Chase_hunt fu)) (zlA "Chase" 5 (d_Chase___init__ fu) (zae (zag 0) (zae (zag 2) (zae (zag 3) (zae (zag 4) zan))))) (zae (zeI (zae (zag 1) zan)) (zae (zbU zan) zan)))))
def d__law_cell_at(fu:Nat):List W->M W:=dFn finC 2
 (zaA (dIf (dB (dOp fLt (zag 1) (dBi zcv (zae (zag 0) zan)))) (zbB (zaI ixW (zag 0) (zag 1))) za4)
 (zbB (dOp zcl (dOp zeG (dOp zeG (dC (.int 71)) (zag 1)) (zag 1)) (dOp zeG (dC (.int 7)) (zag 1)))))
def d__law_mix(fu:Nat):List W->M W:=dFn finC 3
 (zaA (zbf 2 (dOp zeH (dOp zeG (dOp zcl (dOp zeH (zag 0) (dC (.int 99991))) (dC (.int 1))) (dOp zcl (dC (.int 48271)) (dOp zeG (dOp zeG (dC (.int 2018)) (zag 1)) (zag 1)))) (dC (.int 65521))))
 (zbB (dOp zeH (dOp zcl (dOp zeG (zag 2) (zag 2)) (dOp zeG (dC (.int 7919)) (zag 1))) (dC (.int 65519)))))
def zdm(fu:Nat):DS :=
 (zaA (zbf 8 (dOr (dOp zgS (dOp zkL (zag 6) (zag 7)) (zag 3)) (znp (dOp zgS (dOp zkL (zag 6) (zag 7)) (dC (.int 1))) (dOp fGt (dOp zeH (zag 6) (zag 3)) (dC (.int 0))))))
 (zaA (zbf 9 (dOp zgS (dOp zeH (zay 2 (d__law_mix fu) (zae (zag 0) (zae (dOp zcl (dOp zcl (dC (.int 9)) (dOp zeG (dC (.int 17)) (zag 6))) (zag 7)) zan))) (dC (.int 7))) (dC (.int 0))))
 (zaA (dIf (dB (dOp zgS (dOp zeH (zay 2 (d__law_mix fu) (zae (zag 0) (zae (dC (.int 1)) zan))) (dC (.int 4))) (dC (.int 0)))) (zbf 8 (dOr (zag 8) (zag 9))) za4)
 (zaA (dIf (dB (dOp zgS (dOp zeH (zay 2 (d__law_mix fu) (zae (zag 0) (zae (dC (.int 1)) zan))) (dC (.int 4))) (dC (.int 1)))) (zbf 8 (znp (zag 8) (zpb (zag 9)))) za4)
 (dIf (dB (zag 8)) (zaA (dEx (dMt zeK (zaI ixW (zag 5) (zag 6)) (zae (zag 7) zan)))
 (dEx (dMt zeK (zaI ixW (zag 5) (zag 7)) (zae (zag 6) zan)))) za4)))))
def zdn(fu:Nat):DS :=
 (zcW (zhL (zae (zag 6) zan)) (gN 7) (zdm fu))
def d__law_board(fu:Nat):List W->M W:=dFn finC 10
 (zaA (zbf 2 (zeI (zae (zbU (zae (dC (.int 2)) (zae (dC (.int 2)) zan))) (zae (zbU (zae (dC (.int 3)) (zae (dC (.int 2)) zan))) (zae (zbU (zae (dC (.int 5)) (zae (dC (.int 1)) zan))) (zae (zbU (zae (dC (.int 3)) (zae (dC (.int 3)) zan))) (zae (zbU (zae (dC (.int 4)) (zae (dC (.int 2)) zan))) (zae (zbU (zae (dC (.int 2)) (zae (dC (.int 4)) zan))) (zae (zbU (zae (dC (.int 7)) (zae (dC (.int 1)) zan))) (zae (zbU (zae (dC (.int 3)) (zae (dC (.int 4)) zan))) (zae (zbU (zae (dC (.int 4)) (zae (dC (.int 3)) zan))) (zae (zbU (zae (dC (.int 6)) (zae (dC (.int 2)) zan))) (zae (zbU (zae (dC (.int 5)) (zae (dC (.int 2)) zan))) (zae (zbU (zae (dC (.int 4)) (zae (dC (.int 4)) zan))) zan))))))))))))))
 (zaA (zhI (zaI ixW (zag 2) (dOp zeH (zay 2 (d__law_mix fu) (zae (zag 0) (zae (dC (.int 0)) zan))) (zag 1))) (gT 2 (ze7 (gN 3) (ze7 (gN 4) znt))))
 (zaA (zbf 5 (dLC zbX [] (zhL (zae (dOp zeG (zag 3) (zag 4)) zan)) zeJ (zb5 zan)))
 (zaA (zcW (zhL (zae (dOp zeG (zag 3) (zag 4)) zan)) (gN 6) (zdn fu))
 (zbB (dBi zbi (zae (dLC zbX [] (dIL (zag 5)) zeJ (dBi zbi (zae (dBi (za3 zbX) (zae (zag 0) zan)) zan))) zan)))))))
def zdo(fu:Nat):DS :=
 (dIf (zei (dB (dOp zgS (zaI ixW (zag 1) (zag 5)) (zaI ixW (zag 1) (zag 2)))) (dB (zaI (inW true) (zag 5) (zag 3)))) (dEx (dMt zeK (zag 3) (zae (zag 5) zan))) za4)
def zdp(fu:Nat):DS :=
 (zaA (zcW (dIT (zaI ixW (zag 0) (zaI ixW (zag 3) (zag 4)))) (gN 5) (zdo fu))
 (zbf 4 (dOp zcl (zag 4) (dC (.int 1)))))
def d__law_patch(fu:Nat):List W->M W:=dFn finO 6
 (zaA (zbf 3 (zb5 (zae (zag 2) zan)))
 (zaA (zbf 4 (dC (.int 0)))
 (zaA (zcn (dB (dOp fLt (zag 4) (dBi zcv (zae (zag 3) zan)))) (zdp fu) fu)
 (zbB (zag 3)))))
def zcE(fu:Nat):DS :=
 (dIf (zei (dB (dOp zgS (zaI ixW (zag 1) (zag 5)) (dC (.int 0)))) (dB (zaI (inW true) (zag 5) (zag 3)))) (dEx (dMt zeK (zag 3) (zae (zag 5) zan))) za4)
def zcF(fu:Nat):DS :=
 (zcW (dIT (zaI ixW (zag 0) (zag 4))) (gN 5) (zcE fu))
def d__law_breaths(fu:Nat):List W->M W:=dFn finO 6
 (zaA (zbf 3 (zb5 zan))
 (zaA (zcW (dIL (zag 2)) (gN 4) (zcF fu))
 (zbB (zag 3))))
def zdS(fu:Nat):DS :=
 (zhI (dC (.int 0)) (zdW (zag 4) (zag 6)))
def zdT(fu:Nat):DS :=
 (dIf (dB (dOp zgS (zaI ixW (zag 4) (zag 6)) (dOp zkL (dC (.int 3)) (zag 2)))) (zaA (zbf 7 (zay 3 (zce (d__law_patch fu)) (zae (zag 0) (zae (zag 4) (zae (zag 6) zan)))))
 (dIf (dB (zaI (eqW false) (zay 3 (zce (d__law_breaths fu)) (zae (zag 0) (zae (zag 4) (zae (zag 7) zan)))) (zeI zan))) (zbf 5 (ziW zbX (zag 5) (zag 7))) za4)) za4)
def d__law_laid(fu:Nat):List W->M W:=dFn finC 8
 (zaA (dIf (dB (dOp zmi (zaI ixW (zag 1) (zag 3)) (dC (.int 0)))) (zbB (dC .non)) za4)
 (zaA (zbf 4 (dBi (ziC zfr) (zae (zag 1) zan)))
 (zaA (zhI (zag 2) (zdW (zag 4) (zag 3)))
 (zaA (zbf 5 (zeI zan))
 (zaA (zcW (dIT (zaI ixW (zag 0) (zag 3))) (gN 6) (zdT fu))
 (zaA (zcW (dIL (zag 5)) (gN 6) (zdS fu))
 (zaA (dIf (dB (zaI (eqW false) (zay 3 (zce (d__law_breaths fu)) (zae (zag 0) (zae (zag 4) (zae (zay 3 (zce (d__law_patch fu)) (zae (zag 0) (zae (zag 4) (zae (zag 3) zan)))) zan)))) (zeI zan))) (zbB (dC .non)) za4)
 (zbB (dBi zbi (zae (zag 4) zan))))))))))
def zdq(fu:Nat):DS :=
 (zaA (zbf 5 (zay 2 (d__law_cell_at fu) (zae (zag 0) (zae (dOp zcl (dOp zcl (zag 1) (dC (.int 1))) (zag 4)) zan))))
 (zaA (zbf 6 (zay 4 (d__law_laid fu) (zae (zag 2) (zae (zag 3) (zae (dOp zcl (dC (.int 1)) (dOp zeH (zay 2 (d__law_mix fu) (zae (zag 5) (zae (dOp zcl (dC (.int 2)) (zag 4)) zan))) (dC (.int 2)))) (zae (dOp zeH (zay 2 (d__law_mix fu) (zae (zag 5) (zae (dC (.int 3)) zan))) (dBi zcv (zae (zag 2) zan))) zan))))))
 (dIf (dB (dUn zo5 (zag 6))) (zbf 3 (zag 6)) za4)))
def d__law_stand(fu:Nat):List W->M W:=dFn finC 7
 (zaA (zbf 3 (dBi zbi (zae (dLC zbX [] (dIT (zag 2)) zeJ (dC (.int 0))) zan)))
 (zaA (zcW (zhL (zae (dOp zeH (zay 2 (d__law_mix fu) (zae (zay 2 (d__law_cell_at fu) (zae (zag 0) (zae (zag 1) zan))) (zae (dC (.int 4)) zan))) (dOp zcl (dBi zcv (zae (zag 2) zan)) (dC (.int 6)))) zan)) (gN 4) (zdq fu))
 (zbB (zag 3))))
def zc0(fu:Nat):DS :=
 (dIf (dB (dOp zmi (zaI ixW (zag 1) (zag 4)) (dC (.int 0)))) (zaA (zbf 5 (dOp fLt (dBi zcv (zae (zay 3 (zce (d__law_breaths fu)) (zae (zag 0) (zae (zag 1) (zae (zay 3 (zce (d__law_patch fu)) (zae (zag 0) (zae (zag 1) (zae (zag 4) zan)))) zan)))) zan)) (dC (.int 3))))
 (zbf 3 (ziW zbX (zag 3) (zeO zbX (zae (zag 4) zan) (dOp zcl (dC (.int 1)) (dOp zeG (dC (.int 6)) (dBi znN (zae (zag 5) zan)))))))) za4)
def d__law_target(fu:Nat):List W->M W:=dFn finC 6
 (zaA (zbf 3 (zeI zan))
 (zaA (zcW (zhL (zae (dBi zcv (zae (zag 0) zan)) zan)) (gN 4) (zc0 fu))
 (zaA (dIf (dB (zaI (eqW false) (zag 3) (zeI zan))) (zbB (dC .non)) za4)
 (zbB (zaI ixW (zag 3) (dOp zeH (zay 2 (d__law_mix fu) (zae (zag 2) (zae (dC (.int 5)) zan))) (dBi zcv (zae (zag 3) zan))))))))
def zdr(fu:Nat):DS :=
 (dEx (dMt zeK (zag 3) (zae (dMt zoi (zag 2) (zae (dOp zeH (zay 2 (d__law_mix fu) (zae (zag 0) (zae (dOp zcl (dC (.int 30)) (zag 4)) zan))) (dBi zcv (zae (zag 2) zan))) zan)) zan)))
def d__law_order(fu:Nat):List W->M W:=dFn finO 5
 (zaA (zbf 2 (dBi (zfv zfr) (zae (zag 1) zan)))
 (zaA (zbf 3 (zb5 zan))
 (zaA (zcW (zhL (zae (zag 1) zan)) (gN 4) (zdr fu))
 (zbB (zag 3)))))
def zbP(fu:Nat):DS :=
 (zhI (dBi zbi (zae (dBi (za3 zbX) (zae (dLC zbX [1] (dIT (zaI ixW (zag 0) (zag 3))) zeJ (zaI ixW (zag 1) (zag 0))) zan)) zan)) (zdW (zag 2) (zaI ixW (zag 1) (zag 3))))
def d__law_named_board(fu:Nat):List W->M W:=dFn finC 4
 (zaA (zbf 2 (zeO zfr (zae (zbU zan) zan) (dBi zcv (zae (zag 0) zan))))
 (zaA (zcW (zhL (zae (dBi zcv (zae (zag 0) zan)) zan)) (gN 3) (zbP fu))
 (zbB (dBi zbi (zae (zag 2) zan)))))
def zbQ(fu:Nat):DS :=
 (zaA (zhI (zaI ixW (zag 0) (zag 4)) (zdW (zag 3) (zaI ixW (zag 1) (zag 4))))
 (dIf (zei (dB (zag 2)) (dB (dOp zmi (zaI ixW (zag 0) (zag 4)) (dC (.int 0))))) (zhI (dOp zkL (dC (.int 3)) (zaI ixW (zag 0) (zag 4))) (zdW (zag 3) (zaI ixW (zag 1) (zag 4)))) za4))
def d__law_named_stand(fu:Nat):List W->M W:=dFn finC 5
 (zaA (zbf 3 (zeO zfr (zae (dC (.int 0)) zan) (dBi zcv (zae (zag 0) zan))))
 (zaA (zcW (zhL (zae (dBi zcv (zae (zag 0) zan)) zan)) (gN 4) (zbQ fu))
 (zbB (dBi zbi (zae (zag 3) zan)))))
def d__law_words(fu:Nat):List W->M W:=dFn finC 3
 (zbB (dLC zbX [0,1,2] (zqu (zae (dC (.int 1)) (zae (dC (.int 5)) zan))) zeJ (ziF (zaI ixW (zay 5 (d_chase fu) (zae (zag 1) (zae (zag 2) (zae (dOp zkL (dC (.int 3)) (zaI ixW (zag 2) (zag 3))) (zae (zag 3) (zae (zag 0) zan)))))) (dC (.int 0))))))
def zmB(fu:Nat):DS :=
 (dIf (zl6 (dB (zaI (inW true) (zaI ixW (zag 8) (zag 11)) (zbU (zae (dC (.str "free")) (zae (dC (.str "caught")) zan))))) (zei (dB (zaI (eqW false) (zaI ixW (zag 8) (zag 11)) (dC (.str "caught")))) (dB (zaI (eqW true) (zaI ixW (zag 8) (dOp zcl (zag 11) (dC (.int 1)))) (dC (.str "caught")))))) (zbB (dC (.bl false))) za4)
def d_law(fu:Nat):List W->M W:=dFn finC 12
 (zaA (zbf 1 (zay 2 (d__law_board fu) (zae (zay 2 (d__law_cell_at fu) (zae (zag 0) (zae (dC (.int 0)) zan))) (zae (dC (.int 11)) zan))))
 (zaA (zbf 2 (zay 3 (d__law_stand fu) (zae (zag 0) (zae (dC (.int 2)) (zae (zag 1) zan)))))
 (zaA (zbf 3 (zay 3 (d__law_target fu) (zae (zag 1) (zae (zag 2) (zae (zay 2 (d__law_cell_at fu) (zae (zag 0) (zae (dC (.int 1)) zan))) zan)))))
 (zaA (dIf (dB (dUn zr1 (zag 3))) (zbB (dC (.bl true))) za4)
 (zaA (zbf 4 (zay 2 (d__law_cell_at fu) (zae (zag 0) (zae (dC (.int 1)) zan))))
 (zaA (zbf 5 (zay 2 (zce (d__law_order fu)) (zae (zag 4) (zae (dBi zcv (zae (zag 1) zan)) zan))))
 (zaA (zbf 6 (dOp zgS (dOp zeH (zay 2 (d__law_mix fu) (zae (zag 4) (zae (dC (.int 7)) zan))) (dC (.int 2))) (dC (.int 1))))
 (zaA (zbf 7 (zbU (zae (zag 1) (zae (zag 2) zan))))
 (zaA (zbf 8 (zay 3 (d__law_words fu) (zae (zag 1) (zae (zag 2) (zae (zag 3) zan)))))
 (zaA (zbf 9 (zay 2 (d__law_named_board fu) (zae (zag 1) (zae (zag 5) zan))))
 (zaA (zbf 10 (zay 3 (d__law_named_stand fu) (zae (zag 2) (zae (zag 5) (zae (zag 6) zan)))))
 (zaA (dIf (zl6 (dB (zaI (eqW true) (zag 8) (zay 3 (d__law_words fu) (zae (zag 9) (zae (zag 10) (zae (zaI ixW (zag 5) (zag 3)) zan)))))) (dB (zaI (eqW true) (zag 7) (zbU (zae (zag 1) (zae (zag 2) zan)))))) (zbB (dC (.bl false))) za4)
 (zaA (zcW (zhL (zae (dC (.int 3)) zan)) (gN 11) (zmB fu))
 (zbB (zaI (inW false) (zaI ixW (zag 8) (dC (.int 3))) (zbU (zae (dC (.str "free")) (zae (dC (.str "caught")) zan))))))))))))))))))
end K39
namespace K39
open PySem PySem.Spec PyProof.Rows L2 VS
def top(i:Nat):Stmt:=PySem.Challenge.pw_stonebreath_k39_whole_chases_exchanged.main.body.getD i (.Pass ⟨0,0,0,0⟩)
def ziH(s:Stmt)(j:Nat):Stmt:=match s with
 | .ClassDef _ _ _ b _ _ _ _ _ _ _=>b.getD j (.Pass ⟨0,0,0,0⟩)
 | _=>.Pass ⟨0,0,0,0⟩
abbrev zbj:Stmt:=top 1
abbrev zbJ:Stmt:=top 2
abbrev zb9:Stmt:=top 3
abbrev zdG:Stmt:=top 10
abbrev zew:Stmt:=top 11
abbrev zbR:Stmt:=top 12
abbrev za0:Stmt:=top 13
abbrev zff:Stmt:=top 15
abbrev zca:Stmt:=top 16
abbrev zbu:Stmt:=top 17
abbrev zc3:Stmt:=top 18
abbrev zcQ:Stmt:=top 19
abbrev zbk:Stmt:=top 20
abbrev zdH:Stmt:=top 23
abbrev za5:Stmt:=top 26
abbrev zbK:Stmt:=top 27
abbrev za1:Stmt:=top 28
abbrev zbl:Stmt:=top 29
abbrev za6:Stmt:=top 30
abbrev zbv:Stmt:=top 31
abbrev zba:Stmt:=top 32
abbrev zbc:Stmt:=top 33
abbrev zbm:Stmt:=top 34
abbrev zaL:Stmt:=top 35
abbrev zaR:Stmt:=top 36
abbrev zbb:Stmt:=top 37
abbrev ziI:Stmt:=top 38
abbrev zaW:Stmt:=ziH (top 24) 0
abbrev zbn:Stmt:=ziH (top 24) 1
abbrev zbw:Stmt:=ziH (top 24) 2
abbrev zaX:Stmt:=ziH (top 24) 3
abbrev zaF:Stmt:=ziH (top 24) 4
abbrev zaS:Stmt:=ziH (top 24) 5
theorem zfM:FnScope ["hand"] ["hand"] (zai zbj):=⟨rfl,rfl,rfl,by decide +kernel,rfl,by decide +kernel,by decide +kernel⟩
theorem sc_patch_of:FnScope ["board", "marks", "start", "found", "waiting", "point", "beside"] ["board", "marks", "start"] (zai zbJ):=⟨rfl,rfl,rfl,by decide +kernel,rfl,by decide +kernel,by decide +kernel⟩
theorem sc_patches:FnScope ["board", "marks", "met", "found", "start", "points", "point"] ["board", "marks"] (zai zb9):=⟨rfl,rfl,rfl,by decide +kernel,rfl,by decide +kernel,by decide +kernel⟩
theorem zlE:FnScope ["board", "stand", "point"] ["board", "stand", "point"] (zai zdG):=⟨rfl,rfl,rfl,by decide +kernel,rfl,by decide +kernel,by decide +kernel⟩
theorem znX:FnScope ["board", "stand"] ["board", "stand"] (zai zew):=⟨rfl,rfl,rfl,by decide +kernel,rfl,by decide +kernel,by decide +kernel⟩
theorem sc_points_beside:FnScope ["board", "points", "found", "point", "beside"] ["board", "points"] (zai za0):=⟨rfl,rfl,rfl,by decide +kernel,rfl,by decide +kernel,by decide +kernel⟩
theorem ziJ:FnScope ["board", "stand", "row"] ["board", "stand", "row"] (zai zbR):=⟨rfl,rfl,rfl,by decide +kernel,rfl,by decide +kernel,by decide +kernel⟩
theorem sc_filled:FnScope ["stand", "points", "what", "changed", "point"] ["stand", "points", "what"] (zai zcQ):=⟨rfl,rfl,rfl,by decide +kernel,rfl,by decide +kernel,by decide +kernel⟩
theorem sc_breathless:FnScope ["board", "stand", "hand", "found", "row"] ["board", "stand", "hand"] (zai zbk):=⟨rfl,rfl,rfl,by decide +kernel,rfl,by decide +kernel,by decide +kernel⟩
theorem sc_laid:FnScope ["board", "stand", "hand", "point", "full", "taken", "behind"] ["board", "stand", "hand", "point"] (zai zff):=⟨rfl,rfl,rfl,by decide +kernel,rfl,by decide +kernel,by decide +kernel⟩
theorem sc_lays_on:FnScope ["board", "stand", "hand", "points", "found", "point", "told"] ["board", "stand", "hand", "points"] (zai zca):=⟨rfl,rfl,rfl,by decide +kernel,rfl,by decide +kernel,by decide +kernel⟩
theorem zhl:FnScope ["board", "came", "hand", "points"] ["board", "came", "hand", "points"] (zai zbu):=⟨rfl,rfl,rfl,by decide +kernel,rfl,by decide +kernel,by decide +kernel⟩
theorem sc_steps:FnScope ["board", "came", "hand", "found"] ["board", "came", "hand"] (zai zc3):=⟨rfl,rfl,rfl,by decide +kernel,rfl,by decide +kernel,by decide +kernel⟩
theorem zdI:FnScope ["self", "deeds"] ["self", "deeds"] (zai zaX):=⟨rfl,rfl,rfl,by decide +kernel,rfl,by decide +kernel,by decide +kernel⟩
theorem zc4:FnScope ["self", "stand"] ["self", "stand"] (zai zaS):=⟨rfl,rfl,rfl,by decide +kernel,rfl,by decide +kernel,by decide +kernel⟩
theorem sc_Chase_hunter_lays:FnScope ["self", "came", "lays"] ["self", "came"] (zai zaF):=⟨rfl,rfl,rfl,by decide +kernel,rfl,by decide +kernel,by decide +kernel⟩
theorem sc_Chase_hunt:FnScope ["self", "came", "deeds", "freeing", "lay", "told"] ["self", "came", "deeds"] (zai zbn):=⟨rfl,rfl,rfl,by decide +kernel,rfl,by decide +kernel,by decide +kernel⟩
theorem sc_Chase_run:FnScope ["self", "came", "deeds", "catching", "step", "told"] ["self", "came", "deeds"] (zai zbw):=⟨rfl,rfl,rfl,by decide +kernel,rfl,by decide +kernel,by decide +kernel⟩
theorem zdJ:FnScope ["self", "board", "hunter", "point", "most"] ["self", "board", "hunter", "point", "most"] (zai zaW):=⟨rfl,rfl,rfl,by decide +kernel,rfl,by decide +kernel,by decide +kernel⟩
theorem zlF:FnScope ["board", "stand", "hunter", "point", "most"] ["board", "stand", "hunter", "point", "most"] (zai zdH):=⟨rfl,rfl,rfl,by decide +kernel,rfl,by decide +kernel,by decide +kernel⟩
theorem zex:FnScope ["_law_script", "_law_k"] ["_law_script", "_law_k"] (zai za5):=⟨rfl,rfl,rfl,by decide +kernel,rfl,by decide +kernel,by decide +kernel⟩
theorem sc__law_mix:FnScope ["_law_cell", "_law_k", "_law_one"] ["_law_cell", "_law_k"] (zai zbK):=⟨rfl,rfl,rfl,by decide +kernel,rfl,by decide +kernel,by decide +kernel⟩
theorem sc__law_board:FnScope ["_law_cell", "_law_most", "_law_some", "_law_wide", "_law_high", "_law_joined", "_law_one", "_law_other", "_law_beside", "_law_drawn"] ["_law_cell", "_law_most"] (zai za1):=⟨rfl,rfl,rfl,by decide +kernel,rfl,by decide +kernel,by decide +kernel⟩
theorem sc__law_patch:FnScope ["_law_board_here", "_law_stand_here", "_law_point", "_law_found", "_law_at", "_law_other"] ["_law_board_here", "_law_stand_here", "_law_point"] (zai zbl):=⟨rfl,rfl,rfl,by decide +kernel,rfl,by decide +kernel,by decide +kernel⟩
theorem sc__law_breaths:FnScope ["_law_board_here", "_law_stand_here", "_law_row", "_law_found", "_law_point", "_law_other"] ["_law_board_here", "_law_stand_here", "_law_row"] (zai za6):=⟨rfl,rfl,rfl,by decide +kernel,rfl,by decide +kernel,by decide +kernel⟩
theorem sc__law_laid:FnScope ["_law_board_here", "_law_stand_here", "_law_hand", "_law_point", "_law_there", "_law_taken", "_law_other", "_law_row"] ["_law_board_here", "_law_stand_here", "_law_hand", "_law_point"] (zai zbv):=⟨rfl,rfl,rfl,by decide +kernel,rfl,by decide +kernel,by decide +kernel⟩
theorem sc__law_stand:FnScope ["_law_script", "_law_at", "_law_board_here", "_law_stand_here", "_law_k", "_law_cell", "_law_found"] ["_law_script", "_law_at", "_law_board_here"] (zai zba):=⟨rfl,rfl,rfl,by decide +kernel,rfl,by decide +kernel,by decide +kernel⟩
theorem sc__law_target:FnScope ["_law_board_here", "_law_stand_here", "_law_cell", "_law_some", "_law_point", "_law_few"] ["_law_board_here", "_law_stand_here", "_law_cell"] (zai zbc):=⟨rfl,rfl,rfl,by decide +kernel,rfl,by decide +kernel,by decide +kernel⟩
theorem sc__law_order:FnScope ["_law_cell", "_law_many", "_law_left", "_law_found", "_law_k"] ["_law_cell", "_law_many"] (zai zbm):=⟨rfl,rfl,rfl,by decide +kernel,rfl,by decide +kernel,by decide +kernel⟩
theorem sc__law_named_board:FnScope ["_law_board_here", "_law_order_here", "_law_found", "_law_point"] ["_law_board_here", "_law_order_here"] (zai zaL):=⟨rfl,rfl,rfl,by decide +kernel,rfl,by decide +kernel,by decide +kernel⟩
theorem sc__law_named_stand:FnScope ["_law_stand_here", "_law_order_here", "_law_turned", "_law_found", "_law_point"] ["_law_stand_here", "_law_order_here", "_law_turned"] (zai zaR):=⟨rfl,rfl,rfl,by decide +kernel,rfl,by decide +kernel,by decide +kernel⟩
theorem zfN:FnScope ["_law_board_here", "_law_stand_here", "_law_point"] ["_law_board_here", "_law_stand_here", "_law_point"] (zai zbb):=⟨rfl,rfl,rfl,by decide +kernel,rfl,by decide +kernel,by decide +kernel⟩
theorem sc_law:FnScope ["_law_script", "_law_board_here", "_law_stand_here", "_law_point", "_law_cell", "_law_order_here", "_law_turned", "_law_kept", "_law_words_here", "_law_other", "_law_beyond", "_law_k"] ["_law_script"] (zai ziI):=⟨rfl,rfl,rfl,by decide +kernel,rfl,by decide +kernel,by decide +kernel⟩
set_option genInjectivity false in
set_option genSizeOfSpec false in
structure Adr where
 f_other_hand:Addr
 d_other_hand:FuncData
 f_patch_of:Addr
 d_patch_of:FuncData
 f_patches:Addr
 d_patches:FuncData
 f_patch:Addr
 d_patch:FuncData
 f_rows:Addr
 d_rows:FuncData
 f_breaths:Addr
 d_breaths:FuncData
 f_points_beside:Addr
 d_points_beside:FuncData
 f_laid:Addr
 d_laid:FuncData
 f_lays_on:Addr
 d_lays_on:FuncData
 f_new_lays:Addr
 d_new_lays:FuncData
 f_steps:Addr
 d_steps:FuncData
 f_filled:Addr
 d_filled:FuncData
 f_breathless:Addr
 d_breathless:FuncData
 f_chase:Addr
 d_chase:FuncData
 f__law_cell_at:Addr
 d__law_cell_at:FuncData
 f__law_mix:Addr
 d__law_mix:FuncData
 f__law_board:Addr
 d__law_board:FuncData
 f__law_patch:Addr
 d__law_patch:FuncData
 f__law_breaths:Addr
 d__law_breaths:FuncData
 f__law_laid:Addr
 d__law_laid:FuncData
 f__law_stand:Addr
 d__law_stand:FuncData
 f__law_target:Addr
 d__law_target:FuncData
 f__law_order:Addr
 d__law_order:FuncData
 f__law_named_board:Addr
 d__law_named_board:FuncData
 f__law_named_stand:Addr
 d__law_named_stand:FuncData
 f__law_words:Addr
 d__law_words:FuncData
 f_law:Addr
 d_law:FuncData
 f_Chase___init__:Addr
 d_Chase___init__:FuncData
 f_Chase_hunt:Addr
 d_Chase_hunt:FuncData
 f_Chase_run:Addr
 d_Chase_run:FuncData
 f_Chase_is_spent:Addr
 d_Chase_is_spent:FuncData
 f_Chase_hunter_lays:Addr
 d_Chase_hunter_lays:FuncData
 f_Chase_breaths_at:Addr
 d_Chase_breaths_at:FuncData
structure Txt (K:PySem.W.Frag) (mg:Str->Option Value) (A:Adr):Prop where
 g_other_hand:mg "other_hand" = some (.ref A.f_other_hand)
 F_other_hand:Fun K "other_hand" "other_hand" zbj A.f_other_hand A.d_other_hand
 b_other_hand:Binds K A.d_other_hand ["hand"] []
 g_patch_of:mg "patch_of" = some (.ref A.f_patch_of)
 F_patch_of:Fun K "patch_of" "patch_of" zbJ A.f_patch_of A.d_patch_of
 b_patch_of:Binds K A.d_patch_of ["board", "marks", "start"] []
 g_patches:mg "patches" = some (.ref A.f_patches)
 F_patches:Fun K "patches" "patches" zb9 A.f_patches A.d_patches
 b_patches:Binds K A.d_patches ["board", "marks"] []
 g_patch:mg "patch" = some (.ref A.f_patch)
 F_patch:Fun K "patch" "patch" zdG A.f_patch A.d_patch
 b_patch:Binds K A.d_patch ["board", "stand", "point"] []
 g_rows:mg "rows" = some (.ref A.f_rows)
 F_rows:Fun K "rows" "rows" zew A.f_rows A.d_rows
 b_rows:Binds K A.d_rows ["board", "stand"] []
 g_breaths:mg "breaths" = some (.ref A.f_breaths)
 F_breaths:Fun K "breaths" "breaths" zbR A.f_breaths A.d_breaths
 b_breaths:Binds K A.d_breaths ["board", "stand", "row"] []
 g_points_beside:mg "points_beside" = some (.ref A.f_points_beside)
 F_points_beside:Fun K "points_beside" "points_beside" za0 A.f_points_beside A.d_points_beside
 b_points_beside:Binds K A.d_points_beside ["board", "points"] []
 g_laid:mg "laid" = some (.ref A.f_laid)
 F_laid:Fun K "laid" "laid" zff A.f_laid A.d_laid
 b_laid:Binds K A.d_laid ["board", "stand", "hand", "point"] []
 g_lays_on:mg "lays_on" = some (.ref A.f_lays_on)
 F_lays_on:Fun K "lays_on" "lays_on" zca A.f_lays_on A.d_lays_on
 b_lays_on:Binds K A.d_lays_on ["board", "stand", "hand", "points"] []
 g_new_lays:mg "new_lays" = some (.ref A.f_new_lays)
 F_new_lays:Fun K "new_lays" "new_lays" zbu A.f_new_lays A.d_new_lays
 b_new_lays:Binds K A.d_new_lays ["board", "came", "hand", "points"] []
 g_steps:mg "steps" = some (.ref A.f_steps)
 F_steps:Fun K "steps" "steps" zc3 A.f_steps A.d_steps
 b_steps:Binds K A.d_steps ["board", "came", "hand"] []
 g_filled:mg "filled" = some (.ref A.f_filled)
 F_filled:Fun K "filled" "filled" zcQ A.f_filled A.d_filled
 b_filled:Binds K A.d_filled ["stand", "points", "what"] []
 g_breathless:mg "breathless" = some (.ref A.f_breathless)
 F_breathless:Fun K "breathless" "breathless" zbk A.f_breathless A.d_breathless
 b_breathless:Binds K A.d_breathless ["board", "stand", "hand"] []
 g_chase:mg "chase" = some (.ref A.f_chase)
 F_chase:Fun K "chase" "chase" zdH A.f_chase A.d_chase
 b_chase:Binds K A.d_chase ["board", "stand", "hunter", "point", "most"] []
 g__law_cell_at:mg "_law_cell_at" = some (.ref A.f__law_cell_at)
 F__law_cell_at:Fun K "_law_cell_at" "_law_cell_at" za5 A.f__law_cell_at A.d__law_cell_at
 b__law_cell_at:Binds K A.d__law_cell_at ["_law_script", "_law_k"] []
 g__law_mix:mg "_law_mix" = some (.ref A.f__law_mix)
 F__law_mix:Fun K "_law_mix" "_law_mix" zbK A.f__law_mix A.d__law_mix
 b__law_mix:Binds K A.d__law_mix ["_law_cell", "_law_k"] []
 g__law_board:mg "_law_board" = some (.ref A.f__law_board)
 F__law_board:Fun K "_law_board" "_law_board" za1 A.f__law_board A.d__law_board
 b__law_board:Binds K A.d__law_board ["_law_cell", "_law_most"] []
 g__law_patch:mg "_law_patch" = some (.ref A.f__law_patch)
 F__law_patch:Fun K "_law_patch" "_law_patch" zbl A.f__law_patch A.d__law_patch
 b__law_patch:Binds K A.d__law_patch ["_law_board_here", "_law_stand_here", "_law_point"] []
 g__law_breaths:mg "_law_breaths" = some (.ref A.f__law_breaths)
 F__law_breaths:Fun K "_law_breaths" "_law_breaths" za6 A.f__law_breaths A.d__law_breaths
 b__law_breaths:Binds K A.d__law_breaths ["_law_board_here", "_law_stand_here", "_law_row"] []
 g__law_laid:mg "_law_laid" = some (.ref A.f__law_laid)
 F__law_laid:Fun K "_law_laid" "_law_laid" zbv A.f__law_laid A.d__law_laid
 b__law_laid:Binds K A.d__law_laid ["_law_board_here", "_law_stand_here", "_law_hand", "_law_point"] []
 g__law_stand:mg "_law_stand" = some (.ref A.f__law_stand)
 F__law_stand:Fun K "_law_stand" "_law_stand" zba A.f__law_stand A.d__law_stand
 b__law_stand:Binds K A.d__law_stand ["_law_script", "_law_at", "_law_board_here"] []
 g__law_target:mg "_law_target" = some (.ref A.f__law_target)
 F__law_target:Fun K "_law_target" "_law_target" zbc A.f__law_target A.d__law_target
 b__law_target:Binds K A.d__law_target ["_law_board_here", "_law_stand_here", "_law_cell"] []
 g__law_order:mg "_law_order" = some (.ref A.f__law_order)
 F__law_order:Fun K "_law_order" "_law_order" zbm A.f__law_order A.d__law_order
 b__law_order:Binds K A.d__law_order ["_law_cell", "_law_many"] []
 g__law_named_board:mg "_law_named_board" = some (.ref A.f__law_named_board)
 F__law_named_board:Fun K "_law_named_board" "_law_named_board" zaL A.f__law_named_board A.d__law_named_board
 b__law_named_board:Binds K A.d__law_named_board ["_law_board_here", "_law_order_here"] []
 g__law_named_stand:mg "_law_named_stand" = some (.ref A.f__law_named_stand)
 F__law_named_stand:Fun K "_law_named_stand" "_law_named_stand" zaR A.f__law_named_stand A.d__law_named_stand
 b__law_named_stand:Binds K A.d__law_named_stand ["_law_stand_here", "_law_order_here", "_law_turned"] []
 g__law_words:mg "_law_words" = some (.ref A.f__law_words)
 F__law_words:Fun K "_law_words" "_law_words" zbb A.f__law_words A.d__law_words
 b__law_words:Binds K A.d__law_words ["_law_board_here", "_law_stand_here", "_law_point"] []
 g_law:mg "law" = some (.ref A.f_law)
 F_law:Fun K "law" "law" ziI A.f_law A.d_law
 b_law:Binds K A.d_law ["_law_script"] []
 mt_Chase___init__:L2.Meth K (clOf K "Chase") "__init__" A.f_Chase___init__
 F_Chase___init__:Fun K "__init__" "Chase.__init__" zaW A.f_Chase___init__ A.d_Chase___init__
 b_Chase___init__:Binds K A.d_Chase___init__ ["self", "board", "hunter", "point", "most"] []
 mt_Chase_hunt:L2.Meth K (clOf K "Chase") "hunt" A.f_Chase_hunt
 F_Chase_hunt:Fun K "hunt" "Chase.hunt" zbn A.f_Chase_hunt A.d_Chase_hunt
 b_Chase_hunt:Binds K A.d_Chase_hunt ["self", "came", "deeds"] []
 mt_Chase_run:L2.Meth K (clOf K "Chase") "run" A.f_Chase_run
 F_Chase_run:Fun K "run" "Chase.run" zbw A.f_Chase_run A.d_Chase_run
 b_Chase_run:Binds K A.d_Chase_run ["self", "came", "deeds"] []
 mt_Chase_is_spent:L2.Meth K (clOf K "Chase") "is_spent" A.f_Chase_is_spent
 F_Chase_is_spent:Fun K "is_spent" "Chase.is_spent" zaX A.f_Chase_is_spent A.d_Chase_is_spent
 b_Chase_is_spent:Binds K A.d_Chase_is_spent ["self", "deeds"] []
 mt_Chase_hunter_lays:L2.Meth K (clOf K "Chase") "hunter_lays" A.f_Chase_hunter_lays
 F_Chase_hunter_lays:Fun K "hunter_lays" "Chase.hunter_lays" zaF A.f_Chase_hunter_lays A.d_Chase_hunter_lays
 b_Chase_hunter_lays:Binds K A.d_Chase_hunter_lays ["self", "came"] []
 mt_Chase_breaths_at:L2.Meth K (clOf K "Chase") "breaths_at" A.f_Chase_breaths_at
 F_Chase_breaths_at:Fun K "breaths_at" "Chase.breaths_at" zaS A.f_Chase_breaths_at A.d_Chase_breaths_at
 b_Chase_breaths_at:Binds K A.d_Chase_breaths_at ["self", "stand"] []
 cls_Chase:L2.Cls K (clOf K "Chase")
 mk_Chase:L2.Mk K (clOf K "Chase") A.f_Chase___init__
 gc_Chase:mg "Chase" = some (.ref (clOf K "Chase"))
 na_Chase_hunter:L2.NoAttr K (clOf K "Chase") "hunter"
 na_Chase_joined:L2.NoAttr K (clOf K "Chase") "joined"
 na_Chase_most:L2.NoAttr K (clOf K "Chase") "most"
 na_Chase_runner:L2.NoAttr K (clOf K "Chase") "runner"
 na_Chase_stone:L2.NoAttr K (clOf K "Chase") "stone"
 c_MOST_POINTS:∃t,mg "MOST_POINTS" = some (.int 16 t)
 n_int:mg "int" = none
 n_len:mg "len" = none
 n_list:mg "list" = none
 n_range:mg "range" = none
 n_sorted:mg "sorted" = none
 n_tuple:mg "tuple" = none
 xt:XT K mg XTB
 nl:noL K=true
section
seal L2.PSs L2.PS L2.PE L2.PT L2.PW L2.PA L2.PI L2.PG L2.PGs L2.PO L2.PIfs
variable {P:Program} {w:World} {K:PySem.W.Frag} {mg:Str->Option Value} {base:Heap} {A:Adr}
abbrev Gx(K:PySem.W.Frag):Ga:=Gy K
abbrev spD(K:PySem.W.Frag)(n:Nat)(d:List W->M W):Sp:=spV (Gx K) (fun E=>E) n d
set_option maxHeartbeats 0 in
theorem zds(fu:Nat)(T:Txt K mg A):FnOk P w K mg base (CXx P w) 1 A.f_other_hand A.d_other_hand ["hand"] (spD K 1 (d_other_hand fu)):=by
 refine T.F_other_hand.okX (k:=0) zfM (fun vs H Q E h=>h.1) (fun cdv Ar outer s H vs Q E hr h=>?_)
 obtain⟨_,F,as,ws,ce,S,rs,Pf⟩:=h
 refine⟨toTS (Gx K) E _,(zal (zaC (ze4 zak (zab 0)))),?_⟩
 exact zaB (G:=Gx K) (E:=E) zcg ["hand"] S rs Pf
set_option maxHeartbeats 0 in
theorem zey(fu:Nat)(T:Txt K mg A):FnOk P w K mg base (CXx P w) 1 A.f_patch_of A.d_patch_of ["board", "marks", "start"] (spD K 3 (d_patch_of fu)):=by
 refine T.F_patch_of.okX (k:=0) sc_patch_of (fun vs H Q E h=>h.1) (fun cdv Ar outer s H vs Q E hr h=>?_)
 obtain⟨_,F,as,ws,ce,S,rs,Pf⟩:=h
 refine⟨toTS (Gx K) E _,(zah (zat (i:=3) sc_patch_of.nd rfl (Or.inl rfl) (zlf (zab 2) zg1))
   (zah (zat (i:=4) sc_patch_of.nd rfl (Or.inl rfl) (zb2 (zaa (zab 2) zaf)))
   (zah (zhN fu PassesOwn.leaving (zjy (zab 4)) (zah (zat (i:=5) sc_patch_of.nd rfl (Or.inl rfl) (zpm PySem.F.slot_list_pop PySem.F.type_list_pop zoV zrA (zab 4)))
   (zal (za8 PassesOwn.leaving rfl (znv (zaD (zab 0) (zab 5) (fun _ _=>rfl))) (zaT (i:=6) sc_patch_of.nd rfl (Or.inl rfl))
   (zal (zbr (PW.pt (ze5 (zgq (hr.cmp 1) (zab 6) (zab 3) (by with_unfolding_all rfl)) (zdy (zeh (hr.cmp 8) (zaD (zab 1) (zab 6) (fun _ _=>rfl)) (zaD (zab 1) (zab 2) (fun _ _=>rfl)))))) (zah (zjL (hr.cmp 1) (zab 3) (zab 6) zg1)
   (zal (zbC (zdB PySem.F.slot_list_append PySem.F.type_list_append zbo zfw (zab 4) (zaa (zab 6) zaf))))) zaM))))))
   (zal (zaC (zaJ (zjN rfl rfl) (zjO K zkN) rfl T.n_sorted PyProof.Rows.boot_sorted (zaa (zab 3) zaf))))))),?_⟩
 exact zaB (G:=Gx K) (E:=E) zek ["board", "marks", "start", "found", "waiting", "point", "beside"] S rs Pf
set_option maxHeartbeats 0 in
theorem ziK(fu:Nat)(T:Txt K mg A):FnOk P w K mg base (CXx P w) 2 A.f_patches A.d_patches ["board", "marks"] (spD K 2 (d_patches fu)):=by
 have G_patch_of:FnOk P w K mg base (CXx P w) 1 A.f_patch_of A.d_patch_of ["board", "marks", "start"] (spD K 3 (d_patch_of fu)):=zey fu T
 refine T.F_patches.okX (k:=1) sc_patches (fun vs H Q E h=>h.1) (fun cdv Ar outer s H vs Q E hr h=>?_)
 obtain⟨_,F,as,ws,ce,S,rs,Pf⟩:=h
 refine⟨toTS (Gx K) E _,(zah (zat (i:=2) sc_patches.nd rfl (Or.inl rfl) zjJ)
   (zah (zat (i:=3) sc_patches.nd rfl (Or.inl rfl) (zb2 zaf))
   (zah (za8 PassesOwn.leaving rfl (zeN rfl T.n_range (zaa (zaJ (zcq rfl) (zcr K) rfl T.n_len PySem.boot_len (zaa (zab 0) zaf)) zaf)) (zaT (i:=4) sc_patches.nd rfl (Or.inl rfl))
   (zal (zbr (zgq (hr.cmp 1) (zab 4) (zab 2) (by with_unfolding_all rfl)) (zah (zat (i:=5) sc_patches.nd rfl (Or.inl rfl) (zap (zbs G_patch_of) (hr.mono (by decide)) rfl T.g_patch_of T.F_patch_of.kp T.b_patch_of (flies_cxOf.passes rfl) (zaa (zab 0) (zaa (zab 1) (zaa (zab 4) zaf)))))
   (zah (zbC (zdB PySem.F.slot_list_append PySem.F.type_list_append zbo zfw (zab 3) (zaa (zab 5) zaf)))
   (zal (za8 PassesOwn.leaving rfl (zg7 (zab 5)) (zaT (i:=6) sc_patches.nd rfl (Or.inl rfl))
   (zal (zjL (hr.cmp 1) (zab 2) (zab 6) zg1)))))) zaM)))
   (zal (zaC (zab 3)))))),?_⟩
 exact zaB (G:=Gx K) (E:=E) zek ["board", "marks", "met", "found", "start", "points", "point"] S rs Pf
set_option maxHeartbeats 0 in
theorem zh1(fu:Nat)(T:Txt K mg A):FnOk P w K mg base (CXx P w) 2 A.f_patch A.d_patch ["board", "stand", "point"] (spD K 3 (d_patch fu)):=by
 have G_patch_of:FnOk P w K mg base (CXx P w) 1 A.f_patch_of A.d_patch_of ["board", "marks", "start"] (spD K 3 (d_patch_of fu)):=zey fu T
 refine T.F_patch.okX (k:=1) zlE (fun vs H Q E h=>h.1) (fun cdv Ar outer s H vs Q E hr h=>?_)
 obtain⟨_,F,as,ws,ce,S,rs,Pf⟩:=h
 refine⟨toTS (Gx K) E _,(zal (zaC (zap G_patch_of (hr.mono (by decide)) rfl T.g_patch_of T.F_patch_of.kp T.b_patch_of (flies_cxOf.passes rfl) (zaa (zab 0) (zaa (zab 1) (zaa (zab 2) zaf)))))),?_⟩
 exact zaB (G:=Gx K) (E:=E) zek ["board", "stand", "point"] S rs Pf
set_option maxHeartbeats 0 in
theorem znY(fu:Nat)(T:Txt K mg A):FnOk P w K mg base (CXx P w) 3 A.f_rows A.d_rows ["board", "stand"] (spD K 2 (d_rows fu)):=by
 have G_patches:FnOk P w K mg base (CXx P w) 2 A.f_patches A.d_patches ["board", "marks"] (spD K 2 (d_patches fu)):=ziK fu T
 refine T.F_rows.okX (k:=2) znX (fun vs H Q E h=>h.1) (fun cdv Ar outer s H vs Q E hr h=>?_)
 obtain⟨_,F,as,ws,ce,S,rs,Pf⟩:=h
 refine⟨toTS (Gx K) E _,(zal (zaC (zgt zf4 (zcV (N:=["board", "stand"]) (psc:=zai zew) (js:=[1]) (N':=["points", "stand"]) (by decide +kernel)) rfl rfl (zg7 (zap (zbs G_patches) (hr.mono (by decide)) rfl T.g_patches T.F_patches.kp T.b_patches (flies_cxOf.passes rfl) (zaa (zab 0) (zaa (zab 1) zaf)))) (fun _ _ _ _=>(zd3 (zjE (hr.cmp 8) (zaD (zab 1) (zaD (zab 0) zak (fun _ _=>rfl)) (fun _ _=>rfl)) zak))) (fun _ _ _ _=>(zab 0))))),?_⟩
 exact zaB (G:=Gx K) (E:=E) zcg ["board", "stand"] S rs Pf
set_option maxHeartbeats 0 in
theorem zdX(fu:Nat)(T:Txt K mg A):FnOk P w K mg base (CXx P w) 1 A.f_points_beside A.d_points_beside ["board", "points"] (spD K 2 (d_points_beside fu)):=by
 refine T.F_points_beside.okX (k:=0) sc_points_beside (fun vs H Q E h=>h.1) (fun cdv Ar outer s H vs Q E hr h=>?_)
 obtain⟨_,F,as,ws,ce,S,rs,Pf⟩:=h
 refine⟨toTS (Gx K) E _,(zah (zat (i:=2) sc_points_beside.nd rfl (Or.inl rfl) zjJ)
   (zah (za8 PassesOwn.leaving rfl (zg7 (zab 1)) (zaT (i:=3) sc_points_beside.nd rfl (Or.inl rfl))
   (zal (za8 PassesOwn.leaving rfl (znv (zaD (zab 0) (zab 3) (fun _ _=>rfl))) (zaT (i:=4) sc_points_beside.nd rfl (Or.inl rfl))
   (zal (zjL (hr.cmp 1) (zab 2) (zab 4) zg1)))))
   (zal (zaC (zaJ (zjN rfl rfl) (zjO K zkN) rfl T.n_sorted PyProof.Rows.boot_sorted (zaa (zab 2) zaf)))))),?_⟩
 exact zaB (G:=Gx K) (E:=E) zek ["board", "points", "found", "point", "beside"] S rs Pf
set_option maxHeartbeats 0 in
theorem zdK(fu:Nat)(T:Txt K mg A):FnOk P w K mg base (CXx P w) 2 A.f_breaths A.d_breaths ["board", "stand", "row"] (spD K 3 (d_breaths fu)):=by
 have G_points_beside:FnOk P w K mg base (CXx P w) 1 A.f_points_beside A.d_points_beside ["board", "points"] (spD K 2 (d_points_beside fu)):=zdX fu T
 refine T.F_breaths.okX (k:=1) ziJ (fun vs H Q E h=>h.1) (fun cdv Ar outer s H vs Q E hr h=>?_)
 obtain⟨_,F,as,ws,ce,S,rs,Pf⟩:=h
 refine⟨toTS (Gx K) E _,(zal (zaC (zgt zkN (zcV (N:=["board", "stand", "row"]) (psc:=zai zbR) (js:=[1]) (N':=["point", "stand"]) (by decide +kernel)) rfl rfl (zg7 (zap (zbs G_points_beside) (hr.mono (by decide)) rfl T.g_points_beside T.F_points_beside.kp T.b_points_beside (flies_cxOf.passes rfl) (zaa (zab 0) (zaa (zab 2) zaf)))) (fun _ _ _ _=>(zd3 (zeh (hr.cmp 8) (zaD (zab 1) (zab 0) (fun _ _=>rfl)) zak))) (fun _ _ _ _=>(zab 0))))),?_⟩
 exact zaB (G:=Gx K) (E:=E) zek ["board", "stand", "row"] S rs Pf
set_option maxHeartbeats 0 in
theorem zki(fu:Nat)(T:Txt K mg A):FnOk P w K mg base (CXx P w) 1 A.f_filled A.d_filled ["stand", "points", "what"] (spD K 3 (d_filled fu)):=by
 refine T.F_filled.okX (k:=0) sc_filled (fun vs H Q E h=>h.1) (fun cdv Ar outer s H vs Q E hr h=>?_)
 obtain⟨_,F,as,ws,ce,S,rs,Pf⟩:=h
 refine⟨toTS (Gx K) E _,(zah (zat (i:=3) sc_filled.nd rfl (Or.inl rfl) (za9 (zmg rfl rfl) (zmh K zkN) rfl T.n_list PyProof.Rows.boot_list (zaa (zab 0) zaf)))
   (zah (za8 PassesOwn.leaving rfl (zg7 (zab 1)) (zaT (i:=4) sc_filled.nd rfl (Or.inl rfl))
   (zal (zej (zab 2) (zdA (E:=E0) (zab 3) (zab 4)))))
   (zal (zaC (za9 (zdN K) (zcw K) rfl T.n_tuple PyProof.Rows.boot_tuple (zaa (zab 3) zaf)))))),?_⟩
 exact zaB (G:=Gx K) (E:=E) zcg ["stand", "points", "what", "changed", "point"] S rs Pf
set_option maxHeartbeats 0 in
theorem zfO(fu:Nat)(T:Txt K mg A):FnOk P w K mg base (CXx P w) 4 A.f_breathless A.d_breathless ["board", "stand", "hand"] (spD K 3 (d_breathless fu)):=by
 have G_rows:FnOk P w K mg base (CXx P w) 3 A.f_rows A.d_rows ["board", "stand"] (spD K 2 (d_rows fu)):=znY fu T
 have G_breaths:FnOk P w K mg base (CXx P w) 2 A.f_breaths A.d_breaths ["board", "stand", "row"] (spD K 3 (d_breaths fu)):=zdK fu T
 refine T.F_breathless.okX (k:=3) sc_breathless (fun vs H Q E h=>h.1) (fun cdv Ar outer s H vs Q E hr h=>?_)
 obtain⟨_,F,as,ws,ce,S,rs,Pf⟩:=h
 refine⟨toTS (Gx K) E _,(zah (zat (i:=3) sc_breathless.nd rfl (Or.inl rfl) (zb2 zaf))
   (zah (za8 PassesOwn.leaving rfl (zg7 (zap G_rows (hr.mono (by decide)) rfl T.g_rows T.F_rows.kp T.b_rows (flies_cxOf.passes rfl) (zaa (zab 0) (zaa (zab 1) zaf)))) (zaT (i:=4) sc_breathless.nd rfl (Or.inl rfl))
   (zal (zbr (PW.pt (ze5 (zeh (hr.cmp 8) (zaD (zab 1) (zaD (zab 4) zak (fun _ _=>rfl)) (fun _ _=>rfl)) (zab 2)) (zdy (zl8 (zjy (zap (zbs G_breaths) (hr.mono (by decide)) rfl T.g_breaths T.F_breaths.kp T.b_breaths (flies_cxOf.passes rfl) (zaa (zab 0) (zaa (zab 1) (zaa (zab 4) zaf))))))))) (zal (zbC (zdB PySem.F.slot_list_extend PySem.F.type_list_extend zg8 zny (zab 3) (zaa (zab 4) zaf)))) zaM)))
   (zal (zaC (zaJ (zjN rfl rfl) (zjO K zkN) rfl T.n_sorted PyProof.Rows.boot_sorted (zaa (zab 3) zaf)))))),?_⟩
 exact zaB (G:=Gx K) (E:=E) zek ["board", "stand", "hand", "found", "row"] S rs Pf
set_option maxHeartbeats 0 in
theorem znZ(fu:Nat)(T:Txt K mg A):FnOk P w K mg base (CXx P w) 5 A.f_laid A.d_laid ["board", "stand", "hand", "point"] (spD K 4 (d_laid fu)):=by
 have G_filled:FnOk P w K mg base (CXx P w) 1 A.f_filled A.d_filled ["stand", "points", "what"] (spD K 3 (d_filled fu)):=zki fu T
 have G_breathless:FnOk P w K mg base (CXx P w) 4 A.f_breathless A.d_breathless ["board", "stand", "hand"] (spD K 3 (d_breathless fu)):=zfO fu T
 have G_other_hand:FnOk P w K mg base (CXx P w) 1 A.f_other_hand A.d_other_hand ["hand"] (spD K 1 (d_other_hand fu)):=zds fu T
 have G_breaths:FnOk P w K mg base (CXx P w) 2 A.f_breaths A.d_breaths ["board", "stand", "row"] (spD K 3 (d_breaths fu)):=zdK fu T
 have G_patch:FnOk P w K mg base (CXx P w) 2 A.f_patch A.d_patch ["board", "stand", "point"] (spD K 3 (d_patch fu)):=zh1 fu T
 refine T.F_laid.okX (k:=4) sc_laid (fun vs H Q E h=>h.1) (fun cdv Ar outer s H vs Q E hr h=>?_)
 obtain⟨_,F,as,ws,ce,S,rs,Pf⟩:=h
 refine⟨toTS (Gx K) E _,(zah (zbr (zjE (hr.cmp 8) (zaD (zab 1) (zab 3) (fun _ _=>rfl)) zak) (zal (zfI (l:=[3]) flies_cxOf rfl T.xt rfl rfl rfl hr.hd (zhj (zbH zfa (zbH (zmy 3) (zbH zfa zhi)))) (fun _ h=>⟨trivial,h 3 (by decide),trivial,trivial⟩))) zaM)
   (zah (zat (i:=4) sc_laid.nd rfl (Or.inl rfl) (zap G_filled (hr.mono (by decide)) rfl T.g_filled T.F_filled.kp T.b_filled (flies_cxOf.passes rfl) (zaa (zab 1) (zaa (zbM (zaa (zab 3) zaf)) (zaa (zab 2) zaf)))))
   (zah (zat (i:=5) sc_laid.nd rfl (Or.inl rfl) (zap (zbs G_breathless) (hr.mono (by decide)) rfl T.g_breathless T.F_breathless.kp T.b_breathless (flies_cxOf.passes rfl) (zaa (zab 0) (zaa (zab 4) (zaa (zap G_other_hand (hr.mono (by decide)) rfl T.g_other_hand T.F_other_hand.kp T.b_other_hand (flies_cxOf.passes rfl) (zaa (zab 2) zaf)) zaf)))))
   (zah (zat (i:=6) sc_laid.nd rfl (Or.inl rfl) (zap G_filled (hr.mono (by decide)) rfl T.g_filled T.F_filled.kp T.b_filled (flies_cxOf.passes rfl) (zaa (zab 4) (zaa (zab 5) (zaa zak zaf)))))
   (zah (zbr (zl8 (zjy (zap (zbs G_breaths) (hr.mono (by decide)) rfl T.g_breaths T.F_breaths.kp T.b_breaths (flies_cxOf.passes rfl) (zaa (zab 0) (zaa (zab 6) (zaa (zap (zbs G_patch) (hr.mono (by decide)) rfl T.g_patch T.F_patch.kp T.b_patch (flies_cxOf.passes rfl) (zaa (zab 0) (zaa (zab 6) (zaa (zab 3) zaf)))) zaf)))))) (zal (zfI (l:=[3]) flies_cxOf rfl T.xt rfl rfl rfl hr.hd (zhj (zbH zfa (zbH (zmy 3) (zbH zfa zhi)))) (fun _ h=>⟨trivial,h 3 (by decide),trivial,trivial⟩))) zaM)
   (zal (zaC (zaQ (zaa (zab 6) (zaa (zab 5) zaf)))))))))),?_⟩
 exact zaB (G:=Gx K) (E:=E) zcg ["board", "stand", "hand", "point", "full", "taken", "behind"] S rs Pf
set_option maxHeartbeats 0 in
theorem ziL(fu:Nat)(T:Txt K mg A):FnOk P w K mg base (CXx P w) 6 A.f_lays_on A.d_lays_on ["board", "stand", "hand", "points"] (spD K 4 (d_lays_on fu)):=by
 have G_laid:FnOk P w K mg base (CXx P w) 5 A.f_laid A.d_laid ["board", "stand", "hand", "point"] (spD K 4 (d_laid fu)):=znZ fu T
 refine T.F_lays_on.okX (k:=5) sc_lays_on (fun vs H Q E h=>h.1) (fun cdv Ar outer s H vs Q E hr h=>?_)
 obtain⟨_,F,as,ws,ce,S,rs,Pf⟩:=h
 refine⟨toTS (Gx K) E _,(zah (zat (i:=4) sc_lays_on.nd rfl (Or.inl rfl) (zb2 zaf))
   (zah (za8 PassesOwn.leaving rfl (zg7 (zab 3)) (zaT (i:=5) sc_lays_on.nd rfl (Or.inl rfl))
   (zah (znQ (i:=6) rfl rfl rfl sc_lays_on.nd rfl (Or.inl rfl) G_laid (hr.mono (by decide)) rfl T.g_laid T.F_laid.kp T.b_laid (zaa (zab 0) (zaa (zab 1) (zaa (zab 2) (zaa (zab 5) zaf)))) (zp3 rfl T.xt rfl rfl rfl rfl (fun _=>(zal zg6))))
   (zal (zbC (zdB PySem.F.slot_list_append PySem.F.type_list_append zbo zfw (zab 4) (zaa (zaQ (zaa (zab 5) (zaa (zaD (zab 6) zak (fun _ _=>rfl)) (zaa (zaD (zab 6) zak (fun _ _=>rfl)) zaf)))) zaf))))))
   (zal (zaC (zab 4))))),?_⟩
 exact zaB (G:=Gx K) (E:=E) zek ["board", "stand", "hand", "points", "found", "point", "told"] S rs Pf
set_option maxHeartbeats 0 in
theorem zez(fu:Nat)(T:Txt K mg A):FnOk P w K mg base (CXx P w) 7 A.f_new_lays A.d_new_lays ["board", "came", "hand", "points"] (spD K 4 (d_new_lays fu)):=by
 have G_lays_on:FnOk P w K mg base (CXx P w) 6 A.f_lays_on A.d_lays_on ["board", "stand", "hand", "points"] (spD K 4 (d_lays_on fu)):=ziL fu T
 refine T.F_new_lays.okX (k:=6) zhl (fun vs H Q E h=>h.1) (fun cdv Ar outer s H vs Q E hr h=>?_)
 obtain⟨_,F,as,ws,ce,S,rs,Pf⟩:=h
 refine⟨toTS (Gx K) E _,(zal (zaC (zgt zf4 (zcV (N:=["board", "came", "hand", "points"]) (psc:=zai zbu) (js:=[1]) (N':=["lay", "came"]) (by decide +kernel)) rfl rfl (zg7 (zap (zbs G_lays_on) (hr.mono (by decide)) rfl T.g_lays_on T.F_lays_on.kp T.b_lays_on (flies_cxOf.passes rfl) (zaa (zab 0) (zaa (zaD (zab 1) (zjx zak) (fun _ _=>rfl)) (zaa (zab 2) (zaa (zab 3) zaf)))))) (fun _ _ _ _=>(zd3 (zd2 (hr.cmp 9) (zaD (zab 0) zak (fun _ _=>rfl)) (zab 1) (by with_unfolding_all rfl)))) (fun _ _ _ _=>(zab 0))))),?_⟩
 exact zaB (G:=Gx K) (E:=E) zcg ["board", "came", "hand", "points"] S rs Pf
set_option maxHeartbeats 0 in
theorem zlG(fu:Nat)(T:Txt K mg A):FnOk P w K mg base (CXx P w) 8 A.f_steps A.d_steps ["board", "came", "hand"] (spD K 3 (d_steps fu)):=by
 have G_new_lays:FnOk P w K mg base (CXx P w) 7 A.f_new_lays A.d_new_lays ["board", "came", "hand", "points"] (spD K 4 (d_new_lays fu)):=zez fu T
 refine T.F_steps.okX (k:=7) sc_steps (fun vs H Q E h=>h.1) (fun cdv Ar outer s H vs Q E hr h=>?_)
 obtain⟨_,F,as,ws,ce,S,rs,Pf⟩:=h
 refine⟨toTS (Gx K) E _,(zah (zpi (k:=3) zkN (zcV (N:=["board", "came", "hand", "found"]) (psc:=zai zc3) (js:=[]) (N':=["lay"]) (by decide +kernel)) rfl rfl (zg7 (zap G_new_lays (hr.mono (by decide)) rfl T.g_new_lays T.F_new_lays.kp T.b_new_lays (flies_cxOf.passes rfl) (zaa (zab 0) (zaa (zab 1) (zaa (zab 2) (zaa (zjP zf4 rfl rfl T.n_list rfl T.n_range (zaa (zaJ (zcq rfl) (zcr K) rfl T.n_len PySem.boot_len (zaa (zab 0) zaf)) zaf)) zaf)))))) (fun _ _ _ _=>zcL) (fun _ _ _ _=>(zaQ (zaa (zaD (zab 0) zak (fun _ _=>rfl)) (zaa (zaD (zab 0) zak (fun _ _=>rfl)) zaf)))) sc_steps.nd rfl rfl (by with_unfolding_all rfl))
   (zah (zbC (zdB PySem.F.slot_list_append PySem.F.type_list_append zbo zfw (zab 3) (zaa (zaQ (zaa zhA (zaa (zaD (zab 1) (zjx zak) (fun _ _=>rfl)) zaf))) zaf)))
   (zal (zaC (zab 3))))),?_⟩
 exact zaB (G:=Gx K) (E:=E) zek ["board", "came", "hand", "found"] S rs Pf
set_option maxHeartbeats 0 in
theorem zcb(fu:Nat)(T:Txt K mg A):FnOk P w K mg base (CXx P w) 1 A.f_Chase_is_spent A.d_Chase_is_spent ["self", "deeds"] (spD K 2 (d_Chase_is_spent fu)):=by
 refine T.F_Chase_is_spent.okX (k:=0) zdI (fun vs H Q E h=>h.1) (fun cdv Ar outer s H vs Q E hr h=>?_)
 obtain⟨_,F,as,ws,ce,S,rs,Pf⟩:=h
 refine⟨toTS (Gx K) E _,(zal (zaC (zrm (zo4 (zbF (zaJ (zcq rfl) (zcr K) rfl T.n_len PySem.boot_len (zaa (zab 1) zaf)) zak) zak) (zcY T.cls_Chase T.na_Chase_most (zab 0))))),?_⟩
 exact zaB (G:=Gx K) (E:=E) zcg ["self", "deeds"] S rs Pf
set_option maxHeartbeats 0 in
theorem zc5(fu:Nat)(T:Txt K mg A):FnOk P w K mg base (CXx P w) 3 A.f_Chase_breaths_at A.d_Chase_breaths_at ["self", "stand"] (spD K 2 (d_Chase_breaths_at fu)):=by
 have G_breaths:FnOk P w K mg base (CXx P w) 2 A.f_breaths A.d_breaths ["board", "stand", "row"] (spD K 3 (d_breaths fu)):=zdK fu T
 have G_patch:FnOk P w K mg base (CXx P w) 2 A.f_patch A.d_patch ["board", "stand", "point"] (spD K 3 (d_patch fu)):=zh1 fu T
 refine T.F_Chase_breaths_at.okX (k:=2) zc4 (fun vs H Q E h=>h.1) (fun cdv Ar outer s H vs Q E hr h=>?_)
 obtain⟨_,F,as,ws,ce,S,rs,Pf⟩:=h
 refine⟨toTS (Gx K) E _,(zal (zaC (zap (zbs G_breaths) (hr.mono (by decide)) rfl T.g_breaths T.F_breaths.kp T.b_breaths (flies_cxOf.passes rfl) (zaa (zcY T.cls_Chase T.na_Chase_joined (zab 0)) (zaa (zab 1) (zaa (zap (zbs G_patch) (hr.mono (by decide)) rfl T.g_patch T.F_patch.kp T.b_patch (flies_cxOf.passes rfl) (zaa (zcY T.cls_Chase T.na_Chase_joined (zab 0)) (zaa (zab 1) (zaa (zcY T.cls_Chase T.na_Chase_stone (zab 0)) zaf)))) zaf)))))),?_⟩
 exact zaB (G:=Gx K) (E:=E) zcg ["self", "stand"] S rs Pf
set_option maxHeartbeats 0 in
theorem zcS(fu:Nat)(T:Txt K mg A):FnOk P w K mg base (CXx P w) 8 A.f_Chase_hunter_lays A.d_Chase_hunter_lays ["self", "came"] (spD K 2 (d_Chase_hunter_lays fu)):=by
 have G_new_lays:FnOk P w K mg base (CXx P w) 7 A.f_new_lays A.d_new_lays ["board", "came", "hand", "points"] (spD K 4 (d_new_lays fu)):=zez fu T
 have G_Chase_breaths_at:FnOk P w K mg base (CXx P w) 3 A.f_Chase_breaths_at A.d_Chase_breaths_at ["self", "stand"] (spD K 2 (d_Chase_breaths_at fu)):=zc5 fu T
 refine T.F_Chase_hunter_lays.okX (k:=7) sc_Chase_hunter_lays (fun vs H Q E h=>h.1) (fun cdv Ar outer s H vs Q E hr h=>?_)
 obtain⟨_,F,as,ws,ce,S,rs,Pf⟩:=h
 refine⟨toTS (Gx K) E _,(zah (zat (i:=2) sc_Chase_hunter_lays.nd rfl (Or.inl rfl) (zap G_new_lays (hr.mono (by decide)) rfl T.g_new_lays T.F_new_lays.kp T.b_new_lays (flies_cxOf.passes rfl) (zaa (zcY T.cls_Chase T.na_Chase_joined (zab 0)) (zaa (zab 1) (zaa (zcY T.cls_Chase T.na_Chase_hunter (zab 0)) (zaa (zcC T.cls_Chase T.mt_Chase_breaths_at G_Chase_breaths_at (hr.mono (by decide)) T.b_Chase_breaths_at (flies_cxOf.passes rfl) (zab 0) (zaa (zaD (zab 1) (zjx zak) (fun _ _=>rfl)) zaf)) zaf))))))
   (zal (zaC (zgt zf4 (zcV (N:=["self", "came", "lays"]) (psc:=zai zaF) (js:=[0]) (N':=["lay", "self"]) (by decide +kernel)) rfl rfl (zg7 (zab 2)) (fun _ _ _ _=>(zd3 (zpZ (PW.pt (znq (zeh (hr.cmp 8) (zaD (zaD (zab 0) zak (fun _ _=>rfl)) (zcY T.cls_Chase T.na_Chase_stone (zab 1)) (fun _ _=>rfl)) zak) (zjF (zrr (zaJ (zcq rfl) (zcr K) rfl T.n_len PySem.boot_len (zaa (zcC T.cls_Chase T.mt_Chase_breaths_at G_Chase_breaths_at (hr.mono (by decide)) T.b_Chase_breaths_at zkf (zab 1) (zaa (zaD (zab 0) zak (fun _ _=>rfl)) zaf)) zaf)) zak))))))) (fun _ _ _ _=>(zab 0)))))),?_⟩
 exact zaB (G:=Gx K) (E:=E) zcg ["self", "came", "lays"] S rs Pf
set_option maxHeartbeats 0 in
theorem ok_Chase_hunt_F(fu:Nat)(T:Txt K mg A)(j:Nat){r_Chase_hunt:List W->M W}{r_Chase_run:List W->M W}(G_Chase_hunt:FnOk P w K mg base (CXx P w) (8+j) A.f_Chase_hunt A.d_Chase_hunt ["self", "came", "deeds"] (spD K 3 r_Chase_hunt))(G_Chase_run:FnOk P w K mg base (CXx P w) (8+j) A.f_Chase_run A.d_Chase_run ["self", "came", "deeds"] (spD K 3 r_Chase_run)):FnOk P w K mg base (CXx P w) (8+j+1) A.f_Chase_hunt A.d_Chase_hunt ["self", "came", "deeds"] (spD K 3 (zbh fu r_Chase_hunt r_Chase_run)):=by
 have G_Chase_is_spent:FnOk P w K mg base (CXx P w) (1) A.f_Chase_is_spent A.d_Chase_is_spent ["self", "deeds"] (spD K 2 (d_Chase_is_spent fu)):=zcb fu T
 have G_Chase_hunter_lays:FnOk P w K mg base (CXx P w) (8) A.f_Chase_hunter_lays A.d_Chase_hunter_lays ["self", "came"] (spD K 2 (d_Chase_hunter_lays fu)):=zcS fu T
 refine T.F_Chase_hunt.okX (k:=8+j) sc_Chase_hunt (fun vs H Q E h=>h.1) (fun cdv Ar outer s H vs Q E hr h=>?_)
 obtain⟨_,F,as,ws,ce,S,rs,Pf⟩:=h
 refine⟨toTS (Gx K) E _,(zah (zbr (zhC (zcC T.cls_Chase T.mt_Chase_is_spent G_Chase_is_spent (hr.mono (by omega)) T.b_Chase_is_spent (flies_cxOf.passes rfl) (zab 0) (zaa (zab 2) zaf))) (zal (zaC (zaQ (zaa zbL (zaa (zbM zaf) zaf))))) zaM)
   (zah (zat (i:=3) sc_Chase_hunt.nd rfl (Or.inl rfl) (zb2 zaf))
   (zah (za8 PassesOwn.leaving rfl (zg7 (zcC T.cls_Chase T.mt_Chase_hunter_lays G_Chase_hunter_lays (hr.mono (by omega)) T.b_Chase_hunter_lays (flies_cxOf.passes rfl) (zab 0) (zaa (zab 1) zaf))) (zaT (i:=4) sc_Chase_hunt.nd rfl (Or.inl rfl))
   (zah (zbr (zeh (hr.cmp 8) (zaD (zaD (zab 4) zak (fun _ _=>rfl)) (zcY T.cls_Chase T.na_Chase_stone (zab 0)) (fun _ _=>rfl)) zak) (zal (zaC (zaQ (zaa zbL (zaa (zbM (zaa (zaQ (zaa (zab 2) (zaa (zaD (zab 4) zak (fun _ _=>rfl)) zaf))) zaf)) zaf))))) zaM)
   (zah (zat (i:=5) sc_Chase_hunt.nd rfl (Or.inl rfl) (zcC T.cls_Chase T.mt_Chase_run (zhh G_Chase_run) (hr.mono (by omega)) T.b_Chase_run (flies_cxOf.passes rfl) (zab 0) (zaa (ze6 zf4 (zab 1) (zbM (zaa (zaD (zab 4) zak (fun _ _=>rfl)) zaf))) (zaa (zka (zab 2) (zaQ (zaa (zaD (zab 4) zak (fun _ _=>rfl)) zaf))) zaf))))
   (zah (zbr (zeh (hr.cmp 8) (zaD (zab 5) zak (fun _ _=>rfl)) zbL) (zal (zaC (zaQ (zaa zbL (zaa (ze6 zf4 (zbM (zaa (zaQ (zaa (zab 2) (zaa (zaD (zab 4) zak (fun _ _=>rfl)) zaf))) zaf)) (zaD (zab 5) zak (fun _ _=>rfl))) zaf))))) zaM)
   (zal (zbC (zdB PySem.F.slot_list_extend PySem.F.type_list_extend zg8 zny (zab 3) (zaa (zaD (zab 5) zak (fun _ _=>rfl)) zaf))))))))
   (zal (zaC (zaQ (zaa zbL (zaa (zab 3) zaf)))))))),?_⟩
 exact zaB (G:=Gx K) (E:=E) znw ["self", "came", "deeds", "freeing", "lay", "told"] S rs Pf
set_option maxHeartbeats 0 in
theorem zeU(fu:Nat)(T:Txt K mg A)(j:Nat){r_Chase_hunt:List W->M W}{r_Chase_run:List W->M W}(G_Chase_hunt:FnOk P w K mg base (CXx P w) (8+j) A.f_Chase_hunt A.d_Chase_hunt ["self", "came", "deeds"] (spD K 3 r_Chase_hunt))(G_Chase_run:FnOk P w K mg base (CXx P w) (8+j) A.f_Chase_run A.d_Chase_run ["self", "came", "deeds"] (spD K 3 r_Chase_run)):FnOk P w K mg base (CXx P w) (8+j+1) A.f_Chase_run A.d_Chase_run ["self", "came", "deeds"] (spD K 3 (zbq fu r_Chase_hunt r_Chase_run)):=by
 have G_Chase_is_spent:FnOk P w K mg base (CXx P w) (1) A.f_Chase_is_spent A.d_Chase_is_spent ["self", "deeds"] (spD K 2 (d_Chase_is_spent fu)):=zcb fu T
 have G_steps:FnOk P w K mg base (CXx P w) (8) A.f_steps A.d_steps ["board", "came", "hand"] (spD K 3 (d_steps fu)):=zlG fu T
 refine T.F_Chase_run.okX (k:=8+j) sc_Chase_run (fun vs H Q E h=>h.1) (fun cdv Ar outer s H vs Q E hr h=>?_)
 obtain⟨_,F,as,ws,ce,S,rs,Pf⟩:=h
 refine⟨toTS (Gx K) E _,(zah (zbr (zhC (zcC T.cls_Chase T.mt_Chase_is_spent G_Chase_is_spent (hr.mono (by omega)) T.b_Chase_is_spent (flies_cxOf.passes rfl) (zab 0) (zaa (zab 2) zaf))) (zal (zaC (zaQ (zaa zbL (zaa (zbM zaf) zaf))))) zaM)
   (zah (zat (i:=3) sc_Chase_run.nd rfl (Or.inl rfl) (zb2 zaf))
   (zah (za8 PassesOwn.leaving rfl (zg7 (zap (zbs G_steps) (hr.mono (by omega)) rfl T.g_steps T.F_steps.kp T.b_steps (flies_cxOf.passes rfl) (zaa (zcY T.cls_Chase T.na_Chase_joined (zab 0)) (zaa (zab 1) (zaa (zcY T.cls_Chase T.na_Chase_runner (zab 0)) zaf))))) (zaT (i:=4) sc_Chase_run.nd rfl (Or.inl rfl))
   (zah (zat (i:=5) sc_Chase_run.nd rfl (Or.inl rfl) (zcC T.cls_Chase T.mt_Chase_hunt (zhh G_Chase_hunt) (hr.mono (by omega)) T.b_Chase_hunt (flies_cxOf.passes rfl) (zab 0) (zaa (ze6 zf4 (zab 1) (zbM (zaa (zaD (zab 4) zak (fun _ _=>rfl)) zaf))) (zaa (zka (zab 2) (zaQ (zaa (zaD (zab 4) zak (fun _ _=>rfl)) zaf))) zaf))))
   (zah (zbr (zeh (hr.cmp 8) (zaD (zab 5) zak (fun _ _=>rfl)) zbL) (zal (zaC (zaQ (zaa zbL (zaa (ze6 zf4 (zbM (zaa (zaQ (zaa (zab 2) (zaa (zaD (zab 4) zak (fun _ _=>rfl)) zaf))) zaf)) (zaD (zab 5) zak (fun _ _=>rfl))) zaf))))) zaM)
   (zal (zbC (zdB PySem.F.slot_list_extend PySem.F.type_list_extend zg8 zny (zab 3) (zaa (zaD (zab 5) zak (fun _ _=>rfl)) zaf)))))))
   (zal (zaC (zaQ (zaa zbL (zaa (zab 3) zaf)))))))),?_⟩
 exact zaB (G:=Gx K) (E:=E) znw ["self", "came", "deeds", "catching", "step", "told"] S rs Pf
theorem zcc(fu:Nat)(T:Txt K mg A):∀j:Nat,(FnOk P w K mg base (CXx P w) (8+j) A.f_Chase_hunt A.d_Chase_hunt ["self", "came", "deeds"] (spD K 3 (zao fu j).1))/\(FnOk P w K mg base (CXx P w) (8+j) A.f_Chase_run A.d_Chase_run ["self", "came", "deeds"] (spD K 3 (zao fu j).2))
 | 0=>⟨fn_never rfl,fn_never rfl⟩
 | j+1=>by
  obtain⟨h0,h1⟩:=zcc fu T j
  exact⟨ok_Chase_hunt_F fu T j h0 h1,zeU fu T j h0 h1⟩
theorem zfP(fu:Nat)(T:Txt K mg A):FnOk P w K mg base (CXx P w) (18) A.f_Chase_hunt A.d_Chase_hunt ["self", "came", "deeds"] (spD K 3 (d_Chase_hunt fu)):=(zcc fu T 10).1
set_option maxHeartbeats 0 in
theorem zdL(fu:Nat)(T:Txt K mg A):FnOk P w K mg base (CXx P w) 2 A.f_Chase___init__ A.d_Chase___init__ ["self", "board", "hunter", "point", "most"] (spD K 5 (d_Chase___init__ fu)):=by
 have G_other_hand:FnOk P w K mg base (CXx P w) 1 A.f_other_hand A.d_other_hand ["hand"] (spD K 1 (d_other_hand fu)):=zds fu T
 refine T.F_Chase___init__.okX (k:=1) zdJ (fun vs H Q E h=>h.1) (fun cdv Ar outer s H vs Q E hr h=>?_)
 obtain⟨_,F,as,ws,ce,S,rs,Pf⟩:=h
 refine⟨toTS (Gx K) E _,(zah (zgJ T.cls_Chase T.na_Chase_joined (zab 0) (zab 1))
   (zah (zgJ T.cls_Chase T.na_Chase_hunter (zab 0) (zab 2))
   (zah (zgJ T.cls_Chase T.na_Chase_runner (zab 0) (zap G_other_hand (hr.mono (by decide)) rfl T.g_other_hand T.F_other_hand.kp T.b_other_hand (flies_cxOf.passes rfl) (zaa (zab 2) zaf)))
   (zah (zgJ T.cls_Chase T.na_Chase_stone (zab 0) (zab 3))
   (zal (zgJ T.cls_Chase T.na_Chase_most (zab 0) (zab 4))))))),?_⟩
 exact zaB (G:=Gx K) (E:=E) znw ["self", "board", "hunter", "point", "most"] S rs Pf
set_option maxHeartbeats 0 in
theorem zlH(fu:Nat)(T:Txt K mg A):FnOk P w K mg base (CXx P w) 19 A.f_chase A.d_chase ["board", "stand", "hunter", "point", "most"] (spD K 5 (d_chase fu)):=by
 have G_Chase_hunt:FnOk P w K mg base (CXx P w) 18 A.f_Chase_hunt A.d_Chase_hunt ["self", "came", "deeds"] (spD K 3 (d_Chase_hunt fu)):=zfP fu T
 have G_Chase___init__:FnOk P w K mg base (CXx P w) 2 A.f_Chase___init__ A.d_Chase___init__ ["self", "board", "hunter", "point", "most"] (spD K 5 (d_Chase___init__ fu)):=zdL fu T
 refine T.F_chase.okX (k:=18) zlF (fun vs H Q E h=>h.1) (fun cdv Ar outer s H vs Q E hr h=>?_)
 obtain⟨_,F,as,ws,ce,S,rs,Pf⟩:=h
 refine⟨toTS (Gx K) E _,(zah (zbr (zrs (zaJ (zcq rfl) (zcr K) rfl T.n_len PySem.boot_len (zaa (zab 0) zaf)) (zle rfl T.c_MOST_POINTS)) (zal (zfI (l:=[]) flies_cxOf rfl T.xt rfl rfl rfl hr.hd (zhj (zbH zfa (zbH (znO rfl T.c_MOST_POINTS) (zbH zfa zhi)))) (fun _ h=>⟨trivial,trivial,trivial,trivial⟩))) zaM)
   (zal (zaC (zcC T.cls_Chase T.mt_Chase_hunt (zhh G_Chase_hunt) (hr.mono (by decide)) T.b_Chase_hunt (flies_cxOf.passes rfl) (znU T.mk_Chase G_Chase___init__ (hr.mono (by decide)) rfl T.gc_Chase T.b_Chase___init__ (flies_cxOf.passes rfl) (zaa (zab 0) (zaa (zab 2) (zaa (zab 3) (zaa (zab 4) zaf))))) (zaa (zbM (zaa (zab 1) zaf)) (zaa (zaQ zaf) zaf)))))),?_⟩
 exact zaB (G:=Gx K) (E:=E) zcg ["board", "stand", "hunter", "point", "most"] S rs Pf
set_option maxHeartbeats 0 in
theorem zcG(fu:Nat)(T:Txt K mg A):FnOk P w K mg base (CXx P w) 1 A.f__law_cell_at A.d__law_cell_at ["_law_script", "_law_k"] (spD K 2 (d__law_cell_at fu)):=by
 refine T.F__law_cell_at.okX (k:=0) zex (fun vs H Q E h=>h.1) (fun cdv Ar outer s H vs Q E hr h=>?_)
 obtain⟨_,F,as,ws,ce,S,rs,Pf⟩:=h
 refine⟨toTS (Gx K) E _,(zah (zbr (zo9 (zab 1) (zaJ (zcq rfl) (zcr K) rfl T.n_len PySem.boot_len (zaa (zab 0) zaf))) (zal (zaC (zaD (zab 0) (zab 1) (fun _ _=>rfl)))) zaM)
   (zal (zaC (zbF (zcm (zcm zak (zab 1)) (zab 1)) (zcm zak (zab 1)))))),?_⟩
 exact zaB (G:=Gx K) (E:=E) zcg ["_law_script", "_law_k"] S rs Pf
set_option maxHeartbeats 0 in
theorem zbS(fu:Nat)(T:Txt K mg A):FnOk P w K mg base (CXx P w) 1 A.f__law_mix A.d__law_mix ["_law_cell", "_law_k"] (spD K 2 (d__law_mix fu)):=by
 refine T.F__law_mix.okX (k:=0) sc__law_mix (fun vs H Q E h=>h.1) (fun cdv Ar outer s H vs Q E hr h=>?_)
 obtain⟨_,F,as,ws,ce,S,rs,Pf⟩:=h
 refine⟨toTS (Gx K) E _,(zah (zat (i:=2) sc__law_mix.nd rfl (Or.inl rfl) (zbW (zcm (zbF (zbW (zab 0) zak) zak) (zbF zak (zcm (zcm zak (zab 1)) (zab 1)))) zak))
   (zal (zaC (zbW (zbF (zcm (zab 2) (zab 2)) (zcm zak (zab 1))) zak)))),?_⟩
 exact zaB (G:=Gx K) (E:=E) zcg ["_law_cell", "_law_k", "_law_one"] S rs Pf
set_option maxHeartbeats 0 in
theorem zfQ(fu:Nat)(T:Txt K mg A):FnOk P w K mg base (CXx P w) 2 A.f__law_board A.d__law_board ["_law_cell", "_law_most"] (spD K 2 (d__law_board fu)):=by
 have G__law_mix:FnOk P w K mg base (CXx P w) 1 A.f__law_mix A.d__law_mix ["_law_cell", "_law_k"] (spD K 2 (d__law_mix fu)):=zbS fu T
 refine T.F__law_board.okX (k:=1) sc__law_board (fun vs H Q E h=>h.1) (fun cdv Ar outer s H vs Q E hr h=>?_)
 obtain⟨_,F,as,ws,ce,S,rs,Pf⟩:=h
 refine⟨toTS (Gx K) E _,(zah (zat (i:=2) sc__law_board.nd rfl (Or.inl rfl) (zbM (zaa (zaQ (zaa zak (zaa zak zaf))) (zaa (zaQ (zaa zak (zaa zak zaf))) (zaa (zaQ (zaa zak (zaa zak zaf))) (zaa (zaQ (zaa zak (zaa zak zaf))) (zaa (zaQ (zaa zak (zaa zak zaf))) (zaa (zaQ (zaa zak (zaa zak zaf))) (zaa (zaQ (zaa zak (zaa zak zaf))) (zaa (zaQ (zaa zak (zaa zak zaf))) (zaa (zaQ (zaa zak (zaa zak zaf))) (zaa (zaQ (zaa zak (zaa zak zaf))) (zaa (zaQ (zaa zak (zaa zak zaf))) (zaa (zaQ (zaa zak (zaa zak zaf))) zaf))))))))))))))
   (zah (zej (zaD (zab 2) (zbW (zap G__law_mix (hr.mono (by decide)) rfl T.g__law_mix T.F__law_mix.kp T.b__law_mix (flies_cxOf.passes rfl) (zaa (zab 0) (zaa zak zaf))) (zab 1)) (fun _ _=>rfl)) (zpf rfl (zhJ (zaT (i:=3) sc__law_board.nd rfl (Or.inl rfl)) (zhJ (zaT (i:=4) sc__law_board.nd rfl (Or.inl rfl)) znu))))
   (zah (zpi (k:=5) zf4 (zcV (N:=["_law_cell", "_law_most", "_law_some", "_law_wide", "_law_high", "_law_joined", "_law_one", "_law_other", "_law_beside", "_law_drawn"]) (psc:=zai za1) (js:=[]) (N':=["_law_k"]) (by decide +kernel)) rfl rfl (zeN rfl T.n_range (zaa (zcm (zab 3) (zab 4)) zaf)) (fun _ _ _ _=>zcL) (fun _ _ _ _=>(zb2 zaf)) sc__law_board.nd rfl rfl (by with_unfolding_all rfl))
   (zah (za8 PassesOwn.leaving rfl (zeN rfl T.n_range (zaa (zcm (zab 3) (zab 4)) zaf)) (zaT (i:=6) sc__law_board.nd rfl (Or.inl rfl))
   (zal (za8 PassesOwn.leaving rfl (zeN rfl T.n_range (zaa (zab 6) zaf)) (zaT (i:=7) sc__law_board.nd rfl (Or.inl rfl))
   (zah (zat (i:=8) sc__law_board.nd rfl (Or.inl rfl) (zpc (zhP (ze4 (zab 6) (zab 7)) (zab 3)) (zhH (zl7 (zhP (ze4 (zab 6) (zab 7)) zak) (zhH (zrl (zbW (zab 6) (zab 3)) zak))))))
   (zah (zat (i:=9) sc__law_board.nd rfl (Or.inl rfl) (zhP (zbW (zap G__law_mix (hr.mono (by decide)) rfl T.g__law_mix T.F__law_mix.kp T.b__law_mix (flies_cxOf.passes rfl) (zaa (zab 0) (zaa (zbF (zbF zak (zcm zak (zab 6))) (zab 7)) zaf))) zak) zak))
   (zah (zbr (zgy (zbW (zap G__law_mix (hr.mono (by decide)) rfl T.g__law_mix T.F__law_mix.kp T.b__law_mix (flies_cxOf.passes rfl) (zaa (zab 0) (zaa zak zaf))) zak) zak) (zal (zat (i:=8) sc__law_board.nd rfl (Or.inl rfl) (zpc (zab 8) (zhH (zab 9))))) zaM)
   (zah (zbr (zgy (zbW (zap G__law_mix (hr.mono (by decide)) rfl T.g__law_mix T.F__law_mix.kp T.b__law_mix (flies_cxOf.passes rfl) (zaa (zab 0) (zaa zak zaf))) zak) zak) (zal (zat (i:=8) sc__law_board.nd rfl (Or.inl rfl) (zl7 (zab 8) (zhH (zpd (zab 9)))))) zaM)
   (zal (zbr (zhC (zab 8)) (zah (zbC (zdB PySem.F.slot_list_append PySem.F.type_list_append zbo zfw (zaD (zab 5) (zab 6) (fun _ _=>rfl)) (zaa (zab 7) zaf)))
   (zal (zbC (zdB PySem.F.slot_list_append PySem.F.type_list_append zbo zfw (zaD (zab 5) (zab 7) (fun _ _=>rfl)) (zaa (zab 6) zaf))))) zaM)))))))))
   (zal (zaC (za9 (zdN K) (zcw K) rfl T.n_tuple PyProof.Rows.boot_tuple (zaa (zgt zf4 (zcV (N:=["_law_cell", "_law_most", "_law_some", "_law_wide", "_law_high", "_law_joined", "_law_one", "_law_other", "_law_beside", "_law_drawn"]) (psc:=zai za1) (js:=[]) (N':=["_law_row"]) (by decide +kernel)) rfl rfl (zg7 (zab 5)) (fun _ _ _ _=>zcL) (fun _ _ _ _=>(za9 (zdN K) (zcw K) rfl T.n_tuple PyProof.Rows.boot_tuple (zaa (zaJ (zjN rfl rfl) (zjO K zf4) rfl T.n_sorted PyProof.Rows.boot_sorted (zaa (zab 0) zaf)) zaf)))) zaf)))))))),?_⟩
 exact zaB (G:=Gx K) (E:=E) zcg ["_law_cell", "_law_most", "_law_some", "_law_wide", "_law_high", "_law_joined", "_law_one", "_law_other", "_law_beside", "_law_drawn"] S rs Pf
set_option maxHeartbeats 0 in
theorem zdt(fu:Nat)(T:Txt K mg A):FnOk P w K mg base (CXx P w) 1 A.f__law_patch A.d__law_patch ["_law_board_here", "_law_stand_here", "_law_point"] (spD K 3 (d__law_patch fu)):=by
 refine T.F__law_patch.okX (k:=0) sc__law_patch (fun vs H Q E h=>h.1) (fun cdv Ar outer s H vs Q E hr h=>?_)
 obtain⟨_,F,as,ws,ce,S,rs,Pf⟩:=h
 refine⟨toTS (Gx K) E _,(zah (zat (i:=3) sc__law_patch.nd rfl (Or.inl rfl) (zb2 (zaa (zab 2) zaf)))
   (zah (zat (i:=4) sc__law_patch.nd rfl (Or.inl rfl) zak)
   (zah (zhN fu PassesOwn.leaving (zo9 (zab 4) (zaJ (zcq rfl) (zcr K) rfl T.n_len PySem.boot_len (zaa (zab 3) zaf))) (zah (za8 PassesOwn.leaving rfl (znv (zaD (zab 0) (zaD (zab 3) (zab 4) (fun _ _=>rfl)) (fun _ _=>rfl))) (zaT (i:=5) sc__law_patch.nd rfl (Or.inl rfl))
   (zal (zbr (PW.pt (ze5 (zgy (zaD (zab 1) (zab 5) (fun _ _=>rfl)) (zaD (zab 1) (zab 2) (fun _ _=>rfl))) (zdy (zd2 (hr.cmp 9) (zab 5) (zab 3) (by with_unfolding_all rfl))))) (zal (zbC (zdB PySem.F.slot_list_append PySem.F.type_list_append zbo zfw (zab 3) (zaa (zab 5) zaf)))) zaM)))
   (zal (zat (i:=4) sc__law_patch.nd rfl (Or.inl rfl) (zbF (zab 4) zak)))))
   (zal (zaC (zab 3)))))),?_⟩
 exact zaB (G:=Gx K) (E:=E) zek ["_law_board_here", "_law_stand_here", "_law_point", "_law_found", "_law_at", "_law_other"] S rs Pf
set_option maxHeartbeats 0 in
theorem zcH(fu:Nat)(T:Txt K mg A):FnOk P w K mg base (CXx P w) 1 A.f__law_breaths A.d__law_breaths ["_law_board_here", "_law_stand_here", "_law_row"] (spD K 3 (d__law_breaths fu)):=by
 refine T.F__law_breaths.okX (k:=0) sc__law_breaths (fun vs H Q E h=>h.1) (fun cdv Ar outer s H vs Q E hr h=>?_)
 obtain⟨_,F,as,ws,ce,S,rs,Pf⟩:=h
 refine⟨toTS (Gx K) E _,(zah (zat (i:=3) sc__law_breaths.nd rfl (Or.inl rfl) (zb2 zaf))
   (zah (za8 PassesOwn.leaving rfl (zg7 (zab 2)) (zaT (i:=4) sc__law_breaths.nd rfl (Or.inl rfl))
   (zal (za8 PassesOwn.leaving rfl (znv (zaD (zab 0) (zab 4) (fun _ _=>rfl))) (zaT (i:=5) sc__law_breaths.nd rfl (Or.inl rfl))
   (zal (zbr (PW.pt (ze5 (zgy (zaD (zab 1) (zab 5) (fun _ _=>rfl)) zak) (zdy (zd2 (hr.cmp 9) (zab 5) (zab 3) (by with_unfolding_all rfl))))) (zal (zbC (zdB PySem.F.slot_list_append PySem.F.type_list_append zbo zfw (zab 3) (zaa (zab 5) zaf)))) zaM)))))
   (zal (zaC (zab 3))))),?_⟩
 exact zaB (G:=Gx K) (E:=E) zek ["_law_board_here", "_law_stand_here", "_law_row", "_law_found", "_law_point", "_law_other"] S rs Pf
set_option maxHeartbeats 0 in
theorem zgL(fu:Nat)(T:Txt K mg A):FnOk P w K mg base (CXx P w) 2 A.f__law_laid A.d__law_laid ["_law_board_here", "_law_stand_here", "_law_hand", "_law_point"] (spD K 4 (d__law_laid fu)):=by
 have G__law_breaths:FnOk P w K mg base (CXx P w) 1 A.f__law_breaths A.d__law_breaths ["_law_board_here", "_law_stand_here", "_law_row"] (spD K 3 (d__law_breaths fu)):=zcH fu T
 have G__law_patch:FnOk P w K mg base (CXx P w) 1 A.f__law_patch A.d__law_patch ["_law_board_here", "_law_stand_here", "_law_point"] (spD K 3 (d__law_patch fu)):=zdt fu T
 refine T.F__law_laid.okX (k:=1) sc__law_laid (fun vs H Q E h=>h.1) (fun cdv Ar outer s H vs Q E hr h=>?_)
 obtain⟨_,F,as,ws,ce,S,rs,Pf⟩:=h
 refine⟨toTS (Gx K) E _,(zah (zbr (zjQ (zaD (zab 1) (zab 3) (fun _ _=>rfl)) zak) (zal (zaC zhA)) zaM)
   (zah (zat (i:=4) sc__law_laid.nd rfl (Or.inl rfl) (za9 (zmg rfl rfl) (zmh K zkN) rfl T.n_list PyProof.Rows.boot_list (zaa (zab 1) zaf)))
   (zah (zej (zab 2) (zdA (E:=E0) (zab 4) (zab 3)))
   (zah (zat (i:=5) sc__law_laid.nd rfl (Or.inl rfl) (zbM zaf))
   (zah (za8 PassesOwn.leaving rfl (znv (zaD (zab 0) (zab 3) (fun _ _=>rfl))) (zaT (i:=6) sc__law_laid.nd rfl (Or.inl rfl))
   (zal (zbr (zgy (zaD (zab 4) (zab 6) (fun _ _=>rfl)) (ze4 zak (zab 2))) (zah (zat (i:=7) sc__law_laid.nd rfl (Or.inl rfl) (zap (zbs G__law_patch) (hr.mono (by decide)) rfl T.g__law_patch T.F__law_patch.kp T.b__law_patch (flies_cxOf.passes rfl) (zaa (zab 0) (zaa (zab 4) (zaa (zab 6) zaf)))))
   (zal (zbr (zeh (hr.cmp 8) (zap (zbs G__law_breaths) (hr.mono (by decide)) rfl T.g__law_breaths T.F__law_breaths.kp T.b__law_breaths (flies_cxOf.passes rfl) (zaa (zab 0) (zaa (zab 4) (zaa (zab 7) zaf)))) (zbM zaf)) (zal (zat (i:=5) sc__law_laid.nd rfl (Or.inl rfl) (ze6 zf4 (zab 5) (zab 7)))) zaM))) zaM)))
   (zah (za8 PassesOwn.leaving rfl (zg7 (zab 5)) (zaT (i:=6) sc__law_laid.nd rfl (Or.inl rfl))
   (zal (zej zak (zdA (E:=E0) (zab 4) (zab 6)))))
   (zah (zbr (zeh (hr.cmp 8) (zap (zbs G__law_breaths) (hr.mono (by decide)) rfl T.g__law_breaths T.F__law_breaths.kp T.b__law_breaths (flies_cxOf.passes rfl) (zaa (zab 0) (zaa (zab 4) (zaa (zap (zbs G__law_patch) (hr.mono (by decide)) rfl T.g__law_patch T.F__law_patch.kp T.b__law_patch (flies_cxOf.passes rfl) (zaa (zab 0) (zaa (zab 4) (zaa (zab 3) zaf)))) zaf)))) (zbM zaf)) (zal (zaC zhA)) zaM)
   (zal (zaC (za9 (zdN K) (zcw K) rfl T.n_tuple PyProof.Rows.boot_tuple (zaa (zab 4) zaf))))))))))),?_⟩
 exact zaB (G:=Gx K) (E:=E) zcg ["_law_board_here", "_law_stand_here", "_law_hand", "_law_point", "_law_there", "_law_taken", "_law_other", "_law_row"] S rs Pf
set_option maxHeartbeats 0 in
theorem zfR(fu:Nat)(T:Txt K mg A):FnOk P w K mg base (CXx P w) 3 A.f__law_stand A.d__law_stand ["_law_script", "_law_at", "_law_board_here"] (spD K 3 (d__law_stand fu)):=by
 have G__law_cell_at:FnOk P w K mg base (CXx P w) 1 A.f__law_cell_at A.d__law_cell_at ["_law_script", "_law_k"] (spD K 2 (d__law_cell_at fu)):=zcG fu T
 have G__law_laid:FnOk P w K mg base (CXx P w) 2 A.f__law_laid A.d__law_laid ["_law_board_here", "_law_stand_here", "_law_hand", "_law_point"] (spD K 4 (d__law_laid fu)):=zgL fu T
 have G__law_mix:FnOk P w K mg base (CXx P w) 1 A.f__law_mix A.d__law_mix ["_law_cell", "_law_k"] (spD K 2 (d__law_mix fu)):=zbS fu T
 refine T.F__law_stand.okX (k:=2) sc__law_stand (fun vs H Q E h=>h.1) (fun cdv Ar outer s H vs Q E hr h=>?_)
 obtain⟨_,F,as,ws,ce,S,rs,Pf⟩:=h
 refine⟨toTS (Gx K) E _,(zah (zat (i:=3) sc__law_stand.nd rfl (Or.inl rfl) (za9 (zdN K) (zcw K) rfl T.n_tuple PyProof.Rows.boot_tuple (zaa (zgt zf4 (zcV (N:=["_law_script", "_law_at", "_law_board_here", "_law_stand_here", "_law_k", "_law_cell", "_law_found"]) (psc:=zai zba) (js:=[]) (N':=["_law_point"]) (by decide +kernel)) rfl rfl (znv (zab 2)) (fun _ _ _ _=>zcL) (fun _ _ _ _=>zak)) zaf)))
   (zah (za8 PassesOwn.leaving rfl (zeN rfl T.n_range (zaa (zbW (zap G__law_mix (hr.mono (by decide)) rfl T.g__law_mix T.F__law_mix.kp T.b__law_mix (flies_cxOf.passes rfl) (zaa (zap G__law_cell_at (hr.mono (by decide)) rfl T.g__law_cell_at T.F__law_cell_at.kp T.b__law_cell_at (flies_cxOf.passes rfl) (zaa (zab 0) (zaa (zab 1) zaf))) (zaa zak zaf))) (zbF (zaJ (zcq rfl) (zcr K) rfl T.n_len PySem.boot_len (zaa (zab 2) zaf)) zak)) zaf)) (zaT (i:=4) sc__law_stand.nd rfl (Or.inl rfl))
   (zah (zat (i:=5) sc__law_stand.nd rfl (Or.inl rfl) (zap G__law_cell_at (hr.mono (by decide)) rfl T.g__law_cell_at T.F__law_cell_at.kp T.b__law_cell_at (flies_cxOf.passes rfl) (zaa (zab 0) (zaa (zbF (zbF (zab 1) zak) (zab 4)) zaf))))
   (zah (zat (i:=6) sc__law_stand.nd rfl (Or.inl rfl) (zap G__law_laid (hr.mono (by decide)) rfl T.g__law_laid T.F__law_laid.kp T.b__law_laid (flies_cxOf.passes rfl) (zaa (zab 2) (zaa (zab 3) (zaa (zbF zak (zbW (zap G__law_mix (hr.mono (by decide)) rfl T.g__law_mix T.F__law_mix.kp T.b__law_mix (flies_cxOf.passes rfl) (zaa (zab 5) (zaa (zbF zak (zab 4)) zaf))) zak)) (zaa (zbW (zap G__law_mix (hr.mono (by decide)) rfl T.g__law_mix T.F__law_mix.kp T.b__law_mix (flies_cxOf.passes rfl) (zaa (zab 5) (zaa zak zaf))) (zaJ (zcq rfl) (zcr K) rfl T.n_len PySem.boot_len (zaa (zab 2) zaf))) zaf))))))
   (zal (zbr (zno (zab 6)) (zal (zat (i:=3) sc__law_stand.nd rfl (Or.inl rfl) (zab 6))) zaM)))))
   (zal (zaC (zab 3))))),?_⟩
 exact zaB (G:=Gx K) (E:=E) zcg ["_law_script", "_law_at", "_law_board_here", "_law_stand_here", "_law_k", "_law_cell", "_law_found"] S rs Pf
set_option maxHeartbeats 0 in
theorem zeV(fu:Nat)(T:Txt K mg A):FnOk P w K mg base (CXx P w) 2 A.f__law_target A.d__law_target ["_law_board_here", "_law_stand_here", "_law_cell"] (spD K 3 (d__law_target fu)):=by
 have G__law_mix:FnOk P w K mg base (CXx P w) 1 A.f__law_mix A.d__law_mix ["_law_cell", "_law_k"] (spD K 2 (d__law_mix fu)):=zbS fu T
 have G__law_breaths:FnOk P w K mg base (CXx P w) 1 A.f__law_breaths A.d__law_breaths ["_law_board_here", "_law_stand_here", "_law_row"] (spD K 3 (d__law_breaths fu)):=zcH fu T
 have G__law_patch:FnOk P w K mg base (CXx P w) 1 A.f__law_patch A.d__law_patch ["_law_board_here", "_law_stand_here", "_law_point"] (spD K 3 (d__law_patch fu)):=zdt fu T
 refine T.F__law_target.okX (k:=1) sc__law_target (fun vs H Q E h=>h.1) (fun cdv Ar outer s H vs Q E hr h=>?_)
 obtain⟨_,F,as,ws,ce,S,rs,Pf⟩:=h
 refine⟨toTS (Gx K) E _,(zah (zat (i:=3) sc__law_target.nd rfl (Or.inl rfl) (zbM zaf))
   (zah (za8 PassesOwn.leaving rfl (zeN rfl T.n_range (zaa (zaJ (zcq rfl) (zcr K) rfl T.n_len PySem.boot_len (zaa (zab 0) zaf)) zaf)) (zaT (i:=4) sc__law_target.nd rfl (Or.inl rfl))
   (zal (zbr (zjQ (zaD (zab 1) (zab 4) (fun _ _=>rfl)) zak) (zah (zat (i:=5) sc__law_target.nd rfl (Or.inl rfl) (zrk (zaJ (zcq rfl) (zcr K) rfl T.n_len PySem.boot_len (zaa (zap (zbs G__law_breaths) (hr.mono (by decide)) rfl T.g__law_breaths T.F__law_breaths.kp T.b__law_breaths (flies_cxOf.passes rfl) (zaa (zab 0) (zaa (zab 1) (zaa (zap (zbs G__law_patch) (hr.mono (by decide)) rfl T.g__law_patch T.F__law_patch.kp T.b__law_patch (flies_cxOf.passes rfl) (zaa (zab 0) (zaa (zab 1) (zaa (zab 4) zaf)))) zaf)))) zaf)) zak))
   (zal (zat (i:=3) sc__law_target.nd rfl (Or.inl rfl) (ze6 zf4 (zab 3) (zg9 zf4 (zaa (zab 4) zaf) (zbF zak (zcm zak (za9 zja zrP rfl T.n_int PyProof.Rows.boot_int (zaa (zab 5) zaf))))))))) zaM)))
   (zah (zbr (zeh (hr.cmp 8) (zab 3) (zbM zaf)) (zal (zaC zhA)) zaM)
   (zal (zaC (zaD (zab 3) (zbW (zap G__law_mix (hr.mono (by decide)) rfl T.g__law_mix T.F__law_mix.kp T.b__law_mix (flies_cxOf.passes rfl) (zaa (zab 2) (zaa zak zaf))) (zaJ (zcq rfl) (zcr K) rfl T.n_len PySem.boot_len (zaa (zab 3) zaf))) (fun _ _=>rfl))))))),?_⟩
 exact zaB (G:=Gx K) (E:=E) zcg ["_law_board_here", "_law_stand_here", "_law_cell", "_law_some", "_law_point", "_law_few"] S rs Pf
set_option maxHeartbeats 0 in
theorem zfS(fu:Nat)(T:Txt K mg A):FnOk P w K mg base (CXx P w) 2 A.f__law_order A.d__law_order ["_law_cell", "_law_many"] (spD K 2 (d__law_order fu)):=by
 have G__law_mix:FnOk P w K mg base (CXx P w) 1 A.f__law_mix A.d__law_mix ["_law_cell", "_law_k"] (spD K 2 (d__law_mix fu)):=zbS fu T
 refine T.F__law_order.okX (k:=1) sc__law_order (fun vs H Q E h=>h.1) (fun cdv Ar outer s H vs Q E hr h=>?_)
 obtain⟨_,F,as,ws,ce,S,rs,Pf⟩:=h
 refine⟨toTS (Gx K) E _,(zah (zat (i:=2) sc__law_order.nd rfl (Or.inl rfl) (zjP zkN rfl rfl T.n_list rfl T.n_range (zaa (zab 1) zaf)))
   (zah (zat (i:=3) sc__law_order.nd rfl (Or.inl rfl) (zb2 zaf))
   (zah (za8 PassesOwn.leaving rfl (zeN rfl T.n_range (zaa (zab 1) zaf)) (zaT (i:=4) sc__law_order.nd rfl (Or.inl rfl))
   (zal (zbC (zdB PySem.F.slot_list_append PySem.F.type_list_append zbo zfw (zab 3) (zaa (zdB PySem.F.slot_list_pop PySem.F.type_list_pop zk2 zp1 (zab 2) (zaa (zbW (zap G__law_mix (hr.mono (by decide)) rfl T.g__law_mix T.F__law_mix.kp T.b__law_mix (flies_cxOf.passes rfl) (zaa (zab 0) (zaa (zbF zak (zab 4)) zaf))) (zaJ (zcq rfl) (zcr K) rfl T.n_len PySem.boot_len (zaa (zab 2) zaf))) zaf)) zaf)))))
   (zal (zaC (zab 3)))))),?_⟩
 exact zaB (G:=Gx K) (E:=E) zek ["_law_cell", "_law_many", "_law_left", "_law_found", "_law_k"] S rs Pf
set_option maxHeartbeats 0 in
theorem zc6(fu:Nat)(T:Txt K mg A):FnOk P w K mg base (CXx P w) 1 A.f__law_named_board A.d__law_named_board ["_law_board_here", "_law_order_here"] (spD K 2 (d__law_named_board fu)):=by
 refine T.F__law_named_board.okX (k:=0) sc__law_named_board (fun vs H Q E h=>h.1) (fun cdv Ar outer s H vs Q E hr h=>?_)
 obtain⟨_,F,as,ws,ce,S,rs,Pf⟩:=h
 refine⟨toTS (Gx K) E _,(zah (zat (i:=2) sc__law_named_board.nd rfl (Or.inl rfl) (zg9 zkN (zaa (zaQ zaf) zaf) (zaJ (zcq rfl) (zcr K) rfl T.n_len PySem.boot_len (zaa (zab 0) zaf))))
   (zah (za8 PassesOwn.leaving rfl (zeN rfl T.n_range (zaa (zaJ (zcq rfl) (zcr K) rfl T.n_len PySem.boot_len (zaa (zab 0) zaf)) zaf)) (zaT (i:=3) sc__law_named_board.nd rfl (Or.inl rfl))
   (zal (zej (za9 (zdN K) (zcw K) rfl T.n_tuple PyProof.Rows.boot_tuple (zaa (zaJ (zjN rfl rfl) (zjO K zf4) rfl T.n_sorted PyProof.Rows.boot_sorted (zaa (zgt zf4 (zcV (N:=["_law_board_here", "_law_order_here", "_law_found", "_law_point"]) (psc:=zai zaL) (js:=[1]) (N':=["_law_other", "_law_order_here"]) (by decide +kernel)) rfl rfl (znv (zaD (zab 0) (zab 3) (fun _ _=>rfl))) (fun _ _ _ _=>zcL) (fun _ _ _ _=>(zaD (zab 1) (zab 0) (fun _ _=>rfl)))) zaf)) zaf)) (zdA (E:=E0) (zab 2) (zaD (zab 1) (zab 3) (fun _ _=>rfl))))))
   (zal (zaC (za9 (zdN K) (zcw K) rfl T.n_tuple PyProof.Rows.boot_tuple (zaa (zab 2) zaf)))))),?_⟩
 exact zaB (G:=Gx K) (E:=E) zcg ["_law_board_here", "_law_order_here", "_law_found", "_law_point"] S rs Pf
set_option maxHeartbeats 0 in
theorem zc7(fu:Nat)(T:Txt K mg A):FnOk P w K mg base (CXx P w) 1 A.f__law_named_stand A.d__law_named_stand ["_law_stand_here", "_law_order_here", "_law_turned"] (spD K 3 (d__law_named_stand fu)):=by
 refine T.F__law_named_stand.okX (k:=0) sc__law_named_stand (fun vs H Q E h=>h.1) (fun cdv Ar outer s H vs Q E hr h=>?_)
 obtain⟨_,F,as,ws,ce,S,rs,Pf⟩:=h
 refine⟨toTS (Gx K) E _,(zah (zat (i:=3) sc__law_named_stand.nd rfl (Or.inl rfl) (zg9 zkN (zaa zak zaf) (zaJ (zcq rfl) (zcr K) rfl T.n_len PySem.boot_len (zaa (zab 0) zaf))))
   (zah (za8 PassesOwn.leaving rfl (zeN rfl T.n_range (zaa (zaJ (zcq rfl) (zcr K) rfl T.n_len PySem.boot_len (zaa (zab 0) zaf)) zaf)) (zaT (i:=4) sc__law_named_stand.nd rfl (Or.inl rfl))
   (zah (zej (zaD (zab 0) (zab 4) (fun _ _=>rfl)) (zdA (E:=E0) (zab 3) (zaD (zab 1) (zab 4) (fun _ _=>rfl))))
   (zal (zbr (PW.pt (ze5 (zhC (zab 2)) (zdy (zjQ (zaD (zab 0) (zab 4) (fun _ _=>rfl)) zak)))) (zal (zej (ze4 zak (zaD (zab 0) (zab 4) (fun _ _=>rfl))) (zdA (E:=E0) (zab 3) (zaD (zab 1) (zab 4) (fun _ _=>rfl))))) zaM))))
   (zal (zaC (za9 (zdN K) (zcw K) rfl T.n_tuple PyProof.Rows.boot_tuple (zaa (zab 3) zaf)))))),?_⟩
 exact zaB (G:=Gx K) (E:=E) zcg ["_law_stand_here", "_law_order_here", "_law_turned", "_law_found", "_law_point"] S rs Pf
set_option maxHeartbeats 0 in
theorem zfT(fu:Nat)(T:Txt K mg A):FnOk P w K mg base (CXx P w) 20 A.f__law_words A.d__law_words ["_law_board_here", "_law_stand_here", "_law_point"] (spD K 3 (d__law_words fu)):=by
 have G_chase:FnOk P w K mg base (CXx P w) 19 A.f_chase A.d_chase ["board", "stand", "hunter", "point", "most"] (spD K 5 (d_chase fu)):=zlH fu T
 refine T.F__law_words.okX (k:=19) zfN (fun vs H Q E h=>h.1) (fun cdv Ar outer s H vs Q E hr h=>?_)
 obtain⟨_,F,as,ws,ce,S,rs,Pf⟩:=h
 refine⟨toTS (Gx K) E _,(zal (zaC (zgt zf4 (zcV (N:=["_law_board_here", "_law_stand_here", "_law_point"]) (psc:=zai zbb) (js:=[0,1,2]) (N':=["_law_most", "_law_board_here", "_law_stand_here", "_law_point"]) (by decide +kernel)) rfl rfl (zry rfl T.n_range (zaa zak (zaa zak zaf))) (fun _ _ _ _=>zcL) (fun _ _ _ _=>(zpY (zaD (zap G_chase (hr.mono (by decide)) rfl T.g_chase T.F_chase.kp T.b_chase zkf (zaa (zab 1) (zaa (zab 2) (zaa (ze4 zak (zaD (zab 2) (zab 3) (fun _ _=>rfl))) (zaa (zab 3) (zaa (zab 0) zaf)))))) zak (fun _ _=>rfl))))))),?_⟩
 exact zaB (G:=Gx K) (E:=E) zcg ["_law_board_here", "_law_stand_here", "_law_point"] S rs Pf
set_option maxHeartbeats 0 in
theorem zp6(fu:Nat)(T:Txt K mg A):FnOk P w K mg base (CXx P w) 21 A.f_law A.d_law ["_law_script"] (spD K 1 (d_law fu)):=by
 have G__law_board:FnOk P w K mg base (CXx P w) 2 A.f__law_board A.d__law_board ["_law_cell", "_law_most"] (spD K 2 (d__law_board fu)):=zfQ fu T
 have G__law_stand:FnOk P w K mg base (CXx P w) 3 A.f__law_stand A.d__law_stand ["_law_script", "_law_at", "_law_board_here"] (spD K 3 (d__law_stand fu)):=zfR fu T
 have G__law_target:FnOk P w K mg base (CXx P w) 2 A.f__law_target A.d__law_target ["_law_board_here", "_law_stand_here", "_law_cell"] (spD K 3 (d__law_target fu)):=zeV fu T
 have G__law_cell_at:FnOk P w K mg base (CXx P w) 1 A.f__law_cell_at A.d__law_cell_at ["_law_script", "_law_k"] (spD K 2 (d__law_cell_at fu)):=zcG fu T
 have G__law_order:FnOk P w K mg base (CXx P w) 2 A.f__law_order A.d__law_order ["_law_cell", "_law_many"] (spD K 2 (d__law_order fu)):=zfS fu T
 have G__law_words:FnOk P w K mg base (CXx P w) 20 A.f__law_words A.d__law_words ["_law_board_here", "_law_stand_here", "_law_point"] (spD K 3 (d__law_words fu)):=zfT fu T
 have G__law_named_board:FnOk P w K mg base (CXx P w) 1 A.f__law_named_board A.d__law_named_board ["_law_board_here", "_law_order_here"] (spD K 2 (d__law_named_board fu)):=zc6 fu T
 have G__law_named_stand:FnOk P w K mg base (CXx P w) 1 A.f__law_named_stand A.d__law_named_stand ["_law_stand_here", "_law_order_here", "_law_turned"] (spD K 3 (d__law_named_stand fu)):=zc7 fu T
 have G__law_mix:FnOk P w K mg base (CXx P w) 1 A.f__law_mix A.d__law_mix ["_law_cell", "_law_k"] (spD K 2 (d__law_mix fu)):=zbS fu T
 refine T.F_law.okX (k:=20) sc_law (fun vs H Q E h=>h.1) (fun cdv Ar outer s H vs Q E hr h=>?_)
 obtain⟨_,F,as,ws,ce,S,rs,Pf⟩:=h
 refine⟨toTS (Gx K) E _,(zah (zat (i:=1) sc_law.nd rfl (Or.inl rfl) (zap G__law_board (hr.mono (by decide)) rfl T.g__law_board T.F__law_board.kp T.b__law_board (flies_cxOf.passes rfl) (zaa (zap G__law_cell_at (hr.mono (by decide)) rfl T.g__law_cell_at T.F__law_cell_at.kp T.b__law_cell_at (flies_cxOf.passes rfl) (zaa (zab 0) (zaa zak zaf))) (zaa zak zaf))))
   (zah (zat (i:=2) sc_law.nd rfl (Or.inl rfl) (zap G__law_stand (hr.mono (by decide)) rfl T.g__law_stand T.F__law_stand.kp T.b__law_stand (flies_cxOf.passes rfl) (zaa (zab 0) (zaa zak (zaa (zab 1) zaf)))))
   (zah (zat (i:=3) sc_law.nd rfl (Or.inl rfl) (zap G__law_target (hr.mono (by decide)) rfl T.g__law_target T.F__law_target.kp T.b__law_target (flies_cxOf.passes rfl) (zaa (zab 1) (zaa (zab 2) (zaa (zap G__law_cell_at (hr.mono (by decide)) rfl T.g__law_cell_at T.F__law_cell_at.kp T.b__law_cell_at (flies_cxOf.passes rfl) (zaa (zab 0) (zaa zak zaf))) zaf)))))
   (zah (zbr (zpa (zab 3)) (zal (zaC zg1)) zaM)
   (zah (zat (i:=4) sc_law.nd rfl (Or.inl rfl) (zap G__law_cell_at (hr.mono (by decide)) rfl T.g__law_cell_at T.F__law_cell_at.kp T.b__law_cell_at (flies_cxOf.passes rfl) (zaa (zab 0) (zaa zak zaf))))
   (zah (zat (i:=5) sc_law.nd rfl (Or.inl rfl) (zap (zbs G__law_order) (hr.mono (by decide)) rfl T.g__law_order T.F__law_order.kp T.b__law_order (flies_cxOf.passes rfl) (zaa (zab 4) (zaa (zaJ (zcq rfl) (zcr K) rfl T.n_len PySem.boot_len (zaa (zab 1) zaf)) zaf))))
   (zah (zat (i:=6) sc_law.nd rfl (Or.inl rfl) (zhP (zbW (zap G__law_mix (hr.mono (by decide)) rfl T.g__law_mix T.F__law_mix.kp T.b__law_mix (flies_cxOf.passes rfl) (zaa (zab 4) (zaa zak zaf))) zak) zak))
   (zah (zat (i:=7) sc_law.nd rfl (Or.inl rfl) (zaQ (zaa (zab 1) (zaa (zab 2) zaf))))
   (zah (zat (i:=8) sc_law.nd rfl (Or.inl rfl) (zap G__law_words (hr.mono (by decide)) rfl T.g__law_words T.F__law_words.kp T.b__law_words (flies_cxOf.passes rfl) (zaa (zab 1) (zaa (zab 2) (zaa (zab 3) zaf)))))
   (zah (zat (i:=9) sc_law.nd rfl (Or.inl rfl) (zap G__law_named_board (hr.mono (by decide)) rfl T.g__law_named_board T.F__law_named_board.kp T.b__law_named_board (flies_cxOf.passes rfl) (zaa (zab 1) (zaa (zab 5) zaf))))
   (zah (zat (i:=10) sc_law.nd rfl (Or.inl rfl) (zap G__law_named_stand (hr.mono (by decide)) rfl T.g__law_named_stand T.F__law_named_stand.kp T.b__law_named_stand (flies_cxOf.passes rfl) (zaa (zab 2) (zaa (zab 5) (zaa (zab 6) zaf)))))
   (zah (zbr (PW.pt (znq (zjE (hr.cmp 8) (zab 8) (zap G__law_words (hr.mono (by decide)) rfl T.g__law_words T.F__law_words.kp T.b__law_words (flies_cxOf.passes rfl) (zaa (zab 9) (zaa (zab 10) (zaa (zaD (zab 5) (zab 3) (fun _ _=>rfl)) zaf))))) (zjF (zjE (hr.cmp 8) (zab 7) (zaQ (zaa (zab 1) (zaa (zab 2) zaf))))))) (zal (zaC zg1)) zaM)
   (zah (za8 PassesOwn.leaving rfl (zeN rfl T.n_range (zaa zak zaf)) (zaT (i:=11) sc_law.nd rfl (Or.inl rfl))
   (zal (zbr (PW.pt (znq (zd2 (hr.cmp 9) (zaD (zab 8) (zab 11) (fun _ _=>rfl)) (zaQ (zaa zbL (zaa zbL zaf))) (by with_unfolding_all rfl)) (zjF (PW.pt (ze5 (zeh (hr.cmp 8) (zaD (zab 8) (zab 11) (fun _ _=>rfl)) zbL) (zdy (zjE (hr.cmp 8) (zaD (zab 8) (zbF (zab 11) zak) (fun _ _=>rfl)) zbL))))))) (zal (zaC zg1)) zaM)))
   (zal (zaC (zrq (hr.cmp 9) (zaD (zab 8) zak (fun _ _=>rfl)) (zaQ (zaa zbL (zaa zbL zaf))) (by with_unfolding_all rfl))))))))))))))))),?_⟩
 exact zaB (G:=Gx K) (E:=E) zcg ["_law_script", "_law_board_here", "_law_stand_here", "_law_point", "_law_cell", "_law_order_here", "_law_turned", "_law_kept", "_law_words_here", "_law_other", "_law_beyond", "_law_k"] S rs Pf
end
set_option maxHeartbeats 0 in
theorem all_mk{K:PySem.W.Frag}{h:Heap}{mg:Str->Option Value}{fa:Addr}(X:K.In h)(G:h.Ns mainGlobals mg)(hfa:mg "law" = some (.ref fa)){f0:Addr}{od0 an0:Option Addr}{sl0:Array (Option Value)}{oc0 kV0 dc0 pm0 cd0 ct0:Value}{f1:Addr}{od1 an1:Option Addr}{sl1:Array (Option Value)}{oc1 kV1 dc1 pm1 cd1 ct1:Value}{f2:Addr}{od2 an2:Option Addr}{sl2:Array (Option Value)}{oc2 kV2 dc2 pm2 cd2 ct2:Value}{f3:Addr}{od3 an3:Option Addr}{sl3:Array (Option Value)}{oc3 kV3 dc3 pm3 cd3 ct3:Value}{f4:Addr}{od4 an4:Option Addr}{sl4:Array (Option Value)}{oc4 kV4 dc4 pm4 cd4 ct4:Value}{f5:Addr}{od5 an5:Option Addr}{sl5:Array (Option Value)}{oc5 kV5 dc5 pm5 cd5 ct5:Value}{f6:Addr}{od6 an6:Option Addr}{sl6:Array (Option Value)}{oc6 kV6 dc6 pm6 cd6 ct6:Value}{f7:Addr}{od7 an7:Option Addr}{sl7:Array (Option Value)}{oc7 kV7 dc7 pm7 cd7 ct7:Value}{f8:Addr}{od8 an8:Option Addr}{sl8:Array (Option Value)}{oc8 kV8 dc8 pm8 cd8 ct8:Value}{f9:Addr}{od9 an9:Option Addr}{sl9:Array (Option Value)}{oc9 kV9 dc9 pm9 cd9 ct9:Value}{f10:Addr}{od10 an10:Option Addr}{sl10:Array (Option Value)}{oc10 kV10 dc10 pm10 cd10 ct10:Value}{f11:Addr}{od11 an11:Option Addr}{sl11:Array (Option Value)}{oc11 kV11 dc11 pm11 cd11 ct11:Value}{f12:Addr}{od12 an12:Option Addr}{sl12:Array (Option Value)}{oc12 kV12 dc12 pm12 cd12 ct12:Value}{f13:Addr}{od13 an13:Option Addr}{sl13:Array (Option Value)}{oc13 kV13 dc13 pm13 cd13 ct13:Value}{f14:Addr}{od14 an14:Option Addr}{sl14:Array (Option Value)}{oc14 kV14 dc14 pm14 cd14 ct14:Value}{f15:Addr}{od15 an15:Option Addr}{sl15:Array (Option Value)}{oc15 kV15 dc15 pm15 cd15 ct15:Value}{f16:Addr}{od16 an16:Option Addr}{sl16:Array (Option Value)}{oc16 kV16 dc16 pm16 cd16 ct16:Value}{f17:Addr}{od17 an17:Option Addr}{sl17:Array (Option Value)}{oc17 kV17 dc17 pm17 cd17 ct17:Value}{f18:Addr}{od18 an18:Option Addr}{sl18:Array (Option Value)}{oc18 kV18 dc18 pm18 cd18 ct18:Value}{f19:Addr}{od19 an19:Option Addr}{sl19:Array (Option Value)}{oc19 kV19 dc19 pm19 cd19 ct19:Value}{f20:Addr}{od20 an20:Option Addr}{sl20:Array (Option Value)}{oc20 kV20 dc20 pm20 cd20 ct20:Value}{f21:Addr}{od21 an21:Option Addr}{sl21:Array (Option Value)}{oc21 kV21 dc21 pm21 cd21 ct21:Value}{f22:Addr}{od22 an22:Option Addr}{sl22:Array (Option Value)}{oc22 kV22 dc22 pm22 cd22 ct22:Value}{f23:Addr}{od23 an23:Option Addr}{sl23:Array (Option Value)}{oc23 kV23 dc23 pm23 cd23 ct23:Value}{f24:Addr}{od24 an24:Option Addr}{sl24:Array (Option Value)}{oc24 kV24 dc24 pm24 cd24 ct24:Value}{f25:Addr}{od25 an25:Option Addr}{sl25:Array (Option Value)}{oc25 kV25 dc25 pm25 cd25 ct25:Value}{f26:Addr}{od26 an26:Option Addr}{sl26:Array (Option Value)}{oc26 kV26 dc26 pm26 cd26 ct26:Value}{f27:Addr}{od27 an27:Option Addr}{sl27:Array (Option Value)}{oc27 kV27 dc27 pm27 cd27 ct27:Value}{f28:Addr}{od28 an28:Option Addr}{sl28:Array (Option Value)}{oc28 kV28 dc28 pm28 cd28 ct28:Value}{f29:Addr}{od29 an29:Option Addr}{sl29:Array (Option Value)}{oc29 kV29 dc29 pm29 cd29 ct29:Value}{f30:Addr}{od30 an30:Option Addr}{sl30:Array (Option Value)}{oc30 kV30 dc30 pm30 cd30 ct30:Value}{f31:Addr}{od31 an31:Option Addr}{sl31:Array (Option Value)}{oc31 kV31 dc31 pm31 cd31 ct31:Value}{f32:Addr}{od32 an32:Option Addr}{sl32:Array (Option Value)}{oc32 kV32 dc32 pm32 cd32 ct32:Value}{C_Chase:Addr}(ac_Chase:PySem.W.nsIn K mainGlobals "Chase" = some (some (.ref C_Chase)))(pg_Chase:PySem.W.plainGet K C_Chase Str.empty=true)(hd_Chase:PySem.W.hasDictIn K C_Chase=true)(po_Chase:PySem.W.plainOver K C_Chase=true)(sa_Chase:PySem.W.findIn K (.ref C_Chase) "__setattr__" = some (some (.builtin "object.__setattr__")))(mi_Chase:PySem.W.makesIn K C_Chase=true)(kc_Chase:PySem.W.keepIn K (.ref C_Chase)=true)(na_Chase_hunter:PySem.W.findIn K (.ref C_Chase) "hunter" = some none)(na_Chase_joined:PySem.W.findIn K (.ref C_Chase) "joined" = some none)(na_Chase_most:PySem.W.findIn K (.ref C_Chase) "most" = some none)(na_Chase_runner:PySem.W.findIn K (.ref C_Chase) "runner" = some none)(na_Chase_stone:PySem.W.findIn K (.ref C_Chase) "stone" = some none)(a0:PySem.W.nsIn K mainGlobals "other_hand" = some (some (.ref f0)))(l0:K.lookup f0=some ⟨oc0,od0,.func (PySem.W.fnOf "other_hand" "other_hand" (zaw zbj) (zau zbj) (zai zbj) .none kV0 dc0 pm0 an0 cd0 ct0),sl0⟩)(c0:PySem.W.codeIn K cd0 "other_hand" = true)(k0:PySem.W.keepIn K (.ref f0)=true)(a1:PySem.W.nsIn K mainGlobals "patch_of" = some (some (.ref f1)))(l1:K.lookup f1=some ⟨oc1,od1,.func (PySem.W.fnOf "patch_of" "patch_of" (zaw zbJ) (zau zbJ) (zai zbJ) .none kV1 dc1 pm1 an1 cd1 ct1),sl1⟩)(c1:PySem.W.codeIn K cd1 "patch_of" = true)(k1:PySem.W.keepIn K (.ref f1)=true)(a2:PySem.W.nsIn K mainGlobals "patches" = some (some (.ref f2)))(l2:K.lookup f2=some ⟨oc2,od2,.func (PySem.W.fnOf "patches" "patches" (zaw zb9) (zau zb9) (zai zb9) .none kV2 dc2 pm2 an2 cd2 ct2),sl2⟩)(c2:PySem.W.codeIn K cd2 "patches" = true)(k2:PySem.W.keepIn K (.ref f2)=true)(a3:PySem.W.nsIn K mainGlobals "patch" = some (some (.ref f3)))(l3:K.lookup f3=some ⟨oc3,od3,.func (PySem.W.fnOf "patch" "patch" (zaw zdG) (zau zdG) (zai zdG) .none kV3 dc3 pm3 an3 cd3 ct3),sl3⟩)(c3:PySem.W.codeIn K cd3 "patch" = true)(k3:PySem.W.keepIn K (.ref f3)=true)(a4:PySem.W.nsIn K mainGlobals "rows" = some (some (.ref f4)))(l4:K.lookup f4=some ⟨oc4,od4,.func (PySem.W.fnOf "rows" "rows" (zaw zew) (zau zew) (zai zew) .none kV4 dc4 pm4 an4 cd4 ct4),sl4⟩)(c4:PySem.W.codeIn K cd4 "rows" = true)(k4:PySem.W.keepIn K (.ref f4)=true)(a5:PySem.W.nsIn K mainGlobals "breaths" = some (some (.ref f5)))(l5:K.lookup f5=some ⟨oc5,od5,.func (PySem.W.fnOf "breaths" "breaths" (zaw zbR) (zau zbR) (zai zbR) .none kV5 dc5 pm5 an5 cd5 ct5),sl5⟩)(c5:PySem.W.codeIn K cd5 "breaths" = true)(k5:PySem.W.keepIn K (.ref f5)=true)(a6:PySem.W.nsIn K mainGlobals "points_beside" = some (some (.ref f6)))(l6:K.lookup f6=some ⟨oc6,od6,.func (PySem.W.fnOf "points_beside" "points_beside" (zaw za0) (zau za0) (zai za0) .none kV6 dc6 pm6 an6 cd6 ct6),sl6⟩)(c6:PySem.W.codeIn K cd6 "points_beside" = true)(k6:PySem.W.keepIn K (.ref f6)=true)(a7:PySem.W.nsIn K mainGlobals "laid" = some (some (.ref f7)))(l7:K.lookup f7=some ⟨oc7,od7,.func (PySem.W.fnOf "laid" "laid" (zaw zff) (zau zff) (zai zff) .none kV7 dc7 pm7 an7 cd7 ct7),sl7⟩)(c7:PySem.W.codeIn K cd7 "laid" = true)(k7:PySem.W.keepIn K (.ref f7)=true)(a8:PySem.W.nsIn K mainGlobals "lays_on" = some (some (.ref f8)))(l8:K.lookup f8=some ⟨oc8,od8,.func (PySem.W.fnOf "lays_on" "lays_on" (zaw zca) (zau zca) (zai zca) .none kV8 dc8 pm8 an8 cd8 ct8),sl8⟩)(c8:PySem.W.codeIn K cd8 "lays_on" = true)(k8:PySem.W.keepIn K (.ref f8)=true)(a9:PySem.W.nsIn K mainGlobals "new_lays" = some (some (.ref f9)))(l9:K.lookup f9=some ⟨oc9,od9,.func (PySem.W.fnOf "new_lays" "new_lays" (zaw zbu) (zau zbu) (zai zbu) .none kV9 dc9 pm9 an9 cd9 ct9),sl9⟩)(c9:PySem.W.codeIn K cd9 "new_lays" = true)(k9:PySem.W.keepIn K (.ref f9)=true)(a10:PySem.W.nsIn K mainGlobals "steps" = some (some (.ref f10)))(l10:K.lookup f10=some ⟨oc10,od10,.func (PySem.W.fnOf "steps" "steps" (zaw zc3) (zau zc3) (zai zc3) .none kV10 dc10 pm10 an10 cd10 ct10),sl10⟩)(c10:PySem.W.codeIn K cd10 "steps" = true)(k10:PySem.W.keepIn K (.ref f10)=true)(a11:PySem.W.nsIn K mainGlobals "filled" = some (some (.ref f11)))(l11:K.lookup f11=some ⟨oc11,od11,.func (PySem.W.fnOf "filled" "filled" (zaw zcQ) (zau zcQ) (zai zcQ) .none kV11 dc11 pm11 an11 cd11 ct11),sl11⟩)(c11:PySem.W.codeIn K cd11 "filled" = true)(k11:PySem.W.keepIn K (.ref f11)=true)(a12:PySem.W.nsIn K mainGlobals "breathless" = some (some (.ref f12)))(l12:K.lookup f12=some ⟨oc12,od12,.func (PySem.W.fnOf "breathless" "breathless" (zaw zbk) (zau zbk) (zai zbk) .none kV12 dc12 pm12 an12 cd12 ct12),sl12⟩)(c12:PySem.W.codeIn K cd12 "breathless" = true)(k12:PySem.W.keepIn K (.ref f12)=true)(a13:PySem.W.nsIn K mainGlobals "chase" = some (some (.ref f13)))(l13:K.lookup f13=some ⟨oc13,od13,.func (PySem.W.fnOf "chase" "chase" (zaw zdH) (zau zdH) (zai zdH) .none kV13 dc13 pm13 an13 cd13 ct13),sl13⟩)(c13:PySem.W.codeIn K cd13 "chase" = true)(k13:PySem.W.keepIn K (.ref f13)=true)(a14:PySem.W.nsIn K mainGlobals "_law_cell_at" = some (some (.ref f14)))(l14:K.lookup f14=some ⟨oc14,od14,.func (PySem.W.fnOf "_law_cell_at" "_law_cell_at" (zaw za5) (zau za5) (zai za5) .none kV14 dc14 pm14 an14 cd14 ct14),sl14⟩)(c14:PySem.W.codeIn K cd14 "_law_cell_at" = true)(k14:PySem.W.keepIn K (.ref f14)=true)(a15:PySem.W.nsIn K mainGlobals "_law_mix" = some (some (.ref f15)))(l15:K.lookup f15=some ⟨oc15,od15,.func (PySem.W.fnOf "_law_mix" "_law_mix" (zaw zbK) (zau zbK) (zai zbK) .none kV15 dc15 pm15 an15 cd15 ct15),sl15⟩)(c15:PySem.W.codeIn K cd15 "_law_mix" = true)(k15:PySem.W.keepIn K (.ref f15)=true)(a16:PySem.W.nsIn K mainGlobals "_law_board" = some (some (.ref f16)))(l16:K.lookup f16=some ⟨oc16,od16,.func (PySem.W.fnOf "_law_board" "_law_board" (zaw za1) (zau za1) (zai za1) .none kV16 dc16 pm16 an16 cd16 ct16),sl16⟩)(c16:PySem.W.codeIn K cd16 "_law_board" = true)(k16:PySem.W.keepIn K (.ref f16)=true)(a17:PySem.W.nsIn K mainGlobals "_law_patch" = some (some (.ref f17)))(l17:K.lookup f17=some ⟨oc17,od17,.func (PySem.W.fnOf "_law_patch" "_law_patch" (zaw zbl) (zau zbl) (zai zbl) .none kV17 dc17 pm17 an17 cd17 ct17),sl17⟩)(c17:PySem.W.codeIn K cd17 "_law_patch" = true)(k17:PySem.W.keepIn K (.ref f17)=true)(a18:PySem.W.nsIn K mainGlobals "_law_breaths" = some (some (.ref f18)))(l18:K.lookup f18=some ⟨oc18,od18,.func (PySem.W.fnOf "_law_breaths" "_law_breaths" (zaw za6) (zau za6) (zai za6) .none kV18 dc18 pm18 an18 cd18 ct18),sl18⟩)(c18:PySem.W.codeIn K cd18 "_law_breaths" = true)(k18:PySem.W.keepIn K (.ref f18)=true)(a19:PySem.W.nsIn K mainGlobals "_law_laid" = some (some (.ref f19)))(l19:K.lookup f19=some ⟨oc19,od19,.func (PySem.W.fnOf "_law_laid" "_law_laid" (zaw zbv) (zau zbv) (zai zbv) .none kV19 dc19 pm19 an19 cd19 ct19),sl19⟩)(c19:PySem.W.codeIn K cd19 "_law_laid" = true)(k19:PySem.W.keepIn K (.ref f19)=true)(a20:PySem.W.nsIn K mainGlobals "_law_stand" = some (some (.ref f20)))(l20:K.lookup f20=some ⟨oc20,od20,.func (PySem.W.fnOf "_law_stand" "_law_stand" (zaw zba) (zau zba) (zai zba) .none kV20 dc20 pm20 an20 cd20 ct20),sl20⟩)(c20:PySem.W.codeIn K cd20 "_law_stand" = true)(k20:PySem.W.keepIn K (.ref f20)=true)(a21:PySem.W.nsIn K mainGlobals "_law_target" = some (some (.ref f21)))(l21:K.lookup f21=some ⟨oc21,od21,.func (PySem.W.fnOf "_law_target" "_law_target" (zaw zbc) (zau zbc) (zai zbc) .none kV21 dc21 pm21 an21 cd21 ct21),sl21⟩)(c21:PySem.W.codeIn K cd21 "_law_target" = true)(k21:PySem.W.keepIn K (.ref f21)=true)(a22:PySem.W.nsIn K mainGlobals "_law_order" = some (some (.ref f22)))(l22:K.lookup f22=some ⟨oc22,od22,.func (PySem.W.fnOf "_law_order" "_law_order" (zaw zbm) (zau zbm) (zai zbm) .none kV22 dc22 pm22 an22 cd22 ct22),sl22⟩)(c22:PySem.W.codeIn K cd22 "_law_order" = true)(k22:PySem.W.keepIn K (.ref f22)=true)(a23:PySem.W.nsIn K mainGlobals "_law_named_board" = some (some (.ref f23)))(l23:K.lookup f23=some ⟨oc23,od23,.func (PySem.W.fnOf "_law_named_board" "_law_named_board" (zaw zaL) (zau zaL) (zai zaL) .none kV23 dc23 pm23 an23 cd23 ct23),sl23⟩)(c23:PySem.W.codeIn K cd23 "_law_named_board" = true)(k23:PySem.W.keepIn K (.ref f23)=true)(a24:PySem.W.nsIn K mainGlobals "_law_named_stand" = some (some (.ref f24)))(l24:K.lookup f24=some ⟨oc24,od24,.func (PySem.W.fnOf "_law_named_stand" "_law_named_stand" (zaw zaR) (zau zaR) (zai zaR) .none kV24 dc24 pm24 an24 cd24 ct24),sl24⟩)(c24:PySem.W.codeIn K cd24 "_law_named_stand" = true)(k24:PySem.W.keepIn K (.ref f24)=true)(a25:PySem.W.nsIn K mainGlobals "_law_words" = some (some (.ref f25)))(l25:K.lookup f25=some ⟨oc25,od25,.func (PySem.W.fnOf "_law_words" "_law_words" (zaw zbb) (zau zbb) (zai zbb) .none kV25 dc25 pm25 an25 cd25 ct25),sl25⟩)(c25:PySem.W.codeIn K cd25 "_law_words" = true)(k25:PySem.W.keepIn K (.ref f25)=true)(a26:PySem.W.nsIn K mainGlobals "law" = some (some (.ref f26)))(l26:K.lookup f26=some ⟨oc26,od26,.func (PySem.W.fnOf "law" "law" (zaw ziI) (zau ziI) (zai ziI) .none kV26 dc26 pm26 an26 cd26 ct26),sl26⟩)(c26:PySem.W.codeIn K cd26 "law" = true)(k26:PySem.W.keepIn K (.ref f26)=true)(a27:PySem.W.findIn K (.ref C_Chase) "__init__" = some (some (.ref f27)))(fn27:PySem.W.isFn K (.ref f27)=true)(l27:K.lookup f27=some ⟨oc27,od27,.func (PySem.W.fnOf "__init__" "Chase.__init__" (zaw zaW) (zau zaW) (zai zaW) .none kV27 dc27 pm27 an27 cd27 ct27),sl27⟩)(c27:PySem.W.codeIn K cd27 "Chase.__init__" = true)(k27:PySem.W.keepIn K (.ref f27)=true)(a28:PySem.W.findIn K (.ref C_Chase) "hunt" = some (some (.ref f28)))(fn28:PySem.W.isFn K (.ref f28)=true)(l28:K.lookup f28=some ⟨oc28,od28,.func (PySem.W.fnOf "hunt" "Chase.hunt" (zaw zbn) (zau zbn) (zai zbn) .none kV28 dc28 pm28 an28 cd28 ct28),sl28⟩)(c28:PySem.W.codeIn K cd28 "Chase.hunt" = true)(k28:PySem.W.keepIn K (.ref f28)=true)(a29:PySem.W.findIn K (.ref C_Chase) "run" = some (some (.ref f29)))(fn29:PySem.W.isFn K (.ref f29)=true)(l29:K.lookup f29=some ⟨oc29,od29,.func (PySem.W.fnOf "run" "Chase.run" (zaw zbw) (zau zbw) (zai zbw) .none kV29 dc29 pm29 an29 cd29 ct29),sl29⟩)(c29:PySem.W.codeIn K cd29 "Chase.run" = true)(k29:PySem.W.keepIn K (.ref f29)=true)(a30:PySem.W.findIn K (.ref C_Chase) "is_spent" = some (some (.ref f30)))(fn30:PySem.W.isFn K (.ref f30)=true)(l30:K.lookup f30=some ⟨oc30,od30,.func (PySem.W.fnOf "is_spent" "Chase.is_spent" (zaw zaX) (zau zaX) (zai zaX) .none kV30 dc30 pm30 an30 cd30 ct30),sl30⟩)(c30:PySem.W.codeIn K cd30 "Chase.is_spent" = true)(k30:PySem.W.keepIn K (.ref f30)=true)(a31:PySem.W.findIn K (.ref C_Chase) "hunter_lays" = some (some (.ref f31)))(fn31:PySem.W.isFn K (.ref f31)=true)(l31:K.lookup f31=some ⟨oc31,od31,.func (PySem.W.fnOf "hunter_lays" "Chase.hunter_lays" (zaw zaF) (zau zaF) (zai zaF) .none kV31 dc31 pm31 an31 cd31 ct31),sl31⟩)(c31:PySem.W.codeIn K cd31 "Chase.hunter_lays" = true)(k31:PySem.W.keepIn K (.ref f31)=true)(a32:PySem.W.findIn K (.ref C_Chase) "breaths_at" = some (some (.ref f32)))(fn32:PySem.W.isFn K (.ref f32)=true)(l32:K.lookup f32=some ⟨oc32,od32,.func (PySem.W.fnOf "breaths_at" "Chase.breaths_at" (zaw zaS) (zau zaS) (zai zaS) .none kV32 dc32 pm32 an32 cd32 ct32),sl32⟩)(c32:PySem.W.codeIn K cd32 "Chase.breaths_at" = true)(k32:PySem.W.keepIn K (.ref f32)=true){t0:Tok}(q0:PySem.W.nsIn K mainGlobals "MOST_POINTS" = some (some (.int 16 t0)))(z_int:PySem.W.nsIn K mainGlobals "int" = some none)(z_len:PySem.W.nsIn K mainGlobals "len" = some none)(z_list:PySem.W.nsIn K mainGlobals "list" = some none)(z_range:PySem.W.nsIn K mainGlobals "range" = some none)(z_sorted:PySem.W.nsIn K mainGlobals "sorted" = some none)(z_tuple:PySem.W.nsIn K mainGlobals "tuple" = some none)(xt:zrQ K XTB=true)(nl:noL K=true)
  : ∃A:Adr,Txt K mg A/\fa=A.f_law/\∀(s:Shared) (v:Value),BindsTo s A.d_law ⟨[v],[]⟩ [("_law_script",v)]:=by
 have e:=hfa.symm.trans (PySem.W.mg_of X G a26)
 cases e
 have ec_Chase:C_Chase=clOf K "Chase" := by unfold VS.clOf;rw[ac_Chase]
 subst ec_Chase
 have F0:=zaU (st:=zbj) l0 c0 k0
 have b0:=F0.binds (ps:=["hand"]) fun _ _ _ _ _ _ us hl=>VS.us1 (fun _=>rfl) us hl
 have F1:=zaU (st:=zbJ) l1 c1 k1
 have b1:=F1.binds (ps:=["board", "marks", "start"]) fun _ _ _ _ _ _ us hl=>VS.us3 (fun _ _ _=>rfl) us hl
 have F2:=zaU (st:=zb9) l2 c2 k2
 have b2:=F2.binds (ps:=["board", "marks"]) fun _ _ _ _ _ _ us hl=>VS.us2 (fun _ _=>rfl) us hl
 have F3:=zaU (st:=zdG) l3 c3 k3
 have b3:=F3.binds (ps:=["board", "stand", "point"]) fun _ _ _ _ _ _ us hl=>VS.us3 (fun _ _ _=>rfl) us hl
 have F4:=zaU (st:=zew) l4 c4 k4
 have b4:=F4.binds (ps:=["board", "stand"]) fun _ _ _ _ _ _ us hl=>VS.us2 (fun _ _=>rfl) us hl
 have F5:=zaU (st:=zbR) l5 c5 k5
 have b5:=F5.binds (ps:=["board", "stand", "row"]) fun _ _ _ _ _ _ us hl=>VS.us3 (fun _ _ _=>rfl) us hl
 have F6:=zaU (st:=za0) l6 c6 k6
 have b6:=F6.binds (ps:=["board", "points"]) fun _ _ _ _ _ _ us hl=>VS.us2 (fun _ _=>rfl) us hl
 have F7:=zaU (st:=zff) l7 c7 k7
 have b7:=F7.binds (ps:=["board", "stand", "hand", "point"]) fun _ _ _ _ _ _ us hl=>VS.us4 (fun _ _ _ _=>rfl) us hl
 have F8:=zaU (st:=zca) l8 c8 k8
 have b8:=F8.binds (ps:=["board", "stand", "hand", "points"]) fun _ _ _ _ _ _ us hl=>VS.us4 (fun _ _ _ _=>rfl) us hl
 have F9:=zaU (st:=zbu) l9 c9 k9
 have b9:=F9.binds (ps:=["board", "came", "hand", "points"]) fun _ _ _ _ _ _ us hl=>VS.us4 (fun _ _ _ _=>rfl) us hl
 have F10:=zaU (st:=zc3) l10 c10 k10
 have b10:=F10.binds (ps:=["board", "came", "hand"]) fun _ _ _ _ _ _ us hl=>VS.us3 (fun _ _ _=>rfl) us hl
 have F11:=zaU (st:=zcQ) l11 c11 k11
 have b11:=F11.binds (ps:=["stand", "points", "what"]) fun _ _ _ _ _ _ us hl=>VS.us3 (fun _ _ _=>rfl) us hl
 have F12:=zaU (st:=zbk) l12 c12 k12
 have b12:=F12.binds (ps:=["board", "stand", "hand"]) fun _ _ _ _ _ _ us hl=>VS.us3 (fun _ _ _=>rfl) us hl
 have F13:=zaU (st:=zdH) l13 c13 k13
 have b13:=F13.binds (ps:=["board", "stand", "hunter", "point", "most"]) fun _ _ _ _ _ _ us hl=>VS.us5 (fun _ _ _ _ _=>rfl) us hl
 have F14:=zaU (st:=za5) l14 c14 k14
 have b14:=F14.binds (ps:=["_law_script", "_law_k"]) fun _ _ _ _ _ _ us hl=>VS.us2 (fun _ _=>rfl) us hl
 have F15:=zaU (st:=zbK) l15 c15 k15
 have b15:=F15.binds (ps:=["_law_cell", "_law_k"]) fun _ _ _ _ _ _ us hl=>VS.us2 (fun _ _=>rfl) us hl
 have F16:=zaU (st:=za1) l16 c16 k16
 have b16:=F16.binds (ps:=["_law_cell", "_law_most"]) fun _ _ _ _ _ _ us hl=>VS.us2 (fun _ _=>rfl) us hl
 have F17:=zaU (st:=zbl) l17 c17 k17
 have b17:=F17.binds (ps:=["_law_board_here", "_law_stand_here", "_law_point"]) fun _ _ _ _ _ _ us hl=>VS.us3 (fun _ _ _=>rfl) us hl
 have F18:=zaU (st:=za6) l18 c18 k18
 have b18:=F18.binds (ps:=["_law_board_here", "_law_stand_here", "_law_row"]) fun _ _ _ _ _ _ us hl=>VS.us3 (fun _ _ _=>rfl) us hl
 have F19:=zaU (st:=zbv) l19 c19 k19
 have b19:=F19.binds (ps:=["_law_board_here", "_law_stand_here", "_law_hand", "_law_point"]) fun _ _ _ _ _ _ us hl=>VS.us4 (fun _ _ _ _=>rfl) us hl
 have F20:=zaU (st:=zba) l20 c20 k20
 have b20:=F20.binds (ps:=["_law_script", "_law_at", "_law_board_here"]) fun _ _ _ _ _ _ us hl=>VS.us3 (fun _ _ _=>rfl) us hl
 have F21:=zaU (st:=zbc) l21 c21 k21
 have b21:=F21.binds (ps:=["_law_board_here", "_law_stand_here", "_law_cell"]) fun _ _ _ _ _ _ us hl=>VS.us3 (fun _ _ _=>rfl) us hl
 have F22:=zaU (st:=zbm) l22 c22 k22
 have b22:=F22.binds (ps:=["_law_cell", "_law_many"]) fun _ _ _ _ _ _ us hl=>VS.us2 (fun _ _=>rfl) us hl
 have F23:=zaU (st:=zaL) l23 c23 k23
 have b23:=F23.binds (ps:=["_law_board_here", "_law_order_here"]) fun _ _ _ _ _ _ us hl=>VS.us2 (fun _ _=>rfl) us hl
 have F24:=zaU (st:=zaR) l24 c24 k24
 have b24:=F24.binds (ps:=["_law_stand_here", "_law_order_here", "_law_turned"]) fun _ _ _ _ _ _ us hl=>VS.us3 (fun _ _ _=>rfl) us hl
 have F25:=zaU (st:=zbb) l25 c25 k25
 have b25:=F25.binds (ps:=["_law_board_here", "_law_stand_here", "_law_point"]) fun _ _ _ _ _ _ us hl=>VS.us3 (fun _ _ _=>rfl) us hl
 have F26:=zaU (st:=ziI) l26 c26 k26
 have b26:=F26.binds (ps:=["_law_script"]) fun _ _ _ _ _ _ us hl=>VS.us1 (fun _=>rfl) us hl
 have F27:=zaU (st:=zaW) l27 c27 k27
 have b27:=F27.binds (ps:=["self", "board", "hunter", "point", "most"]) fun _ _ _ _ _ _ us hl=>VS.us5 (fun _ _ _ _ _=>rfl) us hl
 have F28:=zaU (st:=zbn) l28 c28 k28
 have b28:=F28.binds (ps:=["self", "came", "deeds"]) fun _ _ _ _ _ _ us hl=>VS.us3 (fun _ _ _=>rfl) us hl
 have F29:=zaU (st:=zbw) l29 c29 k29
 have b29:=F29.binds (ps:=["self", "came", "deeds"]) fun _ _ _ _ _ _ us hl=>VS.us3 (fun _ _ _=>rfl) us hl
 have F30:=zaU (st:=zaX) l30 c30 k30
 have b30:=F30.binds (ps:=["self", "deeds"]) fun _ _ _ _ _ _ us hl=>VS.us2 (fun _ _=>rfl) us hl
 have F31:=zaU (st:=zaF) l31 c31 k31
 have b31:=F31.binds (ps:=["self", "came"]) fun _ _ _ _ _ _ us hl=>VS.us2 (fun _ _=>rfl) us hl
 have F32:=zaU (st:=zaS) l32 c32 k32
 have b32:=F32.binds (ps:=["self", "stand"]) fun _ _ _ _ _ _ us hl=>VS.us2 (fun _ _=>rfl) us hl
 refine⟨⟨_,_,_,_,_,_,_,_,_,_,_,_,_,_,_,_,_,_,_,_,_,_,_,_,_,_,_,_,_,_,_,_,_,_,_,_,_,_,_,_,_,_,_,_,_,_,_,_,_,_,_,_,_,_,_,_,_,_,_,_,_,_,_,_,_,_⟩,⟨PySem.W.mg_of X G a0,F0,b0,PySem.W.mg_of X G a1,F1,b1,PySem.W.mg_of X G a2,F2,b2,PySem.W.mg_of X G a3,F3,b3,PySem.W.mg_of X G a4,F4,b4,PySem.W.mg_of X G a5,F5,b5,PySem.W.mg_of X G a6,F6,b6,PySem.W.mg_of X G a7,F7,b7,PySem.W.mg_of X G a8,F8,b8,PySem.W.mg_of X G a9,F9,b9,PySem.W.mg_of X G a10,F10,b10,PySem.W.mg_of X G a11,F11,b11,PySem.W.mg_of X G a12,F12,b12,PySem.W.mg_of X G a13,F13,b13,PySem.W.mg_of X G a14,F14,b14,PySem.W.mg_of X G a15,F15,b15,PySem.W.mg_of X G a16,F16,b16,PySem.W.mg_of X G a17,F17,b17,PySem.W.mg_of X G a18,F18,b18,PySem.W.mg_of X G a19,F19,b19,PySem.W.mg_of X G a20,F20,b20,PySem.W.mg_of X G a21,F21,b21,PySem.W.mg_of X G a22,F22,b22,PySem.W.mg_of X G a23,F23,b23,PySem.W.mg_of X G a24,F24,b24,PySem.W.mg_of X G a25,F25,b25,PySem.W.mg_of X G a26,F26,b26,⟨a27,fn27,k27⟩,F27,b27,⟨a28,fn28,k28⟩,F28,b28,⟨a29,fn29,k29⟩,F29,b29,⟨a30,fn30,k30⟩,F30,b30,⟨a31,fn31,k31⟩,F31,b31,⟨a32,fn32,k32⟩,F32,b32,⟨pg_Chase,hd_Chase,po_Chase,sa_Chase⟩,⟨mi_Chase,a27,fn27,kc_Chase⟩,PySem.W.mg_of X G ac_Chase,na_Chase_hunter,na_Chase_joined,na_Chase_most,na_Chase_runner,na_Chase_stone,⟨_,PySem.W.mg_of X G q0⟩,PySem.W.mg_none_of X G z_int,PySem.W.mg_none_of X G z_len,PySem.W.mg_none_of X G z_list,PySem.W.mg_none_of X G z_range,PySem.W.mg_none_of X G z_sorted,PySem.W.mg_none_of X G z_tuple,zrR X G xt,nl⟩,rfl,fun s v=>.of_eq rfl⟩
end K39
namespace K39
open L2 VS
def FU:Nat:=1000
local macro_rules|`(tactic| trivial)=>`(tactic| repeat' (first
 | with_reducible (refine zam (by repeat (first|exact SetAt.zero|apply SetAt.succ)) ?_)
 | with_reducible (refine id (α:=_=some (R.ok _ _)) ?_;assumption)
 | (with_reducible apply zad);rfl
 | with_reducible exact zaN
 | with_reducible apply zaq
 | with_reducible apply zhZ
 | with_reducible apply zaK
 | with_reducible apply zcO
 | with_reducible apply zav
 | with_reducible apply zac
 | with_reducible exact zaj
 | with_reducible apply zbe
 | with_reducible apply zep
 | with_reducible apply zhS
 | with_reducible apply zhd
 | with_reducible exact ev_yes
 | with_reducible apply zpL
 | with_reducible apply zlm
 | with_reducible apply zj3
 | with_reducible exact eqI0
 | with_reducible exact eqE0
 | with_reducible exact eqE1
 | with_reducible exact zlp
 | with_reducible exact eqEN1
 | with_reducible exact zs6
 | with_reducible exact inS0
 | with_reducible exact inS1
 | with_reducible exact inSL0
 | with_reducible exact inSL1
 | with_reducible exact inL0
 | with_reducible exact inL1
 | with_reducible (apply inC0;assumption)
 | with_reducible (apply zso;assumption)
 | with_reducible (apply dinC0;assumption)
 | with_reducible (apply zrN;assumption)
 | ((with_reducible apply zpP);trivial;done)
 | with_reducible apply zqy
 | with_reducible apply zsn
 | with_reducible apply zqx
 | with_reducible apply lcF
 | with_reducible apply zsm
 | with_reducible apply lcC
 | with_reducible apply zeQ
 | with_reducible apply zgD
 | with_reducible apply zer
 | with_reducible apply znF
 | with_reducible apply zj7
 | with_reducible apply SrcFix.is
 | with_reducible (refine id (α:=LstOf _ _ _) ?_;first|assumption|exact .fr _|exact .cl (by assumption))
 | with_reducible apply zfC
 | with_reducible apply zpK
 | with_reducible apply zcx
 | with_reducible apply zbO
 | with_reducible apply zbd
 | with_reducible apply zls
 | with_reducible exact lf_isB0
 | with_reducible exact lf_isB1
 | with_reducible exact eqB0
 | with_reducible exact eqB1
 | with_reducible exact isiB
 | with_reducible exact lf_all
 | with_reducible (apply znI;assumption)
 | with_reducible exact znC
 | with_reducible apply zgB
 | with_reducible apply zj2
 | with_reducible apply ev_ifE
 | with_reducible apply zpN
 | with_reducible apply zen
 | with_reducible apply zas
 | with_reducible apply zeo
 | with_reducible apply zbp
 | with_reducible apply zb7
 | with_reducible apply zar
 | with_reducible apply zms
 | with_reducible apply znD
 | with_reducible apply zbg
 | with_reducible apply seq_seq
 | with_reducible apply zaY
 | with_reducible apply zbN
 | with_reducible (refine id (α:=_=_) ?_;assumption)
 | (refine id (α:=(_:Nat)<_) ?_;first|assumption|omega)
 | (refine id (α:=(_:Nat)<=_) ?_;first|assumption|omega|decide|(simp only[List.length_cons,List.length_nil];decide))
 | with_reducible (apply zhT;first|assumption|omega)
 | with_reducible (apply zbZ;first|assumption|omega)
 | with_reducible (apply zdO;first|assumption|omega)
 | with_reducible (apply zmt;assumption;first|assumption|omega)
 | with_reducible (apply zb6;assumption)
 | with_reducible (apply zgC;assumption;first|assumption|omega)
 | with_reducible (apply lf_sortCF;assumption;first|assumption|omega)
 | with_reducible (apply tupCN;assumption;first|assumption|omega)
 | with_reducible (apply tupCB;assumption;first|assumption|omega)
 | with_reducible (apply zlq;assumption;first|assumption|omega)
 | with_reducible (apply tupLN;first|assumption|omega)
 | with_reducible (apply zpR;first|assumption|omega)
 | with_reducible (apply zpS;first|assumption|omega)
 | ((with_reducible apply zbt);rfl;rfl;first|assumption|exact mul_small (.inr (by omega))|exact mul_small (.inl (by omega)))
 | with_reducible (apply lf_listL;first|assumption|omega)
 | with_reducible (apply lf_sortS;first|assumption|omega)
 | with_reducible exact eqLL0
 | with_reducible exact eqLL1
 | with_reducible (apply eqLC1;assumption)
 | with_reducible (apply eqSC1;assumption)
 | with_reducible exact zci
 | with_reducible exact zhe
 | with_reducible exact zfD
 | with_reducible (apply zj4;assumption)
 | intro _
 | ((with_reducible apply zcz)<;>rfl)
 | ((with_reducible apply zhf)<;>rfl)
 | ((with_reducible apply zgE)<;>rfl)
 | ((with_reducible apply lf_fLe)<;>rfl)
 | ((with_reducible apply zmv)<;>rfl)
 | ((with_reducible apply lf_fGe)<;>rfl)
 | ((with_reducible apply zcj)<;>rfl)
 | ((with_reducible apply zfF)<;>rfl)
 | ((with_reducible apply lf_fNeg);rfl)
 | ((with_reducible apply zpQ);rfl)
 | with_reducible exact isiN
 | with_reducible exact isiNB
 | with_reducible exact isiI
 | with_reducible exact isiIB
 | ((with_reducible apply lf_min)<;>rfl)
 | ((with_reducible apply lf_max)<;>rfl)
 | ((with_reducible apply zfG);rfl;rfl;omega)
 | ((with_reducible apply zj9);rfl;rfl;omega)
 | (refine id (α:=(_:Nat)=_) ?_;rfl)
 | with_reducible rfl))
def rC(r:List Nat):C:=.lst (r.map nW)
def upR(rows:List (List Nat))(p q:Nat):List (List Nat):=rows.set p (rows.getD p []++[q])
def zmC(rows:List (List Nat))(p q:Nat):List (List Nat):=upR (upR rows p q) q p
theorem zhm(rows:List (List Nat))(p q:Nat):(upR rows p q).length=rows.length:=by simp[upR]
theorem zh2(rows:List (List Nat))(p q:Nat):(zmC rows p q).length=rows.length:=by simp[zmC,zhm]
theorem zdM{rows:List (List Nat)}{p:Nat}(hp:p<rows.length)(q i:Nat):(upR rows p q).getD i []=if i=p then rows.getD p []++[q] else rows.getD i []:=by
 unfold upR
 simp only[List.getD_eq_getElem?_getD]
 by_cases h:i=p
 ·subst h;simp[hp]
 ·rw[List.getElem?_set_ne (Ne.symm h)];simp[h]
structure Rows (n:Nat) (rows:List (List Nat)):Prop where
 len:rows.length=n
 bd:∀i j,j∈rows.getD i []->j<n
 sym:∀i j,j∈rows.getD i []->i∈rows.getD j []
section
variable {ce:Ce} {n mS:Nat} {rows:List (List Nat)} {gs:Ce}
abbrev zgT(ce:Ce)(n:Nat):W:=.lst ((List.range n).map fun i=>W.cel (ce.length+i))
abbrev bC(ce:Ce)(rows:List (List Nat))(gs:Ce):Ce:=ce++(rows.map rC++gs)
theorem zmD{p:Nat}(hp:p<rows.length):(bC ce rows gs)[ce.length+p]?=some (rC (rows.getD p [])):=by
 rw[zqw,List.getElem?_append_left (by simpa using hp),List.getElem?_map,List.getD_eq_getElem?_getD]
 simp[hp]
theorem zp7{p q:Nat}(hp:p<rows.length):(bC ce rows gs).set (ce.length+p) (.lst ((rows.getD p []).map nW++[nW q]))=bC ce (upR rows p q) gs:=by
 rw[zr4,List.set_append_left _ _ (by simpa using hp)]
 show _=ce++((rows.set p (rows.getD p []++[q])).map rC++gs)
 rw[List.map_set]
 have e:C.lst ((rows.getD p []).map nW++[nW q])=rC (rows.getD p []++[q]):=by simp only[rC,List.map_append,List.map_cons,List.map_nil]
 rw[e]
theorem zp8(c:Ce){p:Nat}(hp:p<n):ixW c (zgT ce n) (nW p)=some (W.cel (ce.length+p)):=by
 rw[zfA (xs:=(List.range n).map fun i=>W.cel (ce.length+i)) rfl,List.getElem?_map]
 simp[hp]
theorem ap1{sl:Sl}{a b p q:Nat}(h4:sl[mS]?=some (some (zgT ce n)))(ha:sl[a]?=some (some (nW p)))(hb:sl[b]?=some (some (nW q)))(hr:rows.length=n)(hp:p<n)(hz:(rows.getD p []).length<PySem.sizeLine) :
  dEx (dMt zeK (zaI ixW (zag mS) (zag a)) (zae (zag b) zan)) sl (bC ce rows gs)=some (.go .nx sl (bC ce (upR rows p q) gs)):=by
 have hp':p<rows.length:=by omega
 have g:=zmD (ce:=ce) (gs:=gs) hp'
 have e1:zaI ixW (zag mS) (zag a) sl (bC ce rows gs)=some (.ok (W.cel (ce.length+p)) (bC ce rows gs)):=by
  simp only[zpu,zlh,zhQ,h4,ha,zmk,zp8 _ hp,Option.map_some]
 have e2:zae (zag b) zan sl (bC ce rows gs)=some (.ok [nW q] (bC ce rows gs)):=by
  simp only[zjS,zlh,zhQ,hb,zml,zpt]
 have lq:zkO (bC ce rows gs) (W.cel (ce.length+p))=some ():=by
  unfold zkO
  rw[zb6 (xs:=(rows.getD p []).map nW) g]
  rfl
 have ap:zeK (W.cel (ce.length+p)) [nW q] (bC ce rows gs)=some (.ok .non (bC ce (upR rows p q) gs)):=by
  rw[zpw (ze8 (xs:=(rows.getD p []).map nW) g) (by rw[List.length_map];exact hz),zp7 hp']
 generalize bC ce rows gs=c1 at *
 generalize bC ce (upR rows p q) gs=c2 at *
 simp only[zrG,zrL,zlh,zrC,zmk,e1,e2,lq,ap,Option.map_some]
theorem ap2{sl:Sl}{a b p q:Nat}(h4:sl[mS]?=some (some (zgT ce n)))(ha:sl[a]?=some (some (nW p)))(hb:sl[b]?=some (some (nW q)))(hr:rows.length=n)(hp:p<n)(hq:q<n)(hz:∀i,(rows.getD i []).length<1000) :
  zaA (dEx (dMt zeK (zaI ixW (zag mS) (zag a)) (zae (zag b) zan))) (dEx (dMt zeK (zaI ixW (zag mS) (zag b)) (zae (zag a) zan))) sl (bC ce rows gs)=some (.go .nx sl (bC ce (zmC rows p q) gs)):=by
 have z:(1001:Nat)<PySem.sizeLine:=by decide
 rw[zjR (ap1 h4 ha hb hr hp (by have:=hz p;omega))]
 refine ap1 h4 hb ha (by rw[zhm];exact hr) hq ?_
 rw[zdM (by omega)]
 split
 ·have:=hz p;rw[List.length_append,List.length_singleton];omega
 ·have:=hz q;omega
theorem ziM{p:Nat}(hp:p<rows.length)(h:(rows.getD p []).length<=60)(cs:Sl):dBi zbi (zae (dBi (za3 zbX) (zae (zag 0) zan)) zan) (some (W.cel (ce.length+p))::cs) (bC ce rows gs)=some (.ok (wT (zbV (rows.getD p []))) (bC ce rows gs)):=by
 have g:=zmD (ce:=ce) (gs:=gs) hp
 have hz:(61:Nat)<PySem.sizeLine:=by decide
 have l1:(srt (toI (rows.getD p []))).length=(rows.getD p []).length:=by rw[(zby _).length_eq,zbI]
 have so:za3 zbX [W.cel (ce.length+p)] (bC ce rows gs)=some (.ok (.lst ((zbV (rows.getD p [])).map nW)) (bC ce rows gs)):=by
  simp only[za3,zb6 (xs:=(rows.getD p []).map nW) g,zfz,zbI]
  rw[if_pos (by omega),zjT _ (by rw[List.length_map,l1];omega),zdf]
 have tu:zbi [.lst ((zbV (rows.getD p [])).map nW)] (bC ce rows gs)=some (.ok (wT (zbV (rows.getD p []))) (bC ce rows gs)):=by
  have e:((zbV (rows.getD p [])).map nW).length=(rows.getD p []).length:=by rw[<- zdf,List.length_map,l1]
  show zrt _ _=_
  rw[zpv _ (by rw[e];omega)]
  rfl
 generalize bC ce rows gs=c1 at *
 simp only[zrH,zlh,zjS,zhQ,List.getElem?_cons_zero,zml,zpt,so,tu]
theorem zgM(hr:rows.length=n)(h36:n<=36)(h:∀i,(rows.getD i []).length<=60){sl:Sl}(h4:sl[mS]?=some (some (zgT ce n))) :
  dLC zbX [] (dIL (zag mS)) zeJ (dBi zbi (zae (dBi (za3 zbX) (zae (zag 0) zan)) zan)) sl (bC ce rows gs)=some (.ok (.lst (((List.range n).map fun i=>zbV (rows.getD i [])).map wT)) (bC ce rows gs)):=by
 have hz:=zeL
 have hi:dIL (zag mS) sl (bC ce rows gs)=some (.ok (.lst ((List.range n).map fun i=>W.cel (ce.length+i))) (bC ce rows gs)):=by
  show bnd (zag mS sl) (fun w=>look fun ce=>zhK ce w) (bC ce rows gs)=_
  rw[zbY (a:=zgT ce n) (ce':=bC ce rows gs) (by simp only[zhQ,h4])]
  rfl
 obtain⟨zs,e,pz⟩:=zpE (mk:=zbX) (js:=[]) (s:=.lst ((List.range n).map fun i=>W.cel (ce.length+i))) (e:=dBi zbi (zae (dBi (za3 zbX) (zae (zag 0) zan)) zan)) hi trivial (fun x y=>∃i,i<n/\x=W.cel (ce.length+i)/\y=wT (zbV (rows.getD i []))) (fun x hx=>by
  simp only[Src.items,List.mem_map,List.mem_range] at hx
  obtain⟨i,hi,rfl⟩:=hx
  exact⟨_,⟨i,hi,rfl,rfl⟩,ziM (by omega) (h i) _⟩) (by simp only[Src.items,List.length_map,List.length_range];omega)
 rw[e]
 obtain⟨hl,hn⟩:=VS.Paired.nth pz
 simp only[Src.items,List.length_map,List.length_range] at hl
 have ez:zs=((List.range n).map fun i=>zbV (rows.getD i [])).map wT:=by
  apply List.ext_getElem?
  intro i
  by_cases hi:i<n
  ·have h1:((List.range n).map fun i=>W.cel (ce.length+i))[i]?=some (W.cel (ce.length+i)):=by simp[hi]
   have h2:zs[i]?=some (zs[i]'(by omega)):=List.getElem?_eq_getElem _
   obtain⟨j,_,q1,q2⟩:=hn i _ _ h1 h2
   have hij:i=j:=by
    injection q1 with q1
    omega
   subst hij
   rw[h2,q2]
   simp[hi]
  ·rw[List.getElem?_eq_none (by omega),List.getElem?_eq_none (by simp;omega)]
 rw[zjT _ (by rw[<- hl];omega),ez]
theorem zlI{di:Sl->M Src}{sl:Sl}(hi:di sl ce=some (.ok (.rng 0 n) ce))(h36:n<=36):dLC zbX [] di zeJ (zb5 zan) sl ce=some (.ok (zgT ce n) (bC ce (List.replicate n []) [])):=by
 have hz:=zeL
 show bnd (di sl) (fun s=>bnd (lcL s (zdx [] sl) zeJ (zb5 zan) s.items []) zbX) ce=_
 have al:=zgA (s:=.rng 0 n) (cs:=zdx [] sl) (fun _=>trivial) (Src.rng 0 n).items [] ce (by rw[zem];simp;omega)
 rw[zbY hi,zbY al,zem,zjT _ (by simp;omega)]
 simp[bC,rC,zgT]
end
theorem zdY{fin:Ce->Ce->W->Option (R W)}{n:Nat}{body:DS}{ws:List W}{ce:Ce}{P:W->Ce->Prop}(sl:Sl)(e:ws.map some++List.replicate (n-ws.length) none=sl)(h:Run body sl ce (Rt fun v ce'=>∃w c',fin ce ce' v=some (.ok w c')/\P w c')):∃w c',dFn fin n body ws ce=some (.ok w c')/\P w c':=by
 subst e
 obtain⟨o,e,q⟩:=h
 cases o with
 | ex x c=>exact q.elim
 | go f sl c=>cases f with
  | rt w =>
   obtain⟨w',c',h1,h2⟩:=q
   exact⟨w',c',zmq e h1,h2⟩
  | nx=>exact q.elim
  | bk=>exact q.elim
  | ct=>exact q.elim
theorem zhn{d r:List Nat}{p n:Nat}(e:d++p::r=List.range n):d=List.range p:=by
 have hl:d.length<n:=by have:=congrArg List.length e;simp at this;omega
 have h1:(List.range n)[d.length]?=some p:=by rw[<- e];simp
 rw[List.getElem?_range hl] at h1
 cases h1
 have h2:(List.range n).take d.length=d:=by rw[<- e];simp
 rw[<- h2,List.take_range,Nat.min_eq_left (Nat.le_of_lt hl)]
 simp
structure LsOk (n:Nat) (ls:List (Nat×Nat)):Prop where
 nd:ls.Nodup
 lt:∀p∈ls,p.1<p.2/\p.2<n
theorem zeA{sl:Sl}{ce c1 c2:Ce}{a b:Sl->M W}{x y:W}{xs ys:List W}(ha:a sl ce=some (.ok x c1))(hb:b sl c1=some (.ok y c2))(hx:zdV c2 x=some xs)(hy:zdV c2 y=some ys)(hz:xs.length+ys.length<=PySem.sizeLine) :
  ziW zbX a b sl ce=some (.ok (.lst (xs++ys)) c2):=by
 simp only[ziW,bnd,ha,hb,zru,hx,hy,if_pos hz]
 exact zeq (by rw[List.length_append];exact hz)
def adj(ls:List (Nat×Nat))(i:Nat):List Nat:=ls.filterMap fun p=>if p.1=i then some p.2 else if p.2=i then some p.1 else none
theorem zho{ls:List (Nat×Nat)}{n:Nat}(h:LsOk n ls){i j:Nat}:j∈adj ls i↔(i,j)∈ls\/(j,i)∈ls:=by
 unfold adj
 rw[List.mem_filterMap]
 constructor
 ·rintro⟨⟨a,b⟩,hp,e⟩
  simp only at e
  split at e
  ·cases e;rename_i h1;subst h1;exact .inl hp
  ·split at e
   ·cases e;simp_all
   ·cases e
 ·rintro(hp|hp)
  ·exact⟨(i,j),hp,by simp⟩
  ·have:=(h.lt _ hp).1
   simp only at this
   refine⟨(j,i),hp,?_⟩
   simp only
   rw[if_neg (by omega)]
   simp
theorem zmE{ls:List (Nat×Nat)}{n:Nat}(h:LsOk n ls)(i:Nat):(adj ls i).Nodup:=by
 unfold adj
 refine List.Pairwise.filterMap _ ?_ (List.Pairwise.and_mem.mp h.nd)
 rintro⟨a,b⟩ ⟨c,d⟩ ⟨h1,h2,hne⟩ x hx y hy e
 subst e
 have l1:=(h.lt _ h1).1
 have l2:=(h.lt _ h2).1
 simp only at hx hy l1 l2
 apply hne
 split at hx<;>split at hy
 ·cases hx;cases hy;simp_all
 ·split at hy
  ·cases hx;cases hy;simp_all;omega
  ·cases hy
 ·split at hx
  ·cases hx;cases hy;simp_all;omega
  ·cases hx
 ·split at hx
  ·split at hy
   ·cases hx;cases hy;simp_all
   ·cases hy
  ·cases hx
theorem zh3{ls:List (Nat×Nat)}{n:Nat}(h:LsOk n ls){i j:Nat}(hj:j∈adj ls i):j<n/\i<n:=by
 rcases(zho h).mp hj with hp|hp<;>(have:=h.lt _ hp;simp only at this;omega)
def zh4(n:Nat)(ls:List (Nat×Nat)):List (List Nat):=(List.range n).map fun i=>zbV (adj ls i)
theorem zfU(n:Nat)(ls:List (Nat×Nat))(i:Nat):(zh4 n ls).getD i []=if i<n then zbV (adj ls i) else []:=by
 unfold zh4
 rw[List.getD_eq_getElem?_getD,List.getElem?_map]
 by_cases h:i<n
 ·simp[h]
 ·rw[List.getElem?_eq_none (by simp;omega)];simp[h]
structure Brd (b:List (List Nat)):Prop where
 bd:Bd b
 sym:Sym b
 h36:b.length<=36
 pos:0<b.length
 row:∀i,(b.getD i []).length<=36
 srt:∀i,zbV (b.getD i [])=b.getD i []
theorem ziN{l m:List Nat}(h:l.Perm m):zbV l=zbV m:=by unfold zbV;rw[zjW h]
theorem zkj(l:List Nat):(zbV l).Perm l:=by
 have h:(zbV l).Perm ((toI l).map Int.toNat):=(zby (toI l)).map _
 have e:(toI l).map Int.toNat=l:=by
  unfold toI
  rw[List.map_map]
  conv=>rhs;rw[<- List.map_id l]
  apply List.map_congr_left
  intro x _
  simp
 rwa [e] at h
theorem zgN(l:List Nat):zbV (zbV l)=zbV l:=ziN (zkj l)
theorem zn0{n:Nat}{ls:List (Nat×Nat)}(h:LsOk n ls)(h0:0<n)(h36:n<=36):Brd (zh4 n ls):=by
 have hl:(zh4 n ls).length=n:=by simp[zh4]
 refine⟨fun r hr x hx=>?_,fun i j hj=>?_,by omega,by omega,fun i=>?_,fun i=>?_⟩
 ·obtain⟨i,hi,rfl⟩:=List.mem_map.mp hr
  rw[hl]
  exact(zh3 h ((zdg _ _).mp hx)).1
 ·rw[zfU] at hj ⊢
  split at hj
  ·have hj:=(zdg _ _).mp hj
   rw[if_pos (zh3 h hj).1]
   exact(zdg _ _).mpr ((zho h).mpr ((zho h).mp hj).symm)
  ·simp at hj
 ·rw[zfU]
  split
  ·rw[zb0]
   exact Nat.le_trans (zaP (zmE h i) fun x hx=>(zh3 h hx).1) h36
  ·simp
 ·rw[zfU]
  split
  ·exact zgN _
  ·exact List.length_eq_zero_iff.mp (zb0 [])
theorem zn1(d:List (Nat×Nat))(p q i:Nat)(hpq:p≠q):adj (d++[(p,q)]) i=adj d i++((if i=p then [q] else [])++(if i=q then [p] else [])):=by
 unfold adj
 rw[List.filterMap_append]
 congr 1
 by_cases h1:i=p
 ·subst h1
  have:¬i=q:=hpq
  simp[this]
 ·by_cases h2:i=q
  ·subst h2
   simp[h1,hpq]
  ·have h1':¬p=i:=fun e=>h1 e.symm
   have h2':¬q=i:=fun e=>h2 e.symm
   simp[h1,h2,h1',h2']
theorem zlJ(n:Nat)(d:List (Nat×Nat)){p q:Nat}(hp:p<n)(hq:q<n)(hpq:p≠q):zmC ((List.range n).map (adj d)) p q=(List.range n).map (adj (d++[(p,q)])):=by
 have gd:∀(e:List (Nat×Nat)) (i:Nat),i<n->((List.range n).map (adj e)).getD i []=adj e i:=fun e i hi=>by simp[List.getD_eq_getElem?_getD,hi]
 apply List.ext_getElem?
 intro i
 by_cases hi:i<n
 ·have e1:∀(l:List (List Nat)),l.length=n->l[i]?=some (l.getD i []):=fun l hl=>by
   rw[List.getD_eq_getElem?_getD,List.getElem?_eq_getElem (by omega)];rfl
  rw[e1 _ (by rw[zh2];simp),e1 _ (by simp),gd _ i hi,zn1 d p q i hpq]
  unfold zmC
  rw[zdM (by rw[zhm];simpa using hq),zdM (by simpa using hp),zdM (by simpa using hp),gd _ _ hp,gd _ _ hq,gd _ _ hi]
  congr 1
  by_cases h1:i=q
  ·subst h1
   rw[if_pos rfl,if_neg (Ne.symm hpq),if_pos rfl,if_neg (Ne.symm hpq)]
   simp
  ·rw[if_neg h1,if_neg h1]
   by_cases h2:i=p
   ·subst h2;simp
   ·simp[h2]
 ·rw[List.getElem?_eq_none (by rw[zh2];simp;omega),List.getElem?_eq_none (by simp;omega)]
section
variable {b:List (List Nat)} {mk:W} {vl:Nat->Int} {s:Nat} {ce:Ce}
def Mk(b:List (List Nat))(mk:W)(vl:Nat->Int):Prop:=∀(ce:Ce) (x y:Nat),x<b.length->y<b.length->∃wx wy,ixW ce mk (nW x)=some wx/\ixW ce mk (nW y)=some wy/\eqW false ce wx wy=some (.bl (decide (vl x=vl y)))
theorem zsr{is:List Int}(h:is.length=b.length):Mk b (wS is) (fun x=>is.getD x 0):=fun ce x y hx hy=>⟨_,_,zbZ (by omega),zbZ (by omega),eqI0⟩
theorem zeB(fu:Nat)(hfu:200<=fu)(hm:Mk b mk vl)(hb:Bd b)(h36:b.length<=36)(hs:s<b.length) :
  d_patch_of fu [wB b,mk,nW s] ce=some (.ok (.cel ce.length) (ce++[.lst ((cpt b vl s).map nW)])):=by
 have hz:=zeL
 unfold d_patch_of
 refine zb8 [some (wB b),some mk,some (nW s),none,none,none,none] rfl ?_
 trivial
 have O0:=((Own.start ce).alloc (C.dct (kvs [s]))).alloc (C.lst ([s].map nW))
 refine(?_:Run _ _ ((ce++[C.dct (kvs [s])])++[C.lst ([s].map nW)]) _)
 generalize h4:(ce++[C.dct (kvs [s])]).length=k4 at O0
 have h4':∀x:Key×W,(ce++[C.dct [x]]).length=k4:=fun x=>by rw[<- h4];simp
 rw[h4']
 generalize h3:ce.length=k3 at O0 ⊢
 generalize (ce++[C.dct (kvs [s])])++[C.lst ([s].map nW)]=c0 at O0 ⊢
 refine zgF (σ:=List Nat×List Nat) (fun st sl c=>∃x5 x6,sl=[some (wB b),some mk,some (nW s),some (.cel k3),some (.cel k4),x5,x6]/\Own ce c [(k4,C.lst (st.2.map nW)),(k3,C.dct (kvs st.1))]/\st.1.Nodup/\s∈st.1/\(∀x∈st.1,x<b.length)/\(∀x∈st.2,x∈st.1)/\st.2.length<=st.1.length/\(∀x∈st.1,Reach b (okV vl s) s x)/\∀x∈st.1,x∉st.2->∀y∈b.getD x [],okV vl s y->y∈st.1)
  (fun st=>st.2.length+2*(36-st.1.length)) ([s],[s]) ⟨_,_,rfl,O0,by simp,by simp,by simpa using hs,by simp,by simp,by simpa using Reach.refl,by simp⟩ (by show [s].length+2*(36-[s].length)<fu;simp;omega) ?_
 rintro⟨F,Wt⟩ sl c ⟨x5,x6,rfl,O,nd,hsF,lt,sub,hW,re,cl⟩
 have g4:=O.g0
 have g3:=O.g1
 dsimp only at g4 g3 O nd hsF lt sub hW re cl
 have hF36:F.length<=36:=Nat.le_trans (zaP nd lt) h36
 refine⟨!(Wt.map nW).isEmpty,by trivial,fun q=>?_,fun q=>?_⟩
 ·rcases List.eq_nil_or_concat Wt with rfl|⟨W0,p,hWt⟩
  ·simp at q
  ·rw[List.concat_eq_append] at hWt
   subst hWt
   have hpF:p∈F:=sub p (by simp)
   have hp:=lt p hpF
   have pp:=zpU (ys:=W0.map nW) (y:=nW p) g4 (by simp)
   have O1:=O.set0 (C.lst (W0.map nW))
   generalize c.set k4 (C.lst (W0.map nW))=c1 at O1 pp
   unfold zev
   trivial
   refine zdi (zs:=b.getD p []) (en:=nW) (zer (by trivial)) (fun d sl c=>∃new x6,sl=[some (wB b),some mk,some (nW s),some (.cel k3),some (.cel k4),some (nW p),x6]/\Own ce c [(k4,C.lst ((W0++new).map nW)),(k3,C.dct (kvs (F++new)))]/\(F++new).Nodup/\(∀x∈new,x∈b.getD p []/\okV vl s x)/\∀x∈d,okV vl s x->x∈F++new)
    ⟨[],x6,rfl,by simpa using O1,by simpa using nd,by simp,by simp⟩ ?_ ?_
   ·rintro d y r sl c e hy ⟨new,x6,rfl,O,nd2,hnew,hd⟩
    have g4:=O.g0
    have g3:=O.g1
    have gd:=zjU g3
    have hy':=hb.get hy
    obtain⟨wx,wy,i1,i2,q1⟩:=hm c y s hy' hs
    have lt2:∀x∈F++new,x<b.length:=fun x hx=>by
     rcases List.mem_append.mp hx with hx|hx
     ·exact lt x hx
     ·exact hb.get (hnew x hx).1
    have hl2:=zaP nd2 lt2
    have hk:(kvs (F++new)).length<PySem.sizeLine:=by rw[zdC];omega
    have hw:((W0++new).map nW).length<PySem.sizeLine:=by
     rw[List.length_map,List.length_append]
     rw[List.length_append] at hl2
     simp only[List.length_append,List.length_cons,List.length_nil] at hW
     omega
    unfold zeu
    refine zb7 (p:=!decide (y∈F++new)&&decide (vl y=vl s)) (ce':=c) (by trivial) (fun q=>?_) (fun q=>?_)
    ·simp only[Bool.and_eq_true,Bool.not_eq_true',decide_eq_false_iff_not,decide_eq_true_eq] at q
     have O2:=O.set1 (C.dct (ziB (kvs (F++new)) (.inl (y:Int)) (.bl true)))
     rw[zha _ _ q.1] at O2
     have g4:=O2.g0
     have e1:C.dct (kvs (F++new++[y]))=C.dct (ziB (kvs (F++new)) (.inl (y:Int)) (.bl true)):=by rw[zha _ _ q.1]
     rw[e1] at g4
     trivial
     refine⟨new++[y],_,rfl,?_,?_,fun x hx=>?_,fun x hx o=>?_⟩
     ·have e2:(W0++(new++[y])).map nW=(W0++new).map nW++[nW y]:=by simp
      rw[<- e1,e2,<- List.append_assoc]
      exact O2.set0 _
     ·rw[<- List.append_assoc,List.nodup_append]
      exact⟨nd2,by simp,fun a ha c hc=>by rw[List.mem_singleton] at hc;subst hc;intro e;subst e;exact q.1 ha⟩
     ·rcases List.mem_append.mp hx with hx|hx
      ·exact hnew x hx
      ·rw[List.mem_singleton] at hx;subst hx;exact⟨hy,q.2⟩
     ·rw[<- List.append_assoc]
      rcases List.mem_append.mp hx with hx|hx
      ·exact List.mem_append_left _ (hd x hx o)
      ·rw[List.mem_singleton] at hx;subst hx;simp
    ·trivial
     refine⟨new,_,rfl,O,nd2,hnew,fun x hx o=>?_⟩
     rcases List.mem_append.mp hx with hx|hx
     ·exact hd x hx o
     ·rw[List.mem_singleton] at hx
      subst hx
      have o':vl x=vl s:=o
      simp only[o',decide_true,Bool.and_true,Bool.not_eq_false',decide_eq_true_eq] at q
      exact q
   ·rintro sl c ⟨new,x6,rfl,O,nd2,hnew,hd⟩
    have lt2:∀x∈F++new,x<b.length:=fun x hx=>by
     rcases List.mem_append.mp hx with hx|hx
     ·exact lt x hx
     ·exact hb.get (hnew x hx).1
    have hl2:=zaP nd2 lt2
    simp only[List.length_append] at hl2
    simp only[List.length_append,List.length_cons,List.length_nil] at hW
    refine⟨(F++new,W0++new),?_,_,_,rfl,O,nd2,List.mem_append_left _ hsF,lt2,fun x hx=>?_,?_,fun x hx=>?_,fun x hx hn y hy o=>?_⟩
    ·show(W0++new).length+2*(36-(F++new).length)<(W0++[p]).length+2*(36-F.length)
     simp only[List.length_append,List.length_cons,List.length_nil]
     omega
    ·rcases List.mem_append.mp hx with hx|hx
     ·exact List.mem_append_left _ (sub x (by simp[hx]))
     ·exact List.mem_append_right _ hx
    ·show(W0++new).length<=(F++new).length
     simp only[List.length_append]
     omega
    ·rcases List.mem_append.mp hx with hx|hx
     ·exact re x hx
     ·exact(re p hpF).step (hnew x hx).1 (hnew x hx).2
    ·rcases List.mem_append.mp hx with hx|hx
     ·by_cases hxp:x=p
      ·subst hxp;exact hd y hy o
      ·exact List.mem_append_left _ (cl x hx (fun q=>by rcases List.mem_append.mp q with q|q;exact hn (List.mem_append_left _ q);exact hxp (by simpa using q)) y hy o)
     ·exact absurd (List.mem_append_right _ hx) hn
 ·have hW0:Wt=[]:=by simpa using q
  subst hW0
  have comp:Comp b (okV vl s) s F:=⟨nd,hsF,lt,fun x hx y hy o=>cl x hx (by simp) y hy o,re⟩
  trivial
  ·rw[zhU g3 (by omega),zcy (by rw[List.length_map,zb0];omega)]
  ·rw[znL comp]
   subst h3
   exact(O.alloc _).finO (by simp only[zf5];exact bels_nW _ _)
theorem zp9(fu:Nat)(hfu:200<=fu)(hm:Mk b mk vl)(hb:Bd b)(h36:b.length<=36)(hs:s<b.length):zce (d_patch_of fu) [wB b,mk,nW s] ce=some (.ok (wL (cpt b vl s)) ce) :=
 zbE (zeB fu hfu hm hb h36 hs) (bels_nW _ _)
end
section
variable {b:List (List Nat)} {mk:W} {vl:Nat->Int} {s:Nat} {ce:Ce}
theorem ziO(fu:Nat)(hfu:200<=fu)(hm:Mk b mk vl)(hb:Bd b)(sym:Sym b)(h36:b.length<=36) :
  d_patches fu [wB b,mk] ce=some (.ok (.cel ce.length) (ce++[.lst ((ptc b vl).map wL)])):=by
 have hz:=zeL
 unfold d_patches
 refine zb8 [some (wB b),some mk,none,none,none,none,none] rfl ?_
 trivial
 have O0:=((Own.start ce).alloc (C.dct (kvs []))).alloc (C.lst [])
 refine(?_:Run _ _ ((ce++[C.dct (kvs [])])++[C.lst []]) _)
 generalize h3:(ce++[C.dct []]).length=k3
 have h3':(ce++[C.dct (kvs [])]).length=k3:=h3
 rw[h3'] at O0
 generalize h2:ce.length=k2 at O0 ⊢
 generalize (ce++[C.dct (kvs [])])++[C.lst []]=c0 at O0 ⊢
 have hl':b.length<=1000:=by omega
 refine za7 (zs:=List.range b.length) (en:=nW) (zeQ (by trivial) hl')
  (fun d sl c=>∃S x4 x5 x6,sl=[some (wB b),some mk,some (.cel k2),some (.cel k3),x4,x5,x6]/\Own ce c [(k3,C.lst (((d.filter (zbG b vl)).map (cpt b vl)).map wL)),(k2,C.dct (kvs S))]/\S.Nodup/\(∀x∈S,x<b.length)/\∀x,x∈S↔∃y∈d,x∈cpt b vl y)
  ⟨[],_,_,_,rfl,O0,by simp,by simp,by simp⟩ ?_ ?_
 ·rintro d p r sl c e hp ⟨S,x4,x5,x6,rfl,O,nd,lt,mem⟩
  have hp':p<b.length:=List.mem_range.mp hp
  have hd:=zhn e
  have g3:=O.g0
  have g2:=O.g1
  have key:p∈S↔¬zbG b vl p=true:=by
   rw[mem]
   constructor
   ·rintro⟨y,hy,hpy⟩ hl
    rw[hd] at hy
    have hy':=List.mem_range.mp hy
    unfold zbG at hl
    rw[List.all_eq_true] at hl
    have:=of_decide_eq_true (hl y (zhW hb sym (by omega) hpy))
    omega
   ·intro hl
    unfold zbG at hl
    rw[List.all_eq_true] at hl
    obtain⟨y,hy⟩:=Classical.not_forall.mp hl
    obtain⟨hy,hn⟩:=Classical.not_imp.mp hy
    have hn':¬p<=y:=fun q=>hn (decide_eq_true q)
    exact⟨y,by rw[hd];exact List.mem_range.mpr (by omega),zhW hb sym hp' hy⟩
  unfold zfd
  have hdl:d.length<b.length:=by have:=congrArg List.length e;simp at this;omega
  have hm3:(((d.filter (zbG b vl)).map (cpt b vl)).map wL).length<PySem.sizeLine:=by simp only[List.length_map];have:=List.length_filter_le (zbG b vl) d;omega
  have e1:=fun c=>zp9 (ce:=c) fu hfu hm hb h36 hp'
  have e1c:=e1 c
  trivial
  ·rename_i q
   have q':p∉S:=by simpa using q
   have hl:zbG b vl p=true:=Classical.byContradiction fun h=>q' (key.mpr h)
   have O1:=O.set0 (C.lst (((d.filter (zbG b vl)).map (cpt b vl)).map wL++[wL (cpt b vl p)]))
   generalize c.set k3 (C.lst (((d.filter (zbG b vl)).map (cpt b vl)).map wL++[wL (cpt b vl p)]))=c1 at O1 ⊢
   have ef:((d++[p]).filter (zbG b vl)).map (cpt b vl)=(d.filter (zbG b vl)).map (cpt b vl)++[cpt b vl p]:=by rw[List.filter_append,List.filter_cons_of_pos hl];simp
   refine zdi (zs:=cpt b vl p) (en:=nW) (zgD (by trivial)) (fun d' sl c=>∃S' x6,sl=[some (wB b),some mk,some (.cel k2),some (.cel k3),some (nW p),some (wL (cpt b vl p)),x6]/\Own ce c [(k3,C.lst ((((d++[p]).filter (zbG b vl)).map (cpt b vl)).map wL)),(k2,C.dct (kvs S'))]/\S'.Nodup/\(∀x∈S',x<b.length)/\∀x,x∈S'↔x∈S\/x∈d')
    ⟨S,x6,rfl,by rw[ef,List.map_append];exact O1,nd,lt,by simp⟩ ?_ ?_
   ·rintro d' y r' sl c e' hy ⟨S',x6,rfl,O,nd',lt',mem'⟩
    have gd:=zjU O.g1
    have hS:=zaP nd' lt'
    have hk:(kvs S').length<PySem.sizeLine:=by rw[zdC];omega
    unfold zfc
    trivial
    refine⟨ins S' y,_,rfl,by rw[zj5];exact O.set1 _,zmu nd',fun x hx=>?_,fun x=>?_⟩
    ·rcases ins_mem.mp hx with hx|rfl
     ·exact lt' x hx
     ·exact cpt_lt hy
    ·rw[ins_mem,mem',List.mem_append,List.mem_singleton,or_assoc]
   ·rintro sl c ⟨S',x6,rfl,O,nd',lt',mem'⟩
    refine⟨S',_,_,_,rfl,O,nd',lt',fun x=>?_⟩
    rw[mem',mem]
    constructor
    ·rintro(⟨y,hy,h⟩|h)
     ·exact⟨y,List.mem_append_left _ hy,h⟩
     ·exact⟨p,by simp,h⟩
    ·rintro⟨y,hy,h⟩
     rcases List.mem_append.mp hy with hy|hy
     ·exact .inl ⟨y,hy,h⟩
     ·rw[List.mem_singleton] at hy;subst hy;exact .inr h
  ·rename_i q
   have q':p∈S:=by simpa using q
   have hl:¬zbG b vl p=true:=key.mp q'
   refine⟨S,_,_,_,rfl,?_,nd,lt,fun x=>?_⟩
   ·rw[List.filter_append,List.filter_cons_of_neg hl,List.filter_nil,List.append_nil];exact O
   ·rw[mem]
    constructor
    ·rintro⟨y,hy,h⟩
     exact⟨y,List.mem_append_left _ hy,h⟩
    ·rintro⟨y,hy,h⟩
     rcases List.mem_append.mp hy with hy|hy
     ·exact⟨y,hy,h⟩
     ·rw[List.mem_singleton] at hy
      subst hy
      obtain⟨z,hz,hyz⟩:=(mem y).mp q'
      have hz':z<b.length:=by rw[hd] at hz;have:=List.mem_range.mp hz;omega
      exact⟨z,hz,by rw[<- zdP hb sym hz' hyz];exact h⟩
 ·rintro sl c ⟨S,x4,x5,x6,rfl,O,nd,lt,mem⟩
  trivial
  subst h2
  exact O.finO (by simp only[zf5];exact zfH _ _)
theorem zqa(fu:Nat)(hfu:200<=fu)(hm:Mk b mk vl)(hb:Bd b)(sym:Sym b)(h36:b.length<=36):zce (d_patches fu) [wB b,mk] ce=some (.ok (.lst ((ptc b vl).map wL)) ce) :=
 zbE (ziO fu hfu hm hb sym h36) (zfH _ _)
end
def zbT(b:List (List Nat))(row:List Nat):List Nat:=(List.range b.length).filter fun y=>row.any fun p=>decide (y∈b.getD p [])
section
variable {b:List (List Nat)} {b0 ce:Ce} {row:List Nat}
theorem zdZ(fu:Nat)(hb:Bd b)(h36:b.length<=36){w1:W}(hw:LstOf ce w1 (row.map nW))(hr:∀p∈row,p<b.length) :
  d_points_beside fu [wB b,w1] ce=some (.ok (.cel ce.length) (ce++[.lst ((zbT b row).map nW)])):=by
 unfold d_points_beside
 have hz:=zeL
 refine zf8 ?_
 simp only[List.map_cons,List.map_nil,List.cons_append,List.nil_append,List.length_cons,List.length_nil,List.replicate,Nat.reduceAdd,Nat.reduceSub]
 trivial
 have O0:=(Own.start ce).alloc (C.dct [])
 obtain⟨s,hs,hsi,_⟩:=hw.src
 have hst:∀{c1:Ce} {l:List (Nat×C)},Own ce c1 l->s.Stays c1:=by
  intro c1 l h
  obtain⟨t,rfl⟩:=h.cut
  cases hw with
  | fr=>simp only[zhK] at hs;cases hs;exact True.intro
  | cl g =>
   simp only[zhK,g] at hs
   cases hs
   show(ce++t)[_]?=_
   rw[List.getElem?_append_left (List.getElem?_eq_some_iff.mp g).1]
   exact g
 have hs':∀{c1:Ce} {l:List (Nat×C)},Own ce c1 l->zhK c1 w1=some s:=by
  intro c1 l h
  obtain⟨t,rfl⟩:=h.cut
  cases hw with
  | fr=>exact hs
  | cl g =>
   simp only[zhK,g] at hs ⊢
   rw[List.getElem?_append_left (List.getElem?_eq_some_iff.mp g).1,g]
   exact hs
 refine zhc (xs:=row) (en:=nW) (src:=s) (ce0:=ce++[C.dct []]) (by trivial;exact hs' O0) hsi
  (fun d sl c=>∃F x3 x4,sl=[some (wB b),some w1,some (.cel ce.length),x3,x4]/\Own ce c [(ce.length,C.dct (kvs F))]/\F.Nodup/\(∀x∈F,x<b.length)/\∀x,x∈F↔∃p∈d,x∈b.getD p [])
  ⟨[],none,none,rfl,O0,by simp,by simp,by simp⟩ ?_ (fun sl c h=>by obtain⟨_,_,_,_,O,_⟩:=h;exact hst O) ?_
 ·rintro d p r sl c e hp ⟨F,x3,x4,rfl,O,nd,lt,mem⟩
  refine⟨hst O,?_⟩
  have hp':=hr p hp
  unfold zcp
  refine zdi (zs:=b.getD p []) (en:=nW) (zer (by trivial))
   (fun d' sl c=>∃F x4,sl=[some (wB b),some w1,some (.cel ce.length),some (nW p),x4]/\Own ce c [(ce.length,C.dct (kvs F))]/\F.Nodup/\(∀x∈F,x<b.length)/\∀x,x∈F↔(∃p∈d,x∈b.getD p [])\/x∈d')
   ⟨F,x4,rfl,O,nd,lt,by simpa using mem⟩ ?_ ?_
  ·rintro d' y r' sl c e' hy ⟨F,x4,rfl,O,nd,lt,mem⟩
   unfold zco
   have g:=zjU O.g0
   have hl:(kvs F).length<PySem.sizeLine:=by rw[zdC];have:=zaP nd lt;omega
   trivial
   refine⟨ins F y,some (nW y),rfl,?_,zmu nd,fun x hx=>?_,fun x=>?_⟩
   ·rw[zj5];exact O.set0 _
   ·rcases ins_mem.mp hx with hx|rfl
    ·exact lt x hx
    ·exact hb.get hy
   ·rw[ins_mem,mem,List.mem_append,List.mem_singleton,or_assoc]
  ·rintro sl c ⟨F,x4,rfl,O,nd,lt,mem⟩
   refine⟨F,some (nW p),x4,rfl,O,nd,lt,fun x=>?_⟩
   rw[mem]
   constructor
   ·rintro(⟨q,hq,h⟩|h)
    ·exact⟨q,List.mem_append_left _ hq,h⟩
    ·exact⟨p,by simp,h⟩
   ·rintro⟨q,hq,h⟩
    rcases List.mem_append.mp hq with hq|hq
    ·exact .inl ⟨q,hq,h⟩
    ·rw[List.mem_singleton] at hq;subst hq;exact .inr h
 ·rintro sl c ⟨F,x3,x4,rfl,O,nd,lt,mem⟩
  have hl:=zaP nd lt
  have es:zbV F=zbT b row:=by
   rw[zfE nd lt]
   unfold zbT
   apply List.filter_congr
   intro x _
   rw[Bool.eq_iff_iff]
   simp[mem]
  trivial
  ·rw[zhU O.g0 (by omega),zcy (by rw[es,List.length_map];unfold zbT;have:=List.length_filter_le (fun y=>row.any fun p=>decide (y∈b.getD p [])) (List.range b.length);rw[List.length_range] at this;omega)]
  ·rw[es]
   exact((O.alloc _).finO (by simp only[zf5];exact bels_nW _ _))
end
def brs(b:List (List Nat))(is:List Int)(row:List Nat):List Nat:=(zbT b row).filter fun p=>decide (is.getD p 0=0)
section
variable {b:List (List Nat)} {ce:Ce} {row:List Nat} {is:List Int}
theorem zfg{y:Nat}(h:y∈zbT b row):y<b.length:=List.mem_range.mp (List.mem_filter.mp h).1
theorem zeC:(zbT b row).length<=b.length:=by
 have:=List.length_filter_le (fun y=>row.any fun p=>decide (y∈b.getD p [])) (List.range b.length)
 rw[List.length_range] at this
 exact this
theorem zqb(fu:Nat)(hb:Bd b)(h36:b.length<=36){w1:W}(hw:LstOf ce w1 (row.map nW))(hr:∀p∈row,p<b.length):zce (d_points_beside fu) [wB b,w1] ce=some (.ok (wL (zbT b row)) ce) :=
 zbE (zdZ fu hb h36 hw hr) (bels_nW _ _)
theorem zfh(fu:Nat)(hb:Bd b)(h36:b.length<=36)(hl:is.length=b.length){w1:W}(hw:LstOf ce w1 (row.map nW))(hr:∀p∈row,p<b.length) :
  d_breaths fu [wB b,wS is,w1] ce=some (.ok (.cel ce.length) (ce++[.lst ((brs b is row).map nW)])):=by
 unfold d_breaths
 have hz:=zeL
 have e1:=zqb fu hb h36 hw hr
 have h2:=zeC (b:=b) (row:=row)
 refine zb8 [some (wB b),some (wS is),some w1] rfl ?_
 refine zas (zsn (zs:=zbT b row) (en:=nW) (t:=fun p=>decide (is.getD p 0=0)) (by trivial) (by omega) (fun p hp=>?_)) ?_
 ·have:=zfg hp
  have hp':p<is.length:=by omega
  trivial
 ·exact(((Own.start ce).alloc _).finO (by simp only[zf5];exact bels_nW _ _))
end
open Classical in
def vT(T:List Nat):Nat->Int:=fun x=>if x∈T then 0 else 1
theorem zqc{T:List Nat}{x:Nat}(h:x∈T):vT T x=0:=if_pos h
theorem zkk{T:List Nat}{s y:Nat}(hs:s∈T):okV (vT T) s y↔y∈T:=by
 unfold okV
 rw[zqc hs]
 constructor
 ·intro h
  by_cases hy:y∈T
  ·exact hy
  ·unfold vT at h;rw[if_neg hy] at h;omega
 ·exact zqc
def thr(is H:List Int):List Nat:=(List.range is.length).filter fun p=>decide (is.getD p 0∈H)
def lpt(b:List (List Nat))(T:List Nat):List (List Nat):=(T.filter (zbG b (vT T))).map (cpt b (vT T))
theorem zqd{is H:List Int}{x:Nat}(h:x∈thr is H):x<is.length:=List.mem_range.mp (List.mem_filter.mp h).1
theorem zbz(is:List Int)(p q:Nat)(v:Int):(is.set p v).getD q 0=if p=q/\p<is.length then v else is.getD q 0:=by
 simp only[List.getD_eq_getElem?_getD,List.getElem?_set]
 by_cases h:p=q
 ·subst h
  by_cases h2:p<is.length
  ·simp[h2]
  ·simp[h2]
 ·simp[h]
abbrev vS(is:List Int):Nat->Int:=fun x=>is.getD x 0
abbrev vH(is:List Int)(h:Int):Nat->Int:=fun x=>if is.getD x 0=h then 1 else 0
theorem zcd{b:List (List Nat)}{ok ok':Nat->Prop}{s:Nat}(h:∀x y,Reach b ok s x->Reach b ok' s x->y∈b.getD x []->ok y->ok' y){x:Nat}(r:Reach b ok s x):Reach b ok' s x:=by
 induction r with
 | refl=>exact .refl
 | step r hy o ih=>exact ih.step hy (h _ _ r ih hy o)
open Classical in
theorem zkl{b:List (List Nat)}{vl vl':Nat->Int}{s:Nat}(e:∀y,Reach b (okV vl s) s y↔Reach b (okV vl' s) s y):cpt b vl s=cpt b vl' s:=by
 unfold cpt
 apply List.filter_congr
 intro y _
 rw[Bool.eq_iff_iff,decide_eq_true_eq,decide_eq_true_eq]
 exact e y
theorem zlK{b:List (List Nat)}{vl:Nat->Int}(hb:Bd b)(sym:Sym b){s t q:Nat}(hs:s<b.length)(ht:t<b.length)(h1:q∈cpt b vl s)(h2:q∈cpt b vl t):cpt b vl s=cpt b vl t:=by
 rw[<- zdP hb sym hs h1,<- zdP hb sym ht h2]
def zkm(b:List (List Nat))(is:List Int)(h:Int):Prop:=∀s,s<b.length->is.getD s 0=h->∃x y,Reach b (okV (vS is) s) s x/\y∈b.getD x []/\is.getD y 0=0
theorem zc8{b:List (List Nat)}{is:List Int}{r:List Nat}(hb:Bd b){y:Nat}:y∈brs b is r↔(∃x∈r,y∈b.getD x [])/\is.getD y 0=0:=by
 unfold brs zbT
 rw[List.mem_filter,List.mem_filter,List.mem_range,List.any_eq_true,decide_eq_true_eq]
 constructor
 ·rintro⟨⟨_,x,hx,q⟩,h0⟩
  exact⟨⟨x,hx,of_decide_eq_true q⟩,h0⟩
 ·rintro⟨⟨x,hx,q⟩,h0⟩
  exact⟨⟨hb.get q,x,hx,decide_eq_true q⟩,h0⟩
theorem zkn{b:List (List Nat)}{is:List Int}{r:List Nat}(hb:Bd b):brs b is r=[]↔∀x∈r,∀y∈b.getD x [],is.getD y 0≠0:=by
 rw[List.eq_nil_iff_forall_not_mem]
 constructor
 ·intro h x hx y hy h0
  exact h y ((zc8 hb).mpr ⟨⟨x,hx,hy⟩,h0⟩)
 ·intro h y hy
  obtain⟨⟨x,hx,hy⟩,h0⟩:=(zc8 hb).mp hy
  exact h x hx y hy h0
structure Swp (b:List (List Nat)) (is:List Int) (h:Int) (d:List (List Nat)) (is':List Int) (D:List (List Nat)):Prop where
 len:is'.length=is.length
 sub:∀r∈D,r∈d
 zp:∀r∈D,∀q∈r,is'.getD q 0=0
 was:∀q,is'.getD q 0=is.getD q 0\/(is'.getD q 0=0/\∃r∈D,q∈r)
 fre:∀r∈d,r∈D\/∃x∈r,∃y∈b.getD x [],is'.getD y 0=0
 no:∀r∈D,∀x∈r,∀y∈b.getD x [],is.getD y 0≠0
theorem thr_mem{is:List Int}{h:Int}{p:Nat}:p∈thr is [h]↔p<is.length/\is.getD p 0=h:=by
 unfold thr
 rw[List.mem_filter,List.mem_range,decide_eq_true_eq,List.mem_singleton]
theorem zh5{b:List (List Nat)}{T:List Nat}(hb:Bd b)(sym:Sym b)(hT:∀x∈T,x<b.length){s:Nat}(hs:s∈T):cpt b (vT T) s∈lpt b T:=by
 obtain⟨m,h1,h2,h3⟩:=zgH (vl:=vT T) hb sym (hT s hs)
 have hm:m∈T:=(zkk hs).mp (cpt_val hb (hT s hs) h1)
 exact List.mem_map.mpr ⟨m,List.mem_filter.mpr ⟨hm,h2⟩,h3⟩
theorem zh6{b:List (List Nat)}{T:List Nat}{c:List Nat}(h:c∈lpt b T):∃s∈T,c=cpt b (vT T) s:=by
 obtain⟨s,hs,rfl⟩:=List.mem_map.mp h
 exact⟨s,(List.mem_filter.mp hs).1,rfl⟩
theorem zeD{b:List (List Nat)}{is:List Int}(hb:Bd b)(hl:is.length=b.length){s:Nat}(hs:s<b.length):cpt b (vT (thr is [is.getD s 0])) s=cpt b (vS is) s:=by
 have hT:s∈thr is [is.getD s 0]:=thr_mem.mpr ⟨by omega,rfl⟩
 refine zkl fun y=>⟨fun r=>zcd (fun x y _ _ _ o=>?_) r,fun r=>zcd (fun x y _ _ hy o=>?_) r⟩
 ·exact(thr_mem.mp ((zkk hT).mp o)).2
 ·exact(zkk hT).mpr (thr_mem.mpr ⟨by rw[hl];exact hb.get hy,o⟩)
section
variable {b:List (List Nat)} {is is':List Int} {h o:Int} {D:List (List Nat)}
theorem Swp.hand{d:List (List Nat)}(S:Swp b is h d is' D)(hb:Bd b)(hl:is.length=b.length)(hd:∀r∈d,r∈lpt b (thr is [h])){r:List Nat}(hr:r∈D){q:Nat}(hq:q∈r):is.getD q 0=h/\r=cpt b (vS is) q\/¬Sym b:=by
 by_cases sym:Sym b
 ·left
  obtain⟨s,hs,rfl⟩:=zh6 (hd r (S.sub r hr))
  have hs':=thr_mem.mp hs
  have hsb:s<b.length:=by omega
  have e:=hs'.2
  subst e
  rw[zeD hb hl hsb] at hq ⊢
  exact⟨cpt_val hb hsb hq,(zdP hb sym hsb hq).symm⟩
 ·exact .inr sym
theorem Swp.hand'{d:List (List Nat)}(S:Swp b is h d is' D)(hb:Bd b)(sym:Sym b)(hl:is.length=b.length)(hd:∀r∈d,r∈lpt b (thr is [h])){r:List Nat}(hr:r∈D){q:Nat}(hq:q∈r):is.getD q 0=h/\r=cpt b (vS is) q:=(S.hand hb hl hd hr hq).resolve_right (fun n=>n sym)
theorem Swp.snd(S:Swp b is h (lpt b (thr is [h])) is' D)(hb:Bd b)(sym:Sym b)(hl:is.length=b.length)(h0:h≠0):zkm b is' h:=by
 intro s hs e
 have es:is.getD s 0=h:=by
  rcases S.was s with q|q
  ·rw[<- q];exact e
  ·exact absurd (e.symm.trans q.1) h0
 have hr:cpt b (vS is) s∈lpt b (thr is [h]):=by
  have:=zh5 (T:=thr is [is.getD s 0]) hb sym (fun x hx=>by have:=(thr_mem.mp hx).1;omega) (thr_mem.mpr ⟨by omega,rfl⟩:s∈_)
  rwa [zeD hb hl hs,es] at this
 have nD:cpt b (vS is) s∉D:=fun hD=>h0 (by rw[<- e];exact S.zp _ hD s (zcP hb hs))
 rcases S.fre _ hr with q|⟨x,hx,y,hy,hy0⟩
 ·exact absurd q nD
 ·refine⟨x,y,?_,hy,hy0⟩
  refine zcd (fun u z ru _ hz oz=>?_) ((zb3 hb hs).mp hx)
  have hzr:z∈cpt b (vS is) s:=(zb3 hb hs).mpr (ru.step hz oz)
  show is'.getD z 0=is'.getD s 0
  rw[e]
  rcases S.was z with q|⟨_,r,hrD,hzr2⟩
  ·rw[q];exact oz.trans es
  ·obtain⟨_,er⟩:=S.hand' hb sym hl (fun r hr=>hr) hrD hzr2
   rw[er,zdP hb sym hs hzr] at hrD
   exact absurd hrD nD
structure Pap (b:List (List Nat)) (is:List Int) (h:Int) (R C:List (List Nat)):Prop where
 row:∀r∈R,∃s,s<b.length/\is.getD s 0=h/\r=cpt b (vS is) s
 cl:∀c∈C,∃s,s<b.length/\is.getD s 0≠h/\c=cpt b (vH is h) s
 firm:∀r∈R,∃c1∈C,∃c2∈C,c1≠c2/\(∀p∈c1,is.getD p 0=0->p∈brs b is r)/\∀p∈c2,is.getD p 0=0->p∈brs b is r
 wall:∀c∈C,∀x∈c,∀y∈b.getD x [],is.getD y 0=h->∃r∈R,y∈r
structure LaidOk (b:List (List Nat)) (is:List Int) (h o:Int) (p:Nat) (is':List Int) (D:List (List Nat)):Prop where
 hl:is.length=b.length
 hp:p<b.length
 p0:is.getD p 0=0
 sw:Swp b (is.set p o) h (lpt b (thr (is.set p o) [h])) is' D
 br:∃x y,Reach b (okV (vS is') p) p x/\y∈b.getD x []/\is'.getD y 0=0
structure Hands (h o:Int):Prop where
 h0:h≠0
 o0:o≠0
 ho:o≠h
theorem LaidOk.set1{p:Nat}(L:LaidOk b is h o p is' D)(q:Nat):(is.set p o).getD q 0=if q=p then o else is.getD q 0:=by
 rw[zbz]
 by_cases e:q=p
 ·subst e;rw[if_pos ⟨rfl,by rw[L.hl];exact L.hp⟩,if_pos rfl]
 ·rw[if_neg (fun x=>e x.1.symm),if_neg e]
theorem LaidOk.val{p:Nat}(L:LaidOk b is h o p is' D)(hb:Bd b)(sym:Sym b)(H:Hands h o)(q:Nat):is'.getD q 0=(if q=p then o else is.getD q 0)\/(is'.getD q 0=0/\is.getD q 0=h/\q≠p/\∃r∈D,q∈r):=by
 rcases L.sw.was q with e|⟨e,r,hr,hq⟩
 ·left;rw[e,L.set1]
 ·obtain⟨e1,_⟩:=L.sw.hand' hb sym (by rw[List.length_set];exact L.hl) (fun r hr=>hr) hr hq
  rw[L.set1] at e1
  by_cases hqp:q=p
  ·rw[if_pos hqp] at e1;exact absurd e1 H.ho
  ·rw[if_neg hqp] at e1;exact .inr ⟨e,e1,hqp,r,hr,hq⟩
theorem LaidOk.isO{p:Nat}(L:LaidOk b is h o p is' D)(hb:Bd b)(sym:Sym b)(H:Hands h o){q:Nat}(e:is.getD q 0=o):is'.getD q 0=o:=by
 rcases L.val hb sym H q with v|v
 ·rw[v];split
  ·rfl
  ·exact e
 ·exact absurd (e.symm.trans v.2.1) H.ho
theorem LaidOk.isP{p:Nat}(L:LaidOk b is h o p is' D)(hb:Bd b)(sym:Sym b)(H:Hands h o):is'.getD p 0=o:=by
 rcases L.val hb sym H p with v|v
 ·rw[v,if_pos rfl]
 ·exact absurd rfl v.2.2.1
theorem LaidOk.is0{p:Nat}(L:LaidOk b is h o p is' D)(hb:Bd b)(sym:Sym b)(H:Hands h o){q:Nat}(e:is.getD q 0=0)(hq:q≠p):is'.getD q 0=0:=by
 rcases L.val hb sym H q with v|v
 ·rw[v,if_neg hq];exact e
 ·exact v.1
theorem LaidOk.snd{p:Nat}(L:LaidOk b is h o p is' D)(hb:Bd b)(sym:Sym b)(H:Hands h o)(N:zkm b is o):zkm b is' o:=by
 intro s hs e
 have eP:=L.isP hb sym H
 by_cases hsp:Reach b (okV (vS is') s) s p
 ·obtain⟨x,y,r,hy,h0⟩:=L.br
  refine⟨x,y,hsp.trans ?_,hy,h0⟩
  have:okV (vS is') s=okV (vS is') p:=zmw (vl:=vS is') (x:=s) (s:=p) (e.trans eP.symm)
  rw[this];exact r
 ·have hne:s≠p:=fun q=>hsp (by subst q;exact .refl)
  have es:is.getD s 0=o:=by
   rcases L.val hb sym H s with v|v
   ·rw[if_neg hne] at v;exact v.symm.trans e
   ·exact absurd (e.symm.trans v.1) H.o0
  obtain⟨x,y,r,hy,h0⟩:=N s hs es
  have r':Reach b (okV (vS is') s) s x:=zcd (fun u z _ _ _ oz=>by
   show is'.getD z 0=is'.getD s 0
   rw[e];exact L.isO hb sym H (oz.trans es)) r
  refine⟨x,y,r',hy,L.is0 hb sym H h0 fun q=>hsp ?_⟩
  subst q
  exact r'.step hy (eP.trans e.symm)
end
theorem zfV{n:Nat}{t:Nat->Bool}{x:Nat}:x∈(List.range n).filter t↔x<n/\t x=true:=by rw[List.mem_filter,List.mem_range]
def lD(b:List (List Nat))(is:List Int)(o:Int)(p:Nat):List (List Nat):=(lpt b (thr (is.set p o) [3-o])).filter fun r=>decide (brs b (is.set p o) r=[])
def lT(b:List (List Nat))(is:List Int)(o:Int)(p:Nat):List Nat:=(List.range b.length).filter fun q=>(lD b is o p).any fun r=>decide (q∈r)
def lS(b:List (List Nat))(is:List Int)(o:Int)(p:Nat):List Int:=(List.range is.length).map fun q=>if q=p then o else if q∈lT b is o p then 0 else is.getD q 0
structure LyA (b:List (List Nat)) (is:List Int) (o:Int) (p:Nat):Prop where
 bd:Bd b
 sym:Sym b
 hl:is.length=b.length
 hp:p<b.length
 p0:is.getD p 0=0
 H:Hands (3-o) o
 v:∀q,q<b.length->is.getD q 0=0\/is.getD q 0=3-o\/is.getD q 0=o
 nh:zkm b is (3-o)
 no:zkm b is o
section
variable {b:List (List Nat)} {is:List Int} {o:Int} {p:Nat}
theorem zc1:(lS b is o p).length=is.length:=by simp[lS]
theorem LyA.s1(A:LyA b is o p)(q:Nat):(is.set p o).getD q 0=if q=p then o else is.getD q 0:=by
 rw[zbz]
 by_cases e:q=p
 ·subst e;rw[if_pos ⟨rfl,by rw[A.hl];exact A.hp⟩,if_pos rfl]
 ·rw[if_neg (fun x=>e x.1.symm),if_neg e]
theorem LyA.l1(A:LyA b is o p):(is.set p o).length=b.length:=by rw[List.length_set];exact A.hl
theorem LyA.get(A:LyA b is o p){q:Nat}(hq:q<b.length):(lS b is o p).getD q 0=if q=p then o else if q∈lT b is o p then 0 else is.getD q 0:=by
 unfold lS
 rw[List.getD_eq_getElem?_getD,List.getElem?_map,List.getElem?_range (by rw[A.hl];exact hq)]
 rfl
theorem LyA.far(A:LyA b is o p){q:Nat}(hq:¬q<b.length):(lS b is o p).getD q 0=0/\is.getD q 0=0:=by
 have h1:=A.hl
 constructor
 ·rw[List.getD_eq_getElem?_getD,List.getElem?_eq_none (by rw[zc1];omega)];rfl
 ·rw[List.getD_eq_getElem?_getD,List.getElem?_eq_none (by omega)];rfl
theorem LyA.dead(A:LyA b is o p){r:List Nat}:r∈lD b is o p↔∃s,s<b.length/\is.getD s 0=3-o/\r=cpt b (vS is) s/\∀x∈r,∀y∈b.getD x [],is.getD y 0=0->y=p:=by
 have hT:∀{s},s∈thr (is.set p o) [3-o]↔s<b.length/\is.getD s 0=3-o:=fun {s}=>by
  rw[thr_mem,A.l1,A.s1]
  constructor
  ·rintro⟨h1,h2⟩
   by_cases e:s=p
   ·rw[if_pos e] at h2;exact absurd h2 A.H.ho
   ·rw[if_neg e] at h2;exact⟨h1,h2⟩
  ·rintro⟨h1,h2⟩
   have e:s≠p:=fun e=>by subst e;exact A.H.h0 (h2.symm.trans A.p0)
   exact⟨h1,by rw[if_neg e];exact h2⟩
 have hc:∀{s},s<b.length->is.getD s 0=3-o->cpt b (vT (thr (is.set p o) [3-o])) s=cpt b (vS is) s:=fun {s} hs es=>by
  have hsT:=hT.mpr ⟨hs,es⟩
  refine zkl fun y=>⟨fun r=>zcd (fun u z _ _ hz oz=>?_) r,fun r=>zcd (fun u z _ _ hz oz=>?_) r⟩
  ·exact(hT.mp ((zkk hsT).mp oz)).2.trans es.symm
  ·exact(zkk hsT).mpr (hT.mpr ⟨A.bd.get hz,Eq.trans oz es⟩)
 have hb1:∀{r:List Nat},brs b (is.set p o) r=[]↔∀x∈r,∀y∈b.getD x [],is.getD y 0=0->y=p:=fun {r}=>by
  rw[zkn A.bd]
  constructor
  ·intro h x hx y hy y0
   apply Classical.byContradiction
   intro hne
   exact h x hx y hy (by rw[A.s1,if_neg hne];exact y0)
  ·intro h x hx y hy
   rw[A.s1]
   by_cases e:y=p
   ·rw[if_pos e];exact A.H.o0
   ·rw[if_neg e];exact fun y0=>e (h x hx y hy y0)
 unfold lD
 rw[List.mem_filter,decide_eq_true_eq,hb1]
 constructor
 ·rintro⟨h1,h2⟩
  obtain⟨s,hs,rfl⟩:=zh6 h1
  obtain⟨q1,q2⟩:=hT.mp hs
  rw[hc q1 q2] at h2 ⊢
  exact⟨s,q1,q2,rfl,h2⟩
 ·rintro⟨s,q1,q2,rfl,h2⟩
  refine⟨?_,h2⟩
  have:=zh5 (T:=thr (is.set p o) [3-o]) A.bd A.sym (fun x hx=>(hT.mp hx).1) (hT.mpr ⟨q1,q2⟩)
  rwa [hc q1 q2] at this
theorem LyA.tk(A:LyA b is o p){q:Nat}:q∈lT b is o p↔∃r∈lD b is o p,q∈r:=by
 unfold lT
 rw[zfV,List.any_eq_true]
 constructor
 ·rintro⟨_,r,hr,hq⟩;exact⟨r,hr,of_decide_eq_true hq⟩
 ·rintro⟨r,hr,hq⟩
  obtain⟨s,hs,_,rfl,_⟩:=A.dead.mp hr
  exact⟨cpt_lt hq,_,hr,decide_eq_true hq⟩
theorem LyA.tkh(A:LyA b is o p){q:Nat}(h:q∈lT b is o p):q<b.length/\is.getD q 0=3-o/\q≠p:=by
 obtain⟨r,hr,hq⟩:=A.tk.mp h
 obtain⟨s,hs,es,rfl,_⟩:=A.dead.mp hr
 have e:is.getD q 0=3-o:=(cpt_val A.bd hs hq).trans es
 exact⟨cpt_lt hq,e,fun e'=>by subst e';exact A.H.h0 (e.symm.trans A.p0)⟩
theorem LyA.swp(A:LyA b is o p):Swp b (is.set p o) (3-o) (lpt b (thr (is.set p o) [3-o])) (lS b is o p) (lD b is o p):=by
 have low:∀y,(is.set p o).getD y 0=0->(lS b is o p).getD y 0=0:=fun y h0=>by
  by_cases hy:y<b.length
  ·rw[A.s1] at h0
   rw[A.get hy]
   by_cases e:y=p
   ·rw[if_pos e] at h0;exact absurd h0 A.H.o0
   ·rw[if_neg e] at h0 ⊢
    split
    ·rfl
    ·exact h0
  ·exact(A.far hy).1
 refine⟨by rw[zc1,List.length_set],fun r hr=>(List.mem_filter.mp hr).1,fun r hr q hq=>?_,fun q=>?_,fun r hr=>?_,fun r hr=>?_⟩
 ·have ht:=A.tk.mpr ⟨r,hr,hq⟩
  obtain⟨h1,_,h3⟩:=A.tkh ht
  rw[A.get h1,if_neg h3,if_pos ht]
 ·by_cases hq:q<b.length
  ·rw[A.get hq,A.s1]
   by_cases e:q=p
   ·rw[if_pos e,if_pos e];exact .inl rfl
   ·rw[if_neg e,if_neg e]
    by_cases ht:q∈lT b is o p
    ·rw[if_pos ht];exact .inr ⟨rfl,A.tk.mp ht⟩
    ·rw[if_neg ht];exact .inl rfl
  ·left
   rw[(A.far hq).1,A.s1,if_neg (fun e=>hq (by rw[e];exact A.hp)),(A.far hq).2]
 ·by_cases e:brs b (is.set p o) r=[]
  ·exact .inl (List.mem_filter.mpr ⟨hr,decide_eq_true e⟩)
  ·obtain⟨y,hy⟩:=List.exists_mem_of_ne_nil _ e
   obtain⟨⟨x,hx,hy⟩,h0⟩:=(zc8 A.bd).mp hy
   exact .inr ⟨x,hx,y,hy,low y h0⟩
 ·exact(zkn A.bd).mp (of_decide_eq_true (List.mem_filter.mp hr).2)
def Frb(b:List (List Nat))(is:List Int)(o:Int)(p:Nat):Prop:=brs b (lS b is o p) (cpt b (vS (lS b is o p)) p)≠[]
theorem LyA.laid(A:LyA b is o p)(h:Frb b is o p):LaidOk b is (3-o) o p (lS b is o p) (lD b is o p):=by
 refine⟨A.hl,A.hp,A.p0,A.swp,?_⟩
 obtain⟨y,hy⟩:=List.exists_mem_of_ne_nil _ h
 obtain⟨⟨x,hx,hy⟩,h0⟩:=(zc8 A.bd).mp hy
 exact⟨x,y,(zb3 A.bd A.hp).mp hx,hy,h0⟩
theorem LyA.snd(A:LyA b is o p)(h:Frb b is o p):zkm b (lS b is o p) o/\zkm b (lS b is o p) (3-o) :=
 ⟨(A.laid h).snd A.bd A.sym A.H A.no,A.swp.snd A.bd A.sym A.l1 A.H.h0⟩
theorem LyA.vals(A:LyA b is o p):∀q,q<b.length->(lS b is o p).getD q 0=0\/(lS b is o p).getD q 0=3-o\/(lS b is o p).getD q 0=o:=fun q hq=>by
 rw[A.get hq]
 split
 ·exact .inr (.inr rfl)
 ·split
  ·exact .inl rfl
  ·exact A.v q hq
end
structure PosA (b:List (List Nat)) (is:List Int) (o:Int):Prop where
 bd:Bd b
 sym:Sym b
 hl:is.length=b.length
 H:Hands (3-o) o
 v:∀q,q<b.length->is.getD q 0=0\/is.getD q 0=3-o\/is.getD q 0=o
 nh:zkm b is (3-o)
 no:zkm b is o
section
variable {b:List (List Nat)} {is:List Int} {o:Int} {p:Nat}
theorem PosA.ly(P:PosA b is o)(hp:p<b.length)(p0:is.getD p 0=0):LyA b is o p:=⟨P.bd,P.sym,P.hl,hp,p0,P.H,P.v,P.nh,P.no⟩
theorem PosA.next(P:PosA b is o)(A:LyA b is o p)(f:Frb b is o p):PosA b (lS b is o p) o :=
 ⟨P.bd,P.sym,by rw[zc1];exact P.hl,P.H,A.vals,(A.snd f).2,(A.snd f).1⟩
inductive Way (b:List (List Nat)) (o:Int):List Int->List Int->Prop where
 | refl {is:List Int}:Way b o is is
 | step {is is':List Int} {p:Nat} (A:LyA b is o p) (f:Frb b is o p) (w:Way b o (lS b is o p) is'):Way b o is is'
structure Att (b:List (List Nat)) (o:Int) (q:Nat) (i0 is:List Int):Prop where
 hs:∀z,is.getD z 0=3-o->i0.getD z 0=3-o
 row:∀z,is.getD z 0=3-o->∀y∈cpt b (vS i0) z,is.getD y 0=3-o
 chg:∀z,is.getD z 0≠i0.getD z 0->is.getD z 0≠3-o/\∃u∈cpt b (vS i0) q,∃w∈b.getD u [],is.getD w 0≠3-o/\Reach b (okV (vH is (3-o)) z) z w
structure Cap (b:List (List Nat)) (o:Int) (q:Nat) (i0 is:List Int):Prop where
 q0:is.getD q 0=0
 hs:∀z,is.getD z 0=3-o->i0.getD z 0=3-o
 row:∀z,is.getD z 0=3-o->∀y∈cpt b (vS i0) z,is.getD y 0=3-o
 chg:∀z,is.getD z 0≠i0.getD z 0->is.getD z 0≠3-o/\Reach b (okV (vH is (3-o)) z) z q
end
section
variable {b:List (List Nat)} {is:List Int} {o:Int} {p:Nat} {ce:Ce}
theorem zqe(hb:Bd b){vl:Nat->Int}:(ptc b vl).Nodup:=by
 unfold ptc
 refine List.Pairwise.map _ ?_ (List.Pairwise.and_mem.mp (List.Pairwise.filter _ List.nodup_range))
 rintro s t ⟨hs,ht,hne⟩ e
 obtain⟨s1,s2⟩:=List.mem_filter.mp hs
 obtain⟨t1,t2⟩:=List.mem_filter.mp ht
 have a:=zd4 (vl:=vl) hb (List.mem_range.mp s1) s2
 rw[e,zd4 hb (List.mem_range.mp t1) t2] at a
 exact hne a.symm
theorem zko(hb:Bd b){vl:Nat->Int}{c:List Nat}(h:c∈ptc b vl):0<c.length/\c.length<=b.length/\∀p∈c,p<b.length:=by
 obtain⟨s,hs,_,rfl⟩:=(zes hb).mp h
 exact⟨List.length_pos_of_mem (zcP hb hs),znK,fun p hp=>cpt_lt hp⟩
theorem zkp{c:List Nat}{n:Nat}(h0:0<c.length)(h:∀p∈c,p<n):c.getD 0 0<n:=by
 rw[List.getD_eq_getElem?_getD,List.getElem?_eq_getElem h0]
 exact h _ (List.getElem_mem h0)
theorem zmF{c:List Nat}(h0:0<c.length):ixW ce (wL c) (.int 0)=some (nW (c.getD 0 0)):=zdO (p:=0) h0
def zeE(b:List (List Nat))(is:List Int):List (List Nat):=(ptc b (vS is)).filter fun c=>!decide (is.getD (c.getD 0 0) 0=0)
theorem zn2(fu:Nat)(hfu:200<=fu)(B:Brd b)(hl:is.length=b.length):d_rows fu [wB b,wS is] ce=some (.ok (.lst ((zeE b is).map wL)) ce):=by
 have hz:=zeL
 have h36:=B.h36
 have e1:=zqa (ce:=ce) fu hfu (zsr hl) B.bd B.sym h36
 have hzl:(ptc b (vS is)).length<=PySem.sizeLine:=by have:=znM (b:=b) (vl:=vS is);omega
 unfold d_rows
 refine zb8 [some (wB b),some (wS is)] rfl ?_
 refine zas (zqy (zs:=ptc b (vS is)) (en:=wL) (t:=fun c=>!decide (is.getD (c.getD 0 0) 0=0)) (zj7 (zav (ws:=[wB b,wS is]) (by trivial) rfl e1) (.fr _)) hzl (fun c hc=>?_)) ?_
 ·obtain⟨p0,_,p2⟩:=zko B.bd hc
  have hh:c.getD 0 0<is.length:=by rw[hl];exact zkp p0 p2
  have i1:=zmF (ce:=ce) p0
  have i2:=zbZ (ce:=ce) hh
  trivial
 ·exact zaO (by simp only[Bel];exact zfH _ _)
end
section
variable {b:List (List Nat)} {is:List Int} {ce:Ce}
theorem zqf(fu:Nat)(B:Brd b)(hl:is.length=b.length){r:List Nat}(hr:∀p∈r,p<b.length):zce (d_breaths fu) [wB b,wS is,wL r] ce=some (.ok (wL (brs b is r)) ce):=zbE (zfh fu B.bd B.h36 hl (.fr _) hr) (bels_nW _ _)
end
theorem zdu{x y:List Int}(hl:x.length=y.length)(h:∀i,i<x.length->x.getD i 0=y.getD i 0):x=y:=by
 apply List.ext_getElem hl
 intro i h1 h2
 have:=h i h1
 rw[List.getD_eq_getElem?_getD,List.getD_eq_getElem?_getD,List.getElem?_eq_getElem h1,List.getElem?_eq_getElem h2] at this
 exact this
section
variable {b:List (List Nat)} {is:List Int} {o:Int} {p:Nat} {ce:Ce}
theorem zh7(fu:Nat)(h:Int):d_other_hand fu [.int h] ce=some (.ok (.int (3-h)) ce):=by
 unfold d_other_hand
 refine zb8 [some (.int h)] rfl ?_
 refine zas (w:=.int (3-h)) (ce':=ce) (by trivial) (zaO (by simp only[Bel]))
theorem ziP(fu:Nat){pts:List Nat}{v:Int}{w1:W}(hw:LstOf ce w1 (pts.map nW))(hl:is.length<=36)(hp:∀q∈pts,q<is.length):∃is',d_filled fu [wS is,w1,.int v] ce=some (.ok (wS is') ce)/\is'.length=is.length/\(∀q∈pts,is'.getD q 0=v)/\∀q,q∉pts->is'.getD q 0=is.getD q 0:=by
 have hz:=zeL
 suffices hs:∃w c',d_filled fu [wS is,w1,.int v] ce=some (.ok w c')/\∃is',w=wS is'/\c'=ce/\is'.length=is.length/\(∀q∈pts,is'.getD q 0=v)/\∀q,q∉pts->is'.getD q 0=is.getD q 0 by
  obtain⟨w,c',e,is',rfl,rfl,h⟩:=hs
  exact⟨is',e,h⟩
 obtain⟨s,hs,hsi,_⟩:=hw.src
 have hst:∀{c1:Ce} {l:List (Nat×C)},Own ce c1 l->s.Stays c1:=by
  intro c1 l h
  obtain⟨t,rfl⟩:=h.cut
  cases hw with
  | fr=>simp only[zhK] at hs;cases hs;exact True.intro
  | cl g =>
   simp only[zhK,g] at hs
   cases hs
   show(ce++t)[_]?=_
   rw[List.getElem?_append_left (List.getElem?_eq_some_iff.mp g).1]
   exact g
 have hs':∀{c1:Ce} {l:List (Nat×C)},Own ce c1 l->zhK c1 w1=some s:=by
  intro c1 l h
  obtain⟨t,rfl⟩:=h.cut
  cases hw with
  | fr=>exact hs
  | cl g =>
   simp only[zhK,g] at hs ⊢
   rw[List.getElem?_append_left (List.getElem?_eq_some_iff.mp g).1,g]
   exact hs
 unfold d_filled
 refine zdY [some (wS is),some w1,some (.int v),none,none] rfl ?_
 refine zar (w:=.cel ce.length) (ce':=ce++[.lst (is.map W.int)]) (zbe (zac (by trivial) zaj) (by rw[zj6 (xs:=is.map W.int) rfl,zcy (by rw[List.length_map];omega)])) ?_
 refine zam (by repeat (first|exact SetAt.zero|apply SetAt.succ)) ?_
 have O0:=(Own.start ce).alloc (C.lst (is.map W.int))
 generalize hk:ce.length=k3 at O0 ⊢
 generalize ce++[C.lst (is.map W.int)]=c0 at O0 ⊢
 refine zhc (xs:=pts) (en:=nW) (src:=s) (ce0:=c0) (zlm (zad rfl) (hs' O0)) hsi
  (fun d sl c=>∃is' x4,sl=[some (wS is),some w1,some (.int v),some (.cel k3),x4]/\Own ce c [(k3,C.lst (is'.map W.int))]/\is'.length=is.length/\(∀q∈d,is'.getD q 0=v)/\∀q,q∉d->is'.getD q 0=is.getD q 0)
  ⟨is,_,rfl,O0,rfl,by simp,fun _ _=>rfl⟩ ?_ (fun sl c h=>by obtain⟨_,_,_,O,_⟩:=h;exact hst O) ?_
 ·rintro d u r sl c e hu ⟨is',x4,rfl,O,l',z1,z2⟩
  refine⟨hst O,?_⟩
  have hul:u<is'.length:=by rw[l'];exact hp u hu
  unfold zgK
  refine zam (by repeat (first|exact SetAt.zero|apply SetAt.succ)) ?_
  refine zd5 (w:=.int v) (k:=k3) (ij:=u) (j:=u) (by trivial) (by trivial) (by trivial) O.g0 (zdD (by rw[List.length_map];exact hul)) ?_
  refine⟨is'.set u v,_,rfl,by rw[List.map_set];exact O.set0 _,by rw[List.length_set];exact l',fun q hq=>?_,fun q hq=>?_⟩
  ·rw[zbz]
   split
   ·rfl
   ·rename_i hn
    rcases List.mem_append.mp hq with hq|hq
    ·exact z1 q hq
    ·rw[List.mem_singleton] at hq;exact absurd ⟨hq.symm,hul⟩ hn
  ·rw[zbz,if_neg (fun x=>hq (by rw[<- x.1];simp))]
   exact z2 q fun x=>hq (List.mem_append_left _ x)
 ·rintro sl c ⟨is',x4,rfl,O,l',z1,z2⟩
  refine zas (w:=wS is') (ce':=c) (zbe (zac (by trivial) zaj) (zlq O.g0 (by omega))) ?_
  subst hk
  exact⟨_,_,O.finC (by simp only[Bel];exact belInts _ _),is',rfl,rfl,l',z1,z2⟩
theorem zgO(fu:Nat){pts:List Nat}{v:Int}(hl:is.length<=36)(hp:∀q∈pts,q<is.length):∃is',d_filled fu [wS is,wL pts,.int v] ce=some (.ok (wS is') ce)/\is'.length=is.length/\(∀q∈pts,is'.getD q 0=v)/\∀q,q∉pts->is'.getD q 0=is.getD q 0:=ziP fu (.fr _) hl hp
theorem zkq{l:List Nat}:zg2 ce (wL l)=some (!decide (l=[])):=by
 show some (!(l.map nW).isEmpty)=_
 cases l<;>simp
theorem zfW(fu:Nat)(hfu:200<=fu)(B:Brd b)(hl:is.length=b.length){h:Int}(h0:h≠0):d_breathless fu [wB b,wS is,.int h] ce=some (.ok (.cel ce.length) (ce++[.lst (((List.range b.length).filter fun q=>(zeE b is).any fun r=>decide (is.getD (r.getD 0 0) 0=h)&&(decide (brs b is r=[])&&decide (q∈r))).map nW)])):=by
 have hz:=zeL
 have h36:=B.h36
 have e1:=zn2 (ce:=ce++[C.lst []]) fu hfu B hl
 have rok:∀r∈zeE b is,0<r.length/\r.length<=b.length/\∀p∈r,p<b.length:=fun r hr=>zko B.bd (List.mem_filter.mp hr).1
 have rnd:(zeE b is).Nodup:=List.Pairwise.filter _ (zqe B.bd)
 have rnd1:∀r∈zeE b is,r.Nodup:=fun r hr=>by
  obtain⟨s,hs,_,rfl⟩:=(zes B.bd).mp (List.mem_filter.mp hr).1
  exact zpV
 have rmeet:∀r∈zeE b is,∀r'∈zeE b is,∀q,q∈r->q∈r'->r=r':=fun r hr r' hr' q h1 h2=>by
  obtain⟨s,hs,_,rfl⟩:=(zes B.bd).mp (List.mem_filter.mp hr).1
  obtain⟨t,ht,_,rfl⟩:=(zes B.bd).mp (List.mem_filter.mp hr').1
  exact zlK B.bd B.sym hs ht h1 h2
 unfold d_breathless
 refine zb8 [some (wB b),some (wS is),some (.int h),none,none] rfl ?_
 refine zar (zcx zaj (Nat.zero_le _)) ?_
 refine zam (by repeat (first|exact SetAt.zero|apply SetAt.succ)) ?_
 have O0:=(Own.start ce).alloc (C.lst (([]:List Nat).map nW))
 refine(?_:Run _ _ (ce++[C.lst []]) _)
 generalize hk:ce.length=k3 at O0 ⊢
 generalize hc0:ce++[C.lst []]=c0 at e1 ⊢
 have O0:Own ce c0 [(k3,C.lst (([]:List Nat).map nW))]:=by rw[<- hc0];exact O0
 generalize zeE b is=R at *
 refine za7 (zs:=R) (en:=wL) (c1:=c0) (zgD (by trivial))
  (fun d sl c=>∃F x4,sl=[some (wB b),some (wS is),some (.int h),some (.cel k3),x4]/\Own ce c [(k3,C.lst (F.map nW))]/\F.Nodup/\(∀x∈F,x<b.length)/\∀x,x∈F↔∃r∈d,is.getD (r.getD 0 0) 0=h/\brs b is r=[]/\x∈r)
  ⟨[],_,rfl,O0,by simp,by simp,by simp⟩ ?_ ?_
 ·rintro d r zdw sl c e hr ⟨F,x4,rfl,O,nd,lt,mem⟩
  obtain⟨r0,r1,r2⟩:=rok r hr
  have hh:r.getD 0 0<is.length:=by rw[hl];exact zkp r0 r2
  have i1:=zmF (ce:=c) r0
  have i2:=zbZ (ce:=c) hh
  have e2:=zqf (ce:=c) fu B hl r2
  have t2:=zkq (ce:=c) (l:=brs b is r)
  have hdr:∀r'∈d,r'≠r:=fun r' hr' e'=>by
   subst e'
   rw[<- e] at rnd
   exact(List.nodup_append.mp rnd).2.2 r' hr' r' (by simp) rfl
  have hdR:∀r'∈d,r'∈R:=fun r' hr'=>by rw[<- e];exact List.mem_append_left _ hr'
  unfold zdk
  refine zam (by repeat (first|exact SetAt.zero|apply SetAt.succ)) ?_
  refine zb7 (p:=decide (is.getD (r.getD 0 0) 0=h)&&!(!decide (brs b is r=[]))) (ce':=c) (zep (by trivial) (fun _=>zhd (zj2 (zav (ws:=[wB b,wS is,wL r]) (by trivial) rfl e2) t2))) (fun q=>?_) (fun q=>?_)
  ·simp only[Bool.not_not,Bool.and_eq_true,decide_eq_true_eq] at q
   have nd2:(F++r).Nodup:=by
    rw[List.nodup_append]
    refine⟨nd,?_,fun a ha b' hb' e'=>?_⟩
    ·exact rnd1 r hr
    ·subst e'
     obtain⟨r',hr',_,_,h3⟩:=(mem a).mp ha
     exact hdr r' hr' (rmeet r' (hdR r' hr') r hr a h3 hb')
   have lt2:∀x∈F++r,x<b.length:=fun x hx=>by
    rcases List.mem_append.mp hx with hx|hx
    ·exact lt x hx
    ·exact r2 x hx
   have hl2:=zaP nd2 lt2
   rw[List.length_append] at hl2
   refine zeo (w:=.non) (ce':=c.set k3 (.lst (F.map nW++r.map nW))) (zfC (ws:=[wL r]) (by trivial) (zb6 O.g0) (by trivial) (zhg O.g0 (ys:=r.map nW) rfl (by rw[List.length_map,List.length_map];omega))) ?_
   refine⟨F++r,_,rfl,by rw[List.map_append];exact O.set0 _,nd2,lt2,fun x=>?_⟩
   rw[List.mem_append,mem]
   constructor
   ·rintro(⟨r',hr',h⟩|hx)
    ·exact⟨r',List.mem_append_left _ hr',h⟩
    ·exact⟨r,by simp,q.1,q.2,hx⟩
   ·rintro⟨r',hr',h⟩
    rcases List.mem_append.mp hr' with hr'|hr'
    ·exact .inl ⟨r',hr',h⟩
    ·rw[List.mem_singleton] at hr';subst hr';exact .inr h.2.2
  ·refine zbp ?_
   refine⟨F,_,rfl,O,nd,lt,fun x=>?_⟩
   rw[mem]
   constructor
   ·rintro⟨r',hr',h⟩;exact⟨r',List.mem_append_left _ hr',h⟩
   ·rintro⟨r',hr',h⟩
    rcases List.mem_append.mp hr' with hr'|hr'
    ·exact⟨r',hr',h⟩
    ·rw[List.mem_singleton] at hr'
     subst hr'
     rw[decide_eq_true h.1,decide_eq_true h.2.1] at q
     cases q
 ·rintro sl c ⟨F,x4,rfl,O,nd,lt,mem⟩
  have hl':=zaP nd lt
  have es:zbV F=(List.range b.length).filter fun q=>R.any fun r=>decide (is.getD (r.getD 0 0) 0=h)&&(decide (brs b is r=[])&&decide (q∈r)):=by
   rw[zfE nd lt]
   apply List.filter_congr
   intro x _
   rw[Bool.eq_iff_iff,List.any_eq_true,decide_eq_true_eq,mem]
   simp only[Bool.and_eq_true,decide_eq_true_eq]
  rw[<- es]
  refine zas (zbe (zac (by trivial) zaj) ((zln (mk:=zfr) O.g0 (by omega)).trans (zcy (by rw[List.length_map,zb0];omega)))) ?_
  subst hk
  exact(O.alloc _).finO (by simp only[zf5];exact bels_nW _ _)
theorem zh8(fu:Nat)(hfu:200<=fu)(B:Brd b)(hl:is.length=b.length)(hp:p<b.length):zce (d_patch fu) [wB b,wS is,nW p] ce=some (.ok (wL (cpt b (vS is) p)) ce):=by
 refine zbE ?_ (bels_nW _ _)
 have e1:=zeB (ce:=ce) fu hfu (zsr hl) B.bd B.h36 hp
 unfold d_patch
 refine zb8 [some (wB b),some (wS is),some (nW p)] rfl ?_
 refine zas (zav (ws:=[wB b,wS is,nW p]) (by trivial) rfl e1) ?_
 exact((Own.start ce).alloc _).finO (by simp only[zf5];exact bels_nW _ _)
theorem LyA.rows(A:LyA b is o p){r:List Nat}:(r∈zeE b (is.set p o)/\(is.set p o).getD (r.getD 0 0) 0=3-o)↔r∈lpt b (thr (is.set p o) [3-o]):=by
 have hT:∀{s},s∈thr (is.set p o) [3-o]↔s<b.length/\(is.set p o).getD s 0=3-o:=fun {s}=>by rw[thr_mem,A.l1]
 have hc:∀{s},s<b.length->(is.set p o).getD s 0=3-o->cpt b (vT (thr (is.set p o) [3-o])) s=cpt b (vS (is.set p o)) s:=fun {s} hs es=>by
  have:=zeD (is:=is.set p o) A.bd A.l1 hs
  rwa [es] at this
 unfold zeE
 rw[List.mem_filter,zes A.bd]
 constructor
 ·rintro⟨⟨⟨s,hs,hm,rfl⟩,_⟩,q⟩
  rw[zd4 A.bd hs hm] at q
  have:=zh5 (T:=thr (is.set p o) [3-o]) A.bd A.sym (fun x hx=>(hT.mp hx).1) (hT.mpr ⟨hs,q⟩)
  rwa [hc hs q] at this
 ·intro h
  obtain⟨s,hs,rfl⟩:=zh6 h
  obtain⟨q1,q2⟩:=hT.mp hs
  rw[hc q1 q2]
  obtain⟨m,h1,h2,h3⟩:=zgH (vl:=vS (is.set p o)) A.bd A.sym q1
  have hm:=cpt_lt h1
  have em:(is.set p o).getD m 0=3-o:=(cpt_val A.bd q1 h1).trans q2
  rw[<- h3,zd4 A.bd hm h2,em]
  have h0:=A.H.h0
  exact⟨⟨⟨m,hm,h2,rfl⟩,by simp[h0]⟩,rfl⟩
theorem LyA.blist(A:LyA b is o p):((List.range b.length).filter fun q=>(zeE b (is.set p o)).any fun r=>decide ((is.set p o).getD (r.getD 0 0) 0=3-o)&&(decide (brs b (is.set p o) r=[])&&decide (q∈r)))=lT b is o p:=by
 unfold lT
 apply List.filter_congr
 intro q _
 rw[Bool.eq_iff_iff,List.any_eq_true,List.any_eq_true]
 simp only[Bool.and_eq_true,decide_eq_true_eq]
 constructor
 ·rintro⟨r,h1,h2,h3,h4⟩
  exact⟨r,List.mem_filter.mpr ⟨A.rows.mp ⟨h1,h2⟩,decide_eq_true h3⟩,h4⟩
 ·rintro⟨r,h1,h4⟩
  obtain⟨h1,h3⟩:=List.mem_filter.mp h1
  obtain⟨h1,h2⟩:=A.rows.mpr h1
  exact⟨r,h1,h2,of_decide_eq_true h3,h4⟩
theorem zqg{sl:Sl}{i p:Nat}(h:sl[i]?=some (some (nW p)))(hp:p<1000):[i].all (sml sl)=true:=by
 simp only[List.all_cons,List.all_nil,Bool.and_true,sml,h,nW]
 exact decide_eq_true (by simpa using hp)
theorem zh9(fu:Nat)(hfu:200<=fu)(B:Brd b)(P:PosA b is o)(hp:p<b.length)(p0:is.getD p 0=0){Q:O->Prop}(h:Run (zaA (dIf (zfq (zkM (zay 3 (zce (d_breaths fu)) (zae (zag 0) (zae (zag 6) (zae (zay 3 (zce (d_patch fu)) (zae (zag 0) (zae (zag 6) (zae (zag 3) zan)))) zan)))))) (zcB "NoBreath" [3]) za4) (zbB (zbU (zae (zag 6) (zae (zag 5) zan)))))
   [some (wB b),some (wS is),some (.int o),some (nW p),some (wS (is.set p o)),some (wL (lT b is o p)),some (wS (lS b is o p))] ce Q) :
  Run (zaA (dIf (dB (zaI (eqW true) (zaI ixW (zag 1) (zag 3)) (dC (.int 0)))) (zcB "NoLay" [3]) za4)
   (zaA (zbf 4 (zay 3 (d_filled fu) (zae (zag 1) (zae (zeI (zae (zag 3) zan)) (zae (zag 2) zan)))))
   (zaA (zbf 5 (zay 3 (zce (d_breathless fu)) (zae (zag 0) (zae (zag 4) (zae (zay 1 (d_other_hand fu) (zae (zag 2) zan)) zan)))))
   (zaA (zbf 6 (zay 3 (d_filled fu) (zae (zag 4) (zae (zag 5) (zae (dC (.int 0)) zan)))))
   (zaA (dIf (zfq (zkM (zay 3 (zce (d_breaths fu)) (zae (zag 0) (zae (zag 6) (zae (zay 3 (zce (d_patch fu)) (zae (zag 0) (zae (zag 6) (zae (zag 3) zan)))) zan)))))) (zcB "NoBreath" [3]) za4)
   (zbB (zbU (zae (zag 6) (zae (zag 5) zan)))))))))
   [some (wB b),some (wS is),some (.int o),some (nW p),none,none,none] ce Q:=by
 have hz:=zeL
 have A:=P.ly hp p0
 have h36:=B.h36
 have hl:=P.hl
 have jp:=zbZ (ce:=ce) (is:=is) (p:=p) (by omega)
 refine zbg (p:=!decide (is.getD p 0=0)) (ce':=ce) (by trivial) (fun q=>by rw[decide_eq_true p0] at q;cases q) (fun _=>?_)
 refine zaY ?_
 obtain⟨is1,e1,l1,a1,b1⟩:=zgO (ce:=ce) (is:=is) fu (pts:=[p]) (v:=o) (by omega) (fun q hq=>by rw[List.mem_singleton] at hq;subst hq;omega)
 have ei1:is1=is.set p o:=zdu (by rw[l1,List.length_set]) fun q _=>by
  rw[A.s1]
  by_cases e:q=p
  ·rw[if_pos e,e];exact a1 p (by simp)
  ·rw[if_neg e];exact b1 q (by simpa using e)
 subst ei1
 have z1:1<=PySem.sizeLine:=by decide
 refine zar (w:=wS (is.set p o)) (ce':=ce) (zav (ws:=[wS is,wL [p],.int o]) (zac (by trivial) (zac (zbO (ws:=[nW p]) (by trivial) z1) (by trivial))) rfl e1) ?_
 refine zam (by repeat (first|exact SetAt.zero|apply SetAt.succ)) ?_
 have e2:=zfW (ce:=ce) (is:=is.set p o) fu hfu B A.l1 (h:=3-o) A.H.h0
 rw[A.blist] at e2
 have e2f:=zbE e2 (bels_nW _ _)
 have e3:=zh7 (ce:=ce) fu o
 refine zar (w:=wL (lT b is o p)) (ce':=ce) (zav (ws:=[wB b,wS (is.set p o),.int (3-o)]) (by trivial) rfl e2f) ?_
 refine zam (by repeat (first|exact SetAt.zero|apply SetAt.succ)) ?_
 obtain⟨is2,e4,l2,a2,b2⟩:=zgO (ce:=ce) (is:=is.set p o) fu (pts:=lT b is o p) (v:=0) (by rw[A.l1];omega) (fun q hq=>by rw[A.l1];exact(A.tkh hq).1)
 have ei2:is2=lS b is o p:=zdu (by rw[l2,List.length_set,zc1]) fun q hq=>by
  rw[l2,A.l1] at hq
  rw[A.get hq]
  by_cases e:q=p
  ·rw[if_pos e,b2 q (fun h=>(A.tkh h).2.2 e),A.s1,if_pos e]
  ·rw[if_neg e]
   by_cases ht:q∈lT b is o p
   ·rw[if_pos ht];exact a2 q ht
   ·rw[if_neg ht,b2 q ht,A.s1,if_neg e]
 subst ei2
 refine zar (w:=wS (lS b is o p)) (ce':=ce) (zav (ws:=[wS (is.set p o),wL (lT b is o p),.int 0]) (by trivial) rfl e4) ?_
 refine zam (by repeat (first|exact SetAt.zero|apply SetAt.succ)) ?_
 exact h
theorem zkr(fu:Nat)(hfu:200<=fu)(B:Brd b)(P:PosA b is o)(hp:p<b.length){x1 x2 x4 x5:Option W} :
  zfq (zkM (zay 3 (zce (d_breaths fu)) (zae (zag 0) (zae (zag 6) (zae (zay 3 (zce (d_patch fu)) (zae (zag 0) (zae (zag 6) (zae (zag 3) zan)))) zan))))) [some (wB b),x1,x2,some (nW p),x4,x5,some (wS (lS b is o p))] ce=some (.ok (!(!decide (brs b (lS b is o p) (cpt b (vS (lS b is o p)) p)=[]))) ce):=by
 have hl:(lS b is o p).length=b.length:=by rw[zc1];exact P.hl
 have e1:=zh8 (ce:=ce) fu hfu B hl hp
 have e2:=zqf (ce:=ce) (is:=lS b is o p) fu B hl (r:=cpt b (vS (lS b is o p)) p) (fun x hx=>cpt_lt hx)
 exact zhd (zj2 (zav (ws:=[wB b,wS (lS b is o p),wL (cpt b (vS (lS b is o p)) p)]) (zac (by trivial) (zac (by trivial) (zac (zav (ws:=[wB b,wS (lS b is o p),nW p]) (by trivial) rfl e1) zaj))) rfl e2) zkq)
theorem zn3(fu:Nat)(P:PosA b is o)(h36:b.length<=36)(hp:p<b.length)(p0:¬is.getD p 0=0):d_laid fu [wB b,wS is,.int o,nW p] ce=some (.ex ⟨"NoLay",none⟩ ce):=by
 have hl:=P.hl
 have jp:=zbZ (ce:=ce) (is:=is) (p:=p) (by omega)
 unfold d_laid
 refine zh0 [some (wB b),some (wS is),some (.int o),some (nW p),none,none,none] rfl ?_
 refine zbg (p:=!decide (is.getD p 0=0)) (ce':=ce) (by trivial) (fun _=>zgI (zqg (p:=p) rfl (by omega)) ⟨rfl,[],by simp⟩) (fun q=>by rw[decide_eq_false p0] at q;cases q)
theorem zn4(fu:Nat)(hfu:200<=fu)(B:Brd b)(P:PosA b is o)(hp:p<b.length)(p0:is.getD p 0=0)(nf:¬Frb b is o p):d_laid fu [wB b,wS is,.int o,nW p] ce=some (.ex ⟨"NoBreath",none⟩ ce):=by
 have h36:=B.h36
 have nf':brs b (lS b is o p) (cpt b (vS (lS b is o p)) p)=[]:=Classical.byContradiction nf
 have eb:=zkr (ce:=ce) (o:=o) fu hfu B P hp (x1:=some (wS is)) (x2:=some (.int o)) (x4:=some (wS (is.set p o))) (x5:=some (wL (lT b is o p)))
 rw[decide_eq_true nf'] at eb
 unfold d_laid
 refine zh0 [some (wB b),some (wS is),some (.int o),some (nW p),none,none,none] rfl ?_
 refine zh9 fu hfu B P hp p0 ?_
 exact zbg (p:=!(!true)) (ce':=ce) eb (fun _=>zgI (zqg (p:=p) rfl (by omega)) ⟨rfl,[],by simp⟩) (fun q=>by cases q)
theorem zn5(fu:Nat)(hfu:200<=fu)(B:Brd b)(P:PosA b is o)(hp:p<b.length)(p0:is.getD p 0=0)(nf:Frb b is o p):d_laid fu [wB b,wS is,.int o,nW p] ce=some (.ok (.tup [wS (lS b is o p),wL (lT b is o p)]) ce):=by
 have z2:2<=PySem.sizeLine:=by decide
 have nf':¬brs b (lS b is o p) (cpt b (vS (lS b is o p)) p)=[]:=nf
 have eb:=zkr (ce:=ce) (o:=o) fu hfu B P hp (x1:=some (wS is)) (x2:=some (.int o)) (x4:=some (wS (is.set p o))) (x5:=some (wL (lT b is o p)))
 rw[decide_eq_false nf'] at eb
 unfold d_laid
 refine zb8 [some (wB b),some (wS is),some (.int o),some (nW p),none,none,none] rfl ?_
 refine zh9 fu hfu B P hp p0 ?_
 refine zbg (p:=!(!false)) (ce':=ce) eb (fun q=>by cases q) (fun _=>zaY ?_)
 refine zas (w:=.tup [wS (lS b is o p),wL (lT b is o p)]) (ce':=ce) (zbd (ws:=[wS (lS b is o p),wL (lT b is o p)]) (zac (zad rfl) (zac (zad rfl) zaj)) z2) ?_
 exact zaO (by simp only[Bel,zc9];exact⟨belInts _ _,bels_nW _ _,trivial⟩)
end
theorem zia{c:Sl->M W}{put:Option Nat}{ok:Exn->Bool}{hd:Exn->DS}{b:DS}{x:Exn}{sl sl':Sl}{ce c1 c2:Ce}{Q:O->Prop}(h:c sl ce=some (.ex x c1))(hok:ok x=true)(e:hd x sl c1=some (.go .ct sl' c2))(q:Q (.go .ct sl' c2)):Run (zaA (zmz c put ok hd) b) sl ce Q :=
 ⟨_,by simp only[zaA,zmz,h,hok,if_true,e],q⟩
section
variable {b:List (List Nat)} {is:List Int} {o:Int} {p q:Nat} {ce:Ce}
def zfi(b:List (List Nat))(is:List Int)(o:Int)(p:Nat):W:=.tup [nW p,wS (lS b is o p),wL (lT b is o p)]
open Classical in
def zeW(b:List (List Nat))(is:List Int)(o:Int)(p:Nat):Bool:=decide (is.getD p 0=0/\Frb b is o p)
open Classical in
theorem canL_iff:zeW b is o p=true↔is.getD p 0=0/\Frb b is o p:=by unfold zeW;exact decide_eq_true_iff
theorem zd7(n:Nat)(p:Nat):Bel n (zfi b is o p):=by simp only[Bel,zc9,zfi,nW];exact⟨trivial,belInts _ _,bels_nW _ _,trivial⟩
theorem bels_map{α:Type}{f:α->W}(n:Nat)(h:∀x,Bel n (f x)):∀l:List α,zc9 n (l.map f)
 | []=>by simp only[List.map_nil,zc9]
 | x::l=>by simp only[List.map_cons,zc9];exact⟨h x,bels_map n h l⟩
theorem ziQ(fu:Nat)(hfu:200<=fu)(B:Brd b)(P:PosA b is o){pts:List Nat}(hlt:∀p∈pts,p<b.length)(hlen:pts.length<=100) :
  zce (d_lays_on fu) [wB b,wS is,.int o,wL pts] ce=some (.ok (.lst ((pts.filter (zeW b is o)).map (zfi b is o))) ce):=by
 have hz:=zeL
 have z200:200<PySem.sizeLine:=by decide
 have z3:3<=PySem.sizeLine:=by decide
 have h36:=B.h36
 refine zbE ?_ (bels_map _ (zd7 _) _)
 unfold d_lays_on
 refine zb8 [some (wB b),some (wS is),some (.int o),some (wL pts),none,none,none] rfl ?_
 refine zar (zcx zaj (Nat.zero_le _)) ?_
 refine zam (by repeat (first|exact SetAt.zero|apply SetAt.succ)) ?_
 have O0:=(Own.start ce).alloc (C.lst [])
 refine za7 (zs:=pts) (en:=nW) (c1:=ce++[.lst []]) (zgD (zad rfl))
  (fun d sl c=>∃x5 x6,sl=[some (wB b),some (wS is),some (.int o),some (wL pts),some (.cel ce.length),x5,x6]/\Own ce c [(ce.length,C.lst ((d.filter (zeW b is o)).map (zfi b is o)))])
  ⟨_,_,rfl,O0⟩ ?_ ?_
 ·rintro d x r sl c e hx ⟨x5,x6,rfl,O⟩
  have hxb:=hlt x hx
  have hdl:d.length<100:=by
   have:=congrArg List.length e
   simp only[List.length_append,List.length_cons] at this
   omega
  have go:zay 4 (d_laid fu) (ziF (zae (zag 0) (zae (zag 1) (zae (zag 2) (zae (zag 5) zan))))) [some (wB b),some (wS is),some (.int o),some (wL pts),some (.cel ce.length),some (nW x),x6] c=d_laid fu [wB b,wS is,.int o,nW x] c:=by
   have:ziF (zae (zag 0) (zae (zag 1) (zae (zag 2) (zae (zag 5) zan)))) [some (wB b),some (wS is),some (.int o),some (wL pts),some (.cel ce.length),some (nW x),x6] c=some (.ok [wB b,wS is,.int o,nW x] c):=zhZ (zac (zad rfl) (zac (zad rfl) (zac (zad rfl) (zac (zad rfl) zaj))))
   simp only[zay,bnd,this]
   rfl
  unfold zfe
  refine zam (by repeat (first|exact SetAt.zero|apply SetAt.succ)) ?_
  by_cases p0:is.getD x 0=0
  ·by_cases hf:Frb b is o x
   ·have ec:zeW b is o x=true:=canL_iff.mpr ⟨p0,hf⟩
    refine zlz (go.trans (zn5 (ce:=c) fu hfu B P hxb p0 hf)) ?_
    have ea:=zgC (y:=zfi b is o x) O.g0 (by rw[List.length_map];exact Nat.lt_of_le_of_lt (List.length_filter_le _ _) (by omega))
    refine zeo (w:=.non) (zfC (zad rfl) (zb6 O.g0) (zac (zbd (ws:=[nW x,wS (lS b is o x),wL (lT b is o x)]) (zac (zad rfl) (zac (zaq (zad rfl) zaN (ziD (xs:=[wS (lS b is o x),wL (lT b is o x)]) (j:=0) rfl rfl)) (zac (zaq (zad rfl) zaN (ziD (xs:=[wS (lS b is o x),wL (lT b is o x)]) (j:=1) rfl rfl)) zaj))) z3) zaj) ea) ?_
    refine⟨_,_,rfl,?_⟩
    rw[List.filter_append,List.filter_cons_of_pos ec,List.filter_nil,List.map_append]
    exact O.set0 _
   ·have ec:¬zeW b is o x=true:=by intro q;exact hf (canL_iff.mp q).2
    refine zia (go.trans (zn4 (ce:=c) fu hfu B P hxb p0 hf)) (by decide +kernel) rfl ?_
    refine⟨_,_,rfl,?_⟩
    rw[List.filter_append,List.filter_cons_of_neg ec,List.filter_nil,List.append_nil]
    exact O
  ·have ec:¬zeW b is o x=true:=by intro q;exact p0 (canL_iff.mp q).1
   refine zia (go.trans (zn3 (ce:=c) fu P h36 hxb p0)) (by decide +kernel) rfl ?_
   refine⟨_,_,rfl,?_⟩
   rw[List.filter_append,List.filter_cons_of_neg ec,List.filter_nil,List.append_nil]
   exact O
 ·rintro sl c ⟨x5,x6,rfl,O⟩
  exact zas (w:=.cel ce.length) (ce':=c) (zad rfl) (O.finO (by simp only[zf5];exact bels_map _ (zd7 _) _))
def cmW(l:List (List Int)):W:=.lst (l.map wS)
theorem zmG(x y:List Int):peq (wS x) (wS y)=decide (x=y):=by simp only[wS,peq,zel]
theorem zqh(ng:Bool)(x:List Int)(l:List (List Int)):inW ng ce (wS x) (cmW l)=some (.bl (if ng then !decide (x∈l) else decide (x∈l))):=by
 have h1:cln 8 (drf ce (wS x))=true:=zcN x 7
 have h2:(l.map wS).all (cln 8)=true:=by
  rw[List.all_eq_true]
  intro w hw
  obtain⟨y,_,rfl⟩:=List.mem_map.mp hw
  exact zcN y 7
 have h3:(l.map wS).any (peq · (wS x))=decide (x∈l):=by
  rw[Bool.eq_iff_iff,List.any_eq_true,decide_eq_true_eq]
  constructor
  ·rintro⟨w,hw,e⟩
   obtain⟨y,hy,rfl⟩:=List.mem_map.mp hw
   rw[zmG,decide_eq_true_eq] at e
   subst e
   exact hy
  ·exact fun h=>⟨wS x,List.mem_map.mpr ⟨x,h,rfl⟩,by rw[zmG];simp⟩
 have h4:drf ce (wS x)=wS x:=rfl
 simp only[inW,cmW,zf3,zdV,h4] at *
 simp only[h1,h2,h3,Bool.and_self,if_true]
open Classical in
def ziR(b:List (List Nat))(cm:List (List Int))(is:List Int)(o:Int)(pts:List Nat):List Nat:=pts.filter fun p=>zeW b is o p&&!decide (lS b is o p∈cm)
theorem zhp{l:List (List Int)}:ixW ce (cmW (l++[is])) (.int (-1))=some (wS is):=by
 have:zf3 ce (cmW (l++[is]))=some ((l++[is]).map wS):=rfl
 have hl:((l++[is]).map wS).length=l.length+1:=by simp
 have hi:L2.ixN (l.length+1) (-1)=some l.length:=by
  unfold L2.ixN
  rw[if_neg (by omega),if_pos (by omega)]
  congr 1
  omega
 simp only[ixW,this,L2.atI,hl,hi,Option.bind_some]
 simp
theorem zmH(fu:Nat)(hfu:200<=fu)(B:Brd b)(P:PosA b is o){pts:List Nat}{l:List (List Int)}(hlt:∀p∈pts,p<b.length)(hlen:pts.length<=100) :
  d_new_lays fu [wB b,cmW (l++[is]),.int o,wL pts] ce=some (.ok (.lst ((ziR b (l++[is]) is o pts).map (zfi b is o))) ce):=by
 have z200:200<PySem.sizeLine:=by decide
 have e1:=ziQ (ce:=ce) fu hfu B P hlt hlen
 unfold d_new_lays
 refine zb8 [some (wB b),some (cmW (l++[is])),some (.int o),some (wL pts)] rfl ?_
 refine zas (w:=.lst ((ziR b (l++[is]) is o pts).map (zfi b is o))) (ce':=ce) ?_ (zaO (by simp only[Bel];exact bels_map _ (zd7 _) _))
 have:=zqy (zs:=pts.filter (zeW b is o)) (en:=zfi b is o) (c1:=ce) (js:=[1]) (sl:=[some (wB b),some (cmW (l++[is])),some (.int o),some (wL pts)]) (ce:=ce) (di:=dIL (zay 4 (zce (d_lays_on fu)) (zae (zag 0) (zae (zaI ixW (zag 1) (dUn znj (dC (.int 1)))) (zae (zag 2) (zae (zag 3) zan)))))) (c:=dB (zaI (inW true) (zaI ixW (zag 0) (dC (.int 1))) (zag 1))) (t:=fun p=>!decide (lS b is o p∈l++[is]))
  (zj7 (zav (ws:=[wB b,wS is,.int o,wL pts]) (zac (zad rfl) (zac (zaq (zad rfl) (zgB zaN rfl) zhp) (zac (zad rfl) (zac (zad rfl) zaj)))) rfl e1) (.fr _)) (Nat.le_trans (List.length_filter_le _ _) (by omega)) (fun p hp=>zcO (zaq (zaq (zad rfl) zaN (ziD (xs:=[nW p,wS (lS b is o p),wL (lT b is o p)]) (j:=1) rfl rfl)) (zad rfl) (zqh true _ _)))
 rw[this,List.filter_filter]
 unfold ziR
 simp only[Bool.and_comm]
end
def dW:Option Nat->W
 | none=>.non
 | some p=>nW p
def dsW(l:List (Option Nat)):W:=.tup (l.map dW)
abbrev Web:=List (List (Option Nat)×Option Nat)
def wrW(p:List (Option Nat)×Option Nat):W:=.tup [dsW p.1,dW p.2]
def wbW(l:Web):W:=.lst (l.map wrW)
def wd:Bool->PySem.Str
 | true => "caught"
 | false => "free"
theorem dW_bel(n:Nat)(d:Option Nat):Bel n (dW d):=by cases d<;>simp only[dW,nW,Bel]
theorem zn6(n:Nat)(p:List (Option Nat)×Option Nat):Bel n (wrW p):=by
 simp only[wrW,dsW,Bel,zc9]
 exact⟨bels_map n (dW_bel n) _,dW_bel n _,trivial⟩
section
variable {b:List (List Nat)} {o:Int} {q:Nat} {most:Nat}
def brq(b:List (List Nat))(q:Nat)(is:List Int):List Nat:=brs b is (cpt b (vS is) q)
open Classical in
def hlP(b:List (List Nat))(o:Int)(q:Nat)(cm:List (List Int))(is:List Int):List Nat :=
 (ziR b cm is o (brq b q is)).filter fun p=>decide ((lS b is o p).getD q 0=0)||decide (((brq b q (lS b is o p)).length:Int)<=1)
def stM(b:List (List Nat))(h:Int)(cm:List (List Int))(is:List Int):List (Option Nat×List Int) :=
 (ziR b cm is h (List.range b.length)).map (fun p=>(some p,lS b is h p))++[(none,is)]
def huL(g:Nat->Bool)(f:Nat->Bool×Web)(ds:List (Option Nat)):List Nat->Web->Bool×Web
 | [],acc=>(false,acc)
 | p::ps,acc=>if g p=true then (true,[(ds,some p)]) else if (f p).1=true then (true,(ds,some p)::(f p).2) else huL g f ds ps (acc++(f p).2)
def ruL(f:Option Nat×List Int->Bool×Web)(ds:List (Option Nat)):List (Option Nat×List Int)->Web->Bool×Web
 | [],acc=>(true,acc)
 | st::ss,acc=>if (f st).1=false then (false,(ds,st.1)::(f st).2) else ruL f ds ss (acc++(f st).2)
def cha(b:List (List Nat))(o:Int)(q most:Nat):Nat->Bool->List (List Int)->List Int->List (Option Nat)->Bool×Web
 | 0,_,_,_,_=>(false,[])
 | r+1,true,pre,is,ds=>if most<=(ds.length+1) / 2 then (false,[]) else huL (fun p=>decide ((lS b is o p).getD q 0=0)) (fun p=>cha b o q most r false (pre++[is]) (lS b is o p) (ds++[some p])) ds (hlP b o q (pre++[is]) is) []
 | r+1,false,pre,is,ds=>if most<=(ds.length+1) / 2 then (false,[]) else ruL (fun st=>cha b o q most r true (pre++[is]) st.2 (ds++[st.1])) ds (stM b (3-o) (pre++[is]) is) []
def lF:Nat->Bool->Nat
 | 0,_=>0
 | r+1,true=>16*lF r false
 | r+1,false=>lF r true+1
def lC:Nat->Bool->Nat
 | 0,_=>0
 | r+1,true=>lC r false+1
 | r+1,false=>17*lC r true
theorem zks{g:Nat->Bool}{f:Nat->Bool×Web}{ds:List (Option Nat)}{F C:Nat}(hf:∀p,(f p).1=false->(f p).2.length<=F)(hc:∀p,(f p).1=true->(f p).2.length<=C):∀(l:List Nat) (acc:Web),
  ((huL g f ds l acc).1=false->(huL g f ds l acc).2.length<=acc.length+l.length*F)/\((huL g f ds l acc).1=true->(huL g f ds l acc).2.length<=C+1)
 | [],acc=>⟨fun _=>by simp[huL],fun h=>by simp[huL] at h⟩
 | p::ps,acc=>by
  unfold huL
  split
  ·exact⟨fun h=>by simp at h,fun _=>by simp⟩
  ·split
   ·rename_i _ h
    exact⟨fun h'=>by simp at h',fun _=>by have:=hc p h;simp;omega⟩
   ·rename_i _ h
    have h':(f p).1=false:=by cases e:(f p).1<;>simp_all
    obtain⟨i1,i2⟩:=zks hf hc ps (acc++(f p).2)
    refine⟨fun q=>Nat.le_trans (i1 q) ?_,i2⟩
    have:=hf p h'
    rw[List.length_append,List.length_cons,Nat.succ_mul]
    omega
theorem zkt{f:Option Nat×List Int->Bool×Web}{ds:List (Option Nat)}{F C:Nat}(hf:∀p,(f p).1=false->(f p).2.length<=F)(hc:∀p,(f p).1=true->(f p).2.length<=C):∀(l:List (Option Nat×List Int)) (acc:Web),
  ((ruL f ds l acc).1=true->(ruL f ds l acc).2.length<=acc.length+l.length*C)/\((ruL f ds l acc).1=false->(ruL f ds l acc).2.length<=F+1)
 | [],acc=>⟨fun _=>by simp[ruL],fun h=>by simp[ruL] at h⟩
 | p::ps,acc=>by
  unfold ruL
  split
  ·rename_i h
   exact⟨fun h'=>by simp at h',fun _=>by have:=hf p h;simp;omega⟩
  ·rename_i h
   have h':(f p).1=true:=by cases e:(f p).1<;>simp_all
   obtain⟨i1,i2⟩:=zkt hf hc ps (acc++(f p).2)
   refine⟨fun q=>Nat.le_trans (i1 q) ?_,i2⟩
   have:=hc p h'
   rw[List.length_append,List.length_cons,Nat.succ_mul]
   omega
theorem zd8{cm:List (List Int)}{is:List Int}{h:Int}{l:List Nat}:(ziR b cm is h l).length<=l.length:=List.length_filter_le _ _
theorem zku{is:List Int}:(brq b q is).length<=b.length:=Nat.le_trans (List.length_filter_le _ _) zeC
theorem zkv{cm:List (List Int)}{is:List Int}:(hlP b o q cm is).length<=b.length:=Nat.le_trans (List.length_filter_le _ _) (Nat.le_trans zd8 zku)
theorem zkw{cm:List (List Int)}{is:List Int}{h:Int}:(stM b h cm is).length<=b.length+1:=by
 unfold stM
 rw[List.length_append,List.length_map]
 have:=zd8 (b:=b) (cm:=cm) (is:=is) (h:=h) (l:=List.range b.length)
 rw[List.length_range] at this
 simp only[List.length_cons,List.length_nil]
 omega
theorem zcI(h16:b.length<=16):∀(r:Nat) (t:Bool) (pre:List (List Int)) (is:List Int) (ds:List (Option Nat)),
  ((cha b o q most r t pre is ds).1=false->(cha b o q most r t pre is ds).2.length<=lF r t)/\((cha b o q most r t pre is ds).1=true->(cha b o q most r t pre is ds).2.length<=lC r t)
 | 0,t,pre,is,ds=>⟨fun _=>by simp[cha],fun h=>by simp[cha] at h⟩
 | r+1,true,pre,is,ds=>by
  unfold cha
  split
  ·exact⟨fun _=>by simp,fun h=>by simp at h⟩
  ·obtain⟨i1,i2⟩:=zks (g:=fun p=>decide ((lS b is o p).getD q 0=0)) (ds:=ds) (f:=fun p=>cha b o q most r false (pre++[is]) (lS b is o p) (ds++[some p])) (F:=lF r false) (C:=lC r false) (fun p=>(zcI h16 r false _ _ _).1) (fun p=>(zcI h16 r false _ _ _).2) (hlP b o q (pre++[is]) is) []
   refine⟨fun h=>Nat.le_trans (i1 h) ?_,i2⟩
   have:=zkv (b:=b) (o:=o) (q:=q) (cm:=pre++[is]) (is:=is)
   simp only[lF,List.length_nil,Nat.zero_add]
   exact Nat.mul_le_mul_right _ (by omega)
 | r+1,false,pre,is,ds=>by
  unfold cha
  split
  ·exact⟨fun _=>by simp,fun h=>by simp at h⟩
  ·obtain⟨i1,i2⟩:=zkt (ds:=ds) (f:=fun st:Option Nat×List Int=>cha b o q most r true (pre++[is]) st.2 (ds++[st.1])) (F:=lF r true) (C:=lC r true) (fun p=>(zcI h16 r true _ _ _).1) (fun p=>(zcI h16 r true _ _ _).2) (stM b (3-o) (pre++[is]) is) []
   refine⟨i2,fun h=>Nat.le_trans (i1 h) ?_⟩
   have:=zkw (b:=b) (h:=3-o) (cm:=pre++[is]) (is:=is)
   simp only[lC,List.length_nil,Nat.zero_add]
   exact Nat.mul_le_mul_right _ (by omega)
end
section
variable {b:List (List Nat)} {is:List Int} {o:Int} {p q most k:Nat} {c:Ce}
def chF(b:List (List Nat))(o:Int)(q most:Nat):List (PySem.Str×W):=[("joined",wB b),("hunter",.int o),("runner",.int (3-o)),("stone",nW q),("most",nW most)]
theorem PosA.flip(P:PosA b is o):PosA b is (3-o):=by
 have e:3-(3-o)=o:=by omega
 refine⟨P.bd,P.sym,P.hl,⟨by rw[e];exact P.H.o0,P.H.h0,by rw[e];exact fun h=>P.H.ho h.symm⟩,fun q hq=>?_,by rw[e];exact P.no,P.nh⟩
 rw[e]
 rcases P.v q hq with h|h|h
 ·exact .inl h
 ·exact .inr (.inr h)
 ·exact .inr (.inl h)
theorem PosA.back(P:PosA b is (3-o)):PosA b is o:=by
 have:=P.flip
 rwa [show 3-(3-o)=o by omega] at this
theorem zfX(P:PosA b is o)(hp:p<b.length)(h:zeW b is o p=true):PosA b (lS b is o p) o:=by
 obtain⟨p0,f⟩:=canL_iff.mp h
 exact P.next (P.ly hp p0) f
theorem zcR{cm:List (List Int)}{l:List Nat}{p:Nat}(h:p∈ziR b cm is o l):p∈l/\zeW b is o p=true:=by
 obtain⟨h1,h2⟩:=List.mem_filter.mp h
 rw[Bool.and_eq_true] at h2
 exact⟨h1,h2.1⟩
theorem brq_lt{p:Nat}(h:p∈brq b q is):p<b.length:=zfg (List.mem_filter.mp h).1
theorem zeF{cm:List (List Int)}{p:Nat}(h:p∈hlP b o q cm is):p<b.length/\zeW b is o p=true:=by
 obtain⟨h1,h2⟩:=zcR (List.mem_filter.mp h).1
 exact⟨brq_lt h1,h2⟩
theorem zib(fu:Nat)(g:c[k]?=some (.ins "Chase" (chF b o q most)))(ds:List (Option Nat)):d_Chase_is_spent fu [.cel k,dsW ds] c=some (.ok (.bl (decide (most<=(ds.length+1) / 2))) c):=by
 have l1:zcv [dsW ds] c=some (.ok (nW ds.length) c):=by simp[zcv,dsW];rfl
 have e1:zcl (nW ds.length) (.int 1)=some (nW (ds.length+1)):=by simp[zcl,i2,nW]
 have e2:zoe (nW (ds.length+1)) (.int 2)=some (nW ((ds.length+1) / 2)):=by
  rw[show(nW ((ds.length+1) / 2))=W.int (((ds.length+1:Nat):Int) / 2) by simp[nW]]
  exact zj9 rfl rfl (by omega)
 have e3:fGe (nW ((ds.length+1) / 2)) (nW most)=some (.bl (decide (most<=(ds.length+1) / 2))):=by
  show some (W.bl (decide ((most:Int)<=(((ds.length+1) / 2:Nat):Int))))=_
  rw[show decide ((most:Int)<=(((ds.length+1) / 2:Nat):Int))=decide (most<=(ds.length+1) / 2) by rw[Bool.eq_iff_iff,decide_eq_true_eq,decide_eq_true_eq];omega]
 unfold d_Chase_is_spent
 refine zb8 [some (.cel k),some (dsW ds)] rfl ?_
 exact zas (zaK (zaK (zaK (zbe (ws:=[dsW ds]) (zac (zad rfl) zaj) l1) zaN e1) zaN e2) (zcZ (zad rfl) g rfl) e3) (zaO (by simp only[Bel]))
theorem zkx(fu:Nat)(hfu:200<=fu)(B:Brd b)(hl:is.length=b.length)(hq:q<b.length)(g:c[k]?=some (.ins "Chase" (chF b o q most))):d_Chase_breaths_at fu [.cel k,wS is] c=some (.ok (wL (brq b q is)) c):=by
 have e1:=zh8 (ce:=c) fu hfu B hl hq
 have e2:=zbE (zfh (ce:=c) (row:=cpt b (vS is) q) fu B.bd B.h36 hl (.fr _) (fun p hp=>cpt_lt hp)) (bels_nW _ _)
 unfold d_Chase_breaths_at
 refine zb8 [some (.cel k),some (wS is)] rfl ?_
 exact zas (zav (ws:=[wB b,wS is,wL (cpt b (vS is) q)]) (zac (zcZ (zad rfl) g rfl) (zac (zad rfl) (zac (zav (ws:=[wB b,wS is,nW q]) (zac (zcZ (zad rfl) g rfl) (zac (zad rfl) (zac (zcZ (zad rfl) g rfl) zaj))) rfl e1) zaj))) rfl e2) (zaO (by simp only[Bel];exact bels_nW _ _))
theorem zlL(fu:Nat)(hfu:200<=fu)(B:Brd b)(P:PosA b is o)(hq:q<b.length){pre:List (List Int)}(g:c[k]?=some (.ins "Chase" (chF b o q most))) :
  d_Chase_hunter_lays fu [.cel k,cmW (pre++[is])] c=some (.ok (.lst ((hlP b o q (pre++[is]) is).map (zfi b is o))) c):=by
 have z200:200<PySem.sizeLine:=by decide
 have h36:=B.h36
 have bl:=zku (b:=b) (q:=q) (is:=is)
 have e1:=zkx (c:=c) (is:=is) fu hfu B P.hl hq g
 have e2:=zmH (ce:=c) (l:=pre) fu hfu B P (pts:=brq b q is) (fun p hp=>brq_lt hp) (by omega)
 have nl:=zd8 (b:=b) (cm:=pre++[is]) (is:=is) (h:=o) (l:=brq b q is)
 unfold d_Chase_hunter_lays
 refine zb8 [some (.cel k),some (cmW (pre++[is])),none] rfl ?_
 refine zar (zav (ws:=[wB b,cmW (pre++[is]),.int o,wL (brq b q is)]) (zac (zcZ (zad rfl) g rfl) (zac (zad rfl) (zac (zcZ (zad rfl) g rfl) (zac (zcD (ws:=[wS is]) (zad rfl) g rfl (zac (zaq (zad rfl) (zgB zaN rfl) zhp) zaj) rfl e1) zaj)))) rfl e2) ?_
 refine zam (by repeat (first|exact SetAt.zero|apply SetAt.succ)) ?_
 refine zas (zqy (zs:=ziR b (pre++[is]) is o (brq b q is)) (en:=zfi b is o) (c1:=c) (t:=fun p=>decide ((lS b is o p).getD q 0=0)||decide (((brq b q (lS b is o p)).length:Int)<=1)) (zj7 (zad rfl) (.fr _)) (by omega) (fun p hp=>?_)) (zaO (by simp only[Bel];exact bels_map _ (zd7 _) _))
 have hl':(lS b is o p).length=b.length:=by rw[zc1];exact P.hl
 have e3:=zkx (c:=c) (is:=lS b is o p) fu hfu B hl' hq g
 have i1:ixW c (zfi b is o p) (.int 1)=some (wS (lS b is o p)):=ziD (xs:=[nW p,wS (lS b is o p),wL (lT b is o p)]) (j:=1) rfl rfl
 have i2:=zbZ (ce:=c) (is:=lS b is o p) (p:=q) (by omega)
 have l1:=zfD (ce:=c) (l:=brq b q (lS b is o p))
 refine zhZ (zhS (zcO (zaq (zaq (zaq (x:=zfi b is o p) (zad rfl) zaN i1) (zcZ (k:=k) (zad rfl) g rfl) i2) zaN eqI0)) (fun _=>zcO (zaK (zbe (ws:=[wL (brq b q (lS b is o p))]) (zac (zcD (k:=k) (ws:=[wS (lS b is o p)]) (zad rfl) g rfl (zac (zaq (x:=zfi b is o p) (zad rfl) zaN i1) zaj) rfl e3) zaj) l1) zaN rfl)))
def stW(st:Option Nat×List Int):W:=.tup [dW st.1,wS st.2]
theorem zky(n:Nat)(st:Option Nat×List Int):Bel n (stW st):=by simp only[stW,Bel,zc9];exact⟨dW_bel n _,belInts _ _,trivial⟩
theorem zn7{n:Nat}(h:n<=1000):zfv zbX [nW n] c=some (.ok (wL (List.range n)) c):=by
 have z:2000<PySem.sizeLine:=by decide
 have r1:ziX [nW n]=some (.rng 0 n):=by
  simp only[ziX,nW]
  rw[if_pos ⟨by omega,by omega⟩,Int.toNat_natCast]
 simp only[zfv,r1]
 rw[if_pos (by omega)]
 have e:(List.range n).map (fun(i:Nat)=>W.int (0+(i:Int)))=(List.range n).map nW:=by
  apply List.map_congr_left
  intro i _
  simp[nW]
 rw[e,zeq (by rw[List.length_map,List.length_range];omega)]
theorem zlM(fu:Nat)(hfu:200<=fu)(B:Brd b)(P:PosA b is o){pre:List (List Int)}:zce (d_steps fu) [wB b,cmW (pre++[is]),.int o] c=some (.ok (.lst ((stM b o (pre++[is]) is).map stW)) c):=by
 have z200:200<PySem.sizeLine:=by decide
 have z2:2<=PySem.sizeLine:=by decide
 have h36:=B.h36
 have e1:=zmH (ce:=c) (l:=pre) fu hfu B P (pts:=List.range b.length) (fun p hp=>List.mem_range.mp hp) (by simp;omega)
 have nl:=zd8 (b:=b) (cm:=pre++[is]) (is:=is) (h:=o) (l:=List.range b.length)
 rw[List.length_range] at nl
 refine zbE ?_ (bels_map _ (zky _) _)
 unfold d_steps
 refine zb8 [some (wB b),some (cmW (pre++[is])),some (.int o),none] rfl ?_
 have e0:zfv zbX [nW b.length] c=some (.ok (wL (List.range b.length)) c):=zn7 (by omega)
 generalize hN:ziR b (pre++[is]) is o (List.range b.length)=N at *
 refine zar (w:=.cel c.length) (ce':=c++[.lst (N.map fun p=>stW (some p,lS b is o p))]) (zsm (zs:=N) (en:=zfi b is o) (g:=fun p=>stW (some p,lS b is o p)) (zj7 (zav (ws:=[wB b,cmW (pre++[is]),.int o,wL (List.range b.length)]) (zac (zad rfl) (zac (zad rfl) (zac (zad rfl) (zac (zbe (ws:=[nW b.length]) (zac (zbe (ws:=[wB b]) (zac (zad rfl) zaj) zci) zaj) e0) zaj)))) rfl e1) (.fr _)) (by omega) (fun p hp=>zbd (ws:=[nW p,wS (lS b is o p)]) (zac (zaq (x:=zfi b is o p) (zad rfl) zaN (ziD (xs:=[nW p,wS (lS b is o p),wL (lT b is o p)]) (j:=0) rfl rfl)) (zac (zaq (x:=zfi b is o p) (zad rfl) zaN (ziD (xs:=[nW p,wS (lS b is o p),wL (lT b is o p)]) (j:=1) rfl rfl)) zaj)) z2)) ?_
 refine zam (by repeat (first|exact SetAt.zero|apply SetAt.succ)) ?_
 have O0:=(Own.start c).alloc (C.lst (N.map fun p=>stW (some p,lS b is o p)))
 have ea:=zgC (y:=stW (none,is)) O0.g0 (by rw[List.length_map];omega)
 refine zms (w:=.non) (zfC (zad rfl) (zb6 O0.g0) (zac (zbd (ws:=[.non,wS is]) (zac zaN (zac (zaq (zad rfl) (zgB zaN rfl) zhp) zaj)) z2) zaj) ea) ?_
 have O1:=O0.set0 (C.lst ((N.map fun p=>stW (some p,lS b is o p))++[stW (none,is)]))
 have es:(stM b o (pre++[is]) is).map stW=(N.map fun p=>stW (some p,lS b is o p))++[stW (none,is)]:=by
  unfold stM
  rw[hN,List.map_append,List.map_map]
  rfl
 rw[es]
 refine zas (w:=.cel c.length) (zad rfl) (O1.finO (by
  simp only[zf5]
  rw[<- es]
  exact bels_map _ (zky _) _))
theorem zdv{α:Type}{f:α->W}{n d:Nat}{c:Ce}(h:∀x,ze9 n c d (f x)=some (f x)):∀l:List α,zdj n c d (l.map f)=some (l.map f)
 | []=>by simp only[List.map_nil,zdj]
 | x::l=>by simp only[List.map_cons,zdj,h x,zdv h l]
theorem zkz(n d:Nat)(c:Ce)(x:Option Nat):ze9 n c d (dW x)=some (dW x):=by cases x<;>cases d<;>simp only[dW,nW,ze9]
theorem zkA(n d:Nat)(c:Ce)(x:List (Option Nat)×Option Nat):ze9 n c (d+2) (wrW x)=some (wrW x):=by
 simp only[wrW,dsW,ze9,zdj,zdv (zkz n d c),zkz,Option.map_some]
theorem zic{n j:Nat}{c:Ce}{w:PySem.Str}{l:Web}(hn:n<=j)(g:c[j]?=some (.lst (l.map wrW))):ze9 n c 6 (.tup [.str w,.cel j])=some (.tup [.str w,wbW l]):=by
 have h:¬j<n:=by omega
 simp only[ze9,zdj,if_neg h,g,zdv (zkA n 2 c),Option.map_some,wbW]
theorem zcJ{n:Nat}{c:Ce}{w:PySem.Str}{l:Web}:ze9 n c 6 (.tup [.str w,wbW l])=some (.tup [.str w,wbW l]):=by
 simp only[wbW,ze9,zdj,zdv (zkA n 2 c),Option.map_some]
def toW(h:Bool×Web):W:=.tup [.str (wd h.1),wbW h.2]
theorem lim:∀r,r<=9->∀t,17*lF r t+17<PySem.sizeLine/\17*lC r t+17<PySem.sizeLine:=by decide +kernel
theorem zn8(x y:PySem.Str):eqW false c (.str x) (.str y)=some (.bl (x==y)):=by simp[eqW,drf,cln,peq]
theorem zgP(t:Bool):(wd t==("caught" : PySem.Str))=t:=by cases t<;>decide +kernel
theorem zn9(t:Bool):(wd t==("free" : PySem.Str))=!t:=by cases t<;>decide +kernel
theorem zrT(h:Bool×Web):ixW c (toW h) (.int 0)=some (.str (wd h.1)):=ziD (xs:=[.str (wd h.1),wbW h.2]) (j:=0) rfl rfl
theorem zqB(h:Bool×Web):ixW c (toW h) (.int 1)=some (wbW h.2):=ziD (xs:=[.str (wd h.1),wbW h.2]) (j:=1) rfl rfl
theorem zmI{sl:Sl}{d1 d2:Sl->M W}{l:List (List Int)}(h1:d1 sl c=some (.ok (cmW l) c))(h2:d2 sl c=some (.ok (wS is) c))(hl:l.length<=1000):ziW zbX d1 (zeI (zae d2 zan)) sl c=some (.ok (cmW (l++[is])) c):=by
 have z:2000<PySem.sizeLine:=by decide
 have z1:1<=PySem.sizeLine:=by decide
 have:=zeA (sl:=sl) (ce:=c) (a:=d1) (b:=zeI (zae d2 zan)) h1 (zbO (ws:=[wS is]) (zac h2 zaj) z1) (xs:=l.map wS) (ys:=[wS is]) rfl rfl (by rw[List.length_map];show l.length+1<=_;omega)
 rw[this]
 simp only[cmW,List.map_append,List.map_cons,List.map_nil]
theorem zmJ{sl:Sl}{d1 d2:Sl->M W}{l:List (Option Nat)}{x:Option Nat}(h1:d1 sl c=some (.ok (dsW l) c))(h2:d2 sl c=some (.ok (dW x) c))(hl:l.length<=1000):ziE d1 (zbU (zae d2 zan)) sl c=some (.ok (dsW (l++[x])) c):=by
 have z:2000<PySem.sizeLine:=by decide
 have z1:1<=PySem.sizeLine:=by decide
 have:=znJ (c1:=c) (xs:=l.map dW) (ys:=[dW x]) h1 (zbd (ws:=[dW x]) (zac h2 zaj) z1) (by rw[List.length_map];show l.length+1<=_;omega)
 rw[this]
 simp only[dsW,List.map_append,List.map_cons,List.map_nil]
end
section
variable {b:List (List Nat)} {o:Int} {q most:Nat}
theorem zoa{is:List Int}{cm:List (List Int)}(P:PosA b is o){st:Option Nat×List Int}(h:st∈stM b (3-o) cm is):PosA b st.2 o:=by
 unfold stM at h
 rcases List.mem_append.mp h with h|h
 ·obtain⟨p,hp,rfl⟩:=List.mem_map.mp h
  obtain⟨h1,h2⟩:=zcR hp
  exact(zfX P.flip (List.mem_range.mp h1) h2).back
 ·rw[List.mem_singleton] at h
  subst h
  exact P
theorem zkB{α:Type}{zs d r:List α}{x:α}(e:d++x::r=zs):zs.drop d.length=x::r/\zs.drop (d++[x]).length=r:=by
 subst e
 constructor
 ·simp
 ·rw[show d++x::r=(d++[x])++r by simp]
  simp only[List.drop_left]
set_option maxHeartbeats 1000000 in
theorem zkC(fu:Nat)(hfu:200<=fu)(B:Brd b)(h16:b.length<=16)(hq:q<b.length):∀(r:Nat) (t:Bool) (pre:List (List Int)) (is:List Int) (ds:List (Option Nat)) (c:Ce) (k:Nat),r<=10->PosA b is o->c[k]?=some (.ins "Chase" (chF b o q most)) ->
  2*most<=ds.length+r->ds.length<2*most->pre.length=ds.length->ds.length+r<=100 ->
  zkc (if t=true then (zao fu r).1 else (zao fu r).2) [.cel k,cmW (pre++[is]),dsW ds] c=some (.ok (toW (cha b o q most r t pre is ds)) c)
 | 0,t,pre,is,ds,c,k,_,_,_,h1,h2,_,_=>by omega
 | r+1,true,pre,is,ds,c,k,hr,P,g,h1,h2,h3,h4=>by
  have z2:2<=PySem.sizeLine:=by decide
  have z1:1<=PySem.sizeLine:=by decide
  obtain⟨lm1,lm2⟩:=lim r (by omega) false
  have hk:k<c.length:=(List.getElem?_eq_some_iff.mp g).1
  rw[if_pos rfl]
  show zkc (zbh fu (zao fu r).1 (zao fu r).2) _ c=_
  suffices hs:∃w c',zbh fu (zao fu r).1 (zao fu r).2 [.cel k,cmW (pre++[is]),dsW ds] c=some (.ok w c')/\∃l,Own c c' l/\ze9 c.length c' 6 w=some (toW (cha b o q most (r+1) true pre is ds)) by
   obtain⟨w,c',e,l,O,ht⟩:=hs
   exact Own.frzD' e O (Chg.refl c) ht
  unfold zbh
  refine zdY [some (.cel k),some (cmW (pre++[is])),some (dsW ds),none,none,none] rfl ?_
  refine zbg (p:=decide (most<=(ds.length+1) / 2)) (ce':=c) (zcO (zcD (ws:=[dsW ds]) (zad rfl) g rfl (zac (zad rfl) zaj) rfl (zib fu g ds))) (fun sp=>?_) (fun sp=>?_)
  ·have e0:cha b o q most (r+1) true pre is ds=(false,[]):=by unfold cha;rw[if_pos (of_decide_eq_true sp)]
   rw[e0]
   refine zbN (zas (w:=.tup [.str "free",.lst []]) (ce':=c) (zbd (ws:=[.str "free",.lst []]) (zac zaN (zac (zbO (ws:=[]) zaj (Nat.zero_le _)) zaj)) z2) ?_)
   exact⟨_,_,rfl,[],Own.start c,zcJ (w := "free") (l:=[])⟩
  have nsp:=of_decide_eq_false sp
  have e0:cha b o q most (r+1) true pre is ds=huL (fun p=>decide ((lS b is o p).getD q 0=0)) (fun p=>cha b o q most r false (pre++[is]) (lS b is o p) (ds++[some p])) ds (hlP b o q (pre++[is]) is) []:=by
   rw[cha];rw[if_neg nsp]
  rw[e0]
  generalize hG:(fun p=>decide ((lS b is o p).getD q 0=0))=G
  generalize hF:(fun p=>cha b o q most r false (pre++[is]) (lS b is o p) (ds++[some p]))=F
  have fF:∀p,(F p).1=false->(F p).2.length<=lF r false:=fun p=>by rw[<- hF];exact(zcI h16 r false _ _ _).1
  have fC:∀p,(F p).1=true->(F p).2.length<=lC r false:=fun p=>by rw[<- hF];exact(zcI h16 r false _ _ _).2
  refine zaY ?_
  refine zar (zcx zaj (Nat.zero_le _)) ?_
  refine zam (by repeat (first|exact SetAt.zero|apply SetAt.succ)) ?_
  have O0:=(Own.start c).alloc (C.lst (([]:Web).map wrW))
  refine(?_:Run _ _ (c++[C.lst (([]:Web).map wrW)]) _)
  have gO:∀{c':Ce} {l:List (Nat×C)},Own c c' l->c'[k]?=some (.ins "Chase" (chF b o q most)):=fun {c' l} O=>by
   obtain⟨t,rfl⟩:=O.cut
   rw[List.getElem?_append_left hk]
   exact g
  generalize c++[C.lst (([]:Web).map wrW)]=c1 at O0 ⊢
  have eh:=zlL (c:=c1) (pre:=pre) fu hfu B P hq (gO O0)
  have hll:=zkv (b:=b) (o:=o) (q:=q) (cm:=pre++[is]) (is:=is)
  have hlm:∀p∈hlP b o q (pre++[is]) is,p<b.length/\zeW b is o p=true:=fun p hp=>zeF hp
  generalize hlP b o q (pre++[is]) is=zs at eh hll hlm
  refine zgG (zs:=zs) (en:=zfi b is o) (c1:=c1) (zgD (zcD (ws:=[cmW (pre++[is])]) (zad rfl) (gO O0) rfl (zac (zad rfl) zaj) rfl eh))
   (fun d sl c'=>∃x4 x5 acc,sl=[some (.cel k),some (cmW (pre++[is])),some (dsW ds),some (.cel c.length),x4,x5]/\Own c c' [(c.length,C.lst (acc.map wrW))]/\acc.length<=d.length*lF r false/\huL G F ds zs []=huL G F ds (zs.drop d.length) acc)
   (fun w c'=>∃w2 c2,zoh c c' w=some (.ok w2 c2)/\∃l,Own c c2 l/\ze9 c.length c2 6 w2=some (toW (huL G F ds zs [])))
   ⟨_,_,[],rfl,O0,by simp,by simp⟩ ?_ (fun w sl c' h=>h) ?_
  ·rintro d p zdw sl c' e hp ⟨x4,x5,acc,rfl,O,al,eq⟩
   have gk:=gO O
   obtain⟨hpb,hcan⟩:=hlm p hp
   have Pn:=zfX P hpb hcan
   have hdl:d.length<16:=by
    have:=congrArg List.length e
    simp only[List.length_append,List.length_cons] at this
    omega
   obtain⟨d1,d2⟩:=zkB e
   rw[d1] at eq
   have i0:ixW c' (zfi b is o p) (.int 0)=some (dW (some p)):=ziD (xs:=[nW p,wS (lS b is o p),wL (lT b is o p)]) (j:=0) rfl rfl
   have i1:ixW c' (zfi b is o p) (.int 1)=some (wS (lS b is o p)):=ziD (xs:=[nW p,wS (lS b is o p),wL (lT b is o p)]) (j:=1) rfl rfl
   have i2:=zbZ (ce:=c') (is:=lS b is o p) (p:=q) (by rw[zc1,P.hl];exact hq)
   have eg:G p=decide ((lS b is o p).getD q 0=0):=by rw[<- hG]
   unfold zdl
   refine zam (by repeat (first|exact SetAt.zero|apply SetAt.succ)) ?_
   have row:∀x5',zbU (zae (zag 2) (zae (zaI ixW (zag 4) (dC (.int 0))) zan)) [some (.cel k),some (cmW (pre++[is])),some (dsW ds),some (.cel c.length),some (zfi b is o p),x5'] c'=some (.ok (wrW (ds,some p)) c'):=fun x5'=>zbd (ws:=[dsW ds,dW (some p)]) (zac (zad rfl) (zac (zaq (zad rfl) zaN i0) zaj)) z2
   refine zbg (p:=G p) (ce':=c') (by rw[eg];exact zcO (zaq (zaq (zaq (zad rfl) zaN i1) (zcZ (zad rfl) gk rfl) i2) zaN eqI0)) (fun q1=>?_) (fun q1=>?_)
   ·refine zbN (zas (w:=.tup [.str "caught",.lst [wrW (ds,some p)]]) (ce':=c') (zbd (ws:=[.str "caught",.lst [wrW (ds,some p)]]) (zac zaN (zac (zbO (ws:=[wrW (ds,some p)]) (zac (row _) zaj) z1) zaj)) z2) ?_)
    refine⟨_,_,rfl,_,O,?_⟩
    rw[eq,huL,if_pos q1]
    exact zcJ (w := "caught") (l:=[(ds,some p)])
   refine zaY ?_
   have eF:F p=cha b o q most r false (pre++[is]) (lS b is o p) (ds++[some p]):=by rw[<- hF]
   have ih:=zkC fu hfu B h16 hq r false (pre++[is]) (lS b is o p) (ds++[some p]) c' k (by omega) Pn gk (by simp only[List.length_append,List.length_cons,List.length_nil];omega) (by simp only[List.length_append,List.length_cons,List.length_nil];omega) (by simp only[List.length_append,List.length_cons,List.length_nil];omega) (by simp only[List.length_append,List.length_cons,List.length_nil];omega)
   rw[if_neg Bool.false_ne_true,<- eF] at ih
   refine zar (w:=toW (F p)) (ce':=c') (zcD (ws:=[cmW (pre++[is]++[lS b is o p]),dsW (ds++[some p])]) (zad rfl) gk rfl (zac (zmI (zad rfl) (zaq (zad rfl) zaN i1) (by simp only[List.length_append,List.length_cons,List.length_nil];omega)) (zac (zmJ (zad rfl) (zaq (zad rfl) zaN i0) (by omega)) zaj)) rfl ih) ?_
   refine zam (by repeat (first|exact SetAt.zero|apply SetAt.succ)) ?_
   refine zbg (p:=(F p).1) (ce':=c') (zcO (zaq (zaq (zad rfl) zaN (zrT _)) zaN ((zn8 _ _).trans (by rw[zgP])))) (fun q2=>?_) (fun q2=>?_)
   ·have hc:=fC p q2
    refine zbN (zas (w:=.tup [.str "caught",wbW ((ds,some p)::(F p).2)]) (ce':=c') (zbd (ws:=[.str "caught",wbW ((ds,some p)::(F p).2)]) (zac zaN (zac (zeA (zbO (ws:=[wrW (ds,some p)]) (zac (row _) zaj) z1) (zaq (zad rfl) zaN (zqB _)) (xs:=[wrW (ds,some p)]) (ys:=(F p).2.map wrW) rfl rfl (by rw[List.length_map];simp only[List.length_cons,List.length_nil];omega)) zaj)) z2) ?_)
    refine⟨_,_,rfl,_,O,?_⟩
    rw[eq,huL,if_neg (by rw[q1];exact Bool.false_ne_true),if_pos q2]
    exact zcJ
   ·have hf:=fF p q2
    refine zaY ?_
    have hm:d.length*lF r false<=16*lF r false:=Nat.mul_le_mul_right _ (by omega)
    refine zeo (w:=.non) (ce':=c'.set c.length (.lst (acc.map wrW++(F p).2.map wrW))) (zfC (ws:=[wbW (F p).2]) (zad rfl) (zb6 O.g0) (zac (zaq (zad rfl) zaN (zqB _)) zaj) (zhg O.g0 (ys:=(F p).2.map wrW) rfl (by rw[List.length_map,List.length_map];omega))) ?_
    refine⟨_,_,acc++(F p).2,rfl,by rw[List.map_append];exact O.set0 _,?_,?_⟩
    ·rw[List.length_append,List.length_append,List.length_cons,List.length_nil,Nat.add_mul]
     omega
    ·rw[eq,d2,huL,if_neg (by rw[q1];exact Bool.false_ne_true),if_neg (by rw[q2];exact Bool.false_ne_true)]
  ·rintro sl c' ⟨x4,x5,acc,rfl,O,al,eq⟩
   rw[List.drop_length] at eq
   refine zas (w:=.tup [.str "free",.cel c.length]) (ce':=c') (zbd (ws:=[.str "free",.cel c.length]) (zac zaN (zac (zad rfl) zaj)) z2) ?_
   refine⟨_,_,rfl,_,O,?_⟩
   rw[eq,huL]
   exact zic (w := "free") (Nat.le_refl _) O.g0
 | r+1,false,pre,is,ds,c,k,hr,P,g,h1,h2,h3,h4=>by
  have z2:2<=PySem.sizeLine:=by decide
  have z1:1<=PySem.sizeLine:=by decide
  obtain⟨lm1,lm2⟩:=lim r (by omega) true
  have hk:k<c.length:=(List.getElem?_eq_some_iff.mp g).1
  rw[if_neg Bool.false_ne_true]
  show zkc (zbq fu (zao fu r).1 (zao fu r).2) _ c=_
  suffices hs:∃w c',zbq fu (zao fu r).1 (zao fu r).2 [.cel k,cmW (pre++[is]),dsW ds] c=some (.ok w c')/\∃l,Own c c' l/\ze9 c.length c' 6 w=some (toW (cha b o q most (r+1) false pre is ds)) by
   obtain⟨w,c',e,l,O,ht⟩:=hs
   exact Own.frzD' e O (Chg.refl c) ht
  unfold zbq
  refine zdY [some (.cel k),some (cmW (pre++[is])),some (dsW ds),none,none,none] rfl ?_
  refine zbg (p:=decide (most<=(ds.length+1) / 2)) (ce':=c) (zcO (zcD (ws:=[dsW ds]) (zad rfl) g rfl (zac (zad rfl) zaj) rfl (zib fu g ds))) (fun sp=>?_) (fun sp=>?_)
  ·have e0:cha b o q most (r+1) false pre is ds=(false,[]):=by unfold cha;rw[if_pos (of_decide_eq_true sp)]
   rw[e0]
   refine zbN (zas (w:=.tup [.str "free",.lst []]) (ce':=c) (zbd (ws:=[.str "free",.lst []]) (zac zaN (zac (zbO (ws:=[]) zaj (Nat.zero_le _)) zaj)) z2) ?_)
   exact⟨_,_,rfl,[],Own.start c,zcJ (w := "free") (l:=[])⟩
  have nsp:=of_decide_eq_false sp
  have e0:cha b o q most (r+1) false pre is ds=ruL (fun st=>cha b o q most r true (pre++[is]) st.2 (ds++[st.1])) ds (stM b (3-o) (pre++[is]) is) []:=by
   rw[cha];rw[if_neg nsp]
  rw[e0]
  generalize hF:(fun st:Option Nat×List Int=>cha b o q most r true (pre++[is]) st.2 (ds++[st.1]))=F
  have fF:∀p,(F p).1=false->(F p).2.length<=lF r true:=fun p=>by rw[<- hF];exact(zcI h16 r true _ _ _).1
  have fC:∀p,(F p).1=true->(F p).2.length<=lC r true:=fun p=>by rw[<- hF];exact(zcI h16 r true _ _ _).2
  refine zaY ?_
  refine zar (zcx zaj (Nat.zero_le _)) ?_
  refine zam (by repeat (first|exact SetAt.zero|apply SetAt.succ)) ?_
  have O0:=(Own.start c).alloc (C.lst (([]:Web).map wrW))
  refine(?_:Run _ _ (c++[C.lst (([]:Web).map wrW)]) _)
  have gO:∀{c':Ce} {l:List (Nat×C)},Own c c' l->c'[k]?=some (.ins "Chase" (chF b o q most)):=fun {c' l} O=>by
   obtain⟨t,rfl⟩:=O.cut
   rw[List.getElem?_append_left hk]
   exact g
  generalize c++[C.lst (([]:Web).map wrW)]=c1 at O0 ⊢
  have eh:=zlM (c:=c1) (pre:=pre) fu hfu B P.flip
  have hll:=zkw (b:=b) (h:=3-o) (cm:=pre++[is]) (is:=is)
  have hlm:∀st∈stM b (3-o) (pre++[is]) is,PosA b st.2 o:=fun st hs=>zoa P hs
  generalize stM b (3-o) (pre++[is]) is=zs at eh hll hlm
  refine zgG (zs:=zs) (en:=stW) (c1:=c1) (zgD (zav (ws:=[wB b,cmW (pre++[is]),.int (3-o)]) (zac (zcZ (zad rfl) (gO O0) rfl) (zac (zad rfl) (zac (zcZ (zad rfl) (gO O0) rfl) zaj))) rfl eh))
   (fun d sl c'=>∃x4 x5 acc,sl=[some (.cel k),some (cmW (pre++[is])),some (dsW ds),some (.cel c.length),x4,x5]/\Own c c' [(c.length,C.lst (acc.map wrW))]/\acc.length<=d.length*lC r true/\ruL F ds zs []=ruL F ds (zs.drop d.length) acc)
   (fun w c'=>∃w2 c2,zoh c c' w=some (.ok w2 c2)/\∃l,Own c c2 l/\ze9 c.length c2 6 w2=some (toW (ruL F ds zs [])))
   ⟨_,_,[],rfl,O0,by simp,by simp⟩ ?_ (fun w sl c' h=>h) ?_
  ·rintro d st zdw sl c' e hst ⟨x4,x5,acc,rfl,O,al,eq⟩
   have gk:=gO O
   have Pn:=hlm st hst
   have hdl:d.length<17:=by
    have:=congrArg List.length e
    simp only[List.length_append,List.length_cons] at this
    omega
   obtain⟨d1,d2⟩:=zkB e
   rw[d1] at eq
   have i0:ixW c' (stW st) (.int 0)=some (dW st.1):=ziD (xs:=[dW st.1,wS st.2]) (j:=0) rfl rfl
   have i1:ixW c' (stW st) (.int 1)=some (wS st.2):=ziD (xs:=[dW st.1,wS st.2]) (j:=1) rfl rfl
   unfold zdR
   refine zam (by repeat (first|exact SetAt.zero|apply SetAt.succ)) ?_
   have row:∀x5',zbU (zae (zag 2) (zae (zaI ixW (zag 4) (dC (.int 0))) zan)) [some (.cel k),some (cmW (pre++[is])),some (dsW ds),some (.cel c.length),some (stW st),x5'] c'=some (.ok (wrW (ds,st.1)) c'):=fun x5'=>zbd (ws:=[dsW ds,dW st.1]) (zac (zad rfl) (zac (zaq (zad rfl) zaN i0) zaj)) z2
   have eF:F st=cha b o q most r true (pre++[is]) st.2 (ds++[st.1]):=by rw[<- hF]
   have ih:=zkC fu hfu B h16 hq r true (pre++[is]) st.2 (ds++[st.1]) c' k (by omega) Pn gk (by simp only[List.length_append,List.length_cons,List.length_nil];omega) (by simp only[List.length_append,List.length_cons,List.length_nil];omega) (by simp only[List.length_append,List.length_cons,List.length_nil];omega) (by simp only[List.length_append,List.length_cons,List.length_nil];omega)
   rw[if_pos rfl,<- eF] at ih
   refine zar (w:=toW (F st)) (ce':=c') (zcD (ws:=[cmW (pre++[is]++[st.2]),dsW (ds++[st.1])]) (zad rfl) gk rfl (zac (zmI (zad rfl) (zaq (zad rfl) zaN i1) (by simp only[List.length_append,List.length_cons,List.length_nil];omega)) (zac (zmJ (zad rfl) (zaq (zad rfl) zaN i0) (by omega)) zaj)) rfl ih) ?_
   refine zam (by repeat (first|exact SetAt.zero|apply SetAt.succ)) ?_
   refine zbg (p:=!(F st).1) (ce':=c') (zcO (zaq (zaq (zad rfl) zaN (zrT _)) zaN ((zn8 _ _).trans (by rw[zn9])))) (fun q2=>?_) (fun q2=>?_)
   ·have q2:(F st).1=false:=by simpa using q2
    have hc:=fF st q2
    refine zbN (zas (w:=.tup [.str "free",wbW ((ds,st.1)::(F st).2)]) (ce':=c') (zbd (ws:=[.str "free",wbW ((ds,st.1)::(F st).2)]) (zac zaN (zac (zeA (zbO (ws:=[wrW (ds,st.1)]) (zac (row _) zaj) z1) (zaq (zad rfl) zaN (zqB _)) (xs:=[wrW (ds,st.1)]) (ys:=(F st).2.map wrW) rfl rfl (by rw[List.length_map];simp only[List.length_cons,List.length_nil];omega)) zaj)) z2) ?_)
    refine⟨_,_,rfl,_,O,?_⟩
    rw[eq,ruL,if_pos q2]
    exact zcJ
   ·have q2:(F st).1=true:=by simpa using q2
    have hf:=fC st q2
    refine zaY ?_
    have hm:d.length*lC r true<=16*lC r true:=Nat.mul_le_mul_right _ (by omega)
    refine zeo (w:=.non) (ce':=c'.set c.length (.lst (acc.map wrW++(F st).2.map wrW))) (zfC (ws:=[wbW (F st).2]) (zad rfl) (zb6 O.g0) (zac (zaq (zad rfl) zaN (zqB _)) zaj) (zhg O.g0 (ys:=(F st).2.map wrW) rfl (by rw[List.length_map,List.length_map];omega))) ?_
    refine⟨_,_,acc++(F st).2,rfl,by rw[List.map_append];exact O.set0 _,?_,?_⟩
    ·rw[List.length_append,List.length_append,List.length_cons,List.length_nil,Nat.add_mul]
     omega
    ·rw[eq,d2,ruL,if_neg (by rw[q2];simp)]
  ·rintro sl c' ⟨x4,x5,acc,rfl,O,al,eq⟩
   rw[List.drop_length] at eq
   refine zas (w:=.tup [.str "caught",.cel c.length]) (ce':=c') (zbd (ws:=[.str "caught",.cel c.length]) (zac zaN (zac (zad rfl) zaj)) z2) ?_
   refine⟨_,_,rfl,_,O,?_⟩
   rw[eq,ruL]
   exact zic (w := "caught") (Nat.le_refl _) O.g0
theorem zlN(fu:Nat)(hfu:200<=fu)(B:Brd b)(h16:b.length<=16)(hq:q<b.length){is:List Int}(P:PosA b is o)(m1:1<=most)(m5:most<=5)(c:Ce):d_chase fu [wB b,wS is,.int o,nW q,nW most] c=some (.ok (toW (cha b o q most 10 true [] is [])) c):=by
 have z1:1<=PySem.sizeLine:=by decide
 have i1:d_Chase___init__ fu [.cel c.length,wB b,.int o,nW q,nW most] (c++[.ins "Chase" []])=some (.ok .non (c++[.ins "Chase" (chF b o q most)])):=by
  have eo:=zh7 (ce:=c++[.ins "Chase" [("joined",wB b),("hunter",.int o)]]) fu o
  have sl1:∀(x y:C),(c++[x]).set c.length y=c++[y]:=fun x y=>by simp
  unfold d_Chase___init__
  refine zrS [some (.cel c.length),some (wB b),some (.int o),some (nW q),some (nW most)] rfl ?_
  refine zd6 (w:=wB b) (k:=c.length) (zad rfl) (zad rfl) (zdd _ _) (Nat.lt_of_le_of_lt (Nat.le_refl 0) (by decide)) ?_
  rw[sl1]
  refine zd6 (w:=.int o) (k:=c.length) (zad rfl) (zad rfl) (zdd _ _) (Nat.lt_of_le_of_lt (zfL (Nat.le_refl 0)) (by decide)) ?_
  rw[sl1]
  refine zd6 (w:=.int (3-o)) (k:=c.length) (zav (ws:=[.int o]) (zac (zad rfl) zaj) rfl eo) (zad rfl) (zdd _ _) (Nat.lt_of_le_of_lt (Nat.le_refl 2) (by decide)) ?_
  rw[sl1]
  refine zd6 (w:=nW q) (k:=c.length) (zad rfl) (zad rfl) (zdd _ _) (Nat.lt_of_le_of_lt (zfL (Nat.le_refl 2)) (by decide)) ?_
  rw[sl1]
  refine zlD (w:=nW most) (k:=c.length) (zad rfl) (zad rfl) (zdd _ _) (Nat.lt_of_le_of_lt (zfL (zfL (Nat.le_refl 2))) (by decide)) ?_
  rw[sl1]
  exact⟨_,_,rfl,rfl⟩
 have e2:=zkC (most:=most) (o:=o) fu hfu B h16 hq 10 true [] is [] (c++[.ins "Chase" (chF b o q most)]) c.length (by omega) P (zdd _ _) (by simp;omega) (by simp;omega) rfl (by simp)
 rw[if_pos rfl] at e2
 have e2':zkc (d_Chase_hunt fu) [.cel c.length,cmW ([]++[is]),dsW []] (c++[.ins "Chase" (chF b o q most)])=some (.ok (toW (cha b o q most 10 true [] is [])) (c++[.ins "Chase" (chF b o q most)])):=e2
 unfold d_chase
 refine zb8 [some (wB b),some (wS is),some (.int o),some (nW q),some (nW most)] rfl ?_
 refine zbg (p:=false) (ce':=c) (zcO (zaK (zbe (ws:=[wB b]) (zac (zad rfl) zaj) zci) zaN (by show some (W.bl (decide ((16:Int)<(b.length:Int))))=_;rw[decide_eq_false (by omega)]))) (fun q=>by cases q) (fun _=>zaY ?_)
 refine zas (w:=toW (cha b o q most 10 true [] is [])) (ce':=c++[.ins "Chase" (chF b o q most)]) (zcD (k:=c.length) (ws:=[cmW ([]++[is]),dsW []]) (znW (ws:=[wB b,.int o,nW q,nW most]) (by trivial) rfl i1) (zdd _ _) rfl (zac (zbO (ws:=[wS is]) (zac (zad rfl) zaj) z1) (zac (zbd zaj (Nat.zero_le _)) zaj)) rfl e2') (znG (zfy ?_))
 simp only[toW,Bel,zc9,wbW]
 exact⟨trivial,bels_map _ (zn6 _) _,trivial⟩
end
theorem zgQ{b:List (List Nat)}{is:List Int}{r r':List Nat}(h:∀x,x∈r↔x∈r'):brs b is r=brs b is r':=by
 unfold brs zbT
 congr 1
 apply List.filter_congr
 intro y _
 rw[Bool.eq_iff_iff,List.any_eq_true,List.any_eq_true]
 exact⟨fun⟨x,hx,q⟩=>⟨x,(h x).mp hx,q⟩,fun⟨x,hx,q⟩=>⟨x,(h x).mpr hx,q⟩⟩
section
variable {ce:Ce}
def StOf(ce:Ce)(w:W)(is:List Int):Prop:=zf3 ce w=some (is.map W.int)
theorem StOf.ix{w:W}{is:List Int}(h:StOf ce w is){p:Nat}(hp:p<is.length):ixW ce w (nW p)=some (.int (is.getD p 0)):=by
 rw[zfA h,List.getElem?_map,List.getD_eq_getElem?_getD,List.getElem?_eq_getElem hp];rfl
theorem zss(is:List Int):StOf ce (wS is) is:=rfl
theorem zst{k:Nat}{is:List Int}(g:ce[k]?=some (.lst (is.map W.int))):StOf ce (.cel k) is:=zhR g
theorem StOf.app{w:W}{is:List Int}(h:StOf ce w is)(t:Ce):StOf (ce++t) w is:=by
 unfold StOf at h ⊢
 cases w<;>simp only[zf3,zdV] at h⊢<;> first|exact h|skip
 rename_i k
 cases e:ce[k]? with
 | none=>rw[e] at h;cases h
 | some c=>rw[List.getElem?_append_left (List.getElem?_eq_some_iff.mp e).1,e];rw[e] at h;exact h
theorem StOf.own{w:W}{is:List Int}(h:StOf ce w is){c:Ce}{l:List (Nat×C)}(O:Own ce c l):StOf c w is:=by
 obtain⟨t,rfl⟩:=O.cut
 exact h.app t
end
section
variable {b:List (List Nat)} {is:List Int} {ce:Ce} {row:List Nat}
theorem zob(fu:Nat)(hfu:200<=fu)(B:Brd b){w:W}(hw:StOf ce w is)(hl:is.length=b.length){s:Nat}(hs:s<b.length):∃F,d__law_patch fu [wB b,w,nW s] ce=some (.ok (.cel ce.length) (ce++[.lst (F.map nW)]))/\Comp b (okV (vS is) s) s F:=by
 have hz:=zeL
 have h36:=B.h36
 have hb:=B.bd
 suffices h:∃v c,d__law_patch fu [wB b,w,nW s] ce=some (.ok v c)/\∃F,v=.cel ce.length/\c=ce++[.lst (F.map nW)]/\Comp b (okV (vS is) s) s F by
  obtain⟨v,c,e,F,rfl,rfl,q⟩:=h
  exact⟨F,e,q⟩
 unfold d__law_patch
 refine zdY [some (wB b),some (w),some (nW s),none,none,none] rfl ?_
 refine zar (zcx (ws:=[nW s]) (by trivial) (by show 1<=PySem.sizeLine;omega)) ?_
 refine zam (by repeat (first|exact SetAt.zero|apply SetAt.succ)) ?_
 have O0:=(Own.start ce).alloc (C.lst ([s].map nW))
 refine(?_:Run _ _ (ce++[C.lst ([s].map nW)]) _)
 generalize hk:ce.length=k3 at O0 ⊢
 generalize ce++[C.lst ([s].map nW)]=c0 at O0 ⊢
 refine zar (w:=nW 0) (ce':=c0) zaN ?_
 refine zam (by repeat (first|exact SetAt.zero|apply SetAt.succ)) ?_
 refine zgF (σ:=List Nat×Nat) (fun st sl c=>∃x5,sl=[some (wB b),some (w),some (nW s),some (.cel k3),some (nW st.2),x5]/\Own ce c [(k3,C.lst (st.1.map nW))]/\st.1.Nodup/\s∈st.1/\(∀x∈st.1,x<b.length)/\st.2<=st.1.length/\(∀x∈st.1,Reach b (okV (vS is) s) s x)/\∀x∈st.1.take st.2,∀y∈b.getD x [],okV (vS is) s y->y∈st.1)
  (fun st=>36-st.2) ([s],0) ⟨_,rfl,O0,by simp,by simp,by simpa using hs,by simp,by simpa using Reach.refl,by simp⟩ (by show 36-0<fu;omega) ?_
 rintro⟨F,at'⟩ sl c ⟨x5,rfl,O,nd,hsF,lt,hat,re,cl⟩
 dsimp only at O nd hsF lt hat re cl
 have g3:=O.g0
 have hF36:F.length<=36:=Nat.le_trans (zaP nd lt) h36
 have cmp:fLt (nW at') (nW F.length)=some (.bl (decide ((at':Int)<(F.length:Int)))):=zgE (i:=at') (j:=F.length) rfl rfl
 refine⟨decide ((at':Int)<(F.length:Int)),by trivial,fun q=>?_,fun q=>?_⟩
 ·have hlt:at'<F.length:=by have:=of_decide_eq_true q;omega
  have hpF:F.getD at' 0∈F:=by rw[List.getD_eq_getElem?_getD,List.getElem?_eq_getElem hlt];exact List.getElem_mem hlt
  have ix:=zmt (p:=at') g3 hlt
  have etk:F.take (at'+1)=F.take at'++[F.getD at' 0]:=by
   rw[List.take_add_one,List.getElem?_eq_getElem hlt,List.getD_eq_getElem?_getD,List.getElem?_eq_getElem hlt];rfl
  generalize F.getD at' 0=p at hpF ix etk
  have hp:=lt p hpF
  unfold zdp
  refine za7 (zs:=b.getD p []) (en:=nW) (c1:=c) (zer (by trivial))
   (fun d sl c=>∃new x5,sl=[some (wB b),some (w),some (nW s),some (.cel k3),some (nW at'),x5]/\Own ce c [(k3,C.lst ((F++new).map nW))]/\(F++new).Nodup/\(∀x∈new,x∈b.getD p []/\okV (vS is) s x)/\∀x∈d,okV (vS is) s x->x∈F++new)
   ⟨[],x5,rfl,by simpa using O,by simpa using nd,by simp,by simp⟩ ?_ ?_
  ·rintro d y r sl c e hy ⟨new,x5,rfl,O,nd2,hnew,hd⟩
   have g3:=O.g0
   have hy':=hb.get hy
   have lt2:∀x∈F++new,x<b.length:=fun x hx=>by
    rcases List.mem_append.mp hx with hx|hx
    ·exact lt x hx
    ·exact hb.get (hnew x hx).1
   have hl2:=zaP nd2 lt2
   have hzw:((F++new).map nW).length<PySem.sizeLine:=by rw[List.length_map];omega
   have j1:=(hw.own O).ix (p:=y) (by omega)
   have j2:=(hw.own O).ix (p:=s) (by omega)
   unfold zdo
   refine zam (by repeat (first|exact SetAt.zero|apply SetAt.succ)) ?_
   refine zb7 (p:=decide (is.getD y 0=is.getD s 0)&&!decide (y∈F++new)) (ce':=c) (by trivial) (fun q=>?_) (fun q=>?_)
   ·simp only[Bool.and_eq_true,Bool.not_eq_true',decide_eq_false_iff_not,decide_eq_true_eq] at q
    trivial
    refine⟨new++[y],_,rfl,?_,?_,fun x hx=>?_,fun x hx o=>?_⟩
    ·have e2:(F++(new++[y])).map nW=(F++new).map nW++[nW y]:=by simp
     rw[e2]
     exact O.set0 _
    ·rw[<- List.append_assoc,List.nodup_append]
     exact⟨nd2,by simp,fun a ha c hc=>by rw[List.mem_singleton] at hc;subst hc;intro e;subst e;exact q.2 ha⟩
    ·rcases List.mem_append.mp hx with hx|hx
     ·exact hnew x hx
     ·rw[List.mem_singleton] at hx;subst hx;exact⟨hy,q.1⟩
    ·rw[<- List.append_assoc]
     rcases List.mem_append.mp hx with hx|hx
     ·exact List.mem_append_left _ (hd x hx o)
     ·rw[List.mem_singleton] at hx;subst hx;simp
   ·refine zbp ?_
    refine⟨new,_,rfl,O,nd2,hnew,fun x hx o=>?_⟩
    rcases List.mem_append.mp hx with hx|hx
    ·exact hd x hx o
    ·rw[List.mem_singleton] at hx
     subst hx
     have o':is.getD x 0=is.getD s 0:=o
     rw[decide_eq_true o',Bool.true_and,Bool.not_eq_false',decide_eq_true_eq] at q
     exact q
  ·rintro sl c ⟨new,x5,rfl,O,nd2,hnew,hd⟩
   have lt2:∀x∈F++new,x<b.length:=fun x hx=>by
    rcases List.mem_append.mp hx with hx|hx
    ·exact lt x hx
    ·exact hb.get (hnew x hx).1
   have fa:zcl (nW at') (.int 1)=some (nW (at'+1)):=zcz (i:=at') (j:=1) rfl rfl
   refine zen (w:=nW (at'+1)) (ce':=c) (by trivial) ?_
   refine⟨(F++new,at'+1),(by show 36-(at'+1)<36-at';omega),x5,rfl,O,nd2,List.mem_append_left _ hsF,lt2,by show at'+1<=(F++new).length;rw[List.length_append];omega,fun x hx=>?_,fun x hx y hy o=>?_⟩
   ·rcases List.mem_append.mp hx with hx|hx
    ·exact re x hx
    ·exact(re p hpF).step (hnew x hx).1 (hnew x hx).2
   ·rw[List.take_append_of_le_length (by omega),etk] at hx
    rcases List.mem_append.mp hx with hx|hx
    ·exact List.mem_append_left _ (cl x hx y hy o)
    ·rw[List.mem_singleton] at hx;subst hx;exact hd y hy o
 ·have q':=of_decide_eq_false q
  have eat:at'=F.length:=by omega
  subst eat
  rw[List.take_length] at cl
  refine zas (w:=.cel k3) (ce':=c) (by trivial) ?_
  subst hk
  exact⟨_,_,O.finO (by simp only[zf5];exact bels_nW _ _),F,rfl,rfl,⟨nd,hsF,lt,cl,re⟩⟩
theorem zfY(fu:Nat)(hfu:200<=fu)(B:Brd b){w:W}(hw:StOf ce w is)(hl:is.length=b.length){s:Nat}(hs:s<b.length):∃F,zce (d__law_patch fu) [wB b,w,nW s] ce=some (.ok (wL F) ce)/\(∀x,x∈F↔x∈cpt b (vS is) s)/\F.length<=36/\∀x∈F,x<b.length:=by
 obtain⟨F,e,h⟩:=zob (ce:=ce) fu hfu B hw hl hs
 exact⟨F,zbE e (bels_nW _ _),fun x=>by rw[zb3 B.bd hs];exact h.mem x,Nat.le_trans (zaP h.nd h.lt) B.h36,h.lt⟩
theorem zhq(fu:Nat)(B:Brd b){w:W}(hw:StOf ce w is)(hl:is.length=b.length)(hr:∀p∈row,p<b.length):∃F,zce (d__law_breaths fu) [wB b,w,wL row] ce=some (.ok (wL F) ce)/\F.length<=36/\F.Nodup/\∀y,y∈F↔y∈brs b is row:=by
 have hz:=zeL
 have h36:=B.h36
 have hb:=B.bd
 suffices h:∃v c,d__law_breaths fu [wB b,w,wL row] ce=some (.ok v c)/\∃F:List Nat,v=.cel ce.length/\c=ce++[.lst (F.map nW)]/\F.length<=36/\F.Nodup/\∀y,y∈F↔y∈brs b is row by
  obtain⟨v,c,e,F,rfl,rfl,q⟩:=h
  exact⟨F,zbE e (bels_nW _ _),q⟩
 unfold d__law_breaths
 refine zdY [some (wB b),some w,some (wL row),none,none,none] rfl ?_
 refine zar (zcx zaj (Nat.zero_le _)) ?_
 refine zam (by repeat (first|exact SetAt.zero|apply SetAt.succ)) ?_
 have O0:=(Own.start ce).alloc (C.lst (([]:List Nat).map nW))
 refine(?_:Run _ _ (ce++[C.lst (([]:List Nat).map nW)]) _)
 generalize hk:ce.length=k3 at O0 ⊢
 generalize ce++[C.lst (([]:List Nat).map nW)]=c0 at O0 ⊢
 refine za7 (zs:=row) (en:=nW) (c1:=c0) (zgD (xs:=row.map nW) (zad rfl))
  (fun d sl c=>∃F x4 x5,sl=[some (wB b),some w,some (wL row),some (.cel k3),x4,x5]/\Own ce c [(k3,C.lst (F.map nW))]/\F.Nodup/\(∀x∈F,x<b.length)/\∀y,y∈F↔(∃x∈d,y∈b.getD x [])/\is.getD y 0=0)
  ⟨[],_,_,rfl,O0,by simp,by simp,by simp⟩ ?_ ?_
 ·rintro d p r sl c e hp ⟨F,x4,x5,rfl,O,nd,lt,mem⟩
  have hpb:=hr p hp
  have ib:=zhT (ce:=c) (b:=b) hpb
  unfold zcF
  refine zam (by repeat (first|exact SetAt.zero|apply SetAt.succ)) ?_
  refine zdi (zs:=b.getD p []) (en:=nW) (c1:=c) (zer (zaq (zad rfl) (zad rfl) ib))
   (fun d' sl c=>∃F x5,sl=[some (wB b),some w,some (wL row),some (.cel k3),some (nW p),x5]/\Own ce c [(k3,C.lst (F.map nW))]/\F.Nodup/\(∀x∈F,x<b.length)/\∀y,y∈F↔((∃x∈d,y∈b.getD x [])\/y∈d')/\is.getD y 0=0)
   ⟨F,x5,rfl,O,nd,lt,fun y=>by rw[mem];simp⟩ ?_ ?_
  ·rintro d' y r' sl c e' hy ⟨F,x5,rfl,O,nd,lt,mem⟩
   have hyb:=hb.get hy
   have hFl:=zaP nd lt
   have j1:=(hw.own O).ix (p:=y) (by omega)
   have jn:=zso (p:=y) (l:=F) O.g0
   have hzF:(F.map nW).length<PySem.sizeLine:=by rw[List.length_map];omega
   unfold zcE
   refine zam (by repeat (first|exact SetAt.zero|apply SetAt.succ)) ?_
   refine zb7 (p:=decide (is.getD y 0=0)&&!decide (y∈F)) (ce':=c) (zep (zcO (zaK (zaq (zad rfl) (zad rfl) j1) zaN (zcj rfl rfl))) (fun _=>zcO (zaq (zad rfl) (zad rfl) jn))) (fun q=>?_) (fun q=>?_)
   ·simp only[Bool.and_eq_true,Bool.not_eq_true',decide_eq_false_iff_not,decide_eq_true_eq] at q
    refine zeo (w:=.non) (zfC (zad rfl) (zb6 O.g0) (zac (zad rfl) zaj) (zgC (y:=nW y) O.g0 hzF)) ?_
    refine⟨F++[y],_,rfl,by rw[List.map_append];exact O.set0 _,?_,fun x hx=>?_,fun z=>?_⟩
    ·rw[List.nodup_append]
     exact⟨nd,by simp,fun a ha c hc=>by rw[List.mem_singleton] at hc;subst hc;intro e;subst e;exact q.2 ha⟩
    ·rcases List.mem_append.mp hx with hx|hx
     ·exact lt x hx
     ·rw[List.mem_singleton] at hx;subst hx;exact hyb
    ·rw[List.mem_append,List.mem_append,mem,List.mem_singleton]
     constructor
     ·rintro(⟨h1|h1,h2⟩|rfl)
      ·exact⟨.inl h1,h2⟩
      ·exact⟨.inr (.inl h1),h2⟩
      ·exact⟨.inr (.inr rfl),q.1⟩
     ·rintro⟨h1|h1|rfl,h2⟩
      ·exact .inl ⟨.inl h1,h2⟩
      ·exact .inl ⟨.inr h1,h2⟩
      ·exact .inr rfl
   ·refine zbp ?_
    refine⟨F,_,rfl,O,nd,lt,fun z=>?_⟩
    rw[mem,List.mem_append,List.mem_singleton]
    constructor
    ·rintro⟨h1|h1,h2⟩
     ·exact⟨.inl h1,h2⟩
     ·exact⟨.inr (.inl h1),h2⟩
    ·rintro⟨h1|h1|rfl,h2⟩
     ·exact⟨.inl h1,h2⟩
     ·exact⟨.inr h1,h2⟩
     ·rw[decide_eq_true h2,Bool.true_and,Bool.not_eq_false',decide_eq_true_eq] at q
      exact(mem z).mp q
  ·rintro sl c ⟨F,x5,rfl,O,nd,lt,mem⟩
   refine⟨F,_,_,rfl,O,nd,lt,fun y=>?_⟩
   rw[mem]
   constructor
   ·rintro⟨⟨x,hx,h⟩|h,h2⟩
    ·exact⟨⟨x,List.mem_append_left _ hx,h⟩,h2⟩
    ·exact⟨⟨p,by simp,h⟩,h2⟩
   ·rintro⟨⟨x,hx,h⟩,h2⟩
    rcases List.mem_append.mp hx with hx|hx
    ·exact⟨.inl ⟨x,hx,h⟩,h2⟩
    ·rw[List.mem_singleton] at hx;subst hx;exact⟨.inr h,h2⟩
 ·rintro sl c ⟨F,x4,x5,rfl,O,nd,lt,mem⟩
  refine zas (w:=.cel k3) (ce':=c) (zad rfl) ?_
  subst hk
  exact⟨_,_,O.finO (by simp only[zf5];exact bels_nW _ _),F,rfl,rfl,Nat.le_trans (zaP nd lt) h36,nd,fun y=>by rw[mem,zc8 hb]⟩
end
section
variable {b:List (List Nat)} {is:List Int} {o:Int} {p q:Nat} {ce:Ce}
theorem LyA.law(A:LyA b is o p){q:Nat}:q∈lT b is o p↔∃y∈b.getD p [],(is.set p o).getD y 0=3-o/\brs b (is.set p o) (cpt b (vS (is.set p o)) y)=[]/\q∈cpt b (vS (is.set p o)) y:=by
 have hb:=A.bd
 have sym:=A.sym
 have l1:=A.l1
 have hT:∀x∈thr (is.set p o) [3-o],x<b.length:=fun x hx=>by have:=zqd hx;omega
 rw[A.tk]
 constructor
 ·rintro⟨r,hr,hq⟩
  obtain⟨s,hs,es,er,hf⟩:=A.dead.mp hr
  obtain⟨x,y,rx,hy,y0⟩:=A.nh s hs es
  have hx:x∈r:=by rw[er];exact(zb3 hb hs).mpr rx
  have hxb:x<b.length:=by rw[er] at hx;exact cpt_lt hx
  have hyp:=hf x hx y hy y0
  subst hyp
  have ex:is.getD x 0=3-o:=by rw[er] at hx;exact(cpt_val (vl:=vS is) hb hs hx).trans es
  have hxp:x≠y:=fun h=>by subst h;rw[ex] at y0;exact A.H.h0 y0
  have ex1:(is.set y o).getD x 0=3-o:=by rw[A.s1,if_neg hxp];exact ex
  have hm:=List.mem_filter.mp hr
  obtain⟨s',hs',er'⟩:=zh6 hm.1
  have hxT:x∈cpt b (vT (thr (is.set y o) [3-o])) s':=by rw[<- er'];exact hx
  have e1:=zdP hb sym (hT s' hs') hxT
  have e2:=zeD (is:=is.set y o) hb l1 hxb
  rw[ex1,e1,<- er'] at e2
  refine⟨x,sym _ _ hy,ex1,?_,?_⟩
  ·rw[<- e2];exact of_decide_eq_true hm.2
  ·rw[<- e2];exact hq
 ·rintro⟨y,hy,ey,hn,hq⟩
  have hyb:=hb.get hy
  have e2:=zeD (is:=is.set p o) hb l1 hyb
  rw[ey] at e2
  refine⟨cpt b (vS (is.set p o)) y,List.mem_filter.mpr ⟨?_,decide_eq_true hn⟩,hq⟩
  rw[<- e2]
  exact zh5 hb sym hT (thr_mem.mpr ⟨by omega,ey⟩)
theorem ziS{x y:List Int}(hl:x.length=y.length)(h:∀i,i<x.length->x.getD i 0=y.getD i 0):x=y:=by
 apply List.ext_getElem hl
 intro i h1 h2
 have:=h i h1
 rw[List.getD_eq_getElem?_getD,List.getD_eq_getElem?_getD,List.getElem?_eq_getElem h1,List.getElem?_eq_getElem h2] at this
 exact this
open Classical in
def zmK(b:List (List Nat))(is:List Int)(o:Int)(p:Nat):Option (List Int):=if is.getD p 0=0/\Frb b is o p then some (lS b is o p) else none
def opW:Option (List Int)->W
 | none=>.non
 | some l=>wS l
theorem zlO(fu:Nat)(hfu:200<=fu)(B:Brd b)(P:PosA b is o)(hp:p<b.length):d__law_laid fu [wB b,wS is,.int o,nW p] ce=some (.ok (opW (zmK b is o p)) ce):=by
 have hz:=zeL
 have z2000:2000<PySem.sizeLine:=by decide
 have h36:=B.h36
 have hl:=P.hl
 have hlz:is.length<=PySem.sizeLine:=by omega
 have hpl:p<is.length:=by omega
 have jp:=zbZ (ce:=ce) (is:=is) (p:=p) hpl
 unfold d__law_laid
 refine zb8 [some (wB b),some (wS is),some (.int o),some (nW p),none,none,none,none] rfl ?_
 refine zbg (p:=!decide (is.getD p 0=0)) (ce':=ce) (zcO (zaK (zaq (zad rfl) (zad rfl) jp) zaN (zfF rfl rfl))) (fun q=>?_) (fun q=>?_)
 ·refine zbN (zas (w:=.non) (ce':=ce) zaN ?_)
  unfold zmK
  rw[if_neg (fun z=>by rw[z.1] at q;simp at q)]
  exact zaO (by simp only[Bel])
 have p0:is.getD p 0=0:=by simpa using q
 have A:=P.ly hp p0
 refine zaY ?_
 refine zar (w:=.cel ce.length) (ce':=ce++[.lst (is.map W.int)]) (zbe (zac (zad rfl) zaj) (by rw[zj6 (xs:=is.map W.int) rfl,zcy (by rw[List.length_map];exact hlz)])) ?_
 refine zam (by repeat (first|exact SetAt.zero|apply SetAt.succ)) ?_
 have O0:=(Own.start ce).alloc (C.lst (is.map W.int))
 generalize hk:ce.length=k4 at O0 ⊢
 generalize ce++[C.lst (is.map W.int)]=c0 at O0 ⊢
 refine zhY (w:=.int o) (k:=k4) (ij:=p) (j:=p) (zad rfl) (zad rfl) (zad rfl) O0.g0 (zdD (by rw[List.length_map];exact hpl)) ?_
 have O1:=O0.set0 (C.lst ((is.map W.int).set p (.int o)))
 have es:(is.map W.int).set p (.int o)=(is.set p o).map W.int:=by rw[List.map_set]
 rw[es] at O1 ⊢
 generalize c0.set k4 (C.lst ((is.set p o).map W.int))=c1 at O1 ⊢
 have l1:=A.l1
 refine zar (w:=.lst []) (ce':=c1) (zbO (ws:=[]) zaj (Nat.zero_le _)) ?_
 refine zam (by repeat (first|exact SetAt.zero|apply SetAt.succ)) ?_
 have S1:StOf c1 (.cel k4) (is.set p o):=zst O1.g0
 have ib:=zhT (ce:=c1) (b:=b) hp
 have hrow:(b.getD p []).length<=36:=B.row p
 refine za7 (zs:=b.getD p []) (en:=nW) (c1:=c1) (zer (zaq (zad rfl) (zad rfl) ib))
  (fun d sl c=>∃T x6 x7,sl=[some (wB b),some (wS is),some (.int o),some (nW p),some (.cel k4),some (wL T),x6,x7]/\c=c1/\T.length<=36*d.length/\(∀x∈T,x<b.length)/\∀q,q∈T↔∃y∈d,(is.set p o).getD y 0=3-o/\brs b (is.set p o) (cpt b (vS (is.set p o)) y)=[]/\q∈cpt b (vS (is.set p o)) y)
  ⟨[],_,_,rfl,rfl,by simp,by simp,by simp⟩ ?_ ?_
 ·rintro d y r sl c e hy ⟨T,x6,x7,rfl,rfl,lT',ltT,mT⟩
  have hyb:=B.bd.get hy
  have hdl:d.length<36:=by
   have:=congrArg List.length e
   simp only[List.length_append,List.length_cons] at this
   omega
  have jy:=S1.ix (p:=y) (by omega)
  obtain⟨F,e1,mF,lF',ltF⟩:=zfY (ce:=c) fu hfu B S1 l1 hyb
  obtain⟨G,e2,lG,nG,mG⟩:=zhq (ce:=c) (row:=F) fu B S1 l1 ltF
  have eG:decide (G=[])=decide (brs b (is.set p o) (cpt b (vS (is.set p o)) y)=[]):=by
   have:G=[]↔brs b (is.set p o) (cpt b (vS (is.set p o)) y)=[]:=by
    rw[zgQ (r':=F) (fun x=>(mF x).symm),List.eq_nil_iff_forall_not_mem,List.eq_nil_iff_forall_not_mem]
    exact⟨fun h x hx=>h x ((mG x).mpr hx),fun h x hx=>h x ((mG x).mp hx)⟩
   rw[Bool.eq_iff_iff,decide_eq_true_eq,decide_eq_true_eq]
   exact this
  have noadd:¬((is.set p o).getD y 0=3-o/\brs b (is.set p o) (cpt b (vS (is.set p o)) y)=[])->∀q,q∈T↔∃y'∈d++[y],(is.set p o).getD y' 0=3-o/\brs b (is.set p o) (cpt b (vS (is.set p o)) y')=[]/\q∈cpt b (vS (is.set p o)) y':=fun hn q=>by
   rw[mT]
   constructor
   ·rintro⟨y',hy',h⟩;exact⟨y',List.mem_append_left _ hy',h⟩
   ·rintro⟨y',hy',h⟩
    rcases List.mem_append.mp hy' with hy'|hy'
    ·exact⟨y',hy',h⟩
    ·rw[List.mem_singleton] at hy';subst hy';exact absurd ⟨h.1,h.2.1⟩ hn
  have up:T.length<=36*(d++[y]).length:=by simp only[List.length_append,List.length_cons,List.length_nil];omega
  unfold zdT
  refine zam (by repeat (first|exact SetAt.zero|apply SetAt.succ)) ?_
  refine zb7 (p:=decide ((is.set p o).getD y 0=3-o)) (ce':=c) (zcO (zaK (zaq (zad rfl) (zad rfl) jy) (zaK zaN (zad rfl) rfl) (zcj rfl rfl))) (fun q1=>?_) (fun q1=>?_)
  ·have q1:=of_decide_eq_true q1
   refine zar (w:=wL F) (ce':=c) (zav (ws:=[wB b,.cel k4,nW y]) (zac (zad rfl) (zac (zad rfl) (zac (zad rfl) zaj))) rfl e1) ?_
   refine zam (by repeat (first|exact SetAt.zero|apply SetAt.succ)) ?_
   refine zb7 (p:=decide (G=[])) (ce':=c) (zcO (zaq (zav (ws:=[wB b,.cel k4,wL F]) (zac (zad rfl) (zac (zad rfl) (zac (zad rfl) zaj))) rfl e2) (zbO (ws:=[]) zaj (Nat.zero_le _)) zlp)) (fun q2=>?_) (fun q2=>?_)
   ·have q2:brs b (is.set p o) (cpt b (vS (is.set p o)) y)=[]:=by rw[eG] at q2;exact of_decide_eq_true q2
    have ec:ziW zbX (zag 5) (zag 7) [some (wB b),some (wS is),some (.int o),some (nW p),some (.cel k4),some (wL T),some (nW y),some (wL F)] c=some (.ok (wL (T++F)) c):=by
     have:=zeA (sl:=[some (wB b),some (wS is),some (.int o),some (nW p),some (.cel k4),some (wL T),some (nW y),some (wL F)]) (ce:=c) (a:=zag 5) (b:=zag 7) (zad rfl) (zad rfl) (xs:=T.map nW) (ys:=F.map nW) rfl rfl (by rw[List.length_map,List.length_map];omega)
     rw[this]
     simp only[wL,List.map_append]
    refine zen (w:=wL (T++F)) (ce':=c) ec ?_
    refine⟨T++F,_,_,rfl,rfl,by simp only[List.length_append,List.length_cons,List.length_nil];omega,fun x hx=>?_,fun q=>?_⟩
    ·rcases List.mem_append.mp hx with hx|hx
     ·exact ltT x hx
     ·exact ltF x hx
    ·rw[List.mem_append,mT,mF]
     constructor
     ·rintro(⟨y',hy',h⟩|h)
      ·exact⟨y',List.mem_append_left _ hy',h⟩
      ·exact⟨y,by simp,q1,q2,h⟩
     ·rintro⟨y',hy',h⟩
      rcases List.mem_append.mp hy' with hy'|hy'
      ·exact .inl ⟨y',hy',h⟩
      ·rw[List.mem_singleton] at hy';subst hy';exact .inr h.2.2
   ·refine zbp ⟨T,_,_,rfl,rfl,up,ltT,noadd fun h=>?_⟩
    rw[eG,decide_eq_true h.2] at q2
    cases q2
  ·exact zbp ⟨T,_,_,rfl,rfl,up,ltT,noadd fun h=>of_decide_eq_false q1 h.1⟩
 ·rintro sl c ⟨T,x6,x7,rfl,rfl,lT',ltT,mT⟩
  have mT':∀q,q∈T↔q∈lT b is o p:=fun q=>by rw[mT,A.law]
  refine za7 (zs:=T) (en:=nW) (c1:=c) (zgD (xs:=T.map nW) (zad rfl))
   (fun d sl c=>∃js x6,sl=[some (wB b),some (wS is),some (.int o),some (nW p),some (.cel k4),some (wL T),x6,x7]/\Own ce c [(k4,C.lst (js.map W.int))]/\js.length=b.length/\(∀q∈d,js.getD q 0=0)/\∀q,q∉d->js.getD q 0=(is.set p o).getD q 0)
   ⟨is.set p o,_,rfl,O1,l1,by simp,fun _ _=>rfl⟩ ?_ ?_
  ·rintro d y r sl c e hy ⟨js,x6,rfl,O,lj,z1,z2⟩
   have hyl:y<js.length:=by rw[lj];exact ltT y hy
   unfold zdS
   refine zam (by repeat (first|exact SetAt.zero|apply SetAt.succ)) ?_
   refine zd5 (w:=.int 0) (k:=k4) (ij:=y) (j:=y) zaN (zad rfl) (zad rfl) O.g0 (zdD (by rw[List.length_map];exact hyl)) ?_
   refine⟨js.set y 0,_,rfl,by rw[List.map_set];exact O.set0 _,by rw[List.length_set];exact lj,fun q hq=>?_,fun q hq=>?_⟩
   ·rw[zbz]
    split
    ·rfl
    ·rename_i hn
     rcases List.mem_append.mp hq with hq|hq
     ·exact z1 q hq
     ·rw[List.mem_singleton] at hq;exact absurd ⟨hq.symm,hyl⟩ hn
   ·rw[zbz,if_neg (fun x=>hq (by rw[<- x.1];simp))]
    exact z2 q fun x=>hq (List.mem_append_left _ x)
  ·rintro sl c ⟨js,x6,rfl,O,lj,z1,z2⟩
   have ej:js=lS b is o p:=by
    refine ziS (by rw[lj,zc1];exact hl.symm) fun i hi=>?_
    rw[A.get (by omega)]
    by_cases h:i∈T
    ·have h':=(mT' i).mp h
     rw[z1 i h,if_neg (A.tkh h').2.2,if_pos h']
    ·have h':i∉lT b is o p:=fun z=>h ((mT' i).mpr z)
     rw[z2 i h,A.s1,if_neg h']
   subst ej
   have S2:StOf c (.cel k4) (lS b is o p):=zst O.g0
   obtain⟨F,e1,mF,lF',ltF⟩:=zfY (ce:=c) fu hfu B S2 lj hp
   obtain⟨G,e2,lG,nG,mG⟩:=zhq (ce:=c) (row:=F) fu B S2 lj ltF
   have eG:G=[]↔¬Frb b is o p:=by
    unfold Frb
    rw[zgQ (r:=cpt b (vS (lS b is o p)) p) (r':=F) (fun x=>(mF x).symm),Classical.not_not,List.eq_nil_iff_forall_not_mem,List.eq_nil_iff_forall_not_mem]
    exact⟨fun h x hx=>h x ((mG x).mpr hx),fun h x hx=>h x ((mG x).mp hx)⟩
   subst hk
   refine zbg (p:=decide (G=[])) (ce':=c) (zcO (zaq (zav (ws:=[wB b,.cel ce.length,wL F]) (zac (zad rfl) (zac (zad rfl) (zac (zav (ws:=[wB b,.cel ce.length,nW p]) (zac (zad rfl) (zac (zad rfl) (zac (zad rfl) zaj))) rfl e1) zaj))) rfl e2) (zbO (ws:=[]) zaj (Nat.zero_le _)) zlp)) (fun q2=>?_) (fun q2=>?_)
   ·refine zbN (zas (w:=.non) (ce':=c) zaN ?_)
    unfold zmK
    rw[if_neg (fun z=>(eG.mp (of_decide_eq_true q2)) z.2)]
    exact O.finC (by simp only[Bel])
   ·refine zaY ?_
    have hf:Frb b is o p:=Classical.byContradiction fun h=>of_decide_eq_false q2 (eG.mpr h)
    refine zas (w:=wS (lS b is o p)) (ce':=c) (zbe (zac (zad rfl) zaj) (zlq O.g0 (by omega))) ?_
    unfold zmK
    rw[if_pos ⟨p0,hf⟩]
    exact O.finC (by simp only[opW,Bel];exact belInts _ _)
end
section
variable {ce:Ce}
theorem zmL{x y:Sl->M W}{sl:Sl}{c1:Ce}{p q:Bool}(ha:x sl ce=some (.ok (.bl p) c1))(hb:p=false->y sl c1=some (.ok (.bl q) c1)):dOr x y sl ce=some (.ok (.bl (p||q)) c1):=by
 cases p with
 | true=>simp only[dOr,bnd,ha,ret,Bool.true_or]
 | false=>simp only[dOr,bnd,ha,hb rfl,Bool.false_or]
theorem zkD{x y:Sl->M W}{sl:Sl}{c1:Ce}{p q:Bool}(ha:x sl ce=some (.ok (.bl p) c1))(hb:p=true->y sl c1=some (.ok (.bl q) c1)):znp x y sl ce=some (.ok (.bl (p&&q)) c1):=by
 cases p with
 | true=>simp only[znp,bnd,ha,hb rfl,Bool.true_and]
 | false=>simp only[znp,bnd,ha,ret,Bool.false_and]
theorem zqi{ns:List Int}{p:Nat}(h:p<ns.length)(c:Ce){i:Int}(ei:i=(p:Int)):ixW c (sW ns) (.int i)=some (.int (ns.getD p 0)):=by
 subst ei
 show ixW c (.lst (ns.map W.int)) (nW p)=_
 rw[zfA (xs:=ns.map W.int) rfl,List.getElem?_map,List.getD_eq_getElem?_getD,List.getElem?_eq_getElem h];rfl
theorem zfZ(fu:Nat){ns:List Int}{k:Nat}(hk:k<=10000):∃v,d__law_cell_at fu [sW ns,nW k] ce=some (.ok (.int v) ce):=by
 have l1:zcv [sW ns] ce=some (.ok (nW ns.length) ce):=by simp[zcv];rfl
 by_cases h:k<ns.length
 ·refine⟨ns.getD k 0,?_⟩
  unfold d__law_cell_at
  refine zb8 [some (sW ns),some (nW k)] rfl ?_
  refine zbg (p:=true) (ce':=ce) (zcO (zaK (zad rfl) (zbe (ws:=[sW ns]) (zac (zad rfl) zaj) l1) ((zgE (i:=k) (j:=ns.length) rfl rfl).trans (by rw[decide_eq_true (by omega)])))) (fun _=>?_) (fun q=>by cases q)
  exact zbN (zas (zaq (zad rfl) (zad rfl) (zqi h ce rfl)) (zaO (by simp only[Bel])))
 ·have m1:CMul 71 (k:Int):=.inl (by omega)
  have m2:CMul (71*(k:Int)) (k:Int):=.inl (by omega)
  have m3:CMul 7 (k:Int):=.inl (by omega)
  refine⟨71*(k:Int)*(k:Int)+7*(k:Int),?_⟩
  unfold d__law_cell_at
  refine zb8 [some (sW ns),some (nW k)] rfl ?_
  refine zbg (p:=false) (ce':=ce) (zcO (zaK (zad rfl) (zbe (ws:=[sW ns]) (zac (zad rfl) zaj) l1) ((zgE (i:=k) (j:=ns.length) rfl rfl).trans (by rw[decide_eq_false (by omega)])))) (fun q=>by cases q) (fun _=>zaY ?_)
  exact zas (zaK (zaK (zaK zaN (zad rfl) (zbt rfl rfl m1)) (zad rfl) (zbt rfl rfl m2)) (zaK zaN (zad rfl) (zbt rfl rfl m3)) rfl) (zaO (by simp only[Bel]))
theorem zqj(fu:Nat)(cc:Int){k:Nat}(hk:k<=10000):∃v:Nat,v<65519/\d__law_mix fu [.int cc,nW k] ce=some (.ok (nW v) ce):=by
 have m1:CMul 2018 (k:Int):=.inl (by omega)
 have m2:CMul (2018*(k:Int)) (k:Int):=.inl (by omega)
 have m3:CMul (cc % 99991+1) (48271+2018*(k:Int)*(k:Int)):=.inl (by omega)
 have m4:CMul 7919 (k:Int):=.inl (by omega)
 generalize hone:(cc % 99991+1)*(48271+2018*(k:Int)*(k:Int)) % 65521=one
 have m5:CMul one one:=.inl (by omega)
 obtain⟨v,hv,ev⟩:=zjY (one*one+7919*(k:Int)) (n:=65519) (by omega)
 have e1:zeH (.int (one*one+7919*(k:Int))) (.int 65519)=some (nW v):=zmp (n:=65519) (by omega) ev
 refine⟨v,hv,?_⟩
 unfold d__law_mix
 refine zb8 [some (.int cc),some (nW k),none] rfl ?_
 refine zar (w:=.int one) (ce':=ce) (zaK (zaK (zaK (zaK (zad rfl) zaN (zfG rfl rfl (by omega))) zaN rfl) (zaK zaN (zaK (zaK zaN (zad rfl) (zbt rfl rfl m1)) (zad rfl) (zbt rfl rfl m2)) rfl) (zbt rfl rfl m3)) zaN ((zfG rfl rfl (by omega)).trans (by rw[hone]))) ?_
 refine zam (by repeat (first|exact SetAt.zero|apply SetAt.succ)) ?_
 exact zas (zaK (zaK (zaK (zad rfl) (zad rfl) (zbt rfl rfl m5)) (zaK zaN (zad rfl) (zbt rfl rfl m4)) rfl) zaN e1) (zaO (by simp only[Bel,nW]))
theorem zlP(fu:Nat)(cc:Int){k:Nat}(hk:k<=10000){m:Nat}(hm:0<m):∃v:Nat,v<m/\∀(sl:Sl) (a b:Sl->M W),a sl ce=some (.ok (.int cc) ce)->b sl ce=some (.ok (nW k) ce)->∀d:Sl->M W,d sl ce=some (.ok (nW m) ce)->dOp zeH (zay 2 (d__law_mix fu) (zae a (zae b zan))) d sl ce=some (.ok (nW v) ce):=by
 obtain⟨u,_,e⟩:=zqj (ce:=ce) fu cc hk
 obtain⟨v,hv,ev⟩:=zjY (u:Int) (n:=m) hm
 exact⟨v,hv,fun sl a b ha hb d hd=>zaK (zav (ws:=[.int cc,nW k]) (zac ha (zac hb zaj)) rfl e) hd (zmp hm ev)⟩
theorem zkE{rows:List (List Nat)}{p q:Nat}(hp:p<rows.length)(hq:q<rows.length)(hpq:p≠q):zmC rows p q=zmC rows q p:=by
 unfold zmC
 have e1:(upR rows p q).getD q []=rows.getD q []:=by rw[zdM hp,if_neg (fun h=>hpq h.symm)]
 have e2:(upR rows q p).getD p []=rows.getD p []:=by rw[zdM hq,if_neg hpq]
 show(upR rows p q).set q ((upR rows p q).getD q []++[p])=(upR rows q p).set p ((upR rows q p).getD p []++[q])
 rw[e1,e2]
 unfold upR
 exact List.set_comm _ _ hpq
def szs:List (Nat×Nat):=[(2,2),(3,2),(5,1),(3,3),(4,2),(2,4),(7,1),(3,4),(4,3),(6,2),(5,2),(4,4)]
theorem zlQ(n:Nat):(List.range n).map (adj [])=List.replicate n []:=by
 apply List.ext_getElem?
 intro i
 by_cases hi:i<n
 ·simp[hi,adj]
 ·rw[List.getElem?_eq_none (by simp;omega),List.getElem?_eq_none (by simp;omega)]
theorem zqk{n:Nat}{ls:List (Nat×Nat)}(n16:n<=16)(L:LsOk n ls)(i:Nat):(((List.range n).map (adj ls)).getD i []).length<=60:=by
 by_cases hi:i<n
 ·have:((List.range n).map (adj ls)).getD i []=adj ls i:=by simp[List.getD_eq_getElem?_getD,hi]
  rw[this]
  have:=zaP (zmE L i) fun x hx=>(zh3 L hx).1
  omega
 ·rw[List.getD_eq_getElem?_getD,List.getElem?_eq_none (by simp;omega)];simp
theorem zoc{n:Nat}{ls:List (Nat×Nat)}:((List.range n).map fun i=>zbV (((List.range n).map (adj ls)).getD i []))=zh4 n ls:=by
 unfold zh4
 apply List.map_congr_left
 intro i hi
 have hi:=List.mem_range.mp hi
 simp[List.getD_eq_getElem?_getD,hi]
theorem zlR(fu:Nat)(cc:Int){most:Nat}(m1:1<=most)(m12:most<=12):∃n ls,d__law_board fu [.int cc,nW most] ce=some (.ok (wB (zh4 n ls)) ce)/\4<=n/\n<=16/\LsOk n ls:=by
 have hz:=zeL
 have z2:2<=PySem.sizeLine:=by decide
 obtain⟨i0,hi0,ei0⟩:=zlP (ce:=ce) fu cc (k:=0) (by omega) (m:=most) (by omega)
 obtain⟨wd,hg,hw,s1,s2,s3,s4,s5⟩:∃wd hg:Nat,szs[i0]?=some (wd,hg)/\2<=wd/\wd<=7/\hg<=4/\4<=wd*hg/\wd*hg<=16:=by
  have:∀i,i<12->∃p,szs[i]?=some p/\2<=p.1/\p.1<=7/\p.2<=4/\4<=p.1*p.2/\p.1*p.2<=16:=by
   intro i hi
   have hm:∀p∈szs,2<=p.1/\p.1<=7/\p.2<=4/\4<=p.1*p.2/\p.1*p.2<=16:=by decide
   exact⟨szs[i]'hi,List.getElem?_eq_getElem hi,hm _ (List.getElem_mem hi)⟩
  obtain⟨⟨a,b⟩,h⟩:=this i0 (by omega)
  exact⟨a,b,h⟩
 have hix:ixW ce (.lst (szs.map pW)) (nW i0)=some (pW (wd,hg)):=by
  rw[zfA (xs:=szs.map pW) rfl,List.getElem?_map,hw];rfl
 have cm:CMul (wd:Int) (hg:Int):=.inl (by omega)
 have emul:zeG (nW wd) (nW hg)=some (nW (wd*hg)):=(zbt (x:=nW wd) (y:=nW hg) (i:=wd) (j:=hg) rfl rfl cm).trans (by simp[nW])
 generalize wd*hg=n at s4 s5 emul
 have e17:∀k:Nat,k<16->CMul 17 (k:Int):=fun k hk=>.inl (by omega)
 suffices hs:∃w c,d__law_board fu [.int cc,nW most] ce=some (.ok w c)/\∃ls,w=wB (zh4 n ls)/\c=ce/\LsOk n ls by
  obtain⟨w,c,e,ls,rfl,rfl,h⟩:=hs
  exact⟨n,ls,e,s4,s5,h⟩
 unfold d__law_board
 refine zdY [some (.int cc),some (nW most),none,none,none,none,none,none,none,none] rfl ?_
 refine zar (w:=.lst (szs.map pW)) (ce':=ce) ?_ ?_
 ·have two:∀(sl:Sl) (x y:Nat),zbU (zae (dC (.int x)) (zae (dC (.int y)) zan)) sl ce=some (.ok (pW (x,y)) ce):=fun sl x y=>zbd (ws:=[nW x,nW y]) (zac zaN (zac zaN zaj)) z2
  refine zbO (ws:=szs.map pW) ?_ (by show 12<=PySem.sizeLine;decide)
  exact zac (two _ 2 2) (zac (two _ 3 2) (zac (two _ 5 1) (zac (two _ 3 3) (zac (two _ 4 2) (zac (two _ 2 4) (zac (two _ 7 1) (zac (two _ 3 4) (zac (two _ 4 3) (zac (two _ 6 2) (zac (two _ 5 2) (zac (two _ 4 4) zaj)))))))))))
 refine zam (by repeat (first|exact SetAt.zero|apply SetAt.succ)) ?_
 refine zlv (x:=nW wd) (y:=nW hg) (c1:=ce) (zaq (zad rfl) (ei0 _ _ _ (zad rfl) zaN _ (zad rfl)) hix) ?_
 refine(?_:Run _ [some (.int cc),some (nW most),some (.lst (szs.map pW)),some (nW wd),some (nW hg),none,none,none,none,none] ce _)
 refine zar (zlI (ce:=ce) (n:=n) (zj3 (zac (zaK (zad rfl) (zad rfl) emul) zaj) (by omega)) (by omega)) ?_
 refine zam (by repeat (first|exact SetAt.zero|apply SetAt.succ)) ?_
 have hn1000:n<=1000:=by omega
 refine za7 (zs:=List.range n) (en:=nW) (c1:=bC ce (List.replicate n []) []) (zeQ (zac (zaK (zad rfl) (zad rfl) emul) zaj) hn1000)
  (fun d sl c=>∃ls x6 x7 x8 x9,sl=[some (.int cc),some (nW most),some (.lst (szs.map pW)),some (nW wd),some (nW hg),some (zgT ce n),x6,x7,x8,x9]/\c=bC ce ((List.range n).map (adj ls)) []/\LsOk n ls/\∀p∈ls,p.2<d.length)
  ⟨[],_,_,_,_,rfl,by rw[zlQ],⟨by simp,by simp⟩,by simp⟩ ?_ ?_
 ·rintro d one r sl c e ho ⟨ls,x6,x7,x8,x9,rfl,rfl,L,hls⟩
  have ho:=List.mem_range.mp ho
  have ed:=zhn e
  rw[ed,List.length_range] at hls
  unfold zdn
  refine zam (by repeat (first|exact SetAt.zero|apply SetAt.succ)) ?_
  refine zdi (zs:=List.range one) (en:=nW) (c1:=bC ce ((List.range n).map (adj ls)) []) (zeQ (zac (zad rfl) zaj) (by omega))
   (fun d' sl c=>∃ls x7 x8 x9,sl=[some (.int cc),some (nW most),some (.lst (szs.map pW)),some (nW wd),some (nW hg),some (zgT ce n),some (nW one),x7,x8,x9]/\c=bC ce ((List.range n).map (adj ls)) []/\LsOk n ls/\∀p∈ls,p.2<one\/(p.2=one/\p.1<d'.length))
   ⟨ls,_,_,_,rfl,rfl,L,fun p hp=>.inl (hls p hp)⟩ ?_ ?_
  ·rintro d' ot r' sl c e' hot ⟨ls,x7,x8,x9,rfl,rfl,L,hls⟩
   have hot:=List.mem_range.mp hot
   have ed':=zhn e'
   rw[ed',List.length_range] at hls
   generalize hc1:bC ce ((List.range n).map (adj ls)) []=c1
   obtain⟨v1,_,ev1⟩:=zlP (ce:=c1) fu cc (k:=9+17*one+ot) (by omega) (m:=7) (by omega)
   obtain⟨v2,_,ev2⟩:=zlP (ce:=c1) fu cc (k:=1) (by omega) (m:=4) (by omega)
   have m17:=e17 one (by omega)
   have ek:∀x8 x9,dOp zcl (dOp zcl (dC (.int 9)) (dOp zeG (dC (.int 17)) (zag 6))) (zag 7) [some (.int cc),some (nW most),some (.lst (szs.map pW)),some (nW wd),some (nW hg),some (zgT ce n),some (nW one),some (nW ot),x8,x9] c1=some (.ok (nW (9+17*one+ot)) c1):=fun x8 x9=>by
    have a1:zcl (.int 9) (.int (17*(one:Int)))=some (nW (9+17*one)):=by simp[zcl,i2,nW]
    have a2:zcl (nW (9+17*one)) (nW ot)=some (nW (9+17*one+ot)):=by simp[zcl,i2,nW]
    exact zaK (zaK zaN (zaK zaN (zad rfl) (zbt rfl rfl m17)) a1) (zad rfl) a2
   have tail:∀(β:Bool) (x9:Option W),Run (dIf (dB (zag 8)) (zaA (dEx (dMt zeK (zaI ixW (zag 5) (zag 6)) (zae (zag 7) zan))) (dEx (dMt zeK (zaI ixW (zag 5) (zag 7)) (zae (zag 6) zan)))) za4)
     [some (.int cc),some (nW most),some (.lst (szs.map pW)),some (nW wd),some (nW hg),some (zgT ce n),some (nW one),some (nW ot),some (.bl β),x9] c1
     (Nx fun sl c=>∃ls x7 x8 x9,sl=[some (.int cc),some (nW most),some (.lst (szs.map pW)),some (nW wd),some (nW hg),some (zgT ce n),some (nW one),x7,x8,x9]/\c=bC ce ((List.range n).map (adj ls)) []/\LsOk n ls/\∀p∈ls,p.2<one\/(p.2=one/\p.1<(d'++[ot]).length)):=by
    intro β x9
    have hdl:(d'++[ot]).length=ot+1:=by rw[ed'];simp
    refine zb7 (p:=β) (ce':=c1) (zcO (zad rfl)) (fun _=>?_) (fun _=>?_)
    ·subst hc1
     have hz2:∀i,(((List.range n).map (adj ls)).getD i []).length<1000:=fun i=>by have:=zqk s5 L i;omega
     refine zpJ (ap2 (ce:=ce) (n:=n) (mS:=5) (rows:=(List.range n).map (adj ls)) (gs:=[]) (sl:=[some (.int cc),some (nW most),some (.lst (szs.map pW)),some (nW wd),some (nW hg),some (zgT ce n),some (nW one),some (nW ot),some (.bl β),x9]) (a:=6) (b:=7) (p:=one) (q:=ot) rfl rfl rfl (by simp) (by omega) (by omega) hz2) ?_
     refine⟨ls++[(ot,one)],_,_,_,rfl,?_,⟨?_,fun p hp=>?_⟩,fun p hp=>?_⟩
     ·rw[zkE (by simp;omega) (by simp;omega) (by omega),zlJ n ls (by omega) (by omega) (by omega)]
     ·rw[List.nodup_append]
      refine⟨L.nd,by simp,fun a ha c hc=>?_⟩
      rw[List.mem_singleton] at hc
      subst hc
      intro e
      subst e
      have:=hls _ ha
      simp only at this
      omega
     ·rcases List.mem_append.mp hp with hp|hp
      ·exact L.lt p hp
      ·rw[List.mem_singleton] at hp;subst hp;exact⟨hot,ho⟩
     ·rw[hdl]
      rcases List.mem_append.mp hp with hp|hp
      ·have:=hls p hp;omega
      ·rw[List.mem_singleton] at hp;subst hp;exact .inr ⟨rfl,Nat.lt_succ_self _⟩
    ·subst hc1
     exact zbp ⟨ls,_,_,_,rfl,rfl,L,fun p hp=>by rw[hdl];have:=hls p hp;omega⟩
   have hwd:(0:Int)<(wd:Int):=by omega
   unfold zdm
   refine zam (by repeat (first|exact SetAt.zero|apply SetAt.succ)) ?_
   refine zar (zmL (zaK (zaK (zad rfl) (zad rfl) (zhf (i:=one) (j:=ot) rfl rfl)) (zad rfl) (zcj rfl rfl)) (fun _=>zkD (zaK (zaK (zad rfl) (zad rfl) (zhf (i:=one) (j:=ot) rfl rfl)) zaN (zcj rfl rfl)) (fun _=>zaK (zaK (zad rfl) (zad rfl) (zfG (i:=one) (j:=wd) rfl rfl hwd)) zaN (zmv rfl rfl)))) ?_
   refine zam (by repeat (first|exact SetAt.zero|apply SetAt.succ)) ?_
   generalize (decide ((one:Int)-(ot:Int)=(wd:Int))||(decide ((one:Int)-(ot:Int)=1)&&decide ((0:Int)<(one:Int) % (wd:Int))))=β
   refine zar (zaK (ev1 _ _ _ (zad rfl) (ek _ _) _ zaN) zaN (zcj rfl rfl)) ?_
   refine zam (by repeat (first|exact SetAt.zero|apply SetAt.succ)) ?_
   generalize decide ((v1:Int)=0)=δ
   have mid:∀β:Bool,Run (zaA (dIf (dB (dOp zgS (dOp zeH (zay 2 (d__law_mix fu) (zae (zag 0) (zae (dC (.int 1)) zan))) (dC (.int 4))) (dC (.int 1)))) (zbf 8 (znp (zag 8) (zpb (zag 9)))) za4)
     (dIf (dB (zag 8)) (zaA (dEx (dMt zeK (zaI ixW (zag 5) (zag 6)) (zae (zag 7) zan))) (dEx (dMt zeK (zaI ixW (zag 5) (zag 7)) (zae (zag 6) zan)))) za4))
     [some (.int cc),some (nW most),some (.lst (szs.map pW)),some (nW wd),some (nW hg),some (zgT ce n),some (nW one),some (nW ot),some (.bl β),some (.bl δ)] c1
     (Nx fun sl c=>∃ls x7 x8 x9,sl=[some (.int cc),some (nW most),some (.lst (szs.map pW)),some (nW wd),some (nW hg),some (zgT ce n),some (nW one),x7,x8,x9]/\c=bC ce ((List.range n).map (adj ls)) []/\LsOk n ls/\∀p∈ls,p.2<one\/(p.2=one/\p.1<(d'++[ot]).length)):=by
    intro β
    refine zbg (p:=decide ((v2:Int)=1)) (ce':=c1) (zcO (zaK (ev2 _ _ _ (zad rfl) zaN _ zaN) zaN (zcj rfl rfl))) (fun _=>?_) (fun _=>zaY (tail β _))
    refine zar (zkD (zad rfl) (fun _=>zp5 (zad rfl))) ?_
    exact tail _ _
   refine zbg (p:=decide ((v2:Int)=0)) (ce':=c1) (zcO (zaK (ev2 _ _ _ (zad rfl) zaN _ zaN) zaN (zcj rfl rfl))) (fun _=>?_) (fun _=>zaY (mid β))
   refine zar (zmL (zad rfl) (fun _=>zad rfl)) ?_
   exact mid _
  ·rintro sl c ⟨ls,x7,x8,x9,rfl,rfl,L,hls⟩
   refine⟨ls,_,_,_,_,rfl,rfl,L,fun p hp=>?_⟩
   rw[ed,List.length_append,List.length_range,List.length_cons,List.length_nil]
   have:=hls p hp
   omega
 ·rintro sl c ⟨ls,x6,x7,x8,x9,rfl,rfl,L,hls⟩
  have er:=zgM (ce:=ce) (gs:=[]) (mS:=5) (rows:=(List.range n).map (adj ls)) (n:=n) (by simp) (by omega) (zqk s5 L) (sl:=[some (.int cc),some (nW most),some (.lst (szs.map pW)),some (nW wd),some (nW hg),some (zgT ce n),x6,x7,x8,x9]) rfl
  rw[zoc] at er
  have hlb:(zh4 n ls).length<=PySem.sizeLine:=by simp[zh4];omega
  refine zas (zbe (zac er zaj) (zpR hlb)) ?_
  have Oe:Own ce (bC ce ((List.range n).map (adj ls)) []) []:=⟨⟨_,rfl⟩,by simp,by simp,by simp⟩
  exact⟨_,_,Oe.finC (zmr _ _),ls,rfl,rfl,L⟩
end
section
variable {b:List (List Nat)} {ce:Ce}
theorem zs8(B:Brd b):PosA b (b.map fun _=>(0:Int)) 1:=by
 have z:∀q,(b.map fun _=>(0:Int)).getD q 0=0:=fun q=>by
  rw[List.getD_eq_getElem?_getD,List.getElem?_map]
  cases b[q]?<;>rfl
 exact⟨B.bd,B.sym,by simp,⟨by decide,by decide,by decide⟩,fun q _=>.inl (z q),fun s _ e=>by rw[z] at e;omega,fun s _ e=>by rw[z] at e;omega⟩
theorem PosA.of1{is:List Int}{o:Int}(P:PosA b is 1)(ho:o=1\/o=2):PosA b is o:=by
 rcases ho with rfl|rfl
 ·exact P
 ·exact P.flip
theorem PosA.to1{is:List Int}{o:Int}(P:PosA b is o)(ho:o=1\/o=2):PosA b is 1:=by
 rcases ho with rfl|rfl
 ·exact P
 ·exact P.flip
theorem zlS{is js:List Int}{o:Int}{p:Nat}(P:PosA b is o)(hp:p<b.length)(h:zmK b is o p=some js):PosA b js o:=by
 unfold zmK at h
 split at h
 ·rename_i z
  cases h
  exact P.next (P.ly hp z.1) z.2
 ·cases h
theorem zkF(fu:Nat)(hfu:200<=fu)(B:Brd b){ns:List Int}{at':Nat}(hat:at'<=100):∃is,d__law_stand fu [sW ns,nW at',wB b] ce=some (.ok (wS is) ce)/\PosA b is 1:=by
 have hz:=zeL
 have h36:=B.h36
 have pos:=B.pos
 have hbz:b.length<=PySem.sizeLine:=by omega
 suffices hs:∃w c,d__law_stand fu [sW ns,nW at',wB b] ce=some (.ok w c)/\∃is,w=wS is/\c=ce/\PosA b is 1 by
  obtain⟨w,c,e,is,rfl,rfl,h⟩:=hs
  exact⟨is,e,h⟩
 unfold d__law_stand
 refine zdY [some (sW ns),some (nW at'),some (wB b),none,none,none,none] rfl ?_
 refine zar (w:=wS (b.map fun _=>0)) (ce':=ce) (zbe (zac (zpP (zs:=b) (en:=wT) (f:=fun _=>0) (znF (zad rfl)).is hbz (fun x hx=>zaN)) zaj) (zpS (by rw[List.length_map];exact hbz))) ?_
 refine zam (by repeat (first|exact SetAt.zero|apply SetAt.succ)) ?_
 obtain⟨c4,e4⟩:=zfZ (ce:=ce) fu (ns:=ns) (k:=at') (by omega)
 obtain⟨m,hm,em⟩:=zlP (ce:=ce) fu c4 (k:=4) (by omega) (m:=b.length*1+6) (by omega)
 have e5:∀x3 x4 x5 x6,dOp zcl (dBi zcv (zae (zag 2) zan)) (dC (.int 6)) [some (sW ns),some (nW at'),some (wB b),x3,x4,x5,x6] ce=some (.ok (nW (b.length*1+6)) ce):=fun x3 x4 x5 x6=>by
  have l1:=zci (ce:=ce) (b:=b)
  exact zaK (zbe (ws:=[wB b]) (zac (zad rfl) zaj) l1) zaN ((zcz (x:=nW b.length) (y:=.int 6) (i:=b.length) (j:=6) rfl rfl).trans (by simp[nW]))
 have m1000:m<=1000:=by omega
 refine za7 (zs:=List.range m) (en:=nW) (c1:=ce) (zeQ (zac (em _ _ _ (zav (ws:=[sW ns,nW at']) (zac (zad rfl) (zac (zad rfl) zaj)) rfl e4) zaN _ (e5 _ _ _ _)) zaj) m1000)
  (fun d sl c=>∃is x4 x5 x6,sl=[some (sW ns),some (nW at'),some (wB b),some (wS is),x4,x5,x6]/\c=ce/\PosA b is 1)
  ⟨_,_,_,_,rfl,rfl,zs8 B⟩ ?_ ?_
 ·rintro d k r sl c e hk ⟨is,x4,x5,x6,rfl,rfl,P⟩
  have hk:=List.mem_range.mp hk
  have a1:zcl (nW at') (.int 1)=some (nW (at'+1)):=zcz (i:=at') (j:=1) rfl rfl
  have a2:zcl (nW (at'+1)) (nW k)=some (nW (at'+1+k)):=(zcz (x:=nW (at'+1)) (y:=nW k) (i:=(at'+1:Nat)) (j:=k) rfl rfl).trans (by simp[nW])
  have a3:zcl (.int 2) (nW k)=some (nW (2+k)):=(zcz (x:=.int 2) (y:=nW k) (i:=2) (j:=k) rfl rfl).trans (by simp[nW])
  obtain⟨c5,ec⟩:=zfZ (ce:=c) fu (ns:=ns) (k:=at'+1+k) (by omega)
  obtain⟨h2,hh2,eh2⟩:=zlP (ce:=c) fu c5 (k:=2+k) (by omega) (m:=2) (by omega)
  obtain⟨p,hp,ep⟩:=zlP (ce:=c) fu c5 (k:=3) (by omega) (m:=b.length) pos
  have ho:(1:Int)+(h2:Int)=1\/(1:Int)+(h2:Int)=2:=by omega
  have Po:=P.of1 ho
  have e6:=zlO (ce:=c) fu hfu B Po hp
  unfold zdq
  refine zam (by repeat (first|exact SetAt.zero|apply SetAt.succ)) ?_
  refine zar (w:=.int c5) (ce':=c) (zav (ws:=[sW ns,nW (at'+1+k)]) (zac (zad rfl) (zac (zaK (zaK (zad rfl) zaN a1) (zad rfl) a2) zaj)) rfl ec) ?_
  refine zam (by repeat (first|exact SetAt.zero|apply SetAt.succ)) ?_
  refine zar (w:=opW (zmK b is (1+(h2:Int)) p)) (ce':=c) (zav (ws:=[wB b,wS is,.int (1+(h2:Int)),nW p]) (zac (zad rfl) (zac (zad rfl) (zac (zaK zaN (eh2 _ _ _ (zad rfl) (zaK zaN (zad rfl) a3) _ zaN) rfl) (zac (ep _ _ _ (zad rfl) zaN _ (zbe (ws:=[wB b]) (zac (zad rfl) zaj) zci)) zaj)))) rfl e6) ?_
  refine zam (by repeat (first|exact SetAt.zero|apply SetAt.succ)) ?_
  cases hl:zmK b is (1+(h2:Int)) p with
  | none =>
   refine zb7 (p:=false) (ce':=c) (zcO (zgB (zad rfl) rfl)) (fun q=>by cases q) (fun _=>zbp ?_)
   exact⟨is,_,_,_,rfl,rfl,P⟩
  | some js =>
   refine zb7 (p:=true) (ce':=c) (zcO (zgB (zad rfl) rfl)) (fun _=>?_) (fun q=>by cases q)
   refine zen (w:=wS js) (ce':=c) (zad rfl) ?_
   exact⟨js,_,_,_,rfl,rfl,(zlS Po hp hl).to1 ho⟩
 ·rintro sl c ⟨is,x4,x5,x6,rfl,rfl,P⟩
  refine zas (w:=wS is) (ce':=c) (zad rfl) ?_
  exact⟨_,_,zaO (by simp only[Bel];exact belInts _ _),is,rfl,rfl,P⟩
end
def cv(b:List (List Nat))(o:Int)(q most:Nat):Nat->Bool->List (List Int)->List Int->Nat->Bool
 | 0,_,_,_,_=>false
 | r+1,true,pre,is,m=>if most<=(m+1) / 2 then false else (hlP b o q (pre++[is]) is).any fun p=>decide ((lS b is o p).getD q 0=0)||cv b o q most r false (pre++[is]) (lS b is o p) (m+1)
 | r+1,false,pre,is,m=>if most<=(m+1) / 2 then false else (stM b (3-o) (pre++[is]) is).all fun st=>cv b o q most r true (pre++[is]) st.2 (m+1)
theorem zkG{g:Nat->Bool}{f:Nat->Bool×Web}{ds:List (Option Nat)}:∀(l:List Nat) (acc:Web),(huL g f ds l acc).1=l.any fun p=>g p||(f p).1
 | [],acc=>rfl
 | p::ps,acc=>by
  unfold huL
  rw[List.any_cons]
  cases h1:g p with
  | true=>simp
  | false =>
   cases h2:(f p).1 with
   | true=>simp
   | false=>simp only[Bool.false_eq_true,if_false,Bool.or_self,Bool.false_or];exact zkG ps _
theorem zkH{f:Option Nat×List Int->Bool×Web}{ds:List (Option Nat)}:∀(l:List (Option Nat×List Int)) (acc:Web),(ruL f ds l acc).1=l.all fun st=>(f st).1
 | [],acc=>rfl
 | p::ps,acc=>by
  unfold ruL
  rw[List.all_cons]
  cases h2:(f p).1 with
  | true=>simp only[Bool.true_eq_false,if_false,Bool.true_and];exact zkH ps _
  | false=>simp
theorem zhr{b:List (List Nat)}{o:Int}{q most:Nat}:∀(r:Nat) (t:Bool) (pre:List (List Int)) (is:List Int) (ds:List (Option Nat)),(cha b o q most r t pre is ds).1=cv b o q most r t pre is ds.length
 | 0,t,pre,is,ds=>by simp[cha,cv]
 | r+1,true,pre,is,ds=>by
  unfold cha cv
  split
  ·rfl
  ·rw[zkG]
   congr 1
   funext p
   rw[zhr r false]
   simp
 | r+1,false,pre,is,ds=>by
  unfold cha cv
  split
  ·rfl
  ·rw[zkH]
   congr 1
   funext p
   rw[zhr r true]
   simp
theorem zhs{b:List (List Nat)}{o:Int}{q most:Nat}:∀(r:Nat) (t:Bool) (pre:List (List Int)) (is:List Int) (m:Nat),cv b o q most r t pre is m=true->cv b o q (most+1) r t pre is m=true
 | 0,t,pre,is,m,h=>by simp[cv] at h
 | r+1,true,pre,is,m,h=>by
  unfold cv at h ⊢
  split at h
  ·cases h
  ·rename_i hs
   rw[if_neg (by omega)]
   obtain⟨p,hp,hq⟩:=List.any_eq_true.mp h
   refine List.any_eq_true.mpr ⟨p,hp,?_⟩
   rw[Bool.or_eq_true] at hq ⊢
   exact hq.imp_right (zhs r false _ _ _)
 | r+1,false,pre,is,m,h=>by
  unfold cv at h ⊢
  split at h
  ·cases h
  ·rename_i hs
   rw[if_neg (by omega)]
   rw[List.all_eq_true] at h ⊢
   exact fun st hst=>zhs r true _ _ _ (h st hst)
def turn(t:Bool)(v:Int):Int:=if t=true/\v≠0 then 3-v else v
theorem zd9{t:Bool}{u v:Int}(hu:0<=u/\u<=2)(hv:0<=v/\v<=2):turn t u=turn t v↔u=v:=by
 unfold turn
 constructor
 ·intro h
  split at h<;>split at h<;>rename_i h1 h2<;>cases t<;>simp_all<;>omega
 ·rintro rfl;rfl
theorem zql{t:Bool}{u:Int}(hu:0<=u/\u<=2):turn t u=0↔u=0:=by
 have:=zd9 (t:=t) hu (v:=0) (by omega)
 rw[show turn t 0=0 by simp[turn]] at this
 exact this
theorem zgR{t:Bool}{o:Int}(ho:o=1\/o=2):turn t (3-o)=3-turn t o:=by
 unfold turn
 rcases ho with rfl|rfl<;>cases t<;>simp
theorem zkI{t:Bool}{o:Int}(ho:o=1\/o=2):turn t o=1\/turn t o=2:=by
 unfold turn
 rcases ho with rfl|rfl<;>cases t<;>simp
structure Iso (n:Nat) (f g:Nat->Nat) (b b':List (List Nat)):Prop where
 lb:b.length=n
 lb':b'.length=n
 f1:∀i,i<n->f i<n
 g1:∀i,i<n->g i<n
 gf:∀i,i<n->g (f i)=i
 fg:∀i,i<n->f (g i)=i
 adj:∀i j,i<n->j<n->(f j∈b'.getD (f i) []↔j∈b.getD i [])
structure Va (n:Nat) (is:List Int):Prop where
 l:is.length=n
 v:∀i,i<n->0<=is.getD i 0/\is.getD i 0<=2
structure Rn (t:Bool) (n:Nat) (f:Nat->Nat) (is is':List Int):Prop where
 va:Va n is
 l':is'.length=n
 at_:∀i,i<n->is'.getD (f i) 0=turn t (is.getD i 0)
section
variable {n:Nat} {f g:Nat->Nat} {b b':List (List Nat)} {t:Bool} {is is':List Int} {o:Int} {p q s x y:Nat}
theorem Iso.eqf(I:Iso n f g b b'){i j:Nat}(hi:i<n)(hj:j<n):f i=f j↔i=j:=⟨fun h=>by rw[<- I.gf i hi,h,I.gf j hj],fun h=>by rw[h]⟩
theorem Rn.eq0(R:Rn t n f is is')(hx:x<n):is'.getD (f x) 0=0↔is.getD x 0=0:=by rw[R.at_ x hx];exact zql (R.va.v x hx)
theorem Rn.eqs(R:Rn t n f is is')(hx:x<n)(hs:s<n):is'.getD (f x) 0=is'.getD (f s) 0↔is.getD x 0=is.getD s 0:=by rw[R.at_ x hx,R.at_ s hs];exact zd9 (R.va.v x hx) (R.va.v s hs)
theorem Rn.eqo(R:Rn t n f is is')(hx:x<n)(ho:o=1\/o=2):is'.getD (f x) 0=turn t o↔is.getD x 0=o:=by rw[R.at_ x hx];exact zd9 (R.va.v x hx) (by omega)
theorem Iso.reach(I:Iso n f g b b')(hb:Bd b)(hb':Bd b')(R:Rn t n f is is')(hs:s<n)(hx:x<n):Reach b' (okV (vS is') (f s)) (f s) (f x)↔Reach b (okV (vS is) s) s x:=by
 constructor
 ·intro h
  have key:∀y',Reach b' (okV (vS is') (f s)) (f s) y'->Reach b (okV (vS is) s) s (g y'):=by
   intro y' r
   induction r with
   | refl=>rw[I.gf s hs];exact .refl
   | @step u w h hw o ih =>
    have hu:u<n:=by have:=Reach.lt hb' (by rw[I.lb'];exact I.f1 s hs) h;rwa [I.lb'] at this
    have hwn:w<n:=by have:=hb'.get hw;rwa [I.lb'] at this
    rw[<- I.fg u hu,<- I.fg w hwn,I.adj _ _ (I.g1 u hu) (I.g1 w hwn)] at hw
    refine ih.step hw ?_
    have o:is'.getD w 0=is'.getD (f s) 0:=o
    rw[<- I.fg w hwn] at o
    exact(R.eqs (I.g1 w hwn) hs).mp o
  have:=key _ h
  rwa [I.gf x hx] at this
 ·intro h
  have key:∀y,Reach b (okV (vS is) s) s y->Reach b' (okV (vS is') (f s)) (f s) (f y):=by
   intro y r
   induction r with
   | refl=>exact .refl
   | @step u w h hw o ih =>
    have hu:u<n:=by have:=Reach.lt hb (by rw[I.lb];exact hs) h;rwa [I.lb] at this
    have hwn:w<n:=by have:=hb.get hw;rwa [I.lb] at this
    exact ih.step ((I.adj _ _ hu hwn).mpr hw) ((R.eqs hwn hs).mpr o)
  exact key x h
theorem Iso.cptM(I:Iso n f g b b')(hb:Bd b)(hb':Bd b')(R:Rn t n f is is')(hs:s<n)(hx:x<n):f x∈cpt b' (vS is') (f s)↔x∈cpt b (vS is) s:=by
 rw[zb3 hb' (by rw[I.lb'];exact I.f1 s hs),zb3 hb (by rw[I.lb];exact hs)]
 exact I.reach hb hb' R hs hx
theorem Iso.brsM(I:Iso n f g b b')(hb:Bd b)(hb':Bd b')(R:Rn t n f is is'){r r':List Nat}(hr:∀x∈r,x<n)(hr':∀x∈r',x<n)(h:∀x,x<n->(f x∈r'↔x∈r))(hy:y<n):f y∈brs b' is' r'↔y∈brs b is r:=by
 rw[zc8 hb',zc8 hb,R.eq0 hy]
 constructor
 ·rintro⟨⟨x,hx,h1⟩,h2⟩
  have hxn:=hr' x hx
  refine⟨⟨g x,?_,?_⟩,h2⟩
  ·rw[<- I.fg x hxn] at hx;exact(h _ (I.g1 x hxn)).mp hx
  ·rw[<- I.fg x hxn] at h1;exact(I.adj _ _ (I.g1 x hxn) hy).mp h1
 ·rintro⟨⟨x,hx,h1⟩,h2⟩
  have hxn:=hr x hx
  exact⟨⟨f x,(h x hxn).mpr hx,(I.adj _ _ hxn hy).mpr h1⟩,h2⟩
theorem Iso.brqM(I:Iso n f g b b')(hb:Bd b)(hb':Bd b')(R:Rn t n f is is')(hs:s<n)(hy:y<n):f y∈brq b' (f s) is'↔y∈brq b s is :=
 I.brsM hb hb' R (fun x hx=>by have:=cpt_lt hx;rwa [I.lb] at this) (fun x hx=>by have:=cpt_lt hx;rwa [I.lb'] at this) (fun x hx=>I.cptM hb hb' R hs hx) hy
theorem zmM:(brq b s is).Nodup:=List.Pairwise.filter _ (List.Pairwise.filter _ List.nodup_range)
theorem Iso.brqL(I:Iso n f g b b')(hb:Bd b)(hb':Bd b')(R:Rn t n f is is')(hs:s<n):(brq b' (f s) is').length=(brq b s is).length:=by
 have lt:∀y∈brq b s is,y<n:=fun y hy=>by have:=brq_lt hy;rwa [I.lb] at this
 have lt':∀y∈brq b' (f s) is',y<n:=fun y hy=>by have:=brq_lt hy;rwa [I.lb'] at this
 have e:(brq b' (f s) is').Perm ((brq b s is).map f):=by
  refine zde zmM ?_ fun y=>?_
  ·exact List.pairwise_map.mpr (List.Pairwise.imp_of_mem (fun ha hc hne e=>hne ((I.eqf (lt _ ha) (lt _ hc)).mp e)) zmM)
  ·rw[List.mem_map]
   constructor
   ·intro hy
    have hyn:=lt' y hy
    refine⟨g y,?_,I.fg y hyn⟩
    rw[<- I.fg y hyn] at hy
    exact(I.brqM hb hb' R hs (I.g1 y hyn)).mp hy
   ·rintro⟨x,hx,rfl⟩
    exact(I.brqM hb hb' R hs (lt x hx)).mpr hx
 rw[e.length_eq,List.length_map]
theorem Iso.nilM(I:Iso n f g b b')(hb:Bd b)(hb':Bd b')(R:Rn t n f is is')(hs:s<n):brs b' is' (cpt b' (vS is') (f s))=[]↔brs b is (cpt b (vS is) s)=[]:=by
 rw[List.eq_nil_iff_forall_not_mem,List.eq_nil_iff_forall_not_mem]
 constructor
 ·intro h y hy
  have hyn:y<n:=by have:=brq_lt (q:=s) hy;rwa [I.lb] at this
  exact h (f y) ((I.brqM hb hb' R hs hyn).mpr hy)
 ·intro h y hy
  have hyn:y<n:=by have:=brq_lt (q:=f s) hy;rwa [I.lb'] at this
  rw[<- I.fg y hyn] at hy
  exact h (g y) ((I.brqM hb hb' R hs (I.g1 y hyn)).mp hy)
theorem Rn.set(R:Rn t n f is is')(I:Iso n f g b b')(hp:p<n)(ho:o=1\/o=2):Rn t n f (is.set p o) (is'.set (f p) (turn t o)):=by
 refine⟨⟨by rw[List.length_set];exact R.va.l,fun i hi=>?_⟩,by rw[List.length_set];exact R.l',fun i hi=>?_⟩
 ·rw[zbz]
  split
  ·omega
  ·exact R.va.v i hi
 ·rw[zbz,zbz,R.va.l,R.l']
  by_cases h:p=i
  ·subst h
   rw[if_pos ⟨rfl,I.f1 p hp⟩,if_pos ⟨rfl,hp⟩]
  ·rw[if_neg (fun z=>h ((I.eqf hp hi).mp z.1)),if_neg (fun z=>h z.1)]
   exact R.at_ i hi
theorem Iso.lTM(I:Iso n f g b b')(R:Rn t n f is is')(A:LyA b is o p)(A':LyA b' is' (turn t o) (f p))(ho:o=1\/o=2)(hp:p<n)(hq:q<n):f q∈lT b' is' (turn t o) (f p)↔q∈lT b is o p:=by
 have R1:=R.set I hp ho
 have h3:3-o=1\/3-o=2:=by omega
 rw[A'.law,A.law,<- zgR ho]
 constructor
 ·rintro⟨y,hy,h1,h2,h4⟩
  have hyn:y<n:=by have:=A'.bd.get hy;rwa [I.lb'] at this
  have gy:=I.g1 y hyn
  rw[<- I.fg y hyn] at hy h1 h2 h4
  exact⟨g y,(I.adj _ _ hp gy).mp hy,(R1.eqo gy h3).mp h1,(I.nilM A.bd A'.bd R1 gy).mp h2,(I.cptM A.bd A'.bd R1 gy hq).mp h4⟩
 ·rintro⟨y,hy,h1,h2,h4⟩
  have hyn:y<n:=by have:=A.bd.get hy;rwa [I.lb] at this
  exact⟨f y,(I.adj _ _ hp hyn).mpr hy,(R1.eqo hyn h3).mpr h1,(I.nilM A.bd A'.bd R1 hyn).mpr h2,(I.cptM A.bd A'.bd R1 hyn hq).mpr h4⟩
theorem Iso.lSM(I:Iso n f g b b')(R:Rn t n f is is')(A:LyA b is o p)(A':LyA b' is' (turn t o) (f p))(ho:o=1\/o=2)(hp:p<n):Rn t n f (lS b is o p) (lS b' is' (turn t o) (f p)):=by
 refine⟨⟨by rw[zc1];exact R.va.l,fun i hi=>?_⟩,by rw[zc1];exact R.l',fun i hi=>?_⟩
 ·have:=A.vals i (by rw[I.lb];exact hi)
  omega
 ·rw[A'.get (by rw[I.lb'];exact I.f1 i hi),A.get (by rw[I.lb];exact hi)]
  by_cases h:i=p
  ·rw[if_pos (by rw[h]),if_pos h]
  ·rw[if_neg (fun z=>h ((I.eqf hi hp).mp z)),if_neg h]
   by_cases h2:i∈lT b is o p
   ·rw[if_pos ((I.lTM R A A' ho hp hi).mpr h2),if_pos h2]
    simp[turn]
   ·rw[if_neg (fun z=>h2 ((I.lTM R A A' ho hp hi).mp z)),if_neg h2]
    exact R.at_ i hi
theorem Iso.frbM(I:Iso n f g b b')(R:Rn t n f is is')(A:LyA b is o p)(A':LyA b' is' (turn t o) (f p))(ho:o=1\/o=2)(hp:p<n):Frb b' is' (turn t o) (f p)↔Frb b is o p:=by
 unfold Frb
 exact not_congr (I.nilM A.bd A'.bd (I.lSM R A A' ho hp) hp)
theorem Iso.posM(I:Iso n f g b b')(hb':Bd b')(sym':Sym b')(R:Rn t n f is is')(P:PosA b is o)(ho:o=1\/o=2):PosA b' is' (turn t o):=by
 have snd:∀h:Int,h=1\/h=2->zkm b is h->zkm b' is' (turn t h):=fun h hh S s' hs' e=>by
  rw[I.lb'] at hs'
  have gs:=I.g1 s' hs'
  rw[<- I.fg s' hs'] at e ⊢
  obtain⟨x,y,r,hy,y0⟩:=S (g s') (by rw[I.lb];exact gs) ((R.eqo gs hh).mp e)
  have hx:x<n:=by have:=Reach.lt P.bd (by rw[I.lb];exact gs) r;rwa [I.lb] at this
  have hyn:y<n:=by have:=P.bd.get hy;rwa [I.lb] at this
  exact⟨f x,f y,(I.reach P.bd hb' R gs hx).mpr r,(I.adj _ _ hx hyn).mpr hy,(R.eq0 hyn).mpr y0⟩
 have h3:3-o=1\/3-o=2:=by omega
 have th:=zkI (t:=t) ho
 refine⟨hb',sym',by rw[R.l',I.lb'],⟨by omega,by omega,by omega⟩,fun q hq=>?_,by rw[<- zgR ho];exact snd _ h3 P.nh,snd _ ho P.no⟩
 rw[I.lb'] at hq
 have gq:=I.g1 q hq
 rw[<- I.fg q hq,R.at_ _ gq]
 rcases P.v (g q) (by rw[I.lb];exact gq) with h|h|h
 ·left;rw[h];simp[turn]
 ·right;left;rw[h];exact zgR ho
 ·right;right;rw[h]
def ren(t:Bool)(n:Nat)(g:Nat->Nat)(is:List Int):List Int:=(List.range n).map fun j=>turn t (is.getD (g j) 0)
theorem zf0{j:Nat}(hj:j<n):(ren t n g is).getD j 0=turn t (is.getD (g j) 0):=by
 unfold ren
 rw[List.getD_eq_getElem?_getD,List.getElem?_map,List.getElem?_range hj]
 rfl
theorem Iso.renM(I:Iso n f g b b')(V:Va n is):Rn t n f is (ren t n g is):=⟨V,by simp[ren],fun i hi=>by rw[zf0 (I.f1 i hi),I.gf i hi]⟩
theorem Rn.uniq(R:Rn t n f is is')(I:Iso n f g b b'):is'=ren t n g is:=by
 refine zdu (by rw[R.l'];simp[ren]) fun j hj=>?_
 rw[R.l'] at hj
 rw[zf0 hj,<- R.at_ _ (I.g1 j hj),I.fg j hj]
theorem Iso.renI(I:Iso n f g b b'){x y:List Int}(hx:Va n x)(hy:Va n y)(e:ren t n g x=ren t n g y):x=y:=by
 refine zdu (by rw[hx.l,hy.l]) fun i hi=>?_
 rw[hx.l] at hi
 have this:(ren t n g x).getD (f i) 0=(ren t n g y).getD (f i) 0:=by rw[e]
 rw[zf0 (I.f1 i hi),zf0 (I.f1 i hi),I.gf i hi] at this
 exact(zd9 (hx.v i hi) (hy.v i hi)).mp this
theorem Va.of(P:PosA b is o)(lb:b.length=n)(ho:o=1\/o=2):Va n is:=⟨by rw[P.hl,lb],fun i hi=>by have:=P.v i (by rw[lb];exact hi);omega⟩
theorem zea{cm:List (List Int)}{l:List Nat}:p∈ziR b cm is o l↔p∈l/\zeW b is o p=true/\lS b is o p∉cm:=by
 unfold ziR
 rw[List.mem_filter,Bool.and_eq_true,Bool.not_eq_true',decide_eq_false_iff_not]
theorem Iso.canM(I:Iso n f g b b')(hb':Bd b')(sym':Sym b')(R:Rn t n f is is')(P:PosA b is o)(ho:o=1\/o=2)(hp:p<n):zeW b' is' (turn t o) (f p)=true↔zeW b is o p=true:=by
 rw[canL_iff,canL_iff,R.eq0 hp]
 have P':=I.posM hb' sym' R P ho
 constructor
 ·rintro⟨h1,h2⟩
  exact⟨h1,(I.frbM R (P.ly (by rw[I.lb];exact hp) h1) (P'.ly (by rw[I.lb'];exact I.f1 p hp) ((R.eq0 hp).mpr h1)) ho hp).mp h2⟩
 ·rintro⟨h1,h2⟩
  exact⟨h1,(I.frbM R (P.ly (by rw[I.lb];exact hp) h1) (P'.ly (by rw[I.lb'];exact I.f1 p hp) ((R.eq0 hp).mpr h1)) ho hp).mpr h2⟩
theorem Iso.newM(I:Iso n f g b b')(hb':Bd b')(sym':Sym b'){cm:List (List Int)}(hc:∀x∈cm,Va n x)(P:PosA b is o)(ho:o=1\/o=2)(hp:p<n)(hcan:zeW b is o p=true):lS b' (ren t n g is) (turn t o) (f p)=ren t n g (lS b is o p)/\Va n (lS b is o p)/\PosA b (lS b is o p) o/\(lS b' (ren t n g is) (turn t o) (f p)∈cm.map (ren t n g)↔lS b is o p∈cm):=by
 have V:=Va.of P I.lb ho
 have R:=I.renM (t:=t) V
 have P':=I.posM hb' sym' R P ho
 have h1:=(canL_iff.mp hcan).1
 have A:=P.ly (by rw[I.lb];exact hp) h1
 have A':=P'.ly (by rw[I.lb'];exact I.f1 p hp) ((R.eq0 hp).mpr h1)
 have R2:=I.lSM R A A' ho hp
 have e:=R2.uniq I
 refine⟨e,R2.va,zfX P (by rw[I.lb];exact hp) hcan,?_⟩
 rw[e,List.mem_map]
 constructor
 ·rintro⟨x,hx,ex⟩
  rw[<- I.renI (hc x hx) R2.va ex]
  exact hx
 ·exact fun h=>⟨_,h,rfl⟩
theorem zid(I:Iso n f g b b')(hb':Bd b')(sym':Sym b'){most:Nat}(ho:o=1\/o=2)(hq:q<n):∀(r:Nat) (tt:Bool) (pre:List (List Int)) (is:List Int) (m:Nat),(∀x∈pre++[is],Va n x)->PosA b is o ->
  cv b' (turn t o) (f q) most r tt (pre.map (ren t n g)) (ren t n g is) m=cv b o q most r tt pre is m
 | 0,tt,pre,is,m,_,_=>by simp[cv]
 | r+1,true,pre,is,m,hc,P=>by
  have V:=Va.of P I.lb ho
  have R:=I.renM (t:=t) V
  have ecm:pre.map (ren t n g)++[ren t n g is]=(pre++[is]).map (ren t n g):=by simp
  unfold cv
  split
  ·rfl
  ·rw[ecm]
   have nxt:∀p,p<n->zeW b is o p=true->(decide ((lS b' (ren t n g is) (turn t o) (f p)).getD (f q) 0=0)||cv b' (turn t o) (f q) most r false ((pre++[is]).map (ren t n g)) (lS b' (ren t n g is) (turn t o) (f p)) (m+1))=(decide ((lS b is o p).getD q 0=0)||cv b o q most r false (pre++[is]) (lS b is o p) (m+1)):=fun p hp hcan=>by
    obtain⟨e,V2,P2,_⟩:=I.newM (t:=t) hb' sym' hc P ho hp hcan
    rw[e,zid I hb' sym' ho hq r false (pre++[is]) (lS b is o p) (m+1) (fun x hx=>by
     rcases List.mem_append.mp hx with hx|hx
     ·exact hc x hx
     ·rw[List.mem_singleton] at hx;subst hx;exact V2) P2]
    have:=(I.renM (t:=t) V2).eq0 hq
    rw[show decide ((ren t n g (lS b is o p)).getD (f q) 0=0)=decide ((lS b is o p).getD q 0=0) by rw[Bool.eq_iff_iff,decide_eq_true_eq,decide_eq_true_eq];exact this]
   have hl:∀p,p<n->(f p∈hlP b' (turn t o) (f q) ((pre++[is]).map (ren t n g)) (ren t n g is)↔p∈hlP b o q (pre++[is]) is):=fun p hp=>by
    unfold hlP
    rw[List.mem_filter,List.mem_filter,zea,zea,I.brqM P.bd hb' R hq hp,I.canM hb' sym' R P ho hp]
    by_cases hcan:zeW b is o p=true
    ·obtain⟨e,V2,P2,hm⟩:=I.newM (t:=t) hb' sym' hc P ho hp hcan
     have R2:=I.renM (t:=t) V2
     have e0:=R2.eq0 hq
     rw[hm,e,I.brqL P.bd hb' R2 hq]
     simp only[Bool.or_eq_true,decide_eq_true_eq,e0]
    ·exact⟨fun h=>absurd h.1.2.1 hcan,fun h=>absurd h.1.2.1 hcan⟩
   rw[Bool.eq_iff_iff,List.any_eq_true,List.any_eq_true]
   constructor
   ·rintro⟨p',hp',h⟩
    have hpn:p'<n:=by have:=(zeF hp').1;rwa [I.lb'] at this
    have gp:=I.g1 p' hpn
    rw[<- I.fg p' hpn] at hp' h
    have hp:=(hl _ gp).mp hp'
    rw[nxt _ gp (zeF hp).2] at h
    exact⟨g p',hp,h⟩
   ·rintro⟨p,hp,h⟩
    have hpn:p<n:=by have:=(zeF hp).1;rwa [I.lb] at this
    refine⟨f p,(hl p hpn).mpr hp,?_⟩
    rw[nxt p hpn (zeF hp).2]
    exact h
 | r+1,false,pre,is,m,hc,P=>by
  have V:=Va.of P I.lb ho
  have R:=I.renM (t:=t) V
  have h3:3-o=1\/3-o=2:=by omega
  have P3:=P.flip
  have ecm:pre.map (ren t n g)++[ren t n g is]=(pre++[is]).map (ren t n g):=by simp
  unfold cv
  split
  ·rfl
  ·rw[ecm,<- zgR ho]
   have nxt:∀p,p<n->zeW b is (3-o) p=true->cv b' (turn t o) (f q) most r true ((pre++[is]).map (ren t n g)) (lS b' (ren t n g is) (turn t (3-o)) (f p)) (m+1)=cv b o q most r true (pre++[is]) (lS b is (3-o) p) (m+1):=fun p hp hcan=>by
    obtain⟨e,V2,P2,_⟩:=I.newM (t:=t) hb' sym' hc P3 h3 hp hcan
    rw[e,zid I hb' sym' ho hq r true (pre++[is]) (lS b is (3-o) p) (m+1) (fun x hx=>by
     rcases List.mem_append.mp hx with hx|hx
     ·exact hc x hx
     ·rw[List.mem_singleton] at hx;subst hx;exact V2) P2.back]
   have hl:∀p,p<n->(f p∈ziR b' ((pre++[is]).map (ren t n g)) (ren t n g is) (turn t (3-o)) (List.range b'.length)↔p∈ziR b (pre++[is]) is (3-o) (List.range b.length)):=fun p hp=>by
    rw[zea,zea,List.mem_range,List.mem_range,I.lb,I.lb',I.canM hb' sym' R P3 h3 hp]
    by_cases hcan:zeW b is (3-o) p=true
    ·obtain⟨e,V2,P2,hm⟩:=I.newM (t:=t) hb' sym' hc P3 h3 hp hcan
     rw[hm]
     simp only[hp,I.f1 p hp]
    ·exact⟨fun h=>absurd h.2.1 hcan,fun h=>absurd h.2.1 hcan⟩
   have last:=zid I hb' sym' (most:=most) ho hq r true (pre++[is]) is (m+1) (fun x hx=>by
     rcases List.mem_append.mp hx with hx|hx
     ·exact hc x hx
     ·rw[List.mem_singleton] at hx;subst hx;exact V) P
   rw[Bool.eq_iff_iff,List.all_eq_true,List.all_eq_true]
   constructor
   ·intro h st hst
    rcases List.mem_append.mp hst with hst|hst
    ·obtain⟨p,hp,rfl⟩:=List.mem_map.mp hst
     have hpn:p<n:=by have:=List.mem_range.mp (zcR hp).1;rwa [I.lb] at this
     rw[<- nxt p hpn (zcR hp).2]
     exact h (some (f p),_) (List.mem_append_left _ (List.mem_map.mpr ⟨f p,(hl p hpn).mpr hp,rfl⟩))
    ·rw[List.mem_singleton] at hst
     subst hst
     rw[<- last]
     exact h (none,_) (List.mem_append_right _ (List.mem_singleton.mpr rfl))
   ·intro h st hst
    rcases List.mem_append.mp hst with hst|hst
    ·obtain⟨p',hp',rfl⟩:=List.mem_map.mp hst
     have hpn:p'<n:=by have:=List.mem_range.mp (zcR hp').1;rwa [I.lb'] at this
     have gp:=I.g1 p' hpn
     rw[<- I.fg p' hpn] at hp' ⊢
     have hp:=(hl _ gp).mp hp'
     rw[nxt _ gp (zcR hp).2]
     exact h (some (g p'),_) (List.mem_append_left _ (List.mem_map.mpr ⟨g p',hp,rfl⟩))
    ·rw[List.mem_singleton] at hst
     subst hst
     rw[last]
     exact h (none,_) (List.mem_append_right _ (List.mem_singleton.mpr rfl))
end
section
variable {b:List (List Nat)} {is:List Int} {ce:Ce} {n:Nat}
theorem zf1{α:Type}(n:Nat)(x:α):(List.replicate n [x]).flatten=List.replicate n x:=by
 induction n with
 | zero=>rfl
 | succ m ih=>simp only[List.replicate_succ,List.flatten_cons,ih];rfl
theorem zlT{ra:Sl->M (List W)}{bb:Sl->M W}{sl:Sl}{xs:List W}{c1 c2:Ce}(ha:ra sl ce=some (.ok xs c1))(hl:xs.length<=PySem.sizeLine)(hb:bb sl c1=some (.ok (nW n) c2))(hz:xs.length*n<=PySem.sizeLine)(h63:n<=100000):zeO zbX ra bb sl ce=some (.ok (.lst (List.replicate n xs).flatten) c2):=by
 have t:((n:Int)).toNat=n:=Int.toNat_natCast n
 simp only[zeO,bnd,ha,zqv,if_pos hl,hb,zpp,nW,t]
 rw[if_pos ⟨by omega,by omega,hz⟩]
 exact zeq (by rw[L2.len_rep,Nat.mul_comm];exact hz)
theorem ziT(fu:Nat)(hfu:200<=fu)(B:Brd b)(hl:is.length=b.length)(cc:Int):∃w,d__law_target fu [wB b,wS is,.int cc] ce=some (.ok w ce)/\(w=.non\/∃q,w=nW q/\q<b.length/\is.getD q 0≠0):=by
 have hz:=zeL
 have z2000:2000<PySem.sizeLine:=by decide
 have z1:1<=PySem.sizeLine:=by decide
 have h36:=B.h36
 suffices hs:∃w c,d__law_target fu [wB b,wS is,.int cc] ce=some (.ok w c)/\c=ce/\(w=.non\/∃q,w=nW q/\q<b.length/\is.getD q 0≠0) by
  obtain⟨w,c,e,rfl,h⟩:=hs
  exact⟨w,e,h⟩
 unfold d__law_target
 refine zdY [some (wB b),some (wS is),some (.int cc),none,none,none] rfl ?_
 refine zar (w:=.lst []) (ce':=ce) (zbO (ws:=[]) zaj (Nat.zero_le _)) ?_
 refine zam (by repeat (first|exact SetAt.zero|apply SetAt.succ)) ?_
 refine za7 (zs:=List.range b.length) (en:=nW) (c1:=ce) (zeQ (zac (zbe (ws:=[wB b]) (zac (zad rfl) zaj) zci) zaj) (by omega))
  (fun d sl c=>∃(T:List Nat) (x4 x5:Option W),sl=[some (wB b),some (wS is),some (.int cc),some (wL T),x4,x5]/\c=ce/\T.length<=7*d.length/\∀x∈T,x<b.length/\is.getD x 0≠0)
  ⟨[],_,_,rfl,rfl,by simp,by simp⟩ ?_ ?_
 ·rintro d p r sl c e hp ⟨T,x4,x5,rfl,rfl,lT,hT⟩
  have hp:=List.mem_range.mp hp
  have hdl:d.length<36:=by
   have:=congrArg List.length e
   simp only[List.length_append,List.length_cons,List.length_range] at this
   omega
  have jp:=zbZ (ce:=c) (is:=is) (p:=p) (by omega)
  unfold zc0
  refine zam (by repeat (first|exact SetAt.zero|apply SetAt.succ)) ?_
  refine zb7 (p:=!decide (is.getD p 0=0)) (ce':=c) (zcO (zaK (zaq (zad rfl) (zad rfl) jp) zaN (zfF rfl rfl))) (fun q=>?_) (fun _=>zbp ⟨T,_,_,rfl,rfl,by simp only[List.length_append,List.length_cons,List.length_nil];omega,hT⟩)
  have hp0:is.getD p 0≠0:=by simpa using q
  obtain⟨F,e1,mF,lF',ltF⟩:=zfY (ce:=c) fu hfu B (zss is) hl hp
  obtain⟨G,e2,lG,nG,mG⟩:=zhq (ce:=c) (row:=F) fu B (zss is) hl ltF
  have l2:=zfD (ce:=c) (l:=G)
  refine zar (w:=.bl (decide ((G.length:Int)<3))) (ce':=c) (zaK (zbe (ws:=[wL G]) (zac (zav (ws:=[wB b,wS is,wL F]) (zac (zad rfl) (zac (zad rfl) (zac (zav (ws:=[wB b,wS is,nW p]) (zac (zad rfl) (zac (zad rfl) (zac (zad rfl) zaj))) rfl e1) zaj))) rfl e2) zaj) l2) zaN (zgE (i:=G.length) (j:=3) rfl rfl)) ?_
  refine zam (by repeat (first|exact SetAt.zero|apply SetAt.succ)) ?_
  generalize decide ((G.length:Int)<3)=β
  obtain⟨k,hk7,ek⟩:∃k:Nat,k<=7/\∀(sl:Sl),sl[5]?=some (some (.bl β))->dOp zcl (dC (.int 1)) (dOp zeG (dC (.int 6)) (dBi znN (zae (zag 5) zan))) sl c=some (.ok (nW k) c):=by
   cases β with
   | true =>
    refine⟨7,by omega,fun sl hs=>zaK (y:=.int 6) zaN (zaK (y:=.int 1) zaN (zbe (ws:=[.bl true]) (zac (zad hs) zaj) rfl) (zbt (i:=6) (j:=1) rfl rfl (.inl (by omega)))) rfl⟩
   | false =>
    refine⟨1,by omega,fun sl hs=>zaK (y:=.int 0) zaN (zaK (y:=.int 0) zaN (zbe (ws:=[.bl false]) (zac (zad hs) zaj) rfl) (zbt (i:=6) (j:=0) rfl rfl (.inl (by omega)))) rfl⟩
  have er:zeO zbX (zae (zag 4) zan) (dOp zcl (dC (.int 1)) (dOp zeG (dC (.int 6)) (dBi znN (zae (zag 5) zan)))) [some (wB b),some (wS is),some (.int cc),some (wL T),some (nW p),some (.bl β)] c=some (.ok (wL (List.replicate k p)) c):=by
   have:=zlT (ce:=c) (n:=k) (ra:=zae (zag 4) zan) (bb:=dOp zcl (dC (.int 1)) (dOp zeG (dC (.int 6)) (dBi znN (zae (zag 5) zan)))) (sl:=[some (wB b),some (wS is),some (.int cc),some (wL T),some (nW p),some (.bl β)]) (xs:=[nW p]) (zac (zad rfl) zaj) z1 (ek _ rfl) (by simp only[List.length_cons,List.length_nil];omega) (by omega)
   rw[this,zf1]
   simp only[wL,List.map_replicate]
  have ec:ziW zbX (zag 3) (zeO zbX (zae (zag 4) zan) (dOp zcl (dC (.int 1)) (dOp zeG (dC (.int 6)) (dBi znN (zae (zag 5) zan))))) [some (wB b),some (wS is),some (.int cc),some (wL T),some (nW p),some (.bl β)] c=some (.ok (wL (T++List.replicate k p)) c):=by
   have:=zeA (ce:=c) (zad (i:=3) (sl:=[some (wB b),some (wS is),some (.int cc),some (wL T),some (nW p),some (.bl β)]) rfl) er (xs:=T.map nW) (ys:=(List.replicate k p).map nW) rfl rfl (by rw[List.length_map,List.length_map,List.length_replicate];omega)
   rw[this]
   simp only[wL,List.map_append]
  refine zen (w:=wL (T++List.replicate k p)) (ce':=c) ec ?_
  refine⟨T++List.replicate k p,_,_,rfl,rfl,by simp only[List.length_append,List.length_cons,List.length_nil,List.length_replicate];omega,fun x hx=>?_⟩
  rcases List.mem_append.mp hx with hx|hx
  ·exact hT x hx
  ·rw[(List.mem_replicate.mp hx).2];exact⟨hp,hp0⟩
 ·rintro sl c ⟨T,x4,x5,rfl,rfl,lT,hT⟩
  refine zbg (p:=decide (T=[])) (ce':=c) (zcO (zaq (zad rfl) (zbO (ws:=[]) zaj (Nat.zero_le _)) zlp)) (fun _=>?_) (fun q=>zaY ?_)
  ·exact zbN (zas (w:=.non) (ce':=c) zaN ⟨_,_,zaO (by simp only[Bel]),rfl,.inl rfl⟩)
  ·have hT0:0<T.length:=List.length_pos_iff.mpr (of_decide_eq_false q)
   obtain⟨i,hi,ei⟩:=zlP (ce:=c) fu cc (k:=5) (by omega) (m:=T.length) hT0
   refine zas (w:=nW (T.getD i 0)) (ce':=c) (zaq (zad rfl) (ei _ _ _ (zad rfl) zaN _ (zbe (ws:=[wL T]) (zac (zad rfl) zaj) zfD)) (zdO hi)) ?_
   have hm:T.getD i 0∈T:=by rw[List.getD_eq_getElem?_getD,List.getElem?_eq_getElem hi];exact List.getElem_mem hi
   exact⟨_,_,zaO (by simp only[Bel,nW]),rfl,.inr ⟨_,rfl,hT _ hm⟩⟩
theorem zlU(h:n<=1000):zfv zfr [nW n] ce=some (.ok (.cel ce.length) (ce++[.lst ((List.range n).map nW)])):=by
 have z:2000<PySem.sizeLine:=by decide
 have r1:ziX [nW n]=some (.rng 0 n):=by
  simp only[ziX,nW]
  rw[if_pos ⟨by omega,by omega⟩,Int.toNat_natCast]
 simp only[zfv,r1]
 rw[if_pos (by omega)]
 have e:(List.range n).map (fun(i:Nat)=>W.int (0+(i:Int)))=(List.range n).map nW:=by
  apply List.map_congr_left
  intro i _
  simp[nW]
 rw[e,zcy (by rw[List.length_map,List.length_range];omega)]
theorem zdU{α β:Type}(f:α->β):∀(l:List α) (i:Nat),(l.map f).eraseIdx i=(l.eraseIdx i).map f
 | [],_=>rfl
 | _::_,0=>rfl
 | x::l,i+1=>by simp only[List.map_cons,List.eraseIdx_cons_succ,zdU f l i]
theorem zod{c:Ce}{k:Nat}{Z:List Nat}(g:c[k]?=some (.lst (Z.map nW))){i:Nat}(hi:i<Z.length)(h62:Z.length<=100):zoi (.cel k) [nW i] c=some (.ok (nW (Z.getD i 0)) (c.set k (.lst ((Z.eraseIdx i).map nW)))):=by
 have h1:0<=(i:Int)/\(i:Int)<2 ^ 62:=⟨by omega,by omega⟩
 have h2:(Z.map nW)[i]?=some (nW (Z.getD i 0)):=by rw[List.getElem?_map,List.getElem?_eq_getElem hi,List.getD_eq_getElem?_getD,List.getElem?_eq_getElem hi];rfl
 show zoi (.cel k) [.int (i:Int)] c=_
 simp only[zoi,ze8 g]
 rw[if_pos h1]
 simp only[Int.toNat_natCast,h2,zdU]
theorem zfj:∀(l:List Nat) (i:Nat),i<l.length->(l.getD i 0::l.eraseIdx i).Perm l
 | x::l,0,_=>.refl _
 | x::l,i+1,h=>by
  have ih:=zfj l i (by simpa using h)
  show(l.getD i 0::x::l.eraseIdx i).Perm (x::l)
  exact(List.Perm.swap _ _ _).trans (ih.cons x)
theorem zkJ(fu:Nat)(cc:Int)(n36:n<=36):∃od,zce (d__law_order fu) [.int cc,nW n] ce=some (.ok (wL od) ce)/\od.Perm (List.range n):=by
 have hz:=zeL
 suffices hs:∃w c,d__law_order fu [.int cc,nW n] ce=some (.ok w c)/\∃od:List Nat,w=.cel ce.length/\c=ce++[.lst (od.map nW)]/\od.Perm (List.range n) by
  obtain⟨w,c,e,od,rfl,rfl,h⟩:=hs
  exact⟨od,zbE e (bels_nW _ _),h⟩
 unfold d__law_order
 refine zdY [some (.int cc),some (nW n),none,none,none] rfl ?_
 refine zar (w:=.cel ce.length) (ce':=ce++[.lst ((List.range n).map nW)]) (zbe (ws:=[nW n]) (zac (zad rfl) zaj) (zlU (by omega))) ?_
 refine zam (by repeat (first|exact SetAt.zero|apply SetAt.succ)) ?_
 have O0:=(Own.start ce).alloc (C.lst ((List.range n).map nW))
 generalize ce++[C.lst ((List.range n).map nW)]=c0 at O0 ⊢
 refine zar (zcx zaj (Nat.zero_le _)) ?_
 refine zam (by repeat (first|exact SetAt.zero|apply SetAt.succ)) ?_
 have O1:=O0.alloc (C.lst (([]:List Nat).map nW))
 refine(?_:Run _ _ (c0++[C.lst (([]:List Nat).map nW)]) _)
 generalize c0.length=k3 at O1 ⊢
 generalize c0++[C.lst (([]:List Nat).map nW)]=c1 at O1 ⊢
 refine za7 (zs:=List.range n) (en:=nW) (c1:=c1) (zeQ (zac (zad rfl) zaj) (by omega))
  (fun d sl c=>∃(F L:List Nat) (x4:Option W),sl=[some (.int cc),some (nW n),some (.cel ce.length),some (.cel k3),x4]/\Own ce c [(k3,C.lst (F.map nW)),(ce.length,C.lst (L.map nW))]/\(F++L).Perm (List.range n)/\F.length=d.length)
  ⟨[],List.range n,_,rfl,O1,by simp,rfl⟩ ?_ ?_
 ·rintro d k r sl c e hk ⟨F,L,x4,rfl,O,pm,lF'⟩
  have hk:=List.mem_range.mp hk
  have hdl:d.length<n:=by
   have:=congrArg List.length e
   simp only[List.length_append,List.length_cons,List.length_range] at this
   omega
  have hlen:=pm.length_eq
  rw[List.length_append,List.length_range] at hlen
  have hL0:0<L.length:=by omega
  have a1:zcl (.int 30) (nW k)=some (nW (30+k)):=(zcz (x:=.int 30) (y:=nW k) (i:=30) (j:=k) rfl rfl).trans (by simp[nW])
  obtain⟨i,hi,ei⟩:=zlP (ce:=c) fu cc (k:=30+k) (by omega) (m:=L.length) hL0
  have ll:=zj4 (ce:=c) (l:=L) O.g1
  have e1:=zod (c:=c) O.g1 hi (by omega)
  have O2:=O.set1 (C.lst ((L.eraseIdx i).map nW))
  have ea:=zgC (y:=nW (L.getD i 0)) O2.g0 (by rw[List.length_map];omega)
  unfold zdr
  refine zam (by repeat (first|exact SetAt.zero|apply SetAt.succ)) ?_
  refine zeo (w:=.non) (zfC (ws:=[nW (L.getD i 0)]) (zad rfl) (zb6 O.g0) (zac (zfC (ws:=[nW i]) (zad rfl) (zb6 O.g1) (zac (ei _ _ _ (zad rfl) (zaK zaN (zad rfl) a1) _ (zbe (ws:=[.cel ce.length]) (zac (zad rfl) zaj) ll)) zaj) e1) zaj) ea) ?_
  refine⟨F++[L.getD i 0],L.eraseIdx i,_,rfl,by rw[List.map_append];exact O2.set0 _,?_,by simp only[List.length_append,List.length_cons,List.length_nil];omega⟩
  have q:=zfj L i hi
  rw[List.append_assoc]
  exact(List.Perm.append_left F q).trans pm
 ·rintro sl c ⟨F,L,x4,rfl,O,pm,lF'⟩
  rw[List.length_range] at lF'
  have hlen:=pm.length_eq
  rw[List.length_append,List.length_range] at hlen
  have:L=[]:=List.length_eq_zero_iff.mp (by omega)
  subst this
  rw[List.append_nil] at pm
  refine zas (w:=.cel k3) (ce':=c) (zad rfl) ?_
  exact⟨_,_,O.finO (by simp only[zf5];exact bels_nW _ _),F,rfl,rfl,pm⟩
end
section
variable {b:List (List Nat)} {is:List Int} {ce:Ce} {n:Nat} {od:List Nat}
structure Ord (n:Nat) (od:List Nat):Prop where
 l:od.length=n
 nd:od.Nodup
 lt:∀x∈od,x<n
 all:∀x,x<n->x∈od
theorem zqm(h:od.Perm (List.range n)):Ord n od:=⟨by rw[h.length_eq,List.length_range],h.nodup_iff.mpr List.nodup_range,fun x hx=>List.mem_range.mp (h.mem_iff.mp hx),fun x hx=>h.mem_iff.mpr (List.mem_range.mpr hx)⟩
theorem Ord.f1(O:Ord n od){i:Nat}(hi:i<n):od.getD i 0<n:=by
 rw[List.getD_eq_getElem?_getD,List.getElem?_eq_getElem (by rw[O.l];exact hi)]
 exact O.lt _ (List.getElem_mem _)
theorem Ord.inj(O:Ord n od){i j:Nat}(hi:i<n)(hj:j<n)(e:od.getD i 0=od.getD j 0):i=j:=by
 rw[List.getD_eq_getElem?_getD,List.getElem?_eq_getElem (by rw[O.l];exact hi),List.getD_eq_getElem?_getD,List.getElem?_eq_getElem (by rw[O.l];exact hj)] at e
 exact zgl O.nd (by rw[O.l];exact hi) (by rw[O.l];exact hj) e
def gO(od:List Nat)(j:Nat):Nat:=od.idxOf j
theorem Ord.g1(O:Ord n od){j:Nat}(hj:j<n):gO od j<n:=by
 have:=List.idxOf_lt_length_of_mem (O.all j hj)
 rwa [O.l] at this
theorem Ord.fg(O:Ord n od){j:Nat}(hj:j<n):od.getD (gO od j) 0=j:=by
 have h:=List.idxOf_lt_length_of_mem (O.all j hj)
 rw[List.getD_eq_getElem?_getD,show gO od j=od.idxOf j from rfl,List.getElem?_eq_getElem h]
 exact List.getElem_idxOf h
theorem Ord.gf(O:Ord n od){i:Nat}(hi:i<n):gO od (od.getD i 0)=i:=O.inj (O.g1 (O.f1 hi)) hi (O.fg (O.f1 hi))
theorem zkK(l:List (List Nat))(p q:Nat)(v:List Nat):(l.set p v).getD q []=if p=q/\p<l.length then v else l.getD q []:=by
 rw[List.getD_eq_getElem?_getD,List.getD_eq_getElem?_getD,List.getElem?_set]
 by_cases h:p=q
 ·subst h
  by_cases h2:p<l.length
  ·simp[h2]
  ·simp[h2]
 ·simp[h]
theorem zqn(fu:Nat)(B:Brd b)(hn:b.length=n)(O:Ord n od):∃b',d__law_named_board fu [wB b,wL od] ce=some (.ok (wB b') ce)/\b'.length=n/\∀i,i<n->b'.getD (od.getD i 0) []=zbV ((b.getD i []).map fun y=>od.getD y 0):=by
 have hz:=zeL
 have z0:0<=PySem.sizeLine:=by omega
 have z1:1<=PySem.sizeLine:=by decide
 have h36:=B.h36
 suffices hs:∃w c,d__law_named_board fu [wB b,wL od] ce=some (.ok w c)/\∃b',w=wB b'/\c=ce/\b'.length=n/\∀i,i<n->b'.getD (od.getD i 0) []=zbV ((b.getD i []).map fun y=>od.getD y 0) by
  obtain⟨w,c,e,b',rfl,rfl,h⟩:=hs
  exact⟨b',e,h⟩
 unfold d__law_named_board
 refine zdY [some (wB b),some (wL od),none,none] rfl ?_
 have e0:=zkd (k:=0) (n:=b.length) (ra:=zae (zbU zan) zan) (b:=dBi zcv (zae (zag 0) zan)) (sl:=[some (wB b),some (wL od),none,none]) (ce:=ce) (c1:=ce) (c2:=ce) (xs:=[.tup []]) (zac (zbd zaj z0) zaj) z1 (zbe (ws:=[wB b]) (zac (zad rfl) zaj) zci) (by simp only[List.length_cons,List.length_nil];omega) (by omega)
 rw[zf1] at e0
 have er:List.replicate b.length (W.tup [])=(List.replicate n ([]:List Nat)).map wT:=by rw[hn];simp[wT]
 rw[er] at e0
 refine zar e0 ?_
 refine zam (by repeat (first|exact SetAt.zero|apply SetAt.succ)) ?_
 have O0:=(Own.start ce).alloc (C.lst ((List.replicate n ([]:List Nat)).map wT))
 generalize hk:ce.length=k2 at O0 ⊢
 generalize ce++[C.lst ((List.replicate n ([]:List Nat)).map wT)]=c0 at O0 ⊢
 refine za7 (zs:=List.range b.length) (en:=nW) (c1:=c0) (zeQ (zac (zbe (ws:=[wB b]) (zac (zad rfl) zaj) zci) zaj) (by omega))
  (fun d sl c=>∃(R:List (List Nat)) (x3:Option W),sl=[some (wB b),some (wL od),some (.cel k2),x3]/\Own ce c [(k2,C.lst (R.map wT))]/\R.length=n/\∀i∈d,R.getD (od.getD i 0) []=zbV ((b.getD i []).map fun y=>od.getD y 0))
  ⟨_,_,rfl,O0,by simp,by simp⟩ ?_ ?_
 ·rintro d p r sl c e hp ⟨R,x3,rfl,Oc,lR,hR⟩
  have hp:=List.mem_range.mp hp
  have hpn:p<n:=by omega
  have hf:=O.f1 hpn
  have ib:=zhT (ce:=c) (b:=b) hp
  have io:=zdO (ce:=c) (l:=od) (p:=p) (by rw[O.l];exact hpn)
  have hrow:(b.getD p []).length<=36:=B.row p
  have e1:=zrM (zs:=b.getD p []) (en:=nW) (f:=fun y=>od.getD y 0) (js:=[1]) (di:=dIT (zaI ixW (zag 0) (zag 3))) (e:=zaI ixW (zag 1) (zag 0)) (sl:=[some (wB b),some (wL od),some (.cel k2),some (nW p)]) (ce:=c) (c1:=c) (zer (zaq (zad rfl) (zad rfl) ib)).is (by omega) (fun y hy=>zaq (zad rfl) (zad rfl) (zdO (by rw[O.l];have:=B.bd.get hy;omega)))
  have e2:za3 zbX [wL ((b.getD p []).map fun y=>od.getD y 0)] c=some (.ok (wL (zbV ((b.getD p []).map fun y=>od.getD y 0))) c):=(zlo (by rw[List.length_map];omega)).trans (zeq (by rw[List.length_map,zb0,List.length_map];omega))
  have e3:zbi [wL (zbV ((b.getD p []).map fun y=>od.getD y 0))] c=some (.ok (wT (zbV ((b.getD p []).map fun y=>od.getD y 0))) c):=zdh (.fr _) (by rw[List.length_map,zb0,List.length_map];omega)
  unfold zbP
  refine zam (by repeat (first|exact SetAt.zero|apply SetAt.succ)) ?_
  refine zd5 (w:=wT (zbV ((b.getD p []).map fun y=>od.getD y 0))) (k:=k2) (ij:=(od.getD p 0:Nat)) (j:=od.getD p 0) (zbe (zac (zbe (zac e1 zaj) e2) zaj) e3) (zad rfl) (zaq (zad rfl) (zad rfl) io) Oc.g0 (zdD (by rw[List.length_map,lR];exact hf)) ?_
  refine⟨R.set (od.getD p 0) (zbV ((b.getD p []).map fun y=>od.getD y 0)),_,rfl,by rw[List.map_set];exact Oc.set0 _,by rw[List.length_set];exact lR,fun i hi=>?_⟩
  have hin:i<n:=by
   have:i∈List.range b.length:=by
    rw[<- e]
    rcases List.mem_append.mp hi with hi|hi
    ·exact List.mem_append_left _ hi
    ·rw[List.mem_singleton] at hi;subst hi;simp
   have:=List.mem_range.mp this
   omega
  rw[zkK,lR]
  by_cases h:i=p
  ·subst h;rw[if_pos ⟨rfl,hf⟩]
  ·rw[if_neg (fun z=>h (O.inj hin hpn z.1.symm))]
   rcases List.mem_append.mp hi with hi|hi
   ·exact hR i hi
   ·rw[List.mem_singleton] at hi;exact absurd hi h
 ·rintro sl c ⟨R,x3,rfl,Oc,lR,hR⟩
  refine zas (w:=wB R) (ce':=c) (zbe (ws:=[.cel k2]) (zac (zad rfl) zaj) (zdh (.cl Oc.g0) (by rw[List.length_map];omega))) ?_
  subst hk
  exact⟨_,_,Oc.finC (zmr _ _),R,rfl,rfl,lR,fun i hi=>hR i (List.mem_range.mpr (by omega))⟩
theorem zqo(fu:Nat)(hn:is.length=n)(n36:n<=36)(O:Ord n od)(t:Bool):∃is',d__law_named_stand fu [wS is,wL od,.bl t] ce=some (.ok (wS is') ce)/\is'.length=n/\∀i,i<n->is'.getD (od.getD i 0) 0=turn t (is.getD i 0):=by
 have hz:=zeL
 have z1:1<=PySem.sizeLine:=by decide
 suffices hs:∃w c,d__law_named_stand fu [wS is,wL od,.bl t] ce=some (.ok w c)/\∃is',w=wS is'/\c=ce/\is'.length=n/\∀i,i<n->is'.getD (od.getD i 0) 0=turn t (is.getD i 0) by
  obtain⟨w,c,e,b',rfl,rfl,h⟩:=hs
  exact⟨b',e,h⟩
 unfold d__law_named_stand
 refine zdY [some (wS is),some (wL od),some (.bl t),none,none] rfl ?_
 have ls:=zhe (ce:=ce) (is:=is)
 have e0:=zkd (k:=0) (n:=is.length) (ra:=zae (dC (.int 0)) zan) (b:=dBi zcv (zae (zag 0) zan)) (sl:=[some (wS is),some (wL od),some (.bl t),none,none]) (ce:=ce) (c1:=ce) (c2:=ce) (xs:=[.int 0]) (zac zaN zaj) z1 (zbe (ws:=[wS is]) (zac (zad rfl) zaj) ls) (by simp only[List.length_cons,List.length_nil];omega) (by omega)
 rw[zf1] at e0
 have er:List.replicate is.length (W.int 0)=(List.replicate n (0:Int)).map W.int:=by rw[hn];simp
 rw[er] at e0
 refine zar e0 ?_
 refine zam (by repeat (first|exact SetAt.zero|apply SetAt.succ)) ?_
 have O0:=(Own.start ce).alloc (C.lst ((List.replicate n (0:Int)).map W.int))
 generalize hk:ce.length=k2 at O0 ⊢
 generalize ce++[C.lst ((List.replicate n (0:Int)).map W.int)]=c0 at O0 ⊢
 refine za7 (zs:=List.range is.length) (en:=nW) (c1:=c0) (zeQ (zac (zbe (ws:=[wS is]) (zac (zad rfl) zaj) zhe) zaj) (by omega))
  (fun d sl c=>∃(R:List Int) (x3:Option W),sl=[some (wS is),some (wL od),some (.bl t),some (.cel k2),x3]/\Own ce c [(k2,C.lst (R.map W.int))]/\R.length=n/\∀i∈d,R.getD (od.getD i 0) 0=turn t (is.getD i 0))
  ⟨_,_,rfl,O0,by simp,by simp⟩ ?_ ?_
 ·rintro d p r sl c e hp ⟨R,x3,rfl,Oc,lR,hR⟩
  have hp:=List.mem_range.mp hp
  have hpn:p<n:=by omega
  have hf:=O.f1 hpn
  have hdn:∀i∈d,i<n:=fun i hi=>by
   have:i∈List.range is.length:=by rw[<- e];exact List.mem_append_left _ hi
   have:=List.mem_range.mp this
   omega
  have fin:∀(R':List Int) (v:Int),R'=R.set (od.getD p 0) v->v=turn t (is.getD p 0)->∀i∈d++[p],R'.getD (od.getD i 0) 0=turn t (is.getD i 0):=fun R' v hR' hv i hi=>by
   rw[hR',zbz,lR]
   rcases List.mem_append.mp hi with hi|hi
   ·by_cases h:i=p
    ·subst h;rw[if_pos ⟨rfl,hf⟩];exact hv
    ·rw[if_neg (fun z=>h (O.inj (hdn i hi) hpn z.1.symm))];exact hR i hi
   ·rw[List.mem_singleton] at hi;subst hi;rw[if_pos ⟨rfl,hf⟩];exact hv
  have js:=zbZ (ce:=c) (is:=is) (p:=p) hp
  have io:=zdO (ce:=c) (l:=od) (p:=p) (by rw[O.l];exact hpn)
  unfold zbQ
  refine zam (by repeat (first|exact SetAt.zero|apply SetAt.succ)) ?_
  refine zhY (w:=.int (is.getD p 0)) (k:=k2) (ij:=(od.getD p 0:Nat)) (j:=od.getD p 0) (zaq (zad rfl) (zad rfl) js) (zad rfl) (zaq (zad rfl) (zad rfl) io) Oc.g0 (zdD (by rw[List.length_map,lR];exact hf)) ?_
  have O2:=Oc.set0 (C.lst ((R.map W.int).set (od.getD p 0) (.int (is.getD p 0))))
  have es:(R.map W.int).set (od.getD p 0) (.int (is.getD p 0))=(R.set (od.getD p 0) (is.getD p 0)).map W.int:=by rw[List.map_set]
  rw[es] at O2 ⊢
  generalize c.set k2 (C.lst ((R.set (od.getD p 0) (is.getD p 0)).map W.int))=c2 at O2 ⊢
  have js2:=zbZ (ce:=c2) (is:=is) (p:=p) hp
  have io2:=zdO (ce:=c2) (l:=od) (p:=p) (by rw[O.l];exact hpn)
  refine zb7 (p:=t&&!decide (is.getD p 0=0)) (ce':=c2) (zep (zcO (zad rfl)) (fun _=>zcO (zaK (zaq (zad rfl) (zad rfl) js2) zaN (zfF rfl rfl)))) (fun q=>?_) (fun q=>?_)
  ·simp only[Bool.and_eq_true,Bool.not_eq_true',decide_eq_false_iff_not] at q
   refine zd5 (w:=.int (3-is.getD p 0)) (k:=k2) (ij:=(od.getD p 0:Nat)) (j:=od.getD p 0) (zaK zaN (zaq (zad rfl) (zad rfl) js2) rfl) (zad rfl) (zaq (zad rfl) (zad rfl) io2) O2.g0 (zdD (by rw[List.length_map,List.length_set,lR];exact hf)) ?_
   refine⟨R.set (od.getD p 0) (3-is.getD p 0),_,rfl,?_,by rw[List.length_set];exact lR,fin _ (3-is.getD p 0) rfl ?_⟩
   ·have:=O2.set0 (C.lst (((R.set (od.getD p 0) (is.getD p 0)).map W.int).set (od.getD p 0) (.int (3-is.getD p 0))))
    rw[<- List.map_set,List.set_set] at this
    rw[<- List.map_set,List.set_set]
    exact this
   ·unfold turn;rw[if_pos q]
  ·refine zbp ⟨R.set (od.getD p 0) (is.getD p 0),_,rfl,O2,by rw[List.length_set];exact lR,fin _ (is.getD p 0) rfl ?_⟩
   unfold turn
   rw[if_neg (fun z=>by rw[z.1,decide_eq_false z.2] at q;cases q)]
 ·rintro sl c ⟨R,x3,rfl,Oc,lR,hR⟩
  refine zas (w:=wS R) (ce':=c) (zbe (ws:=[.cel k2]) (zac (zad rfl) zaj) (zlq Oc.g0 (by omega))) ?_
  subst hk
  exact⟨_,_,Oc.finC (by simp only[Bel];exact belInts _ _),R,rfl,rfl,lR,fun i hi=>hR i (List.mem_range.mpr (by omega))⟩
end
section
variable {b b':List (List Nat)} {is:List Int} {ce:Ce} {n:Nat} {od:List Nat}
theorem zmN(hb:Bd b)(lb:b.length=n)(lb':b'.length=n)(O:Ord n od)(h:∀i,i<n->b'.getD (od.getD i 0) []=zbV ((b.getD i []).map fun y=>od.getD y 0)):Iso n (fun i=>od.getD i 0) (gO od) b b':=by
 refine⟨lb,lb',fun i hi=>O.f1 hi,fun i hi=>O.g1 hi,fun i hi=>O.gf hi,fun i hi=>O.fg hi,fun i j hi hj=>?_⟩
 show od.getD j 0∈b'.getD (od.getD i 0) []↔j∈b.getD i []
 rw[h i hi,zdg,List.mem_map]
 constructor
 ·rintro⟨y,hy,e⟩
  have hyn:y<n:=by have:=hb.get hy;rwa [lb] at this
  rw[<- O.inj hyn hj e]
  exact hy
 ·exact fun hj'=>⟨j,hj',rfl⟩
theorem zqp(B:Brd b)(lb:b.length=n)(lb':b'.length=n)(O:Ord n od)(h:∀i,i<n->b'.getD (od.getD i 0) []=zbV ((b.getD i []).map fun y=>od.getD y 0)):Brd b':=by
 have I:=zmN B.bd lb lb' O h
 have hg:∀j,j<n->b'.getD j []=zbV ((b.getD (gO od j) []).map fun y=>od.getD y 0):=fun j hj=>by
  have:=h (gO od j) (O.g1 hj)
  rwa [O.fg hj] at this
 have far:∀j,¬j<n->b'.getD j []=[]:=fun j hj=>by rw[List.getD_eq_getElem?_getD,List.getElem?_eq_none (by omega)];rfl
 have mem:∀j x,x∈b'.getD j []->j<n/\x<n:=fun j x hx=>by
  by_cases hj:j<n
  ·rw[hg j hj,zdg,List.mem_map] at hx
   obtain⟨y,hy,rfl⟩:=hx
   have hyn:y<n:=by have:=B.bd.get hy;rwa [lb] at this
   exact⟨hj,O.f1 hyn⟩
  ·rw[far j hj] at hx;cases hx
 refine⟨fun r hr x hx=>?_,fun i j hj=>?_,by rw[lb',<- lb];exact B.h36,by rw[lb',<- lb];exact B.pos,fun i=>?_,fun i=>?_⟩
 ·obtain⟨j,hj,e⟩:=List.getElem_of_mem hr
  have:x∈b'.getD j []:=by rw[List.getD_eq_getElem?_getD,List.getElem?_eq_getElem hj,e];exact hx
  rw[lb']
  exact(mem j x this).2
 ·obtain⟨hi,hjn⟩:=mem i j hj
  rw[<- I.fg i hi,<- I.fg j hjn] at hj ⊢
  exact(I.adj _ _ (I.g1 j hjn) (I.g1 i hi)).mpr (B.sym _ _ ((I.adj _ _ (I.g1 i hi) (I.g1 j hjn)).mp hj))
 ·by_cases hi:i<n
  ·rw[hg i hi,zb0,List.length_map];exact B.row _
  ·rw[far i hi];simp
 ·by_cases hi:i<n
  ·rw[hg i hi,zgN]
  ·rw[far i hi];exact List.length_eq_zero_iff.mp (by rw[zb0];rfl)
def wds(b:List (List Nat))(is:List Int)(q:Nat):List PySem.Str:=([1,2,3,4]:List Nat).map fun m=>wd (cv b (3-is.getD q 0) q m 10 true [] is 0)
theorem zie(fu:Nat)(hfu:200<=fu)(B:Brd b)(h16:b.length<=16)(P:PosA b is 1){q:Nat}(hq:q<b.length)(hs:is.getD q 0≠0):d__law_words fu [wB b,wS is,nW q] ce=some (.ok (.lst ((wds b is q).map W.str)) ce):=by
 have hz:=zeL
 have ho:3-is.getD q 0=1\/3-is.getD q 0=2:=by have:=P.v q hq;omega
 have Po:=P.of1 ho
 have jq:=zbZ (ce:=ce) (is:=is) (p:=q) (by rw[P.hl];exact hq)
 unfold d__law_words
 refine zb8 [some (wB b),some (wS is),some (nW q)] rfl ?_
 have hr:zqt [.int 1,.int 5]=some (.rng 1 4):=by
  simp only[zqt]
  rw[if_pos (by omega)]
  rfl
 have hsrc:SrcFix (zqu (zae (dC (.int 1)) (zae (dC (.int 5)) zan))) [some (wB b),some (wS is),some (nW q)] ce ce (([1,2,3,4]:List Nat).map nW):=⟨.rng 1 4,by
  have e:zae (dC (.int 1)) (zae (dC (.int 5)) zan) [some (wB b),some (wS is),some (nW q)] ce=some (.ok [.int 1,.int 5] ce):=zac zaN (zac zaN zaj)
  simp only[zqu,bnd,e,look,hr,Option.map_some],rfl,fun _=>trivial⟩
 have hl:=zqx (zs:=([1,2,3,4]:List Nat)) (en:=nW) (g:=fun m=>W.str (wd (cv b (3-is.getD q 0) q m 10 true [] is 0))) (js:=[0,1,2]) (e:=ziF (zaI ixW (zay 5 (d_chase fu) (zae (zag 1) (zae (zag 2) (zae (dOp zkL (dC (.int 3)) (zaI ixW (zag 2) (zag 3))) (zae (zag 3) (zae (zag 0) zan)))))) (dC (.int 0)))) hsrc.is (by show 4<=PySem.sizeLine;decide) (fun m hm=>by
  have hm':1<=m/\m<=5:=by
   simp only[List.mem_cons,List.not_mem_nil,or_false] at hm
   omega
  have e1:=zlN (most:=m) fu hfu B h16 hq Po hm'.1 hm'.2 ce
  have e2:=zrT (c:=ce) (cha b (3-is.getD q 0) q m 10 true [] is [])
  rw[zhr] at e2
  exact zhZ (zaq (zav (ws:=[wB b,wS is,.int (3-is.getD q 0),nW q,nW m]) (zac (zad rfl) (zac (zad rfl) (zac (zaK zaN (zaq (zad rfl) (zad rfl) jq) rfl) (zac (zad rfl) (zac (zad rfl) zaj))))) rfl e1) zaN e2))
 have ew:([1,2,3,4]:List Nat).map (fun m=>W.str (wd (cv b (3-is.getD q 0) q m 10 true [] is 0)))=(wds b is q).map W.str:=rfl
 rw[ew] at hl
 refine zas hl (zaO ?_)
 simp only[Bel]
 exact bels_map _ (fun x=>by simp only[Bel]) _
theorem zmO{w:W}(hd:drf ce w=w)(hc:cln 8 w=true):eqW true ce w w=some (.bl false):=by
 simp only[eqW,hd,hc,Bool.and_self,if_true,zhE 8 hc,Bool.not_true]
theorem zlV(l:List PySem.Str)(m:Nat):(l.map W.str).all (cln m)=true:=by
 rw[List.all_eq_true]
 intro w hw
 obtain⟨x,_,rfl⟩:=List.mem_map.mp hw
 cases m<;>rfl
theorem cln_wB(b:List (List Nat))(n:Nat):cln (n+2) (wB b)=true:=by
 show(b.map wT).all (cln (n+1))=true
 rw[List.all_eq_true]
 intro w hw
 obtain⟨r,_,rfl⟩:=List.mem_map.mp hw
 show(r.map nW).all (cln n)=true
 rw[zjV];exact zcN _ _
theorem zmP(ng t:Bool):inW ng ce (.str (wd t)) (.tup [.str "free",.str "caught"])=some (.bl (!ng)):=by
 cases t<;>cases ng<;>rfl
end
theorem main(ns:List Int)(_h:ns.length<=63):∃ce',d_law FU [.lst (ns.map W.int)] []=some (.ok (.bl true) ce'):=by
 have hz:=zeL
 have hfu:200<=FU:=by decide
 have z2:2<=PySem.sizeLine:=by decide
 obtain⟨v0,c0⟩:=zfZ (ce:=[]) FU (ns:=ns) (k:=0) (by omega)
 obtain⟨v1,c1⟩:=zfZ (ce:=[]) FU (ns:=ns) (k:=1) (by omega)
 obtain⟨n,ls,eb,n4,n16,L⟩:=zlR (ce:=[]) FU v0 (most:=11) (by omega) (by omega)
 have B:=zn0 L (by omega) (by omega)
 have bl:(zh4 n ls).length=n:=by simp[zh4]
 generalize zh4 n ls=b at eb B bl
 obtain⟨is,es,P⟩:=zkF (ce:=[]) FU hfu B (ns:=ns) (at':=2) (by omega)
 obtain⟨w,et,hw⟩:=ziT (ce:=[]) FU hfu B P.hl v1
 suffices hs:∃w c,d_law FU [.lst (ns.map W.int)] []=some (.ok w c)/\w=.bl true by
  obtain⟨w,c,e,rfl⟩:=hs
  exact⟨c,e⟩
 have hsn:(.lst (ns.map W.int):W)=sW ns:=rfl
 unfold d_law
 refine zdY [some (sW ns),none,none,none,none,none,none,none,none,none,none,none] rfl ?_
 have c0':d__law_cell_at FU [sW ns,.int 0] []=some (.ok (.int v0) []):=c0
 have c1':d__law_cell_at FU [sW ns,.int 1] []=some (.ok (.int v1) []):=c1
 have eb':d__law_board FU [.int v0,.int 11] []=some (.ok (wB b) []):=eb
 have es':d__law_stand FU [sW ns,.int 2,wB b] []=some (.ok (wS is) []):=es
 refine zar (w:=wB b) (ce':=[]) (zav (ws:=[.int v0,.int 11]) (zac (zav (ws:=[sW ns,.int 0]) (zac (zad rfl) (zac zaN zaj)) rfl c0') (zac zaN zaj)) rfl eb') ?_
 refine zam (by repeat (first|exact SetAt.zero|apply SetAt.succ)) ?_
 refine zar (w:=wS is) (ce':=[]) (zav (ws:=[sW ns,.int 2,wB b]) (zac (zad rfl) (zac zaN (zac (zad rfl) zaj))) rfl es') ?_
 refine zam (by repeat (first|exact SetAt.zero|apply SetAt.succ)) ?_
 refine zar (w:=w) (ce':=[]) (zav (ws:=[wB b,wS is,.int v1]) (zac (zad rfl) (zac (zad rfl) (zac (zav (ws:=[sW ns,.int 1]) (zac (zad rfl) (zac zaN zaj)) rfl c1') zaj))) rfl et) ?_
 refine zam (by repeat (first|exact SetAt.zero|apply SetAt.succ)) ?_
 rcases hw with rfl|⟨q,rfl,hq,hq0⟩
 ·refine zbg (p:=true) (ce':=[]) (zcO (zgB (zad rfl) rfl)) (fun _=>?_) (fun q=>by cases q)
  exact zbN (zas (w:=.bl true) (ce':=[]) zaN ⟨_,_,zaO (by simp only[Bel]),rfl⟩)
 refine zbg (p:=false) (ce':=[]) (zcO (zgB (zad rfl) rfl)) (fun q=>by cases q) (fun _=>zaY ?_)
 refine zar (w:=.int v1) (ce':=[]) (zav (ws:=[sW ns,.int 1]) (zac (zad rfl) (zac zaN zaj)) rfl c1') ?_
 refine zam (by repeat (first|exact SetAt.zero|apply SetAt.succ)) ?_
 obtain⟨od,eo,po⟩:=zkJ (ce:=[]) (n:=b.length) FU v1 (by omega)
 have O:=zqm po
 refine zar (w:=wL od) (ce':=[]) (zav (ws:=[.int v1,nW b.length]) (zac (zad rfl) (zac (zbe (ws:=[wB b]) (zac (zad rfl) zaj) zci) zaj)) rfl eo) ?_
 refine zam (by repeat (first|exact SetAt.zero|apply SetAt.succ)) ?_
 obtain⟨u,hu,eu⟩:=zlP (ce:=[]) FU v1 (k:=7) (by omega) (m:=2) (by omega)
 refine zar (w:=.bl (decide ((u:Int)=1))) (ce':=[]) (zaK (eu _ _ _ (zad rfl) zaN _ zaN) zaN (zcj rfl rfl)) ?_
 refine zam (by repeat (first|exact SetAt.zero|apply SetAt.succ)) ?_
 generalize decide ((u:Int)=1)=t
 refine zar (w:=.tup [wB b,wS is]) (ce':=[]) (zbd (ws:=[wB b,wS is]) (zac (zad rfl) (zac (zad rfl) zaj)) z2) ?_
 refine zam (by repeat (first|exact SetAt.zero|apply SetAt.succ)) ?_
 have e8:=zie (ce:=[]) FU hfu B (by omega) P hq hq0
 refine zar (w:=.lst ((wds b is q).map W.str)) (ce':=[]) (zav (ws:=[wB b,wS is,nW q]) (zac (zad rfl) (zac (zad rfl) (zac (zad rfl) zaj))) rfl e8) ?_
 refine zam (by repeat (first|exact SetAt.zero|apply SetAt.succ)) ?_
 obtain⟨b',e9,lb',hb'⟩:=zqn (ce:=[]) FU B rfl O
 have I:=zmN B.bd rfl lb' O hb'
 have B':=zqp B rfl lb' O hb'
 refine zar (w:=wB b') (ce':=[]) (zav (ws:=[wB b,wL od]) (zac (zad rfl) (zac (zad rfl) zaj)) rfl e9) ?_
 refine zam (by repeat (first|exact SetAt.zero|apply SetAt.succ)) ?_
 obtain⟨is',e10,ls',hs'⟩:=zqo (ce:=[]) FU P.hl (by omega) O t
 have V:Va b.length is:=Va.of P rfl (.inl rfl)
 have R:Rn t b.length (fun i=>od.getD i 0) is is':=⟨V,ls',hs'⟩
 have er:=R.uniq I
 have hq2:od.getD q 0<b'.length:=by rw[lb'];exact O.f1 hq
 have ho:3-is.getD q 0=1\/3-is.getD q 0=2:=by have:=P.v q hq;omega
 have hoq:is.getD q 0=1\/is.getD q 0=2:=by omega
 have P':PosA b' is' 1:=by
  have:=I.posM B'.bd B'.sym R P (.inl rfl)
  exact this.to1 (zkI (.inl rfl))
 have eq':is'.getD (od.getD q 0) 0=turn t (is.getD q 0):=hs' q hq
 have hq0':is'.getD (od.getD q 0) 0≠0:=by rw[eq'];have:=zkI (t:=t) hoq;omega
 refine zar (w:=wS is') (ce':=[]) (zav (ws:=[wS is,wL od,.bl t]) (zac (zad rfl) (zac (zad rfl) (zac (zad rfl) zaj))) rfl e10) ?_
 refine zam (by repeat (first|exact SetAt.zero|apply SetAt.succ)) ?_
 have e11:=zie (ce:=[]) FU hfu B' (by omega) P' hq2 hq0'
 have same:wds b' is' (od.getD q 0)=wds b is q:=by
  unfold wds
  apply List.map_congr_left
  intro m _
  have h3:3-is'.getD (od.getD q 0) 0=turn t (3-is.getD q 0):=by rw[eq'];exact(zgR hoq).symm
  have:=zid (t:=t) (o:=3-is.getD q 0) (most:=m) I B'.bd B'.sym ho hq 10 true [] is 0 (fun x hx=>by simp at hx;subst hx;exact V) (P.of1 ho)
  rw[h3,er]
  exact congrArg wd this
 rw[same] at e11
 have io:=zdO (ce:=[]) (l:=od) (p:=q) (by rw[O.l];exact hq)
 have q1:eqW true [] (.lst ((wds b is q).map W.str)) (.lst ((wds b is q).map W.str))=some (.bl false):=zmO rfl (zlV _ 7)
 have q2:eqW true [] (.tup [wB b,wS is]) (.tup [wB b,wS is])=some (.bl false):=zmO rfl (by
  simp only[cln,List.all_cons,List.all_nil,Bool.and_true,Bool.and_eq_true]
  exact⟨cln_wB b 5,zcN is 6⟩)
 refine zbg (p:=false||false) (ce':=[]) (zhS (zcO (zaq (zad rfl) (zav (ws:=[wB b',wS is',nW (od.getD q 0)]) (zac (zad rfl) (zac (zad rfl) (zac (zaq (zad rfl) (zad rfl) io) zaj))) rfl e11) q1)) (fun _=>zcO (zaq (zad rfl) (zbd (ws:=[wB b,wS is]) (zac (zad rfl) (zac (zad rfl) zaj)) z2) q2))) (fun q=>by cases q) (fun _=>zaY ?_)
 have ix:∀(c:Ce) (k:Nat),k<4->ixW c (.lst ((wds b is q).map W.str)) (nW k)=some (.str (wd (cv b (3-is.getD q 0) q (k+1) 10 true [] is 0))):=fun c k hk=>by
  rw[zfA (xs:=(wds b is q).map W.str) rfl]
  have:k=0\/k=1\/k=2\/k=3:=by omega
  rcases this with rfl|rfl|rfl|rfl<;>rfl
 refine za7 (zs:=List.range 3) (en:=nW) (c1:=[]) (zeQ (n:=3) (zac zaN zaj) (by omega))
  (fun d sl c=>∃x11,sl=[some (sW ns),some (wB b),some (wS is),some (nW q),some (.int v1),some (wL od),some (.bl t),some (.tup [wB b,wS is]),some (.lst ((wds b is q).map W.str)),some (wB b'),some (wS is'),x11]/\c=[]) ⟨_,rfl,rfl⟩ ?_ ?_
 ·rintro d k r sl c e hk ⟨x11,rfl,rfl⟩
  have hk:=List.mem_range.mp hk
  have i1:=ix [] k (by omega)
  have i2:=ix [] (k+1) (by omega)
  have a1:zcl (nW k) (.int 1)=some (nW (k+1)):=zcz (i:=k) (j:=1) rfl rfl
  have mono:cv b (3-is.getD q 0) q (k+1) 10 true [] is 0=true->cv b (3-is.getD q 0) q (k+1+1) 10 true [] is 0=true:=zhs _ _ _ _ _
  generalize cv b (3-is.getD q 0) q (k+1) 10 true [] is 0=s1 at i1 mono
  generalize cv b (3-is.getD q 0) q (k+1+1) 10 true [] is 0=s2 at i2 mono
  have q3:=zmP (ce:=[]) true s1
  have q4:eqW false [] (.str (wd s1)) (.str "caught")=some (.bl s1):=(zn8 _ _).trans (by rw[zgP])
  have q5:eqW true [] (.str (wd s2)) (.str "caught")=some (.bl (!s2)):=by cases s2<;>rfl
  unfold zmB
  refine zam (by repeat (first|exact SetAt.zero|apply SetAt.succ)) ?_
  refine zb7 (p:=!true||(s1&&!s2)) (ce':=[]) (zhS (zcO (zaq (zaq (zad rfl) (zad rfl) i1) (zbd (ws:=[.str "free",.str "caught"]) (zac zaN (zac zaN zaj)) z2) q3)) (fun _=>zep (zcO (zaq (zaq (zad rfl) (zad rfl) i1) zaN q4)) (fun _=>zcO (zaq (zaq (zad rfl) (zaK (zad rfl) zaN a1) i2) zaN q5)))) (fun q=>?_) (fun _=>zbp ⟨_,rfl,rfl⟩)
  exfalso
  cases s1 with
  | false=>cases q
  | true=>rw[mono rfl] at q;cases q
 ·rintro sl c ⟨x11,rfl,rfl⟩
  have i3:=ix [] 3 (by omega)
  refine zas (w:=.bl (!false)) (ce':=[]) (zaq (zaq (zad rfl) zaN i3) (zbd (ws:=[.str "free",.str "caught"]) (zac zaN (zac zaN zaj)) z2) (zmP false _)) ?_
  exact⟨_,_,zaO (by simp only[Bel]),rfl⟩
end K39
namespace K39
open PySem PySem.Spec PyProof.Rows L2 VS
theorem fin_mk{w:World}{K:PySem.W.Frag}{mg:Str->Option Value}{l:PySem.W.OpenLaw}{fa:Addr}(z:∃A:Adr,Txt K mg A/\fa=A.f_law/\∀(s:Shared) (v:Value),BindsTo s A.d_law ⟨[v],[]⟩ [("_law_script",v)]) :
  ∃fd:FuncData,(∀(s:Shared) (u:Value),BindsTo s fd ⟨[u],[]⟩ [("_law_script",u)])/\∀base:Heap,K.In base->base.Ns mainGlobals mg->FnOk l.prog w K mg base CX0 21 fa fd ["_law_script"] (spLaw Gx (d_law FU) K):=by
 obtain⟨A,T,e,b⟩:=z
 subst e
 exact⟨A.d_law,b,fun base _ _=>znR T.nl (zp6 FU T)⟩
end K39
open PySem PySem.W PyProof.Rows
theorem PySem.W.Fast.te7048839242831849416 : True := trivial
theorem PySem.W.Fast.tw16411868891537734131 : True := trivial
theorem PySem.W.Fast.tw1267098877218986241 : True := trivial
theorem PySem.W.Fast.tw3500722861637677188 : True := trivial
theorem PySem.W.Fast.tw18270337998811237354 : True := trivial
theorem PySem.W.Fast.tw7494530442205537393 : True := trivial
theorem PySem.W.Fast.tw15716670173552525074 : True := trivial
theorem PySem.W.Fast.tw14358191718492900210 : True := trivial
theorem PySem.W.Fast.tw14040243527528530138 : True := trivial
theorem PySem.W.Fast.tw6176126868802626074 : True := trivial
theorem PySem.W.Fast.tw4198621376137773405 : True := trivial
set_option maxRecDepth 100000 in
set_option maxHeartbeats 0 in
theorem PySem.Challenge.cw_stonebreath_k39_whole_chases_exchanged_holds : PySem.Challenge.rw_stonebreath_k39_whole_chases_exchanged.Holds := by
 w_on;o_law;k_head;(case hw=>w_witness2)
 k_fill
 refine L2.walk_ofK (l:=PySem.Challenge.rw_stonebreath_k39_whole_chases_exchanged) (n:=63) (k:=21) (x := "_law_script") (CX:=L2.CX0) (sp:=VS.spLaw K39.Gx (K39.d_law K39.FU)) rfl (by decide) rfl ⟨rfl,by decide,by decide⟩ (fun w h Y=>PySem.W.kIn_of Y) ?F (VS.law_sp K39.main) (fun _ _ _ _ z=>z)
 case F =>
  intro w mg fa h KX G hmg
  refine' K39.fin_mk (K39.all_mk KX G hmg ?ac_Chase ?pg_Chase ?hd_Chase ?po_Chase ?sa_Chase ?mi_Chase ?kc_Chase ?na_Chase_hunter ?na_Chase_joined ?na_Chase_most ?na_Chase_runner ?na_Chase_stone ?a0 ?l0 ?c0 ?k0 ?a1 ?l1 ?c1 ?k1 ?a2 ?l2 ?c2 ?k2 ?a3 ?l3 ?c3 ?k3 ?a4 ?l4 ?c4 ?k4 ?a5 ?l5 ?c5 ?k5 ?a6 ?l6 ?c6 ?k6 ?a7 ?l7 ?c7 ?k7 ?a8 ?l8 ?c8 ?k8 ?a9 ?l9 ?c9 ?k9 ?a10 ?l10 ?c10 ?k10 ?a11 ?l11 ?c11 ?k11 ?a12 ?l12 ?c12 ?k12 ?a13 ?l13 ?c13 ?k13 ?a14 ?l14 ?c14 ?k14 ?a15 ?l15 ?c15 ?k15 ?a16 ?l16 ?c16 ?k16 ?a17 ?l17 ?c17 ?k17 ?a18 ?l18 ?c18 ?k18 ?a19 ?l19 ?c19 ?k19 ?a20 ?l20 ?c20 ?k20 ?a21 ?l21 ?c21 ?k21 ?a22 ?l22 ?c22 ?k22 ?a23 ?l23 ?c23 ?k23 ?a24 ?l24 ?c24 ?k24 ?a25 ?l25 ?c25 ?k25 ?a26 ?l26 ?c26 ?k26 ?a27 ?fn27 ?l27 ?c27 ?k27 ?a28 ?fn28 ?l28 ?c28 ?k28 ?a29 ?fn29 ?l29 ?c29 ?k29 ?a30 ?fn30 ?l30 ?c30 ?k30 ?a31 ?fn31 ?l31 ?c31 ?k31 ?a32 ?fn32 ?l32 ?c32 ?k32 ?q0 ?z_int ?z_len ?z_list ?z_range ?z_sorted ?z_tuple ?xt ?nl)
  (case ac_Chase=>k_is);(case pg_Chase=>k_is);(case hd_Chase=>k_is);(case po_Chase=>k_is);(case sa_Chase=>k_is);(case mi_Chase=>k_is);(case kc_Chase=>k_is);(case na_Chase_hunter=>k_is);(case na_Chase_joined=>k_is);(case na_Chase_most=>k_is);(case na_Chase_runner=>k_is);(case na_Chase_stone=>k_is);(case a0=>k_is);(case l0=>k_is);(case c0=>k_is);(case k0=>k_is);(case a1=>k_is);(case l1=>k_is);(case c1=>k_is);(case k1=>k_is);(case a2=>k_is);(case l2=>k_is);(case c2=>k_is);(case k2=>k_is);(case a3=>k_is);(case l3=>k_is);(case c3=>k_is);(case k3=>k_is);(case a4=>k_is);(case l4=>k_is);(case c4=>k_is);(case k4=>k_is);(case a5=>k_is);(case l5=>k_is);(case c5=>k_is);(case k5=>k_is);(case a6=>k_is);(case l6=>k_is);(case c6=>k_is);(case k6=>k_is);(case a7=>k_is);(case l7=>k_is);(case c7=>k_is);(case k7=>k_is);(case a8=>k_is);(case l8=>k_is);(case c8=>k_is);(case k8=>k_is);(case a9=>k_is);(case l9=>k_is);(case c9=>k_is);(case k9=>k_is);(case a10=>k_is);(case l10=>k_is);(case c10=>k_is);(case k10=>k_is);(case a11=>k_is);(case l11=>k_is);(case c11=>k_is);(case k11=>k_is);(case a12=>k_is);(case l12=>k_is);(case c12=>k_is);(case k12=>k_is);(case a13=>k_is);(case l13=>k_is);(case c13=>k_is);(case k13=>k_is);(case a14=>k_is);(case l14=>k_is);(case c14=>k_is);(case k14=>k_is);(case a15=>k_is);(case l15=>k_is);(case c15=>k_is);(case k15=>k_is);(case a16=>k_is);(case l16=>k_is);(case c16=>k_is);(case k16=>k_is);(case a17=>k_is);(case l17=>k_is);(case c17=>k_is);(case k17=>k_is);(case a18=>k_is);(case l18=>k_is);(case c18=>k_is);(case k18=>k_is);(case a19=>k_is);(case l19=>k_is);(case c19=>k_is);(case k19=>k_is);(case a20=>k_is);(case l20=>k_is);(case c20=>k_is);(case k20=>k_is);(case a21=>k_is);(case l21=>k_is);(case c21=>k_is);(case k21=>k_is);(case a22=>k_is);(case l22=>k_is);(case c22=>k_is);(case k22=>k_is);(case a23=>k_is);(case l23=>k_is);(case c23=>k_is);(case k23=>k_is);(case a24=>k_is);(case l24=>k_is);(case c24=>k_is);(case k24=>k_is);(case a25=>k_is);(case l25=>k_is);(case c25=>k_is);(case k25=>k_is);(case a26=>k_is);(case l26=>k_is);(case c26=>k_is);(case k26=>k_is);(case a27=>k_is);(case fn27=>k_is);(case l27=>k_is);(case c27=>k_is);(case k27=>k_is);(case a28=>k_is);(case fn28=>k_is);(case l28=>k_is);(case c28=>k_is);(case k28=>k_is);(case a29=>k_is);(case fn29=>k_is);(case l29=>k_is);(case c29=>k_is);(case k29=>k_is);(case a30=>k_is);(case fn30=>k_is);(case l30=>k_is);(case c30=>k_is);(case k30=>k_is);(case a31=>k_is);(case fn31=>k_is);(case l31=>k_is);(case c31=>k_is);(case k31=>k_is);(case a32=>k_is);(case fn32=>k_is);(case l32=>k_is);(case c32=>k_is);(case k32=>k_is);(case q0=>k_is);(case z_int=>k_is);(case z_len=>k_is);(case z_list=>k_is);(case z_range=>k_is);(case z_sorted=>k_is);(case z_tuple=>k_is);(case xt=>kernel_rfl);(case nl=>kernel_rfl)
