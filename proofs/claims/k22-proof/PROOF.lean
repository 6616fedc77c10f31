import PyProof.Rows.All
import Wide.All
import OpenK.AllK
import Wide.FinOn
import Lean
import PyProof.EqAt
import PyProof.EqKinds
import PyProof.TupleCall
import PyProof.NeKinds
import KE.KDictSum
import KE.KListLetter
import KE.KIsAll
import KE.KTryMore
import PySem.Challenge.RW_stonebreath_k22_games_that_do_not_begin
set_option Elab.async false
set_option linter.all false
set_option maxRecDepth 100000
noncomputable section
namespace L2
open PySem PySem.Spec PyProof.Rows
abbrev Key:=Sum Int Str
def zh2:Key->Value->Bool
 | .inl k,v=>Value.isInt k v
 | .inr x,v=>Value.isStrOf x v
def zsn(w:World):Key->Int
 | .inl k=>hashInt k
 | .inr x=>hashStr w x
theorem zaL:∀{k:Key} {v:Value},zh2 k v=true->(∃i t,k=Sum.inl i/\v=Value.int i t)\/(∃x t,k=Sum.inr x/\v=Value.str x t)
 | .inl i,v,h=>by
  obtain⟨t,e⟩:=Value.isInt_shape (k:=i) (v:=v) h
  exact .inl ⟨i,t,rfl,e⟩
 | .inr x,v,h=>by
  obtain⟨t,e⟩:=Value.isStrOf_shape (x:=x) (v:=v) h
  exact .inr ⟨x,t,rfl,e⟩
theorem ziM(i:Int)(t:Tok):zh2 (.inl i) (.int i t)=true:=by simp[zh2,Value.isInt]
theorem ziN(x:Str)(t:Tok):zh2 (.inr x) (.str x t)=true:=by simp[zh2,Value.isStrOf]
theorem zog(a b:Int):decide ((Sum.inl a:Key)=Sum.inl b)=(a==b):=by
 by_cases e:a=b
 ·subst e;simp
 ·have h:¬(Sum.inl a:Key)=Sum.inl b:=fun q=>e (Sum.inl.inj q)
  rw[decide_eq_false h]
  exact(beq_eq_false_iff_ne.mpr e).symm
theorem zoh(a b:Str):decide ((Sum.inr a:Key)=Sum.inr b)=decide (a=b):=by
 by_cases e:a=b
 ·subst e;simp
 ·have h:¬(Sum.inr a:Key)=Sum.inr b:=fun q=>e (Sum.inr.inj q)
  rw[decide_eq_false h,decide_eq_false e]
theorem zoi(a:Int)(b:Str):decide ((Sum.inl a:Key)=Sum.inr b)=false:=decide_eq_false (fun q=>nomatch q)
theorem zoj(a:Str)(b:Int):decide ((Sum.inr a:Key)=Sum.inl b)=false:=decide_eq_false (fun q=>nomatch q)
def zaI(prog:Program)(w:World):PySem.KeyKind prog w Key where
 is:=zh2
 hash:=zsn w
 inj:=fun v a b ha hb=>by
  rcases zaL ha with ⟨i,t,rfl,rfl⟩|⟨x,t,rfl,rfl⟩
  ·rcases zaL hb with ⟨j,u,rfl,e⟩|⟨y,u,rfl,e⟩
   ·injection e with e1 _;rw[e1]
   ·exact nomatch e
  ·rcases zaL hb with ⟨j,u,rfl,e⟩|⟨y,u,rfl,e⟩
   ·exact nomatch e
   ·injection e with e1 _;rw[e1]
 byValue:=fun k v h=>by
  rcases zaL h with ⟨i,t,rfl,rfl⟩|⟨x,t,rfl,rfl⟩<;>rfl
 pyHash:=fun hv h=>by
  rcases zaL hv with ⟨i,t,rfl,rfl⟩|⟨x,t,rfl,rfl⟩
  ·exact wpAny_pyHash_int h
  ·exact wpAny_pyHash_str h
 eqBool:=fun hu hv h=>by
  rcases zaL hu with ⟨i,t,rfl,rfl⟩|⟨x,t,rfl,rfl⟩
  ·rcases zaL hv with ⟨j,u,rfl,rfl⟩|⟨y,u,rfl,rfl⟩
   ·rw[zog] at h;exact wpAny_eqBool_int h
   ·rw[zoi] at h;exact SeqAt.EqAt.int_str i t y u _ _ _ _ h
  ·rcases zaL hv with ⟨j,u,rfl,rfl⟩|⟨y,u,rfl,rfl⟩
   ·rw[zoj] at h;exact SeqAt.EqAt.str_int x t j u _ _ _ _ h
   ·rw[zoh] at h;exact wpAny_eqBool_str h
 «strs»:=fun k x t v h=>by
  rcases zaL h with ⟨i,u,rfl,e⟩|⟨y,u,rfl,e⟩
  ·exact nomatch e
  ·injection e with e1 _
   subst e1
   cases v<;>rfl
theorem zgI(prog:Program)(w:World)(i:Int)(t:Tok):(zaI prog w).is (.inl i) (.int i t)=true:=ziM i t
theorem zgJ(prog:Program)(w:World)(x:Str)(t:Tok):(zaI prog w).is (.inr x) (.str x t)=true:=ziN x t
end L2
namespace L2
open PySem PySem.Spec PyProof.Rows
inductive V where
 | non|bl (b:Bool)|int (i:Int)|str (x:Str)|byt (b:Array UInt8)|flt (b:UInt64)|ref (a:Addr)|ty (n:String)
 deriving DecidableEq
def RelV:V->Value->Prop
 | .non,u=>u=Value.none
 | .bl b,u=>u=Value.bool b
 | .int i,u=>∃t,u=Value.int i t
 | .str x,u=>∃t,u=Value.str x t
 | .byt b,u=>∃t,u=Value.bytes b t
 | .flt b,u=>∃t,u=Value.float b t
 | .ref a,u=>u=Value.ref a
 | .ty n,u=>u=Value.type n
abbrev Vals:List V->List Value->Prop:=Paired RelV
theorem Vals.length{xs:List V}{us:List Value}(r:Vals xs us):xs.length=us.length:=Paired.length r
theorem Vals.get:∀{xs:List V} {us:List Value} {i:Nat} {x:V},Vals xs us->xs[i]?=some x->∃u,us[i]?=some u/\RelV x u
 | _,_,_,_,.nil,e=>by simp at e
 | _,_,0,_,.cons r _,e=>by simp at e;subst e;exact⟨_,rfl,r⟩
 | _,_,i+1,x,.cons _ t,e=>by
  obtain⟨u,h1,h2⟩:=Vals.get (i:=i) (x:=x) t (by simpa using e)
  exact⟨u,by simpa using h1,h2⟩
theorem Vals.set{x:V}{u:Value}(r:RelV x u):∀{xs:List V} {us:List Value} (i:Nat),Vals xs us->Vals (xs.set i x) (us.set i u)
 | _,_,_,.nil=>.nil
 | _,_,0,.cons _ t=>.cons r t
 | _,_,i+1,.cons q t=>.cons q (Vals.set r i t)
theorem Vals.append:∀{xs ys:List V} {us ws:List Value},Vals xs us->Vals ys ws->Vals (xs++ys) (us++ws)
 | _,_,_,_,.nil,s=>s
 | _,_,_,_,.cons r t,s=>.cons r (Vals.append t s)
theorem Vals.take:∀{xs:List V} {us:List Value} (n:Nat),Vals xs us->Vals (xs.take n) (us.take n)
 | _,_,0,_=>.nil
 | _,_,_+1,.nil=>.nil
 | _,_,n+1,.cons r t=>.cons r (Vals.take n t)
theorem Vals.drop:∀{xs:List V} {us:List Value} (n:Nat),Vals xs us->Vals (xs.drop n) (us.drop n)
 | _,_,0,r=>r
 | _,_,_+1,.nil=>.nil
 | _,_,n+1,.cons _ t=>Vals.drop n t
def RelO:Option V->Option Value->Prop
 | some v,some u=>RelV v u
 | none,none=>True
 | _,_=>False
def KV{κ:Type}:List (κ×V)->List (κ×Value)->Prop:=Paired fun(p:κ×V) (q:κ×Value)=>p.1=q.1/\RelV p.2 q.2
def kV:Key->V
 | .inl i=>.int i
 | .inr x=>.str x
inductive HO where
  | lst (xs:List V)
  | tup (xs:List V)
  | dK (kvs:List (Key×V))|dT (kvs:List (List Key×V))
  | set (S:Int->Bool) (n:Nat)
  | ins (C dx:Addr) (fs:List (Str×V))
  | own (x:Addr)
  | xd (fs:List (Str×V))
  | met (f x:Addr)
  | rng (lo hi:Int)
  | frz (o:Obj) (u:HO)
  | tbl (ps:Array Value)
  | ext (φ:Heap->Prop)
abbrev Hp:=Addr->Option HO
def upd(H:Hp)(a:Addr)(o:HO):Hp:=fun b=>if b=a then some o else H b
theorem zat{H:Hp}{a:Addr}{o:HO}:upd H a o a=some o:=by unfold upd;rw[if_pos rfl]
theorem zau{H:Hp}{a b:Addr}{o:HO}(h:b≠a):upd H a o b=H b:=by unfold upd;rw[if_neg h]
theorem zqr{H:Hp}{a b:Addr}{o u:HO}(h:H a=some o)(h':H b=some u)(d:o≠u):a≠b:=by
 intro e;subst e;rw[h] at h';exact d (Option.some.inj h')
theorem zaq{H:Hp}{a b:Addr}{o:HO}(h:H a=some o)(h':H b=none):a≠b:=by
 intro e;subst e;rw[h] at h';cases h'
def TupN(h:Heap)(a:Addr)(items:Array Value):Prop:=∃o,h.get? a=some o/\o.cls=.type "tuple" /\ (∃n,o.data=.seq items n)/\o.dict=none
theorem TupN.isTup{h:Heap}{a:Addr}{items:Array Value}(t:TupN h a items):PyProof.Rows.IsTup h a items:=by
 obtain⟨o,e,c,⟨n,d⟩,_⟩:=t
 exact⟨o,e,c,n,d⟩
theorem TupN.new(h:Heap)(items:Array Value):TupN (h.push { cls:=.type "tuple",data:=.seq items }) h.objs.size items:=⟨_,Heap.get?_push_size _ rfl,rfl,⟨_,rfl⟩,rfl⟩
section
variable (P:Program) (w:World)
def ObjOk(H:Hp)(h:Heap)(a:Addr):HO->Prop
 | .lst xs=>xs.length<=sizeLine/\∃(its:List Value) (n:Nat),Vals xs its/\h.get? a=some { cls:=.type "list",data:=.seq its.toArray n }
 | .tup xs=>xs.length<=sizeLine/\∃its:List Value,Vals xs its/\TupN h a its.toArray
 | .dK kvs=>kvs.length<=sizeLine/\(a==sysModules)=false/\∃vs,KV kvs vs/\h.DictOf (zaI P w) a vs
 | .dT kvs=>kvs.length<=sizeLine/\(a==sysModules)=false/\∃xs:List (List Key×Addr×Value),
   Paired (fun(p:List Key×V) (q:List Key×Addr×Value)=>p.1=q.1/\H q.2.1=some (.tup (p.1.map kV))/\RelV p.2 q.2.2) kvs xs /\
   ∃o es ep,h.get? a=some o/\o.ExactDict/\o.data=.dict es ep/\es.toList=xs.map (entryOfKey (tupleKind (zaI P w)))/\(xs.map (·.1)).Nodup
 | .set S n=>h.SetOf (intKind P w) a S n
 | .ins C dx fs=>H dx=some (.own a)/\fs.length<=1000/\dx≠a/\h.get? a=some (PySem.W.instObj C dx) /\
   ∃mA,h.Ns1 dx mA/\(∀f,RelO (fs.lookup f) (mA f))/\PySem.Within mA (fs.map (·.1))
 | .own _=>∃o,h.get? a=some o
 | .xd fs=>∃mA,h.Ns1 a mA/\∀f,RelO (fs.lookup f) (mA f)
 | .rng lo hi=>∃t u v,h.get? a=some { cls:=.type "range",data:=.fields #[.int lo t,.int hi u,.int 1 v] }
 | .frz o u=>h.get? a=some o/\ObjOk H h a u
 | .tbl ps=>h.get? a=some { cls:=.none,data:=.fields ps }
 | .met f x=>h.get? a=some (PySem.W.methodObj (.ref f) (.ref x))
 | .ext φ=>φ h/\(∃o,h.get? a=some o)/\∀h1 h2:Heap,φ h1->(∀o,h1.get? a=some o->h2.get? a=some o)->φ h2
def HOk(H:Hp)(h:Heap):Prop:=∀a o,H a=some o->ObjOk P w H h a o
end
section
variable {P:Program} {w:World} {H H':Hp} {h h':Heap} {a:Addr} {o:HO}
theorem ObjOk.lt(x:ObjOk P w H h a o):a<h.objs.size:=by
 cases o with
 | lst xs=>obtain⟨_,_,_,_,e⟩:=x;exact Heap.lt_size e
 | tup xs=>obtain⟨_,_,_,p⟩:=x;exact(TupN.isTup p).lt
 | dK kvs=>obtain⟨_,_,_,_,o,_,_,e,_⟩:=x;exact Heap.lt_size e
 | dT kvs=>obtain⟨_,_,_,_,o,_,_,e,_⟩:=x;exact Heap.lt_size e
 | set S n=>obtain⟨o,_,_,_,e,_⟩:=x;exact Heap.lt_size e
 | ins C dx fs=>obtain⟨_,_,_,e,_⟩:=x;exact Heap.lt_size e
 | own y=>obtain⟨_,e⟩:=x;exact Heap.lt_size e
 | xd fs=>obtain⟨_,⟨_,_,_,e,_⟩,_⟩:=x;exact Heap.lt_size e
 | rng lo hi=>obtain⟨_,_,_,e⟩:=x;exact Heap.lt_size e
 | frz ob u=>obtain⟨e,_⟩:=x;exact Heap.lt_size e
 | tbl ps=>exact Heap.lt_size (show h.get? a=some _ from x)
 | met f y=>exact Heap.lt_size (show h.get? a=some _ from x)
 | ext φ=>obtain⟨_,⟨_,e⟩,_⟩:=x;exact Heap.lt_size e
theorem Paired.mapP{α β:Type}{F G:α->β->Prop}:∀{l₁:List α} {l₂:List β},Paired F l₁ l₂->(∀a b,F a b->G a b)->Paired G l₁ l₂
 | _,_,.nil,_=>.nil
 | _,_,.cons r t,f=>.cons (f _ _ r) (Paired.mapP t f)
theorem ObjOk.stay(x:ObjOk P w H h a o)(k:∀b u,(b=a\/H b=some (.own a))->h.get? b=some u->h'.get? b=some u)(ho:∀b,H b=some (.own a)->H' b=some (.own a))(ht:∀b xs,H b=some (.tup xs)->H' b=some (.tup xs)):ObjOk P w H' h' a o:=by
 induction o with
 | lst xs=>obtain⟨z,its,n,r,e⟩:=x;exact⟨z,its,n,r,k _ _ (.inl rfl) e⟩
 | tup xs=>obtain⟨z,its,r,ob,e,c⟩:=x;exact⟨z,its,r,ob,k _ _ (.inl rfl) e,c⟩
 | dK kvs=>obtain⟨z,y,vs,r,ob,es,ep,e,c⟩:=x;exact⟨z,y,vs,r,ob,es,ep,k _ _ (.inl rfl) e,c⟩
 | dT kvs =>
  obtain⟨z,y,xs,r,ob,es,ep,e,c⟩:=x
  exact⟨z,y,xs,Paired.mapP r fun p q z=>⟨z.1,ht _ _ z.2.1,z.2.2⟩,ob,es,ep,k _ _ (.inl rfl) e,c⟩
 | set S n=>obtain⟨ob,es,ep,t,e,c⟩:=x;exact⟨ob,es,ep,t,k _ _ (.inl rfl) e,c⟩
 | ins C dx fs =>
  obtain⟨d,z,ne,e,mA,⟨od,es,ep,e2,c⟩,r⟩:=x
  exact⟨ho _ d,z,ne,k _ _ (.inl rfl) e,mA,⟨od,es,ep,k _ _ (.inr d) e2,c⟩,r⟩
 | own y=>obtain⟨ob,e⟩:=x;exact⟨ob,k _ _ (.inl rfl) e⟩
 | xd fs=>obtain⟨mA,⟨od,es,ep,e,c⟩,r⟩:=x;exact⟨mA,⟨od,es,ep,k _ _ (.inl rfl) e,c⟩,r⟩
 | rng lo hi=>obtain⟨t,u,v,e⟩:=x;exact⟨t,u,v,k _ _ (.inl rfl) e⟩
 | frz ob u ih=>obtain⟨e,q⟩:=x;exact⟨k _ _ (.inl rfl) e,ih q⟩
 | tbl ps =>
  have e:h.get? a=some { cls:=.none,data:=.fields ps }:=x
  show h'.get? a=some { cls:=.none,data:=.fields ps }
  exact k a _ (.inl rfl) e
 | met f y =>
  have e:h.get? a=some (PySem.W.methodObj (.ref f) (.ref y)):=x
  show h'.get? a=some (PySem.W.methodObj (.ref f) (.ref y))
  exact k a _ (.inl rfl) e
 | ext φ=>obtain⟨p,⟨o,e⟩,st⟩:=x;exact⟨st _ _ p fun o q=>k _ _ (.inl rfl) q,⟨o,k _ _ (.inl rfl) e⟩,st⟩
theorem HOk.lt(x:HOk P w H h)(e:H a=some o):a<h.objs.size:=(x a o e).lt
theorem HOk.fresh(x:HOk P w H h)(e:h.objs.size<=a):H a=none:=by
 cases q:H a with
 | none=>rfl
 | some u=>exact absurd (Nat.lt_of_lt_of_le (x.lt q) e) (Nat.lt_irrefl _)
theorem HOk.kept(x:HOk P w H h)(k:∀b u,h.get? b=some u->h'.get? b=some u):HOk P w H h':=fun a o e =>
 (x a o e).stay (fun b u _ q=>k b u q) (fun _ q=>q) fun _ _ q=>q
theorem HOk.laid(x:HOk P w H h)(k:∀b u,h.get? b=some u->h'.get? b=some u)(hp:h.objs.size<=a)(new:ObjOk P w (upd H a o) h' a o):HOk P w (upd H a o) h':=fun b u e=>by
 have hn:=x.fresh hp
 by_cases hb:b=a
 ·subst hb;rw[zat] at e;cases e;exact new
 ·rw[zau hb] at e
  exact(x b u e).stay (fun c v _ q=>k c v q) (fun c q=>by rw[zau (zaq q hn)];exact q) fun c xs q=>by rw[zau (zaq q hn)];exact q
end
def Rd(H:Hp)(a:Addr)(u:HO):Prop:=H a=some u\/∃o,H a=some (.frz o u)
theorem Rd.ok{P:Program}{w:World}{H:Hp}{h:Heap}{a:Addr}{u:HO}(r:Rd H a u)(x:HOk P w H h):ObjOk P w H h a u:=by
 rcases r with r|⟨o,r⟩
 ·exact x a u r
 ·obtain⟨_,q⟩:=x a _ r
  exact q
def Mut:Option HO->Prop
 | some (.lst _)=>True
 | some (.dK _)=>True
 | some (.dT _)=>True
 | some (.set _ _)=>True
 | some (.ins _ _ _)=>True
 | some (.ext _)=>True
 | _=>False
section
variable {P:Program} {w:World} {H:Hp} {h h':Heap} {x e:Addr} {o':HO}
theorem HOk.write(ok:HOk P w H h)(mu:Mut (H x))(he:e=x\/H e=some (.own x))(k:∀b u,b≠e->h.get? b=some u->h'.get? b=some u)(heo:∃u,h'.get? e=some u)(new:ObjOk P w (upd H x o') h' x o'):HOk P w (upd H x o') h':=fun b u q=>by
 have nown:∀c y,H c=some (.own y)->c≠x:=fun c y r z=>by subst z;rw[r] at mu;exact mu
 have ntup:∀c xs,H c=some (.tup xs)->c≠x:=fun c xs r z=>by subst z;rw[r] at mu;exact mu
 by_cases hb:b=x
 ·subst hb;rw[zat] at q;cases q;exact new
 ·rw[zau hb] at q
  by_cases hbe:b=e
  ·have q':H b=some (.own x):=by
    rcases he with z|z
    ·exact absurd (hbe.trans z) hb
    ·rw[hbe];exact z
   rw[q] at q';cases q'
   obtain⟨v,hv⟩:=heo
   exact⟨v,by rw[hbe];exact hv⟩
  ·refine(ok b u q).stay (fun c v hc r=>k c v ?_ r) (fun c r=>by rw[zau (nown c b r)];exact r) fun c xs r=>by rw[zau (ntup c xs r)];exact r
   rcases hc with rfl|hc
   ·exact hbe
   ·rintro rfl
    rcases he with z|z
    ·exact nown c b hc z
    ·rw[hc] at z;cases z;exact hb rfl
end
structure Un (fs ex:List Addr) (H H':Hp) (h h':Heap):Prop where
 keep:∀b o,h.get? b=some o->H b=none->b∉fs->b∉ex->h'.get? b=some o
 slot:∀b o,h.get? b=some o->H b=none->b∈fs->b∉ex->∃sl,h'.get? b=some { o with slots:=sl }
 free:∀b o,h.get? b=some o->H b=none->b∉ex->H' b=none
 there:∀b o,h.get? b=some o->b∉ex->∃o',h'.get? b=some o'
 tups:∀b xs,H b=some (.tup xs)->H' b=some (.tup xs)
 frzs:∀b o u,H b=some (.frz o u)->H' b=some (.frz o u)
 tbls:∀b ps,H b=some (.tbl ps)->∃more,H' b=some (.tbl (ps++more))
section
variable {fs fs' ex ex':List Addr} {H H1 H2:Hp} {h h1 h2 h':Heap} {a x e:Addr} {o:HO}
theorem Un.any(u:Un fs ex H H1 h h1){b:Addr}{ob:Obj}(q:h.get? b=some ob)(n:H b=none)(hx:b∉ex):∃sl,h1.get? b=some { ob with slots:=sl }:=by
 by_cases hb:b∈fs
 ·exact u.slot b ob q n hb hx
 ·exact⟨ob.slots,u.keep b ob q n hb hx⟩
theorem Un.kept(k:∀b u,h.get? b=some u->h'.get? b=some u):Un fs ex H H h h' :=
 ⟨fun b ob q _ _ _=>k b ob q,fun b ob q _ _ _=>⟨ob.slots,k b ob q⟩,fun _ _ _ n _=>n,fun b ob q _=>⟨ob,k b ob q⟩,fun _ _ q=>q,fun _ _ _ q=>q,fun _ ps q=>⟨#[],by rw[q];simp⟩⟩
theorem Un.refl:Un fs ex H H h h:=Un.kept fun _ _ q=>q
theorem Un.laid(k:∀b u,h.get? b=some u->h'.get? b=some u)(hp:h.objs.size<=a)(hn:H a=none):Un fs ex H (upd H a o) h h' where
 keep:=fun b u q _ _ _=>k b u q
 slot:=fun b u q _ _ _=>⟨u.slots,k b u q⟩
 free:=fun b u q n _=>by rw[zau (Nat.ne_of_lt (Nat.lt_of_lt_of_le (Heap.lt_size q) hp))];exact n
 there:=fun b u q _=>⟨u,k b u q⟩
 tups:=fun b xs q=>by rw[zau (zaq q hn)];exact q
 frzs:=fun b u xs q=>by rw[zau (zaq q hn)];exact q
 tbls:=fun b ps q=>⟨#[],by rw[zau (zaq q hn),q];simp⟩
theorem Un.write(mu:Mut (H x))(he:e=x\/H e=some (.own x))(k:∀b u,b≠e->h.get? b=some u->h'.get? b=some u)(heo:∃u,h'.get? e=some u):Un fs ex H (upd H x o) h h':=by
 have hx:∀b,H b=none->b≠x:=fun b n z=>by subst z;rw[n] at mu;exact mu
 have hb:∀b,H b=none->b≠e:=fun b n z=>by
  subst z
  rcases he with r|r
  ·exact hx b n r
  ·rw[n] at r;cases r
 have hm:∀b u,H b=some u->¬Mut (some u)->b≠x:=fun b u q nm z=>by subst z;rw[q] at mu;exact nm mu
 refine⟨fun b u q n _ _=>k b u (hb b n) q,fun b u q n _ _=>⟨u.slots,k b u (hb b n) q⟩,fun b u q n _=>by rw[zau (hx b n)];exact n,fun b u q _=>?_,
  fun b xs q=>by rw[zau (hm b _ q fun z=>z)];exact q,fun b u xs q=>by rw[zau (hm b _ q fun z=>z)];exact q,fun b ps q=>⟨#[],by rw[zau (hm b _ q fun z=>z),q];simp⟩⟩
 by_cases hbe:b=e
 ·subst hbe;exact heo
 ·exact⟨u,k b u hbe q⟩
end
def trk(h:Heap)(H:Hp):List Addr:=(List.range h.objs.size).filter fun a=>(H a).isSome
def zkr(h:Heap)(H:Hp):Heap:=PySem.W.hideAll h (trk h H)
theorem ziO(h:Heap)(H:Hp):(zkr h H).objs.size=h.objs.size:=PySem.W.hideAll_size _ _
theorem zks{h:Heap}{H:Hp}{b:Addr}{o:Obj}(e:h.get? b=some o)(n:H b=none):(zkr h H).get? b=some o :=
 PySem.W.hideAll_get _ e fun hm=>by
  have q:(H b).isSome=true:=(List.mem_filter.mp hm).2
  rw[n] at q;simp at q
theorem zmB{h:Heap}{H:Hp}{b:Addr}{o:Obj}(e:(zkr h H).get? b=some o):h.get? b=some o/\H b=none:=by
 have e':h.get? b=some o:=PySem.W.of_hideAll (trk h H) e
 refine⟨e',?_⟩
 cases q:H b with
 | none=>rfl
 | some x =>
  have hm:b∈trk h H:=List.mem_filter.mpr ⟨List.mem_range.mpr (Heap.lt_size e'),by simp[q]⟩
  have z:(zkr h H).get? b=none:=PySem.W.hideAll_none (trk h H) hm
  rw[z] at e;cases e
def zmC(g h:Heap)(L:Addr):List (Addr×Obj):=(List.range h.objs.size).filterMap fun a=>if a=L\/(g.get? a).isSome=true then none else (h.get? a).map fun o=>(a,o)
def zen(g h:Heap)(L d:Addr):List (Addr×Obj):=(zmC g h L).filter fun p=>decide (p.1≠d)
end L2
namespace L2
open PySem PySem.Spec PyProof.Rows
structure Mod (K:PySem.W.Frag) (mg:Str->Option Value) (base:Heap):Prop where
 kin:K.In base
 glob:base.Ns mainGlobals mg
 blt:∃mb,base.Ns builtinsNs mb/\∀x:Str,x ≠ "__name__" -> mb x=bootBuiltins x
 nolimit:base.NoLimit
structure Cx where
 prog:Program
 w:World
 K:PySem.W.Frag
 mg:Str->Option Value
 base:Heap
 A:Around
 N:List Str
 s₀:Shared
 H₀:Hp
 env:Env
 outer:List Env
 stack:List Env
 ex:List Addr
 fn:Str->Bool
 calm:Bool
 pn:List (Addr×Obj)
 xe:Value->Shared->Prop
def frs(l:List Env):List Addr:=l.filterMap (·.frame)
abbrev Cx.fs(X:Cx):List Addr:=frs X.outer
def Vis(sc:Scope)(x:Str):Prop:=sc.names.lookup x=some .local\/sc.names.lookup x=some .cell\/sc.names.lookup x=some .free
def Loc(sc:Scope)(x:Str):Prop:=sc.names.lookup x=some .local\/sc.names.lookup x=some .cell
def zso(env:Env)(h:Heap)(m:Str->Option Value)(x:Str)(u:Value):Prop :=
 (env.kindOf x=some .local/\m x=some u)\/((env.kindOf x=some .cell\/env.kindOf x=some .free)/\∃c,env.cells.lookup x=some c/\h.IsCell c (some u))
structure Cx.Ok (X:Cx):Prop where
 mod:Mod X.K X.mg X.base
 kind:X.env.scope.kind=.function
 glob:X.env.globals=mainGlobals
 blt:X.env.builtins=builtinsNs
 above:X.s₀.heap.objs.size<=X.env.locals
 inj:∀x y c,X.env.cells.lookup x=some c->X.env.cells.lookup y=some c->x=y
 has:∀x,(X.env.kindOf x=some .cell\/X.env.kindOf x=some .free)->∃c,X.env.cells.lookup x=some c
 cab:∀x c,X.fn x=true->X.env.cells.lookup x=some c->X.s₀.heap.objs.size<=c
 hd:X.calm=true->X.A.handled=none
 frames:X.A.frames=some X.stack
 stk:X.stack=X.outer\/(X.stack=X.env::X.outer/\X.env.frame=some X.env.locals)
 exf:∀b∈X.ex,b≠X.env.locals/\∀x c,X.env.cells.lookup x=some c->c≠b
 bs:∀b o,X.base.get? b=some o->X.s₀.heap.get? b=some o/\X.H₀ b=none
 bsz:X.base.objs.size<=X.s₀.heap.objs.size
 noex:∀b o,X.base.get? b=some o->b∉X.ex
 exfs:∀b∈X.ex,b∉X.fs
 funs:X.s₀.heap.FunFrames X.base X.outer
 frf:∀b∈X.fs,X.H₀ b=none
structure Inv (X:Cx) (pins:List (Addr×Obj)) (σ:List (Option V)) (H:Hp) (s:Shared):Prop where
 ok:X.Ok
 os:s.os=X.s₀.os
 bare:AllBare s.gens
 base:Un X.fs X.ex X.H₀ H X.s₀.heap s.heap
 loc:∃m,s.heap.Ns X.env.locals m/\∀(i:Nat) (x:Str) (v:V),X.N[i]?=some x->σ[i]?=some (some v)->Vis X.env.scope x->∃u,RelV v u/\zso X.env s.heap m x u
 cell:∀x c,X.env.cells.lookup x=some c->∃v,s.heap.IsCell c v
 free:H X.env.locals=none
 freeC:∀x c,X.env.cells.lookup x=some c->H c=none
 pin:∀p∈X.pn++pins,s.heap.get? p.1=some p.2/\H p.1=none/\p.1≠X.env.locals/\p.1∉X.fs/\∀v,p.2.data≠.cell v
 hok:HOk X.prog X.w H s.heap
 len:σ.length=X.N.length
section
variable {X:Cx} {pins:List (Addr×Obj)} {σ:List (Option V)} {H H':Hp} {s:Shared} {h':Heap}
theorem Cx.Ok.nofr(ok:X.Ok){b:Addr}{o:Obj}(e:X.base.get? b=some o):b∉X.fs:=fun hb=>by
 have:=(ok.funs.mem hb).1
 rw[e] at this;cases this
theorem Inv.bs(I:Inv X pins σ H s):∀b o,X.base.get? b=some o->s.heap.get? b=some o/\H b=none:=fun b o e =>
 ⟨I.base.keep b o (I.ok.bs b o e).1 (I.ok.bs b o e).2 (I.ok.nofr e) (I.ok.noex b o e),I.base.free b o (I.ok.bs b o e).1 (I.ok.bs b o e).2 (I.ok.noex b o e)⟩
theorem Inv.bk(I:Inv X pins σ H s):∀b o,X.base.get? b=some o->s.heap.get? b=some o:=fun b o e=>(I.bs b o e).1
theorem Inv.mod(I:Inv X pins σ H s):Mod X.K X.mg X.base:=I.ok.mod
theorem Inv.kIn(I:Inv X pins σ H s):X.K.In s.heap:=I.ok.mod.kin.keeps I.bk
theorem Inv.fr(I:Inv X pins σ H s):∃m,Fr X.base X.env.locals s.heap m :=
 let ⟨m,hn,_⟩:=I.loc
 ⟨m,hn,I.bk,Nat.le_trans I.ok.bsz I.ok.above⟩
theorem Inv.lt(I:Inv X pins σ H s):X.env.locals<s.heap.objs.size:=let ⟨_,hn,_⟩:=I.loc;hn.lt
theorem Inv.sz(I:Inv X pins σ H s):X.s₀.heap.objs.size<=s.heap.objs.size:=Nat.le_trans I.ok.above (Nat.le_of_lt I.lt)
theorem Inv.nofs(I:Inv X pins σ H s){a:Addr}(h:s.heap.objs.size<=a):a∉X.fs:=fun hb=>by
 obtain⟨_,o,ho,_⟩:=I.ok.funs.mem hb
 exact absurd (Nat.lt_of_lt_of_le (Heap.lt_size ho) (Nat.le_trans I.sz h)) (Nat.lt_irrefl _)
theorem Inv.cne(I:Inv X pins σ H s):∀x c,X.env.cells.lookup x=some c->c≠X.env.locals:=fun x c e z=>by
 obtain⟨v,o,ho,hd⟩:=I.cell x c e
 obtain⟨m,⟨o',es,ep,ho',hd',_⟩,_⟩:=I.loc
 rw[z,ho'] at ho;cases ho;rw[hd'] at hd;cases hd
theorem Inv.funs(I:Inv X pins σ H s):s.heap.FunFrames X.base X.outer:=by
 have all:∀(l:List Env),(∀b∈frs l,b∈X.fs)->X.s₀.heap.FunFrames X.base l->s.heap.FunFrames X.base l:=by
  intro l
  induction l with
  | nil=>intro _ _;trivial
  | cons env r ih =>
   intro hs hl
   obtain⟨hk,⟨L,o,hf,hn,ho,hd⟩,hr⟩:=hl
   have hL:L∈X.fs:=hs L (by unfold frs;rw[List.filterMap_cons,hf];exact List.mem_cons_self)
   obtain⟨sl,e⟩:=I.base.slot L o ho (I.ok.frf L hL) hL fun z=>I.ok.exfs L z hL
   exact⟨hk,⟨L,_,hf,hn,e,hd⟩,ih (fun b hb=>hs b (by unfold frs;rw[List.filterMap_cons,hf];exact List.mem_cons_of_mem _ hb)) hr⟩
 exact all X.outer (fun _ hb=>hb) I.ok.funs
theorem Inv.stack(I:Inv X pins σ H s):s.heap.FunFrames X.base X.stack:=by
 rcases I.ok.stk with e|⟨e,hf⟩
 ·rw[e];exact I.funs
 ·rw[e]
  obtain⟨m,hn,_⟩:=I.loc
  refine .cons (by rw[I.ok.kind];decide) hf hn ?_ I.funs
  exact Heap.get?_none_of_le (Nat.le_trans I.ok.bsz I.ok.above)
theorem Inv.stkSub(I:Inv X pins σ H s):∀b∈frs X.stack,b∈X.env.locals::X.fs:=fun b hb=>by
 rcases I.ok.stk with e|⟨e,hf⟩
 ·rw[e] at hb;exact List.mem_cons_of_mem _ hb
 ·rw[e] at hb
  unfold frs at hb
  rw[List.filterMap_cons,hf] at hb
  exact hb
theorem Inv.stkFree(I:Inv X pins σ H s):∀b∈frs X.stack,H b=none:=fun b hb=>by
 rcases List.mem_cons.mp (I.stkSub b hb) with e|hb
 ·rw[e];exact I.free
 ·obtain⟨_,o,ho,_⟩:=I.ok.funs.mem hb
  exact I.base.free b o ho (I.ok.frf b hb) fun z=>I.ok.exfs b z hb
theorem Inv.step{g':Array GenState}{t':Nat}{d':Drawn}{ch:List Addr}(I:Inv X pins σ H s)(hch:∀b∈ch,(b∈X.ex\/X.s₀.heap.objs.size<=b)/\b≠X.env.locals/\(∀x c,X.env.cells.lookup x=some c->c≠b)/\∀p∈X.pn++pins,p.1≠b)(keep:∀b o,b≠X.env.locals->b∉X.fs->b∉ch->s.heap.get? b=some o->H b=none->h'.get? b=some o)(slot:∀b o,b≠X.env.locals->b∈X.fs->b∉ch->s.heap.get? b=some o->H b=none->∃sl,h'.get? b=some { o with slots:=sl })(free:∀b o,b∉ch->s.heap.get? b=some o->H b=none->H' b=none)(there:∀b o,b∉ch->s.heap.get? b=some o->∃o',h'.get? b=some o')(tups:∀b xs,H b=some (.tup xs)->H' b=some (.tup xs))(frzs:∀b o u,H b=some (.frz o u)->H' b=some (.frz o u))(tbls:∀b ps,H b=some (.tbl ps)->∃more,H' b=some (.tbl (ps++more)))(ns:∀m,s.heap.Ns X.env.locals m->h'.Ns X.env.locals m)(hok:HOk X.prog X.w H' h')(hg:AllBare g') :
  Inv X pins σ H' { s with heap:=h',gens:=g',drawn:=d',toks:=t' }:=by
 have neL:∀b o,X.s₀.heap.get? b=some o->b≠X.env.locals:=fun b o e=>Nat.ne_of_lt (Nat.lt_of_lt_of_le (Heap.lt_size e) I.ok.above)
 have neC:∀b o,X.s₀.heap.get? b=some o->b∉X.ex->b∉ch:=fun b o e hx hb=>by
  rcases(hch b hb).1 with z|z
  ·exact hx z
  ·exact absurd (Nat.lt_of_lt_of_le (Heap.lt_size e) z) (Nat.lt_irrefl _)
 have cellK:∀x c,X.env.cells.lookup x=some c->∀v,s.heap.IsCell c v->h'.IsCell c v:=fun x c e v ⟨o,ho,hd⟩=>by
  have nch:c∉ch:=fun z=>(hch c z).2.2.1 x c e rfl
  by_cases hc:c∈X.fs
  ·obtain⟨sl,q⟩:=slot c o (I.cne x c e) hc nch ho (I.freeC x c e)
   exact⟨_,q,hd⟩
  ·exact⟨o,keep c o (I.cne x c e) hc nch ho (I.freeC x c e),hd⟩
 refine⟨I.ok,I.os,hg,⟨fun b o e n hb hx=>?_,fun b o e n hb hx=>?_,fun b o e n hx=>?_,fun b o e hx=>?_,fun b xs e=>tups b xs (I.base.tups b xs e),fun b o xs e=>frzs b o xs (I.base.frzs b o xs e),fun b ps e=>?_⟩,?_,fun x c e=>?_,?_,fun x c e=>?_,fun p hp=>?_,hok,I.len⟩
 ·exact keep b o (neL b o e) hb (neC b o e hx) (I.base.keep b o e n hb hx) (I.base.free b o e n hx)
 ·obtain⟨sl,e1⟩:=I.base.slot b o e n hb hx
  obtain⟨sl',e2⟩:=slot b _ (neL b o e) hb (neC b o e hx) e1 (I.base.free b o e n hx)
  exact⟨sl',e2⟩
 ·obtain⟨o',e1⟩:=I.base.there b o e hx
  exact free b o' (neC b o e hx) e1 (I.base.free b o e n hx)
 ·obtain⟨o',e1⟩:=I.base.there b o e hx
  exact there b o' (neC b o e hx) e1
 ·obtain⟨m1,e1⟩:=I.base.tbls b ps e
  obtain⟨m2,e2⟩:=tbls b _ e1
  exact⟨m1++m2,by rw[e2,Array.append_assoc]⟩
 ·obtain⟨m,hn,hl⟩:=I.loc
  refine⟨m,ns m hn,fun i x v e1 e2 e3=>?_⟩
  obtain⟨u,r,l⟩:=hl i x v e1 e2 e3
  refine⟨u,r,?_⟩
  rcases l with l|⟨k,c,e,z⟩
  ·exact .inl l
  ·exact .inr ⟨k,c,e,cellK x c e _ z⟩
 ·obtain⟨v,z⟩:=I.cell x c e
  exact⟨v,cellK x c e v z⟩
 ·obtain⟨m,⟨o,_,_,ho,_⟩,_⟩:=I.loc
  exact free _ o (fun z=>(hch _ z).2.1 rfl) ho I.free
 ·obtain⟨v,o,ho,hd⟩:=I.cell x c e
  exact free c o (fun z=>(hch c z).2.2.1 x c e rfl) ho (I.freeC x c e)
 ·obtain⟨e,n,ne,nf,d⟩:=I.pin p hp
  have nch:p.1∉ch:=fun z=>(hch p.1 z).2.2.2 p hp rfl
  exact⟨keep p.1 p.2 ne nf nch e n,free p.1 p.2 nch e n,ne,nf,d⟩
theorem Inv.un{t':Nat}(I:Inv X pins σ H s)(u:Un X.fs [] H H' s.heap h')(hok:HOk X.prog X.w H' h'):Inv X pins σ H' { s with heap:=h',toks:=t' }:=by
 obtain⟨m,⟨o,es,ep,ho,r⟩,_⟩:=id I.loc
 obtain⟨sl,hL⟩:=u.any ho I.free (by simp)
 exact I.step (g':=s.gens) (d':=s.drawn) (ch:=[]) (fun _ z=>nomatch z) (fun b o _ hb _ e n=>u.keep b o e n hb (by simp)) (fun b o _ hb _ e n=>u.slot b o e n hb (by simp)) (fun b o _ e n=>u.free b o e n (by simp)) (fun b o _ e=>u.there b o e (by simp)) u.tups u.frzs u.tbls (fun m' hm=>by
  obtain⟨o',es',ep',ho',r'⟩:=hm
  rw[ho] at ho';cases ho'
  exact⟨_,es',ep',hL,r'⟩) hok I.bare
theorem Inv.call{g':Array GenState}{t':Nat}{d':Drawn}{ch:List Addr}(I:Inv X pins σ H s)(u:Un (frs X.stack) ch H H' s.heap h')(hok:HOk X.prog X.w H' h')(hg:AllBare g')(hch:∀b∈ch,(b∈X.ex\/X.s₀.heap.objs.size<=b)/\b≠X.env.locals/\(∀x c,X.env.cells.lookup x=some c->c≠b)/\∀p∈X.pn++pins,p.1≠b) :
  Inv X pins σ H' { s with heap:=h',gens:=g',drawn:=d',toks:=t' }:=by
 obtain⟨m,⟨o,es,ep,ho,r⟩,_⟩:=id I.loc
 obtain⟨sl,hL⟩:=u.any ho I.free fun z=>(hch _ z).2.1 rfl
 exact I.step (ch:=ch) hch (fun b o hL hb hc e n=>u.keep b o e n (fun z=>(List.mem_cons.mp (I.stkSub b z)).elim hL hb) hc) (fun b o _ _ hc e n=>u.any e n hc) (fun b o hc e n=>u.free b o e n hc) (fun b o hc e=>u.there b o e hc) u.tups u.frzs u.tbls (fun m' hm=>by
  obtain⟨o',es',ep',ho',r'⟩:=hm
  rw[ho] at ho';cases ho'
  exact⟨_,es',ep',hL,r'⟩) hok hg
theorem Inv.turned{t':Nat}{it:Addr}(I:Inv X pins σ H s)(k:∀b o,b≠it->s.heap.get? b=some o->h'.get? b=some o)(hn:H it=none)(hL:it≠X.env.locals)(h1:it∈X.ex\/X.s₀.heap.objs.size<=it)(h2:∀x c,X.env.cells.lookup x=some c->c≠it)(h3:∀p∈X.pn++pins,p.1≠it):Inv X pins σ H { s with heap:=h',toks:=t' }:=by
 have nit:∀b u,H b=some u->b≠it:=fun b u e z=>by rw[z,hn] at e;cases e
 refine I.step (g':=s.gens) (d':=s.drawn) (ch:=[it]) (fun b hb=>?_) (fun b o _ _ hc e _=>k b o (fun z=>hc (by simp[z])) e) (fun b o _ _ hc e _=>⟨o.slots,k b o (fun z=>hc (by simp[z])) e⟩) (fun _ _ _ _ n=>n)
  (fun b o hc e=>⟨o,k b o (fun z=>hc (by simp[z])) e⟩) (fun _ _ e=>e) (fun _ _ _ e=>e) (fun b ps e=>⟨#[],by rw[e];simp⟩) (fun m hm=>?_) (fun b u e=>?_) I.bare
 ·have e:b=it:=by simpa using hb
  subst e
  exact⟨h1,hL,h2,h3⟩
 ·obtain⟨o,es,ep,ho,r⟩:=hm
  exact⟨o,es,ep,k _ o (Ne.symm hL) ho,r⟩
 ·refine(I.hok b u e).stay (fun c v hc q=>k c v ?_ q) (fun _ q=>q) fun _ _ q=>q
  rcases hc with z|z
  ·rw[z];exact nit b u e
  ·exact nit c _ z
theorem Inv.tok(I:Inv X pins σ H s)(t:Nat):Inv X pins σ H { s with toks:=t }:=I.un (h':=s.heap) (t':=t) Un.refl I.hok
theorem Inv.kept{t':Nat}(I:Inv X pins σ H s)(k:∀b u,s.heap.get? b=some u->h'.get? b=some u):Inv X pins σ H { s with heap:=h',toks:=t' }:=I.un (Un.kept k) (I.hok.kept k)
theorem Inv.laid{a:Addr}{o:HO}{t':Nat}(I:Inv X pins σ H s)(k:∀b u,s.heap.get? b=some u->h'.get? b=some u)(hp:s.heap.objs.size<=a)(new:ObjOk X.prog X.w (upd H a o) h' a o) :
  Inv X pins σ (upd H a o) { s with heap:=h',toks:=t' }:=I.un (Un.laid k hp (I.hok.fresh hp)) (I.hok.laid k hp new)
theorem Inv.write{x e:Addr}{o:HO}{t':Nat}(I:Inv X pins σ H s)(mu:Mut (H x))(he:e=x\/H e=some (.own x))(k:∀b u,b≠e->s.heap.get? b=some u->h'.get? b=some u)(heo:∃u,h'.get? e=some u)(new:ObjOk X.prog X.w (upd H x o) h' x o):Inv X pins σ (upd H x o) { s with heap:=h',toks:=t' }:=I.un (Un.write mu he k heo) (I.hok.write mu he k heo new)
theorem Inv.weak{σ':List (Option V)}(I:Inv X pins σ H s)(hl:σ'.length=σ.length)(w:∀(i:Nat) v,σ'[i]?=some (some v)->σ[i]?=some (some v)):Inv X pins σ' H s :=
 ⟨I.ok,I.os,I.bare,I.base,let ⟨m,hn,hl'⟩:=I.loc;⟨m,hn,fun i x v e1 e2 e3=>hl' i x v e1 (w i v e2) e3⟩,I.cell,I.free,I.freeC,I.pin,I.hok,hl.trans I.len⟩
theorem Inv.pins_of{pins':List (Addr×Obj)}(I:Inv X pins σ H s)(h:∀p∈pins',s.heap.get? p.1=some p.2/\H p.1=none/\p.1≠X.env.locals/\p.1∉X.fs/\∀v,p.2.data≠.cell v):Inv X pins' σ H s :=
 ⟨I.ok,I.os,I.bare,I.base,I.loc,I.cell,I.free,I.freeC,fun p hp=>(List.mem_append.mp hp).elim (fun z=>I.pin p (List.mem_append_left _ z)) (h p),I.hok,I.len⟩
theorem ze0{N:List Str}(hN:N.Nodup){i j:Nat}{x:Str}(a:N[i]?=some x)(b:N[j]?=some x):i=j:=by
 obtain⟨h1,e1⟩:=List.getElem?_eq_some_iff.mp a
 obtain⟨h2,e2⟩:=List.getElem?_eq_some_iff.mp b
 exact(List.getElem_inj hN).mp (e1.trans e2.symm)
theorem ziP{M:Model}{A:Around}{E:Value->Shared->Prop}{i:Nat}{x:Str}{v:V}{u:Value}{Q:Unit->Shared->Prop}(I:Inv X pins σ H s)(hN:X.N.Nodup)(hi:X.N[i]?=some x)(hx:Loc X.env.scope x)(r:RelV v u)(h:∀s',Inv X pins (σ.set i (some v)) H s'->(∃a,Heap.SameBut a s.heap s'.heap/\(a=X.env.locals\/X.env.cells.lookup x=some a))->Q () s')(hf:X.fn x=true\/X.env.scope.names.lookup x=some .local:=by first|exact .inl rfl|exact .inr rfl|assumption):wpAny M A (storeName X.env x u) Q E s:=by
 obtain⟨m,hn,hl⟩:=id I.loc
 have hcls:(X.env.scope.kind==.class||(X.env.scope.kind==.module&&X.env.locals != X.env.globals))=false:=by rw[I.ok.kind];rfl
 have hiσ:i<σ.length:=by rw[I.len];exact(List.getElem?_eq_some_iff.mp hi).1
 have cne:=I.cne
 have tracked:∀{a:Addr} {h':Heap},(∃o,s.heap.get? a=some o/\H a=none)->Heap.SameBut a s.heap h'->HOk X.prog X.w H h':=fun {a h'} ha hs b ob e=>by
  obtain⟨_,_,hfree⟩:=ha
  refine(I.hok b ob e).stay (fun c w' hc q=>(hs.2 c ?_).trans q) (fun _ q=>q) fun _ _ q=>q
  rintro rfl
  rcases hc with rfl|hc
  ·rw[hfree] at e;cases e
  ·rw[hfree] at hc;cases hc
 rcases hx with hk|hk
 ·refine wpAny_storeName_local hk hn (fun h' hn' hs=>?_) hcls
  obtain⟨oL,_,_,hoL,_⟩:=id hn
  refine h _ ⟨I.ok,I.os,I.bare,⟨fun b o e n hb hx=>?_,fun b o e n hb hx=>?_,I.base.free,fun b o e hx=>?_,I.base.tups,I.base.frzs,I.base.tbls⟩,⟨_,hn',fun j y v' e1 e2 e3=>?_⟩,fun y c e=>?_,I.free,I.freeC,fun p hp=>?_,tracked ⟨oL,hoL,I.free⟩ hs,by simpa using I.len⟩ ⟨_,hs,.inl rfl⟩
  ·exact(hs.2 b (Nat.ne_of_lt (Nat.lt_of_lt_of_le (Heap.lt_size e) I.ok.above))).trans (I.base.keep b o e n hb hx)
  ·obtain⟨sl,e1⟩:=I.base.slot b o e n hb hx
   exact⟨sl,(hs.2 b (Nat.ne_of_lt (Nat.lt_of_lt_of_le (Heap.lt_size e) I.ok.above))).trans e1⟩
  ·obtain⟨o',e1⟩:=I.base.there b o e hx
   exact⟨o',(hs.2 b (Nat.ne_of_lt (Nat.lt_of_lt_of_le (Heap.lt_size e) I.ok.above))).trans e1⟩
  ·by_cases hj:j=i
   ·subst hj
    rw[hi] at e1;cases e1
    rw[List.getElem?_set_self hiσ] at e2
    cases e2
    exact⟨u,r,.inl ⟨hk,by simp⟩⟩
   ·rw[List.getElem?_set_ne (Ne.symm hj)] at e2
    obtain⟨u',r',q⟩:=hl j y v' e1 e2 e3
    refine⟨u',r',?_⟩
    rcases q with ⟨k,e⟩|⟨k,c,e,z⟩
    ·refine .inl ⟨k,?_⟩
     have:y≠x:=fun e=>hj (ze0 hN e1 (e▸hi))
     simp[this,e]
    ·exact .inr ⟨k,c,e,z.sameBut hs (cne y c e)⟩
  ·obtain⟨w',z⟩:=I.cell y c e
   exact⟨w',z.sameBut hs (cne y c e)⟩
  ·obtain⟨e,n,ne,nf,d⟩:=I.pin p hp
   exact⟨(hs.2 p.1 ne).trans e,n,ne,nf,d⟩
 ·have hfn:X.fn x=true:=by
   rcases hf with z|z
   ·exact z
   ·rw[z] at hk;cases hk
  obtain⟨c,hc⟩:=I.ok.has x (.inl hk)
  obtain⟨w',z⟩:=I.cell x c hc
  refine wpAny_storeName_cell I.ok.kind hk hc z (fun h' hc' hs=>?_)
  obtain⟨oc,hoc,hocd⟩:=id z
  refine h { s with heap:=h' } ⟨I.ok,I.os,I.bare,⟨fun b o e n hb hx=>?_,fun b o e n hb hx=>?_,I.base.free,fun b o e hx=>?_,I.base.tups,I.base.frzs,I.base.tbls⟩,⟨m,hn.sameBut hs (Ne.symm (cne x c hc)),fun j y v' e1 e2 e3=>?_⟩,fun y c' e=>?_,I.free,I.freeC,fun p hp=>?_,tracked ⟨oc,hoc,I.freeC x c hc⟩ hs,by simpa using I.len⟩ ⟨c,hs,.inr hc⟩
  ·exact(hs.2 b (Nat.ne_of_lt (Nat.lt_of_lt_of_le (Heap.lt_size e) (I.ok.cab x c hfn hc)))).trans (I.base.keep b o e n hb hx)
  ·obtain⟨sl,e1⟩:=I.base.slot b o e n hb hx
   exact⟨sl,(hs.2 b (Nat.ne_of_lt (Nat.lt_of_lt_of_le (Heap.lt_size e) (I.ok.cab x c hfn hc)))).trans e1⟩
  ·obtain⟨o',e1⟩:=I.base.there b o e hx
   exact⟨o',(hs.2 b (Nat.ne_of_lt (Nat.lt_of_lt_of_le (Heap.lt_size e) (I.ok.cab x c hfn hc)))).trans e1⟩
  ·by_cases hj:j=i
   ·subst hj
    rw[hi] at e1;cases e1
    rw[List.getElem?_set_self hiσ] at e2
    cases e2
    exact⟨u,r,.inr ⟨.inl hk,c,hc,hc'⟩⟩
   ·rw[List.getElem?_set_ne (Ne.symm hj)] at e2
    obtain⟨u',r',q⟩:=hl j y v' e1 e2 e3
    refine⟨u',r',?_⟩
    rcases q with q|⟨k,c',e,z'⟩
    ·exact .inl q
    ·refine .inr ⟨k,c',e,z'.sameBut hs ?_⟩
     rintro rfl
     exact hj (ze0 hN e1 (I.ok.inj _ _ _ e hc▸hi))
  ·by_cases hcc:c'=c
   ·subst hcc;exact⟨_,hc'⟩
   ·obtain⟨w2,z2⟩:=I.cell y c' e
    exact⟨w2,z2.sameBut hs hcc⟩
  ·obtain⟨e,n,ne,nf,d⟩:=I.pin p hp
   refine⟨(hs.2 p.1 ?_).trans e,n,ne,nf,d⟩
   intro q
   rw[q,hoc] at e
   have q':oc=p.2:=Option.some.inj e
   exact d w' (by rw[<- q'];exact hocd)
theorem ze1{M:Model}{A:Around}{E:Value->Shared->Prop}{i:Nat}{x:Str}{v:V}{u:Value}{Q:Unit->Shared->Prop}(I:Inv X pins σ H s)(hN:X.N.Nodup)(hi:X.N[i]?=some x)(hx:Loc X.env.scope x)(r:RelV v u)(h:∀s',Inv X pins (σ.set i (some v)) H s'->Q () s')(hf:X.fn x=true\/X.env.scope.names.lookup x=some .local:=by first|exact .inl rfl|exact .inr rfl|assumption):wpAny M A (storeName X.env x u) Q E s :=
 ziP I hN hi hx r (fun s' I' _=>h s' I') hf
theorem Inv.call'{s':Shared}{ch:List Addr}(I:Inv X pins σ H s)(ho:s'.os=s.os)(u:Un (frs X.stack) ch H H' s.heap s'.heap)(hok:HOk X.prog X.w H' s'.heap)(hg:AllBare s'.gens)(hch:∀b∈ch,(b∈X.ex\/X.s₀.heap.objs.size<=b)/\b≠X.env.locals/\(∀x c,X.env.cells.lookup x=some c->c≠b)/\∀p∈X.pn++pins,p.1≠b):Inv X pins σ H' s':=by
 obtain⟨h',g',d',t',o'⟩:=s'
 have e:o'=s.os:=ho
 subst e
 exact I.call (g':=g') (t':=t') (d':=d') u hok hg hch
end
abbrev XK:=Value->Option Addr->Hp->Prop
abbrev St:=List (Option V)
abbrev VK:=V->Hp->Prop
abbrev TE:=St->Hp->VK->Prop
abbrev TT:=St->Hp->(Bool->Hp->Prop)->Prop
abbrev TA:=St->Hp->(List V->Hp->Prop)->Prop
structure Ends where
 nx:St->Hp->Prop
 rt:VK
 bk:St->Hp->Prop:=fun _ _=>False
 ct:St->Hp->Prop:=fun _ _=>False
abbrev TS:=Ends->St->Hp->Prop
def EP(X:Cx)(pins:List (Addr×Obj))(σ:St)(Q:VK)(u:Value)(s':Shared):Prop:=∃v H',Inv X pins σ H' s'/\RelV v u/\Q v H'
def TP(X:Cx)(pins:List (Addr×Obj))(σ:St)(Q:Bool->Hp->Prop)(b:Bool)(s':Shared):Prop:=∃H',Inv X pins σ H' s'/\Q b H'
def AP(X:Cx)(pins:List (Addr×Obj))(σ:St)(Q:List V->Hp->Prop)(us:List Value)(s':Shared):Prop:=∃vs H',Inv X pins σ H' s'/\Vals vs us/\Q vs H'
def SP(X:Cx)(pins:List (Addr×Obj))(D:Ends)(f:Flow)(s':Shared):Prop :=
 match f with
 | .next=>∃σ' H',Inv X pins σ' H' s'/\D.nx σ' H'
 | .brk=>∃σ' H',Inv X pins σ' H' s'/\D.bk σ' H'
 | .cont=>∃σ' H',Inv X pins σ' H' s'/\D.ct σ' H'
 | .ret u=>∃v σ' H',Inv X pins σ' H' s'/\RelV v u/\D.rt v H'
def PE(X:Cx)(e:Expr)(t:TE):Prop :=
 ∀(pins:List (Addr×Obj)) (s:Shared) (σ:St) (H:Hp) (Q:VK),Inv X pins σ H s->t σ H Q->wpAny (model X.prog X.w) X.A (eval e X.env) (EP X pins σ Q) X.xe s
def PT(X:Cx)(e:Expr)(t:TT):Prop :=
 ∀(pins:List (Addr×Obj)) (s:Shared) (σ:St) (H:Hp) (Q:Bool->Hp->Prop),Inv X pins σ H s->t σ H Q->wpAny (model X.prog X.w) X.A (isTrue e X.env (eval e X.env)) (TP X pins σ Q) X.xe s
def PW(X:Cx)(e:Expr)(t:TT):Prop :=
 ∀(whole:Sem Value) (pins:List (Addr×Obj)) (s:Shared) (σ:St) (H:Hp) (Q:Bool->Hp->Prop),Inv X pins σ H s->t σ H Q->wpAny (model X.prog X.w) X.A (isTrue e X.env whole) (TP X pins σ Q) X.xe s
theorem PW.pt{X:Cx}{e:Expr}{t:TT}(h:PW X e t):PT X e t:=h _
def PA(X:Cx)(es:List Expr)(t:TA):Prop :=
 ∀(pos:Pos) (pins:List (Addr×Obj)) (s:Shared) (σ:St) (H:Hp) (Q:List V->Hp->Prop),Inv X pins σ H s->t σ H Q->wpAny (model X.prog X.w) X.A (spliced (backTo pos (starEach es X.env))) (AP X pins σ Q) X.xe s
def PS(X:Cx)(st:Stmt)(t:TS):Prop :=
 ∀(pins:List (Addr×Obj)) (s:Shared) (σ:St) (H:Hp) (D:Ends),Inv X pins σ H s->t D σ H->wpAny (model X.prog X.w) X.A (exec st X.env) (SP X pins D) X.xe s
def PSs(X:Cx)(st:List Stmt)(t:TS):Prop :=
 ∀(pins:List (Addr×Obj)) (s:Shared) (σ:St) (H:Hp) (D:Ends),Inv X pins σ H s->t D σ H->wpAny (model X.prog X.w) X.A (execs st X.env) (SP X pins D) X.xe s
theorem thn{α:Type}{t:Sem α}{Q Q':α->Shared->Prop}{M:Model}{A:Around}{E:Value->Shared->Prop}{s:Shared}(h:wpAny M A t Q E s)(hQ:∀a s,Q a s->Q' a s):wpAny M A t Q' E s:=wpAny_mono h hQ fun _ _ x=>x
end L2
namespace L2
open PySem PySem.Spec PyProof.Rows
section
variable {X:Cx}
theorem bin{a b:Expr}{ta tb:TE}(ha:PE X a ta)(hb:PE X b tb){pins:List (Addr×Obj)}{s:Shared}{σ:St}{H:Hp}{R:V->V->Hp->Prop}(I:Inv X pins σ H s)(h:ta σ H fun x H1=>tb σ H1 fun y H2=>R x y H2){α:Type}{Q:α->Shared->Prop}{f:Value->Value->Sem α}(hf:∀v u s2 x y H2,Inv X pins σ H2 s2->RelV x v->RelV y u->R x y H2->wpAny (model X.prog X.w) X.A (f v u) Q X.xe s2) :
  wpAny (model X.prog X.w) X.A (eval a X.env) (fun v s₁=>wpAny (model X.prog X.w) X.A (eval b X.env) (fun u s₂=>wpAny (model X.prog X.w) X.A (f v u) Q X.xe s₂) X.xe s₁) X.xe s:=by
 refine thn (ha pins s σ H _ I h) fun v s1 ⟨x,H1,I1,r1,q1⟩=>?_
 refine thn (hb pins s1 σ H1 _ I1 q1) fun u s2 ⟨y,H2,I2,r2,q2⟩=>?_
 exact hf v u s2 x y H2 I2 r1 r2 q2
def zsp(i:Nat):TE:=fun σ H Q=>∃v,σ[i]?=some (some v)/\Q v H
def tC(v:V):TE:=fun _ H Q=>Q v H
theorem zok{i:Nat}{x:Str}{pos:Pos}(hN:X.N[i]?=some x)(hv:Vis X.env.scope x)(hd:(x==("__debug__" : Str))=false:=by decide)(hcd:(x==("__classdict__" : Str))=false:=by decide):PE X (.Name x pos) (zsp i):=by
 intro pins s σ H Q I h
 obtain⟨v,e,h⟩:=h
 obtain⟨m,hn,hl⟩:=I.loc
 obtain⟨u,r,l⟩:=hl i x v hN e hv
 have fin:EP X pins σ Q u s:=⟨v,H,I,r,h⟩
 rcases l with ⟨hk,hm⟩|⟨hk,c,hc,hcell⟩
 ·exact wpAny_Name (wpAny_loadName_local I.ok.kind hk hn hm fin) hd
 ·rcases hk with hk|hk
  ·exact wpAny_Name (wpAny_loadName_cell I.ok.kind hk hc hcell fin) hd
  ·exact wpAny_Name (wpAny_loadName_free I.ok.kind hk hc hcell fin hcd) hd
theorem zol{i j pos}:PE X (.Constant (.int i) j pos) (tC (.int i)):=fun _ _ _ H _ I h=>wpAny_Constant_int ⟨.int i,H,I.tok _,⟨_,rfl⟩,h⟩
theorem zqs{b j pos}:PE X (.Constant (.bool b) j pos) (tC (.bl b)):=fun _ _ _ H _ I h=>Constant_bool ⟨.bl b,H,I,rfl,h⟩
theorem zom{j pos}:PE X (.Constant .none j pos) (tC .non):=fun _ _ _ H _ I h=>Constant_none ⟨.non,H,I,rfl,h⟩
theorem zon{x j pos}:PE X (.Constant (.str x) j pos) (tC (.str x)):=fun _ _ _ H _ I h=>Calls.Constant_str ⟨.str x,H,I.tok _,⟨_,rfl⟩,h⟩
def Gl(X:Cx)(x:Str):Prop:=X.env.kindOf x=some .globalImplicit
theorem zda{E:Value->Shared->Prop}{pins:List (Addr×Obj)}{s:Shared}{σ:St}{H:Hp}{x:Str}{u:Value}{pos:Pos}{Q:Value->Shared->Prop}(I:Inv X pins σ H s)(hg:Gl X x)(hm:X.mg x=some u)(h:Q u s)(hd:(x==("__debug__" : Str))=false:=by decide):wpAny (model X.prog X.w) X.A (eval (.Name x pos) X.env) Q E s :=
 Calls.Name_function_global I.ok.kind hg (Calls.loadGlobal_global (by rw[I.ok.glob];exact I.mod.glob.keeps I.bk) hm h) hd
theorem zhl{E:Value->Shared->Prop}{pins:List (Addr×Obj)}{s:Shared}{σ:St}{H:Hp}{x:Str}{u:Value}{pos:Pos}{Q:Value->Shared->Prop}(I:Inv X pins σ H s)(hg:Gl X x)(hm:X.mg x=none)(hv:bootBuiltins x=some u)(h:Q u s)(hn:x ≠ "__name__" := by decide)(hd:(x==("__debug__" : Str))=false:=by decide):wpAny (model X.prog X.w) X.A (eval (.Name x pos) X.env) Q E s:=by
 obtain⟨mb,h1,h2⟩:=I.mod.blt
 exact Calls.Name_function_global I.ok.kind hg (Calls.loadGlobal_builtin (by rw[I.ok.glob];exact I.mod.glob.keeps I.bk) hm (by rw[I.ok.blt];exact h1.keeps I.bk) ((h2 x hn).trans hv) h) hd
theorem zgK{x:Str}{v:V}{u:Value}{pos:Pos}(hg:Gl X x)(hm:X.mg x=some u)(r:RelV v u)(hd:(x==("__debug__" : Str))=false:=by decide):PE X (.Name x pos) (tC v) :=
 fun _ _ _ H _ I h=>zda I hg hm ⟨v,H,I,r,h⟩ hd
theorem ziQ{x:Str}{v:V}{u:Value}{pos:Pos}(hg:Gl X x)(hm:X.mg x=none)(hv:bootBuiltins x=some u)(r:RelV v u)(hn:x ≠ "__name__" := by decide)(hd:(x==("__debug__" : Str))=false:=by decide):PE X (.Name x pos) (tC v) :=
 fun _ _ _ H _ I h=>zhl I hg hm hv ⟨v,H,I,r,h⟩ hn hd
variable {a b:Expr} {ta tb:TE} {pos:Pos}
def PC(X:Cx)(op:CmpOp)(a b:Expr)(t:TE):Prop :=
 ∀(pins:List (Addr×Obj)) (s:Shared) (σ:St) (H:Hp) (Q:VK),Inv X pins σ H s->t σ H Q ->
  wpAny (model X.prog X.w) X.A (eval a X.env) (fun v s₁=>wpAny (model X.prog X.w) X.A (eval b X.env) (fun u s₂=>wpAny (model X.prog X.w) X.A (compareOp op v u) (EP X pins σ Q) X.xe s₂) X.xe s₁) X.xe s
theorem zhm(b:Expr){op:CmpOp}(h:op≠.In)(h2:op≠.NotIn):behindInMarks op b=false:=by
 have e1:(op==CmpOp.In)=false:=by cases op<;>first|rfl|exact absurd rfl h
 have e2:(op==CmpOp.NotIn)=false:=by cases op<;>first|rfl|exact absurd rfl h2
 cases b<;>simp[behindInMarks,e1,e2]
def zsq(ta:TE):TE:=fun σ H Q=>ta σ H fun x H1=>Q (.bl (decide (x=.non))) H1
theorem RelV.none_iff{x:V}{v:Value}(r:RelV x v):(v==Value.none)=decide (x=.non):=by
 cases x with
 | non=>cases r;rfl
 | bl _=>cases r;rfl
 | int _=>obtain⟨t,rfl⟩:=r;rfl
 | str _=>obtain⟨t,rfl⟩:=r;rfl
 | byt _=>obtain⟨t,rfl⟩:=r;rfl
 | flt _=>obtain⟨t,rfl⟩:=r;rfl
 | ref _=>cases r;rfl
 | ty _=>cases r;rfl
theorem zoo{j pos'}(ha:PE X a ta):PC X .Is a (.Constant .none j pos') (zsq ta):=by
 intro pins s σ H Q I h
 refine thn (ha pins s σ H _ I h) fun v s1 ⟨x,H1,I1,r1,q1⟩=>?_
 exact Constant_none (is_none_gen ⟨.bl _,H1,I1,by rw[r1.none_iff];rfl,q1⟩)
def tB(t:TE):TT:=fun σ H Q=>t σ H fun x H1=>∃c,x=.bl c/\Q c H1
theorem zop{op:CmpOp}{t:TE}(h:PC X op a b t)(h1:behindInMarks op b=false:=by first|exact zhm _ (by decide) (by decide)|rfl):PE X (.Compare a [op] [b] pos) t:=fun pins s σ H Q I hw=>wpAny_Compare1 (h pins s σ H Q I hw) h1
theorem zoq{op:CmpOp}{t:TE}(h:PC X op a b t)(h1:behindInMarks op b=false:=by first|exact zhm _ (by decide) (by decide)|rfl):PT X (.Compare a [op] [b] pos) (tB t):=by
 intro pins s σ H Q I hw
 refine wpAny_isTrue_Compare1 (thn (h pins s σ H _ I hw) fun v s1 h1=>thn h1 fun u s2 h2=>thn h2 fun c s3 ⟨x,H1,I1,r1,q1⟩=>?_) h1
 obtain⟨d,rfl,q⟩:=q1
 cases r1
 exact wpAny_truthy_bool ⟨H1,I1,q⟩
theorem zor{e:Expr}{t:TE}(h:PE X e t)(he:∀whole,isTrue e X.env whole=(do let v <- whole;standAt e.pos;holding [v] (truthy v)):=by intro _;rfl):PT X e (tB t):=by
 intro pins s σ H Q I hw
 refine isTrue_plain (thn (h pins s σ H _ I hw) fun v s1 ⟨x,H1,I1,r1,q1⟩=>?_) (he _)
 obtain⟨d,rfl,q⟩:=q1
 cases r1
 exact wpAny_truthy_bool ⟨H1,I1,q⟩
variable {tA tB':TT} {zen:List Expr}
def zsr(t u:TT):TT:=fun σ H Q=>t σ H fun c H1=>if c=true then u σ H1 Q else Q false H1
def tOr(t u:TT):TT:=fun σ H Q=>t σ H fun c H1=>if c=true then Q true H1 else u σ H1 Q
def zss(t:TT):TT:=fun σ H Q=>t σ H fun c H1=>Q (!c) H1
theorem zmD(ha:PT X a tA):PW X (.BoolOp .And [a] pos) tA:=by
 intro wh pins s σ H Q I h
 refine isTrue_and (thn (ha pins s σ H Q I h) fun c s1 e=>?_)
 cases c with
 | true=>exact isTrue_and_nil e
 | false=>exact e
theorem zos(ha:PT X a tA):PW X (.BoolOp .Or [a] pos) tA:=by
 intro wh pins s σ H Q I h
 refine isTrue_or (thn (ha pins s σ H Q I h) fun c s1 e=>?_)
 cases c with
 | false=>exact isTrue_or_nil e
 | true=>exact e
theorem zot(ha:PT X a tA)(hb:PW X (.BoolOp .And (b::zen) pos) tB'):PW X (.BoolOp .And (a::b::zen) pos) (zsr tA tB'):=by
 intro wh pins s σ H Q I h
 refine isTrue_and (thn (ha pins s σ H _ I h) fun c s1 ⟨H1,I1,q1⟩=>?_)
 cases c with
 | true=>exact hb wh pins s1 σ H1 Q I1 q1
 | false=>exact⟨H1,I1,q1⟩
theorem zqt(ha:PT X a tA)(hb:PW X (.BoolOp .Or (b::zen) pos) tB'):PW X (.BoolOp .Or (a::b::zen) pos) (tOr tA tB'):=by
 intro wh pins s σ H Q I h
 refine isTrue_or (thn (ha pins s σ H _ I h) fun c s1 ⟨H1,I1,q1⟩=>?_)
 cases c with
 | true=>exact⟨H1,I1,q1⟩
 | false=>exact hb wh pins s1 σ H1 Q I1 q1
theorem zou(ha:PT X a tA):PT X (.UnaryOp .Not a pos) (zss tA):=by
 intro pins s σ H Q I h
 exact isTrue_not (ha pins s σ H (fun c H1=>Q (!c) H1) I h)
def zqu(ta tb:TE):TE:=fun σ H Q=>ta σ H fun x H1=>∃c,x=.bl c/\if c=true then tb σ H1 Q else Q (.bl false) H1
def zqv(ta:TE):TE:=fun σ H Q=>ta σ H fun x H1=>∃c,x=.bl c/\Q (.bl (!c)) H1
theorem zov{op}{t:TE}(h:PE X a t):PE X (.BoolOp op [a] pos) t:=fun pins s σ H Q I hw=>BoolOp_one (h pins s σ H Q I hw)
theorem zow(ha:PE X a ta)(hb:PE X (.BoolOp .And (b::zen) pos) tb):PE X (.BoolOp .And (a::b::zen) pos) (zqu ta tb):=by
 intro pins s σ H Q I h
 refine BoolOp_and (thn (ha pins s σ H _ I h) fun v s1 ⟨x,H1,I1,r1,q1⟩=>?_)
 obtain⟨c,rfl,q1⟩:=q1
 cases r1
 refine wpAny_truthy_bool ?_
 cases c with
 | true=>exact hb pins s1 σ H1 Q I1 q1
 | false=>exact⟨.bl false,H1,I1,rfl,q1⟩
theorem zox(ha:PE X a ta):PE X (.UnaryOp .Not a pos) (zqv ta):=by
 intro pins s σ H Q I h
 refine UnaryOp_ (thn (ha pins s σ H _ I h) fun v s1 ⟨x,H1,I1,r1,q1⟩=>?_)
 obtain⟨c,rfl,q1⟩:=q1
 cases r1
 exact not_of (wpAny_truthy_bool ⟨.bl (!c),H1,I1,rfl,q1⟩)
end
end L2
namespace L2
open PySem PySem.Spec PyProof.Rows
def SqL(K:PySem.W.Frag)(H:Hp)(a:Addr)(xs:List V):Prop :=
 Rd H a (.lst xs) \/
  ∃(o:Obj) (its:Array Value) (n:Nat),K.lookup a=some o/\o.cls=.type "list" /\ o.dict=none/\o.data=.seq its n/\its.size<=sizeLine/\Vals xs its.toList
def SqT(K:PySem.W.Frag)(H:Hp)(a:Addr)(xs:List V):Prop :=
 Rd H a (.tup xs) \/
  ∃(o:Obj) (its:Array Value) (n:Nat),K.lookup a=some o/\o.cls=.type "tuple" /\ o.data=.seq its n/\its.size<=sizeLine/\Vals xs its.toList
def zst:Value->Option V
 | .none=>some .non
 | .bool b=>some (.bl b)
 | .int i _=>some (.int i)
 | .str x _=>some (.str x)
 | .bytes b _=>some (.byt b)
 | .float b _=>some (.flt b)
 | .ref a=>some (.ref a)
 | .type n=>some (.ty n)
 | _=>none
theorem RelV.abs{x:V}{u:Value}(r:RelV x u):zst u=some x:=by
 cases x with
 | non=>cases r;rfl
 | bl _=>cases r;rfl
 | int _=>obtain⟨t,rfl⟩:=r;rfl
 | str _=>obtain⟨t,rfl⟩:=r;rfl
 | byt _=>obtain⟨t,rfl⟩:=r;rfl
 | flt _=>obtain⟨t,rfl⟩:=r;rfl
 | ref _=>cases r;rfl
 | ty _=>cases r;rfl
theorem RelV.inj{x y:V}{u:Value}(r:RelV x u)(q:RelV y u):x=y:=Option.some.inj (r.abs.symm.trans q.abs)
theorem Vals.inj:∀{xs ys:List V} {us:List Value},Vals xs us->Vals ys us->xs=ys
 | _,_,_,.nil,.nil=>rfl
 | _,_,_,.cons r t,.cons r' t'=>by rw[r.inj r',Vals.inj t t']
section
variable {X:Cx} {pins:List (Addr×Obj)} {σ:St} {H:Hp} {s:Shared} {a:Addr} {xs ys:List V}
theorem Inv.list(I:Inv X pins σ H s)(h:SqL X.K H a xs):∃its:List Value,Vals xs its/\PlainL s.heap a its.toArray/\xs.length<=sizeLine:=by
 rcases h with h|⟨o,its,n,hk,hc,hd,hs,hz,r⟩
 ·obtain⟨z,its,n,r,e⟩:=h.ok I.hok
  exact⟨its,r,⟨_,n,e,rfl,rfl,rfl⟩,z⟩
 ·refine⟨its.toList,r,⟨o,n,I.kIn a o hk,hc,hd,by simpa using hs⟩,?_⟩
  have e:=r.length
  simp only[Array.length_toList] at e
  omega
theorem Inv.tuple(I:Inv X pins σ H s)(h:SqT X.K H a xs):∃its:List Value,Vals xs its/\IsTup s.heap a its.toArray/\xs.length<=sizeLine:=by
 rcases h with h|⟨o,its,n,hk,hc,hs,hz,r⟩
 ·obtain⟨z,its,r,p⟩:=h.ok I.hok
  exact⟨its,r,p.isTup,z⟩
 ·refine⟨its.toList,r,⟨o,I.kIn a o hk,hc,n,by simpa using hs⟩,?_⟩
  have e:=r.length
  simp only[Array.length_toList] at e
  omega
theorem Inv.list_inj(I:Inv X pins σ H s)(h:SqL X.K H a xs)(h':SqL X.K H a ys):xs=ys:=by
 obtain⟨its,r,⟨o,n,e,_,_,d⟩,_⟩:=I.list h
 obtain⟨its',r',⟨o',n',e',_,_,d'⟩,_⟩:=I.list h'
 rw[e] at e';cases e'
 rw[d] at d'
 injection d' with d1 _
 have:its=its':=by simpa using congrArg Array.toList d1
 subst this
 exact r.inj r'
theorem Inv.tuple_inj(I:Inv X pins σ H s)(h:SqT X.K H a xs)(h':SqT X.K H a ys):xs=ys:=by
 obtain⟨its,r,⟨o,e,_,n,d⟩,_⟩:=I.tuple h
 obtain⟨its',r',⟨o',e',_,n',d'⟩,_⟩:=I.tuple h'
 rw[e] at e';cases e'
 rw[d] at d'
 injection d' with d1 _
 have:its=its':=by simpa using congrArg Array.toList d1
 subst this
 exact r.inj r'
end
abbrev Cx.wish(X:Cx)(E:Value->Shared->Prop):Cx:={ X with xe:=E }
abbrev Cx.nox(X:Cx):Cx:=X.wish fun _ _=>False
theorem Cx.Ok.wish{X:Cx}(ok:X.Ok)(E:Value->Shared->Prop):(X.wish E).Ok :=
 ⟨ok.mod,ok.kind,ok.glob,ok.blt,ok.above,ok.inj,ok.has,ok.cab,ok.hd,ok.frames,ok.stk,ok.exf,ok.bs,ok.bsz,ok.noex,ok.exfs,ok.funs,ok.frf⟩
theorem Cx.Ok.unwish{X:Cx}{E:Value->Shared->Prop}(ok:(X.wish E).Ok):X.Ok :=
 ⟨ok.mod,ok.kind,ok.glob,ok.blt,ok.above,ok.inj,ok.has,ok.cab,ok.hd,ok.frames,ok.stk,ok.exf,ok.bs,ok.bsz,ok.noex,ok.exfs,ok.funs,ok.frf⟩
section
variable {X:Cx} {pins:List (Addr×Obj)} {σ:St} {H:Hp} {s:Shared} {E:Value->Shared->Prop}
theorem Inv.wish(I:Inv X pins σ H s)(E:Value->Shared->Prop):Inv (X.wish E) pins σ H s:=⟨I.ok.wish E,I.os,I.bare,I.base,I.loc,I.cell,I.free,I.freeC,I.pin,I.hok,I.len⟩
theorem Inv.unwish(I:Inv (X.wish E) pins σ H s):Inv X pins σ H s:=⟨I.ok.unwish,I.os,I.bare,I.base,I.loc,I.cell,I.free,I.freeC,I.pin,I.hok,I.len⟩
end
section
variable {X:Cx} {st:Stmt} {zen:List Stmt} {t u:TS} {e:Expr} {te:TE} {pos:Pos}
def zqw:TS:=fun D σ H=>D.nx σ H
def zsu(t u:TS):TS:=fun D σ H=>t { D with nx:=u D } σ H
theorem zmE:PSs X [] zqw:=fun _ _ σ H _ I h=>wpAny_execs_nil ⟨σ,H,I,h⟩
theorem zkt(h1:PS X st t)(h2:PSs X zen u):PSs X (st::zen) (zsu t u):=by
 intro pins s σ H D I h
 refine wpAny_execs_cons (thn (h1 pins s σ H { D with nx:=u D } I h) fun f s1 q=>?_)
 cases f with
 | next =>
  obtain⟨σ',H',I',q⟩:=q
  exact h2 pins s1 σ' H' D I' q
 | ret v=>exact q
 | brk=>exact q
 | cont=>exact q
theorem zmF(h1:PS X st t):PSs X [st] t:=by
 intro pins s σ H D I h
 refine wpAny_execs_cons (thn (h1 pins s σ H D I h) fun f s1 q=>?_)
 cases f with
 | next=>exact wpAny_execs_nil q
 | ret v=>exact q
 | brk=>exact q
 | cont=>exact q
theorem Inv.quiet{pins:List (Addr×Obj)}{σ:St}{H:Hp}{s:Shared}(I:Inv X pins σ H s):interactive X.env=false:=by simp[interactive,I.ok.kind]
def zqx(te:TE):TS:=fun D σ H=>te σ H fun _ H1=>D.nx σ H1
theorem zmG(he:PE X e te)(hs:swapsWith e none pos.line X.env=pure false:=by rfl):PS X (.Expr e pos) (zqx te):=by
 intro pins s σ H D I h
 exact wpAny_Expr_any (thn (he pins s σ H _ I h) fun v s1 ⟨x,H1,I1,r1,q1⟩=>⟨σ,H1,I1,q1⟩) I.quiet hs
def zsv(te:TE):TS:=fun D σ H=>te σ H D.rt
theorem zoy(he:PE X e te):PS X (.Return (some e) pos) (zsv te):=by
 intro pins s σ H D I h
 exact wpAny_Return_some (thn (he pins s σ H _ I h) fun v s1 ⟨x,H1,I1,r1,q1⟩=>⟨x,σ,H1,I1,r1,q1⟩)
def zsw(c:TT)(t u:TS):TS:=fun D σ H=>c σ H fun b H1=>if b=true then t D σ H1 else u D σ H1
theorem zqy{c:Expr}{a b:List Stmt}{tc:TT}(hc:PT X c tc)(ha:PSs X a t)(hb:PSs X b u):PS X (.If c a b pos) (zsw tc t u):=by
 intro pins s σ H D I h
 refine wpAny_If (thn (hc pins s σ H _ I h) fun d s1 ⟨H1,I1,q1⟩=>?_)
 cases d with
 | true=>exact ha pins s1 σ H1 D I1 q1
 | false=>exact hb pins s1 σ H1 D I1 q1
end
abbrev TG:=V->St->Hp->(St->Hp->Prop)->Prop
abbrev TGs:=List V->St->Hp->(St->Hp->Prop)->Prop
def PG(X:Cx)(target:Expr)(t:TG):Prop :=
 ∀(pins:List (Addr×Obj)) (s:Shared) (σ:St) (H:Hp) (v:V) (u:Value) (Q:St->Hp->Prop),Inv X pins σ H s->RelV v u->t v σ H Q ->
  wpAny (model X.prog X.w) X.A (assign target X.env u) (fun _ s'=>∃σ' H',Inv X pins σ' H' s'/\Q σ' H') X.xe s
def PGs(X:Cx)(ts:List Expr)(t:TGs):Prop :=
 ∀(pins:List (Addr×Obj)) (s:Shared) (σ:St) (H:Hp) (vs:List V) (us:List Value) (Q:St->Hp->Prop),Inv X pins σ H s->Vals vs us->t vs σ H Q ->
  wpAny (model X.prog X.w) X.A (assignInOrder ((assignEach ts X.env).map (·.2)) us) (fun _ s'=>∃σ' H',Inv X pins σ' H' s'/\Q σ' H') X.xe s
abbrev zqz:=V->V->V->Hp->(Hp->Prop)->Prop
def zrK(X:Cx)(t:zqz):Prop :=
 ∀(pins:List (Addr×Obj)) (s:Shared) (σ:St) (H:Hp) (o i v:V) (ov iv u:Value) (Q:Hp->Prop),Inv X pins σ H s->RelV o ov->RelV i iv->RelV v u->t o i v H Q ->
  wpAny (model X.prog X.w) X.A (setItem ov iv u) (fun _ s'=>∃H',Inv X pins σ H' s'/\Q H') X.xe s
section
variable {X:Cx} {pos:Pos}
def gName(i:Nat):TG:=fun v σ H Q=>Q (σ.set i (some v)) H
theorem zgL{i:Nat}{x:Str}(hN:X.N.Nodup)(hi:X.N[i]?=some x)(hx:Loc X.env.scope x)(hf:X.fn x=true\/X.env.scope.names.lookup x=some .local:=by first|exact .inl rfl|exact .inr rfl|assumption):PG X (.Name x pos) (gName i):=by
 intro pins s σ H v u Q I r h
 exact wpAny_assign_Name (ze1 I hN hi hx r (fun s' I'=>⟨_,H,I',h⟩) hf)
def zsx:TGs:=fun vs σ H Q=>vs=[]/\Q σ H
def zqA(t:TG)(u:TGs):TGs:=fun vs σ H Q=>∃v r,vs=v::r/\t v σ H fun σ' H'=>u r σ' H' Q
theorem zmH:PGs X [] zsx:=by
 intro pins s σ H vs us Q I r h
 obtain⟨e,h⟩:=h
 subst e
 cases r
 exact assignInOrder_nil ⟨σ,H,I,h⟩
theorem zku{e:Expr}{es:List Expr}{t:TG}{u:TGs}(h1:PG X e t)(h2:PGs X es u)(hs:(assignEach (e::es) X.env).map (·.2)=assign e X.env::(assignEach es X.env).map (·.2):=by rfl):PGs X (e::es) (zqA t u):=by
 intro pins s σ H vs us Q I r h
 obtain⟨v,vr,e1,h⟩:=h
 subst e1
 cases r with
 | cons r rr =>
  rw[hs]
  refine assignInOrder_cons (thn (h1 pins s σ H _ _ _ I r h) fun _ s1 ⟨σ1,H1,I1,q1⟩=>?_)
  exact h2 pins s1 σ1 H1 _ _ Q I1 rr q1
def zsy(K:PySem.W.Frag)(n:Nat)(t:TGs):TG:=fun v σ H Q=>∃a xs,v=.ref a/\SqT K H a xs/\xs.length=n/\t xs σ H Q
theorem zoz{es:List Expr}{k:Nat}{t:TGs}{n:Nat}(hc:X.calm=true)(h:PGs X es t)(hn:(assignEach es X.env).length=n:=by rfl)(hst:(assignEach es X.env).findIdx? (·.1)=none:=by rfl):PG X (.Tuple es k pos) (zsy X.K n t):=by
 intro pins s σ H v u Q I r hw
 obtain⟨a,xs,e1,hq,hl,hw⟩:=hw
 subst e1
 cases r
 obtain⟨its,rv,ht,hz⟩:=I.tuple hq
 refine assign_Tuple_tuple (I.ok.hd hc) ht (by simp[hn,<- hl,rv.length]) hst fun h' hx=>?_
 have I1:Inv X pins σ H { s with heap:=h' }:=I.kept (t':=s.toks) fun b o e=>hx b o (Nat.ne_of_lt (Heap.lt_size e)) e
 exact h pins _ σ H xs _ Q I1 (by simpa using rv) hw
def zsz(to ti:TE)(t:zqz):TG:=fun v σ H Q=>to σ H fun o H1=>ti σ H1 fun i H2=>t o i v H2 fun H3=>Q σ H3
theorem zoA{o i:Expr}{to ti:TE}{t:zqz}(ho:PE X o to)(hi:PE X i ti)(hs:zrK X t)(ha:∀v,assign (.Subscript o i pos) X.env v=(do
   let ov <- holding [v] (eval o X.env)
   let iv <- holding [v,ov] (eval i X.env)
   standAt pos
   holding [v,ov,iv] (setItem ov iv v)
   release [v,ov,iv] []):=by intro _;rfl):PG X (.Subscript o i pos) (zsz to ti t):=by
 intro pins s σ H v u Q I r h
 rw[ha]
 refine wpAny_bind (wpAny_holding (thn (ho pins s σ H _ I h) fun ov s1 ⟨x,H1,I1,r1,q1⟩=>?_))
 refine wpAny_bind (wpAny_holding (thn (hi pins s1 σ H1 _ I1 q1) fun iv s2 ⟨y,H2,I2,r2,q2⟩=>?_))
 refine wpAny_bind (wpAny_standAt (wpAny_bind (wpAny_holding (thn (hs pins s2 σ H2 x y v ov iv u _ I2 r1 r2 r q2) fun _ s3 ⟨H3,I3,q3⟩=>?_))))
 exact wpAny_release ⟨σ,H3,I3,q3⟩
def zqB(te:TE)(g:TG):TS:=fun D σ H=>te σ H fun x H1=>g x σ H1 D.nx
theorem zoB{tg e:Expr}{te:TE}{g:TG}(he:PE X e te)(hg:PG X tg g)(hs:swapsWithSole [tg] e pos.line X.env=pure false:=by rfl)(hw:swappedStores [tg] e X.env=pure none:=by rfl)(h1:(assignEach [tg] X.env).map (·.2)=[assign tg X.env]:=by rfl):PS X (.Assign [tg] e pos) (zqB te g):=by
 intro pins s σ H D I h
 refine wpAny_Assign_stores (thn (he pins s σ H _ I h) fun v s1 ⟨x,H1,I1,r1,q1⟩=>?_) hs hw
 rw[h1]
 exact thn (hg pins s1 σ H1 x v _ I1 r1 q1) fun _ s2 q=>q
theorem zoC{i:Nat}{x:Str}{e:Expr}{te:TE}{pos':Pos}(hN:X.N.Nodup)(hi:X.N[i]?=some x)(hx:Loc X.env.scope x)(he:PE X e te)(hs:swapsWith e (some (.Name x pos')) pos.line X.env=pure false:=by rfl)(hf:X.fn x=true\/X.env.scope.names.lookup x=some .local:=by first|exact .inl rfl|exact .inr rfl|assumption) :
  PS X (.Assign [.Name x pos'] e pos) (zqB te (gName i)):=by
 intro pins s σ H D I h
 refine wpAny_Assign_Name (thn (he pins s σ H _ I h) fun v s1 ⟨y,H1,I1,r1,q1⟩=>?_) hs
 exact ze1 I1 hN hi hx r1 (fun s2 I2=>⟨_,H1,I2,q1⟩) hf
end
section
variable {X:Cx} {pos:Pos}
def zoD(c:TT)(tb:TS):TS:=fun D σ H=>∃W:Nat->St->Hp->Prop,(∃m,W m σ H)/\∀m σ H,W m σ H ->
 c σ H fun b H1=>if b=true then ∃N:St->Hp->Prop,(∀σ' H',N σ' H'->∃m',m'<m/\W m' σ' H')/\tb { D with nx:=N,ct:=N,bk:=D.nx } σ H1 else D.nx σ H1
theorem zkv{c:Expr}{body:List Stmt}{tc:TT}{tb:TS}(hp:PassesOwn (model X.prog X.w) X.A X.env X.xe)(hc:PT X c tc)(hb:PSs X body tb):PS X (.While c body [] pos) (zoD tc tb):=by
 intro pins s σ H D I h
 obtain⟨W,⟨m0,w0⟩,turn⟩:=h
 refine wpAny_While (codeAny_whileLoop (fun n s'=>∃σ' H',Inv X pins σ' H' s'/\W n σ' H') ?_ m0 ⟨σ,H,I,w0⟩)
 rintro n s1 ⟨σ1,H1,I1,w1⟩
 refine wpAny_passesOwn hp (thn (hc pins s1 σ1 H1 _ I1 (turn n σ1 H1 w1)) fun b s2 ⟨H2,I2,q2⟩=>?_)
 cases b with
 | true =>
  obtain⟨N,hN,q2⟩:=q2
  rw[if_pos rfl]
  refine wpAny_passesOwn hp (thn (hb pins s2 σ1 H2 _ I2 q2) fun f s3 q3=>?_)
  cases f with
  | next =>
   obtain⟨σ3,H3,I3,n3⟩:=q3
   obtain⟨m',hm,w3⟩:=hN σ3 H3 n3
   exact⟨m',hm,σ3,H3,I3,w3⟩
  | cont =>
   obtain⟨σ3,H3,I3,n3⟩:=q3
   obtain⟨m',hm,w3⟩:=hN σ3 H3 n3
   exact⟨m',hm,σ3,H3,I3,w3⟩
  | brk=>exact q3
  | ret v=>exact q3
 | false =>
  rw[if_neg Bool.false_ne_true]
  exact wpAny_execs_nil ⟨σ1,H2,I2,q2⟩
end
structure It where
 go:Nat->Hp->Prop
 yld:Nat->Hp->V->Hp->Prop
 stop:Nat->Hp->Prop
def zlU(X:Cx)(pins:List (Addr×Obj))(H:Hp)(b:Addr):Prop :=
 H b=none/\b≠X.env.locals/\b∉X.fs/\(b∈X.ex\/X.s₀.heap.objs.size<=b)/\(∀x c,X.env.cells.lookup x=some c->c≠b)/\∀p∈X.pn++pins,p.1≠b
theorem Inv.fpOk{X:Cx}{pins:List (Addr×Obj)}{σ:St}{H H':Hp}{s:Shared}{b:Addr}(I:Inv X pins σ H s)(hb:s.heap.objs.size<=b)(hn:H' b=none):zlU X pins H' b:=by
 refine⟨hn,Nat.ne_of_gt (Nat.lt_of_lt_of_le I.lt hb),I.nofs hb,.inr (Nat.le_trans I.sz hb),fun x c e z=>?_,fun p hp z=>?_⟩
 ·obtain⟨v,q⟩:=I.cell x c e
  exact absurd (Nat.lt_of_lt_of_le q.lt (by rw[z];exact hb)) (Nat.lt_irrefl _)
 ·exact absurd (Nat.lt_of_lt_of_le (Heap.lt_size (I.pin p hp).1) (by rw[z];exact hb)) (Nat.lt_irrefl _)
structure Turn (P:Program) (w:World) (K:PySem.W.Frag) (tg:Expr) (J:It) (fp:List Addr) (it:Addr) (tn:Nat->Heap->Prop):Prop where
 mem:it∈fp
 obj:∀i h,tn i h->∀b∈fp,∃o,h.get? b=some o/\∀v,o.data≠.cell v
 keep:∀i h h',tn i h->(∀b∈fp,∀o,h.get? b=some o->h'.get? b=some o)->tn i h'
 item:∀(X:Cx),X.prog=P->X.w=w->X.K=K->X.calm=true->∀(i:Nat) (pins:List (Addr×Obj)) (s:Shared) (σ:St) (H:Hp) (E:Value->Shared->Prop),Inv X pins σ H s->(∀b∈fp,zlU X pins H b)->tn i s.heap->J.go i H ->
  wpAny (model P w) X.A (pyNext (.ref it)) (fun r s1=>∃u,r=some u /\
   wpAny (model P w) X.A (letOwnedTupleGo tg (.ref it) u) (fun _ s2=>∃x H',Inv X pins σ H' s2/\RelV x u/\J.yld i H x H'/\tn (i+1) s2.heap/\∀b∈fp,H' b=none) E s1) E s
 done:∀(X:Cx),X.prog=P->X.w=w->X.K=K->X.calm=true->∀(i:Nat) (pins:List (Addr×Obj)) (s:Shared) (σ:St) (H:Hp) (E:Value->Shared->Prop),Inv X pins σ H s->(∀b∈fp,zlU X pins H b)->tn i s.heap->J.stop i H ->
  wpAny (model P w) X.A (pyNext (.ref it)) (fun r s1=>r=none/\Inv X pins σ H s1) E s
 self:∀(A:Around) (i:Nat) (s:Shared) (Q:Value->Shared->Prop) (E:Value->Shared->Prop),tn i s.heap->Q (.ref it) s->wpAny (model P w) A (pyIter (.ref it)) Q E s
abbrev TI:=St->Hp->(It->Hp->Prop)->Prop
def PIE(X:Cx)(pins:List (Addr×Obj))(σ:St)(tg:Expr)(R:It->Hp->Prop)(itv:Value)(s2:Shared):Prop :=
 ∃(it:Addr) (fp:List Addr) (tn:Nat->Heap->Prop) (J:It) (H':Hp),itv=.ref it/\Inv X pins σ H' s2/\Turn X.prog X.w X.K tg J fp it tn/\tn 0 s2.heap/\(∀b∈fp,zlU X pins H' b)/\R J H'
def PI(X:Cx)(tg iter:Expr)(wi:TI):Prop :=
 ∀(pins:List (Addr×Obj)) (s:Shared) (σ:St) (H:Hp) (R:It->Hp->Prop),Inv X pins σ H s->wi σ H R ->
  wpAny (model X.prog X.w) X.A (eval iter X.env) (fun v s1=>wpAny (model X.prog X.w) X.A (pyIter v) (PIE X pins σ tg R) X.xe s1) X.xe s
theorem zkw{M:Model}{A:Around}{E:Value->Shared->Prop}{s:Shared}{tg:Expr}{it:Addr}{u:Value}{o:Obj}{n:String}{vs:Array Value}{Q:Unit->Shared->Prop}(ho:s.heap.get? it=some o)(hc:o.cls=.type n)(hd:o.data=.fields vs)(hn:["enumerate", "zip", "dict_itemiterator", "dict_reverseitemiterator", "odict_iterator", "itertools.zip_longest", "itertools.pairwise"].contains n=false)(hQ:Q () s):wpAny M A (letOwnedTupleGo tg (.ref it) u) Q E s:=by
 unfold letOwnedTupleGo
 cases tg<;>first
  | exact wpAny_pure hQ
  | (cases u<;>first
    | exact wpAny_pure hQ
    | (refine wpAny_bind (wpAny_load ho ?_)
       rw[hc,hd]
       show wpAny M A (if (["enumerate", "zip", "dict_itemiterator", "dict_reverseitemiterator", "odict_iterator", "itertools.zip_longest", "itertools.pairwise"].contains n&&vs[0]?==some (rawInt _))=true then _ else _) Q E s
       rw[if_neg (by intro h;rw[hn,Bool.false_and] at h;cases h)]
       exact wpAny_pure hQ))
def Itl(K:PySem.W.Frag)(a:Addr):It :=
 ⟨fun i H=>∃xs x,SqL K H a xs/\xs[i]?=some x,fun i H x H'=>H'=H/\∀xs,SqL K H a xs->xs[i]?=some x,fun i H=>∃xs,SqL K H a xs/\xs.length<=i⟩
def Itt(K:PySem.W.Frag)(a:Addr):It :=
 ⟨fun i H=>∃xs x,SqT K H a xs/\xs[i]?=some x,fun i H x H'=>H'=H/\∀xs,SqT K H a xs->xs[i]?=some x,fun i H=>∃xs,SqT K H a xs/\xs.length<=i⟩
def Itr(lo:Int)(n:Nat):It:=⟨fun i _=>i<n,fun i H x H'=>H'=H/\x=.int (lo+i),fun i _=>n<=i⟩
theorem zfX{P:Program}{w:World}{K:PySem.W.Frag}{tg:Expr}(a it:Addr):Turn P w K tg (Itl K a) [it] it (fun i h=>h.IsListIter it a i) where
 mem:=by simp
 obj:=fun i h st b hb=>by
  have e:b=it:=by simpa using hb
  subst e
  obtain⟨o,e,c,d⟩:=st
  exact⟨o,e,fun v z=>by rw[d] at z;cases z⟩
 keep:=fun i h h' st k=>st.at fun o e=>k it (by simp) o e
 item:=by
  intro X hP hw hK hc i pins s σ H E I hf st hg
  subst hP hw hK
  obtain⟨xs,x,hq,hx⟩:=hg
  obtain⟨its,rv,p,hz⟩:=I.list hq
  obtain⟨u,hu,ru⟩:=rv.get hx
  obtain⟨f0,f1,f2,f3,f4,f5⟩:=hf it (by simp)
  refine wpAny_pyNext_list_item st p.isList (x:=u) (by simpa using hu) fun h' st' sb=>?_
  have I1:Inv X pins σ H { s with heap:=h' }:=I.turned (t':=s.toks) (fun b o hb e=>(sb.2 b hb).trans e) f0 f1 f3 f4 f5
  obtain⟨o,e,c,d⟩:=id st'
  exact⟨u,rfl,zkw (s:={ s with heap:=h' }) e c d (by decide) ⟨x,H,I1,ru,⟨rfl,fun ys hy=>by rw[I.list_inj hy hq];exact hx⟩,st',fun b hb=>(hf b hb).1⟩⟩
 done:=by
  intro X hP hw hK hc i pins s σ H E I hf st hg
  subst hP hw hK
  obtain⟨xs,hq,hx⟩:=hg
  obtain⟨its,rv,p,hz⟩:=I.list hq
  obtain⟨f0,f1,f2,f3,f4,f5⟩:=hf it (by simp)
  have hl:=rv.length
  exact wpAny_pyNext_list_end (I.ok.hd hc) st p.isList (by simp;omega) fun h' eb=>⟨rfl,I.turned (t':=s.toks) (fun b o hb e=>eb b o hb e) f0 f1 f3 f4 f5⟩
 self:=fun _ _ _ _ _ st h=>wpAny_pyIter_listiter st h
theorem zeA{P:Program}{w:World}{K:PySem.W.Frag}{tg:Expr}(a it:Addr):Turn P w K tg (Itt K a) [it] it (fun i h=>h.IsTupleIter it a i) where
 mem:=by simp
 obj:=fun i h st b hb=>by
  have e:b=it:=by simpa using hb
  subst e
  obtain⟨o,e,c,d⟩:=st
  exact⟨o,e,fun v z=>by rw[d] at z;cases z⟩
 keep:=fun i h h' st k=>st.at fun o e=>k it (by simp) o e
 item:=by
  intro X hP hw hK hc i pins s σ H E I hf st hg
  subst hP hw hK
  obtain⟨xs,x,hq,hx⟩:=hg
  obtain⟨its,rv,p,hz⟩:=I.tuple hq
  obtain⟨u,hu,ru⟩:=rv.get hx
  obtain⟨f0,f1,f2,f3,f4,f5⟩:=hf it (by simp)
  refine wpAny_pyNext_tuple_item st (show s.heap.IsTuple a its.toArray from p) (x:=u) (by simpa using hu) fun h' st' sb=>?_
  have I1:Inv X pins σ H { s with heap:=h' }:=I.turned (t':=s.toks) (fun b o hb e=>(sb.2 b hb).trans e) f0 f1 f3 f4 f5
  obtain⟨o,e,c,d⟩:=id st'
  exact⟨u,rfl,zkw (s:={ s with heap:=h' }) e c d (by decide) ⟨x,H,I1,ru,⟨rfl,fun ys hy=>by rw[I.tuple_inj hy hq];exact hx⟩,st',fun b hb=>(hf b hb).1⟩⟩
 done:=by
  intro X hP hw hK hc i pins s σ H E I hf st hg
  subst hP hw hK
  obtain⟨xs,hq,hx⟩:=hg
  obtain⟨its,rv,p,hz⟩:=I.tuple hq
  obtain⟨f0,f1,f2,f3,f4,f5⟩:=hf it (by simp)
  have hl:=rv.length
  exact wpAny_pyNext_tuple_end (I.ok.hd hc) st (show s.heap.IsTuple a its.toArray from p) (by simp;omega) fun h' eb=>⟨rfl,I.turned (t':=s.toks) (fun b o hb e=>eb b o hb e) f0 f1 f3 f4 f5⟩
 self:=fun _ _ _ _ _ st h=>wpAny_pyIter_tupleiter st h
theorem zh3{P:Program}{w:World}{K:PySem.W.Frag}{tg:Expr}(it:Addr)(lo:Int)(n:Nat):Turn P w K tg (Itr lo n) [it] it (fun i h=>IsRangeIter h it (lo+(i:Nat)*1) ((n:Int)-(i:Nat)) 1) where
 mem:=by simp
 obj:=fun i h st b hb=>by
  have e:b=it:=by simpa using hb
  subst e
  exact⟨_,st,fun v z=>by
   have z':Data.fields _=Data.cell v:=z
   cases z'⟩
 keep:=fun i h h' st k=>k it (by simp) _ st
 item:=by
  intro X hP hw hK hc i pins s σ H E I hf st hg
  subst hP hw hK
  obtain⟨f0,f1,f2,f3,f4,f5⟩:=hf it (by simp)
  have W:=Walks.range (prog:=X.prog) (w:=X.w) (I.ok.hd hc) it lo 1 n
  refine W.item i s _ _ hg st fun v h' tk hv st' kk=>?_
  obtain⟨t,rfl⟩:=hv
  have I1:Inv X pins σ H { s with heap:=h',toks:=tk }:=I.turned (fun b o hb e=>kk b o (by simpa using hb) e) f0 f1 f3 f4 f5
  refine⟨_,rfl,zkw (s:={ s with heap:=h',toks:=tk }) (n := "range_iterator") st' rfl rfl (by decide) ⟨.int (lo+i),H,I1,⟨t,?_⟩,⟨rfl,rfl⟩,st',fun b hb=>(hf b hb).1⟩⟩
  rw[Int.mul_one]
 done:=by
  intro X hP hw hK hc i pins s σ H E I hf st hg
  subst hP hw hK
  obtain⟨f0,f1,f2,f3,f4,f5⟩:=hf it (by simp)
  exact wpAny_pyNext_range_end (I.ok.hd hc) st (by have:n<=i:=hg;omega) fun h' eb=>⟨rfl,I.turned (t':=s.toks) (fun b o hb e=>eb b o hb e) f0 f1 f3 f4 f5⟩
 self:=fun _ _ _ _ _ st h=>wpAny_pyIter_rangeiter st h
end L2
namespace L2
open PySem PySem.Spec PyProof.Rows
section
variable {X:Cx} {tg:Expr}
def zqC(K:PySem.W.Frag)(tl:TE):TI:=fun σ H R=>tl σ H fun x H1=>∃a,x=.ref a/\(∃xs,SqL K H1 a xs)/\R (Itl K a) H1
def zsA(K:PySem.W.Frag)(tl:TE):TI:=fun σ H R=>tl σ H fun x H1=>∃a,x=.ref a/\(∃xs,SqT K H1 a xs)/\R (Itt K a) H1
theorem zmI{l:Expr}{tl:TE}(hl:PE X l tl):PI X tg l (zqC X.K tl):=by
 intro pins s σ H R I h
 refine thn (hl pins s σ H _ I h) fun v s1 ⟨x,H1,I1,r1,q1⟩=>?_
 obtain⟨a,e,⟨xs,hq⟩,q⟩:=q1
 subst e
 cases r1
 obtain⟨its,rv,p,hz⟩:=I1.list hq
 refine wpAny_pyIter_list p.isList ?_
 refine⟨s1.heap.objs.size,[s1.heap.objs.size],_,_,H1,rfl,I1.kept (t':=s1.toks) fun b o e=>Heap.get?_push_of_some _ e,zfX a _,⟨_,Heap.get?_push_size _ rfl,rfl,rfl⟩,fun b hb=>?_,q⟩
 have e:b=s1.heap.objs.size:=by simpa using hb
 subst e
 exact I1.fpOk (Nat.le_refl _) (I1.hok.fresh (Nat.le_refl _))
theorem zoE{l:Expr}{tl:TE}(hl:PE X l tl):PI X tg l (zsA X.K tl):=by
 intro pins s σ H R I h
 refine thn (hl pins s σ H _ I h) fun v s1 ⟨x,H1,I1,r1,q1⟩=>?_
 obtain⟨a,e,⟨xs,hq⟩,q⟩:=q1
 subst e
 cases r1
 obtain⟨its,rv,p,hz⟩:=I1.tuple hq
 refine wpAny_pyIter_tuple (show s1.heap.IsTuple a its.toArray from p) ?_
 refine⟨s1.heap.objs.size,[s1.heap.objs.size],_,_,H1,rfl,I1.kept (t':=s1.toks) fun b o e=>Heap.get?_push_of_some _ e,zeA a _,⟨_,Heap.get?_push_size _ rfl,rfl,rfl⟩,fun b hb=>?_,q⟩
 have e:b=s1.heap.objs.size:=by simpa using hb
 subst e
 exact I1.fpOk (Nat.le_refl _) (I1.hok.fresh (Nat.le_refl _))
theorem zkx{pins:List (Addr×Obj)}{σ:St}{H:Hp}{s:Shared}{R:It->Hp->Prop}{E:Value->Shared->Prop}{lo hi:Int}{t u v:Tok}{tk:Nat}(I:Inv X pins σ H s)(h1:-(2 ^ 62)<=lo)(h2:lo<2 ^ 62)(h3:-(2 ^ 62)<=hi)(h4:hi<2 ^ 62)(q:R (Itr lo (hi-lo).toNat) H):wpAny (model X.prog X.w) X.A (pyIter (.ref s.heap.objs.size)) (PIE X pins σ tg R) E { s with heap:=s.heap.push { cls:=.type "range",data:=.fields #[.int lo t,.int hi u,.int 1 v] },toks:=tk }:=by
 refine wpAny_pyIter_range (IsRange.new ..) (small_one h1 h2 h3 h4) ?_
 have I1:Inv X pins σ H { s with heap:=s.heap.push { cls:=.type "range",data:=.fields #[.int lo t,.int hi u,.int 1 v] },toks:=tk }:=I.kept fun b o e=>Heap.get?_push_of_some _ e
 refine⟨(s.heap.push { cls:=.type "range",data:=.fields #[.int lo t,.int hi u,.int 1 v] }).objs.size,[(s.heap.push { cls:=.type "range",data:=.fields #[.int lo t,.int hi u,.int 1 v] }).objs.size],_,_,H,rfl,
  I1.kept (t':=tk) fun b o e=>Heap.get?_push_of_some _ e,zh3 _ lo (hi-lo).toNat,?_,fun b hb=>?_,q⟩
 ·have e1:lo+((0:Nat):Int)*1=lo:=by simp
  have e2:(((hi-lo).toNat:Nat):Int)-((0:Nat):Int)=Builtin.Range.rangeSize lo hi 1:=by rw[rangeSize_one];split<;>omega
  show IsRangeIter _ _ (lo+((0:Nat):Int)*1) ((((hi-lo).toNat:Nat):Int)-((0:Nat):Int)) 1
  rw[e1,e2]
  exact Heap.get?_push_size _ rfl
 ·have e:b=(s.heap.push { cls:=.type "range",data:=.fields #[.int lo t,.int hi u,.int 1 v] }).objs.size:=by simpa using hb
  subst e
  exact I1.fpOk (Nat.le_refl _) (I1.hok.fresh (Nat.le_refl _))
def zqD(ta:TA):TI:=fun σ H R=>ta σ H fun vs H1=>∃j:Int,vs=[.int j]/\-(2 ^ 62)<=j/\j<2 ^ 62/\R (Itr 0 j.toNat) H1
theorem ziR{a:Expr}{ta:TA}{p pos:Pos}(hg:Gl X "range")(hm:X.mg "range" = none)(ha:PA X [a] ta)(hs:starEach [a] X.env=[(false,eval a X.env)]:=by rfl):PI X tg (.Call (.Name "range" p) [a] [] pos) (zqD ta):=by
 intro pins s σ H R I h
 refine Call_ (zhl I hg hm boot_range (PyProof.Rows.callWith_type1 (thn (ha pos pins s σ H _ I h) fun us s1 ⟨vs,H1,I1,r1,q1⟩=>?_) hs rfl))
 obtain⟨j,e,q1,q2,q⟩:=q1
 subst e
 cases r1 with
 | cons r rr =>
  cases rr
  obtain⟨t,rfl⟩:=r
  exact call_range_1 (zkx I1 (by omega) (by omega) q1 q2 (by simpa using q))
def zsB(wi:TI)(g:TG)(tb:TS):TS:=fun D σ H=>wi σ H fun J H1=>∃W:Nat->Nat->St->Hp->Prop,(∃m,W 0 m σ H1)/\∀i m σ H,W i m σ H ->
 (J.stop i H/\D.nx σ H)\/(J.go i H/\∃N:St->Hp->Prop,(∀σ' H',N σ' H'->∃m',m'<m/\W (i+1) m' σ' H')/\∀x H',J.yld i H x H'->g x σ H' fun σ2 H2=>tb { D with nx:=N,ct:=N,bk:=D.nx } σ2 H2)
def zeB(fp:List Addr)(h:Heap):List (Addr×Obj):=fp.filterMap fun b=>(h.get? b).map fun o=>(b,o)
theorem zcu{fp:List Addr}{h:Heap}{b:Addr}{o:Obj}(hb:b∈fp)(e:h.get? b=some o):(b,o)∈zeB fp h:=List.mem_filterMap.mpr ⟨b,hb,by rw[e];rfl⟩
theorem ziS{fp:List Addr}{h:Heap}{p:Addr×Obj}(hp:p∈zeB fp h):p.1∈fp/\h.get? p.1=some p.2:=by
 obtain⟨b,hb,e⟩:=List.mem_filterMap.mp hp
 cases q:h.get? b with
 | none=>rw[q] at e;cases e
 | some o =>
  rw[q] at e
  have e':(b,o)=p:=Option.some.inj e
  subst e'
  exact⟨hb,q⟩
theorem Inv.pinned{pins:List (Addr×Obj)}{σ:St}{H:Hp}{s:Shared}{fp:List Addr}(I:Inv X pins σ H s)(hf:∀b∈fp,zlU X pins H b)(ho:∀b∈fp,∃o,s.heap.get? b=some o/\∀v,o.data≠.cell v):Inv X (pins++zeB fp s.heap) σ H s :=
 I.pins_of fun p hp=>(List.mem_append.mp hp).elim (fun z=>I.pin p (List.mem_append_right _ z)) fun z=>by
  obtain⟨hb,e⟩:=ziS z
  obtain⟨f0,f1,f2,_⟩:=hf p.1 hb
  obtain⟨o,e',d⟩:=ho p.1 hb
  rw[e] at e';cases e'
  exact⟨e,f0,f1,f2,d⟩
theorem Inv.unpinned{pins pl:List (Addr×Obj)}{σ:St}{H:Hp}{s:Shared}(I:Inv X (pins++pl) σ H s):Inv X pins σ H s:=I.pins_of fun p hp=>I.pin p (List.mem_append_right _ (List.mem_append_left _ hp))
theorem zoF{iter:Expr}{body:List Stmt}{wi:TI}{g:TG}{tb:TS}{pos:Pos}(hp:PassesOwn (model X.prog X.w) X.A X.env X.xe)(hc:X.calm=true)(hi:PI X tg iter wi)(hg:PG X tg g)(hb:PSs X body tb)(hs:∀x,foldedSetIterable iter X.env x=pure x:=by intro _;rfl):PS X (.For tg iter body [] pos) (zsB wi g tb):=by
 intro pins s σ H D I h
 refine wpAny_For (thn (hi pins s σ H _ I h) fun v s1 h1=>thn h1 fun itv s2 h2=>?_) hs
 obtain⟨it,fp,tn,J,H2,e,I2,T,st2,f2,W,⟨m0,w0⟩,turn⟩:=h2
 subst e
 have stat:∀{H':Hp},(∀b∈fp,H' b=none)->∀b∈fp,zlU X pins H' b:=fun hn b hb=>⟨hn b hb,(f2 b hb).2⟩
 refine codeAny_forLoop_any (fun n s'=>∃i σ' H',Inv X pins σ' H' s'/\tn i s'.heap/\(∀b∈fp,H' b=none)/\W i n σ' H') ?_ m0 ⟨0,σ,H2,I2,st2,fun b hb=>(f2 b hb).1,w0⟩
 rintro n s3 ⟨i,σ3,H3,I3,st3,fr3,w3⟩
 rcases turn i n σ3 H3 w3 with ⟨stop,qn⟩|⟨go,N,hN,step⟩
 ·refine wpAny_passesOwn hp (thn (T.done X rfl rfl rfl hc i pins s3 σ3 H3 X.xe I3 (stat fr3) st3 stop) fun r s4 ⟨hr,I4⟩=>?_)
  subst hr
  exact wpAny_execs_nil ⟨σ3,H3,I4,qn⟩
 ·refine wpAny_passesOwn hp (thn (T.item X rfl rfl rfl hc i pins s3 σ3 H3 X.xe I3 (stat fr3) st3 go) fun r s4 ⟨u,hr,h4⟩=>?_)
  subst hr
  refine wpAny_passesOwn hp (thn h4 fun _ s5 ⟨x,H5,I5,r5,y5,st5,fr5⟩=>?_)
  have I5':=I5.pinned (stat fr5) (T.obj _ _ st5)
  refine wpAny_passesOwn hp (thn (hg _ s5 σ3 H5 x u _ I5' r5 (step x H5 y5)) fun _ s6 ⟨σ6,H6,I6,q6⟩=>?_)
  refine wpAny_passesOwn hp (thn (hb _ s6 σ6 H6 _ I6 q6) fun f s7 q7=>?_)
  have again:∀{σ7:St} {H7:Hp},Inv X (pins++zeB fp s5.heap) σ7 H7 s7->N σ7 H7->∃m,m<n/\∃i σ' H',Inv X pins σ' H' s7/\tn i s7.heap/\(∀b∈fp,H' b=none)/\W i m σ' H':=fun {σ7 H7} I7 n7=>by
   obtain⟨m',hm,w7⟩:=hN σ7 H7 n7
   refine⟨m',hm,i+1,σ7,H7,I7.unpinned,T.keep _ _ _ st5 fun b hb o e=>(I7.pin (b,o) (List.mem_append_right _ (List.mem_append_right _ (zcu hb e)))).1,fun b hb=>?_,w7⟩
   obtain⟨o,e,d⟩:=T.obj _ _ st5 b hb
   exact(I7.pin (b,o) (List.mem_append_right _ (List.mem_append_right _ (zcu hb e)))).2.1
  cases f with
  | next=>obtain⟨σ7,H7,I7,n7⟩:=q7;exact again I7 n7
  | cont=>obtain⟨σ7,H7,I7,n7⟩:=q7;exact again I7 n7
  | brk=>obtain⟨σ7,H7,I7,q7⟩:=q7;exact⟨σ7,H7,I7.unpinned,q7⟩
  | ret v=>obtain⟨x7,σ7,H7,I7,r7,q7⟩:=q7;exact⟨x7,σ7,H7,I7.unpinned,r7,q7⟩
end
end L2
namespace L2
open PySem PySem.Spec PyProof.Rows
abbrev R2:=V->V->Hp->VK->Prop
def OpR(X:Cx)(f:Value->Value->Sem Value)(r:R2):Prop :=
 ∀(pins:List (Addr×Obj)) (s:Shared) (σ:St) (H:Hp) (x y:V) (v u:Value) (Q:VK),Inv X pins σ H s->RelV x v->RelV y u->r x y H Q ->
  wpAny (model X.prog X.w) X.A (f v u) (EP X pins σ Q) X.xe s
def UnR(X:Cx)(f:Value->Sem Value)(r:V->Hp->VK->Prop):Prop :=
 ∀(pins:List (Addr×Obj)) (s:Shared) (σ:St) (H:Hp) (x:V) (v:Value) (Q:VK),Inv X pins σ H s->RelV x v->r x H Q ->
  wpAny (model X.prog X.w) X.A (f v) (EP X pins σ Q) X.xe s
def CallR(X:Cx)(f:Value)(r:List V->Hp->VK->Prop):Prop :=
 ∀(pins:List (Addr×Obj)) (s:Shared) (σ:St) (H:Hp) (xs:List V) (us:List Value) (Q:VK),Inv X pins σ H s->Vals xs us->r xs H Q ->
  wpAny (model X.prog X.w) X.A (call f us) (EP X pins σ Q) X.xe s
def zsC(X:Cx)(r:V->Hp->(Bool->Hp->Prop)->Prop):Prop :=
 ∀(pins:List (Addr×Obj)) (s:Shared) (σ:St) (H:Hp) (x:V) (v:Value) (Q:Bool->Hp->Prop),Inv X pins σ H s->RelV x v->r x H Q ->
  wpAny (model X.prog X.w) X.A (truthy v) (TP X pins σ Q) X.xe s
def tOp(r:R2)(ta tb:TE):TE:=fun σ H Q=>ta σ H fun x H1=>tb σ H1 fun y H2=>r x y H2 Q
def tUn(r:V->Hp->VK->Prop)(ta:TE):TE:=fun σ H Q=>ta σ H fun x H1=>r x H1 Q
def rI(C:Int->Int->Prop)(g:Int->Int->V):R2:=fun x y H Q=>∃i j,x=.int i/\y=.int j/\C i j/\Q (g i j) H
def rI0(g:Int->Int->V):R2:=fun x y H Q=>∃i j,x=.int i/\y=.int j/\Q (g i j) H
def rU(g:Int->V):V->Hp->VK->Prop:=fun x H Q=>∃i,x=.int i/\Q (g i) H
section
variable {X:Cx} {a b c:Expr} {ta tb tc:TE} {pos:Pos}
theorem zqE(ha:PE X a ta)(hb:PE X b tb){pins:List (Addr×Obj)}{s:Shared}{σ:St}{H:Hp}{R:V->V->Hp->Prop}(I:Inv X pins σ H s)(h:ta σ H fun x H1=>tb σ H1 fun y H2=>R x y H2){Q:Value->Shared->Prop}{f:Value->Value->Sem Value}(hf:∀v u s2 x y H2,Inv X pins σ H2 s2->RelV x v->RelV y u->R x y H2->wpAny (model X.prog X.w) X.A (f v u) Q X.xe s2) :
  wpAny (model X.prog X.w) X.A (eval a X.env) (fun v s₁=>wpAny (model X.prog X.w) X.A (eval b X.env) (fun u s₂=>wpAny (model X.prog X.w) X.A (f v u) Q X.xe s₂) X.xe s₁) X.xe s:=by
 refine thn (ha pins s σ H _ I h) fun v s1 ⟨x,H1,I1,r1,q1⟩=>?_
 refine thn (hb pins s1 σ H1 _ I1 q1) fun u s2 ⟨y,H2,I2,r2,q2⟩=>?_
 exact hf v u s2 x y H2 I2 r1 r2 q2
theorem zmJ{op:Operator}{r:R2}(ho:OpR X (binaryOp op) r)(ha:PE X a ta)(hb:PE X b tb):PE X (.BinOp a op b pos) (tOp r ta tb):=by
 intro pins s σ H Q I h
 exact wpAny_BinOp (zqE ha hb I h fun v u s2 x y H2 I2 rx ry q=>ho pins s2 σ H2 x y v u Q I2 rx ry q)
theorem zqF{op:UnaryOp}{r:V->Hp->VK->Prop}(ho:UnR X (unaryOp op) r)(ha:PE X a ta):PE X (.UnaryOp op a pos) (tUn r ta):=by
 intro pins s σ H Q I h
 exact UnaryOp_ (thn (ha pins s σ H _ I h) fun v s1 ⟨x,H1,I1,r1,q1⟩=>ho pins s1 σ H1 x v Q I1 r1 q1)
theorem opI{f:Value->Value->Sem Value}{C:Int->Int->Prop}{g:Int->Int->Int}(rule:∀(i j:Int) (t u:Tok) (s:Shared) (Q:Value->Shared->Prop) (E:Value->Shared->Prop),C i j->Q (.int (g i j) s.toks) { s with toks:=s.toks+1 }->wpAny (model X.prog X.w) X.A (f (.int i t) (.int j u)) Q E s) :
  OpR X f (rI C fun i j=>.int (g i j)):=by
 intro pins s σ H x y v u Q I rx ry h
 obtain⟨i,j,rfl,rfl,hc,q⟩:=h
 obtain⟨t,rfl⟩:=rx
 obtain⟨t',rfl⟩:=ry
 exact rule i j t t' s _ _ hc ⟨.int (g i j),H,I.tok _,⟨_,rfl⟩,q⟩
theorem zrL{f:Value->Value->Sem Value}{g:Int->Int->Int}(rule:∀(i j:Int) (t u:Tok) (s:Shared) (Q:Value->Shared->Prop) (E:Value->Shared->Prop),Q (.int (g i j) s.toks) { s with toks:=s.toks+1 }->wpAny (model X.prog X.w) X.A (f (.int i t) (.int j u)) Q E s) :
  OpR X f (rI0 fun i j=>.int (g i j)):=by
 intro pins s σ H x y v u Q I rx ry h
 obtain⟨i,j,rfl,rfl,q⟩:=h
 obtain⟨t,rfl⟩:=rx
 obtain⟨t',rfl⟩:=ry
 exact rule i j t t' s _ _ ⟨.int (g i j),H,I.tok _,⟨_,rfl⟩,q⟩
theorem zqj{f:Value->Value->Sem Value}{g:Int->Int->Bool}(rule:∀(i j:Int) (t u:Tok) (s:Shared) (Q:Value->Shared->Prop) (E:Value->Shared->Prop),Q (.bool (g i j)) s->wpAny (model X.prog X.w) X.A (f (.int i t) (.int j u)) Q E s) :
  OpR X f (rI0 fun i j=>.bl (g i j)):=by
 intro pins s σ H x y v u Q I rx ry h
 obtain⟨i,j,rfl,rfl,q⟩:=h
 obtain⟨t,rfl⟩:=rx
 obtain⟨t',rfl⟩:=ry
 exact rule i j t t' s _ _ ⟨.bl (g i j),H,I,rfl,q⟩
def zqG(i j:Int):Prop:=0<j/\j<1073741824
def zrM(i j:Int):Prop:=0<=j/\j<=1000000/\i.natAbs<2 ^ 64
def CMul(i j:Int):Prop:=(-(2 ^ 64)<i/\i<2 ^ 64)\/(-(2 ^ 64)<j/\j<2 ^ 64)
theorem CMul.ok{i j:Int}(h:CMul i j):IntMulOk i j:=by
 rcases h with ⟨h1,h2⟩|⟨h1,h2⟩
 ·exact .of_left (intBits_le_64 h1 h2)
 ·exact .of_right (intBits_le_64 h1 h2)
theorem zoG:OpR X (binaryOp .Add) (rI0 fun i j=>.int (i+j)):=zrL fun _ _ _ _ _ _ _ q=>add_int q
theorem zoH:OpR X (binaryOp .Sub) (rI0 fun i j=>.int (i-j)):=zrL fun _ _ _ _ _ _ _ q=>sub_int q
theorem zoI:OpR X (binaryOp .Mult) (rI CMul fun i j=>.int (i*j)):=opI fun _ _ _ _ _ _ _ hc q=>mul_int q hc.ok
theorem zmK:OpR X (binaryOp .FloorDiv) (rI zqG fun i j=>.int (i / j)):=opI fun i j _ _ _ _ _ hc q=>by
 have h1:(0:Int)<j:=hc.1
 have h2:j<1073741824:=hc.2
 exact floordiv_int (by omega) (by rw[Int.fdiv_eq_ediv_of_nonneg i (by omega)];exact q) (.inl (PyProof.noPylong_small (by omega)))
theorem zoJ:OpR X (binaryOp .Mod) (rI (fun _ j=>0<j) fun i j=>.int (i % j)):=opI fun i j _ _ _ _ _ hc q=>by
 have h1:(0:Int)<j:=hc
 exact mod_int' (by omega) (by rw[Int.fmod_eq_emod_of_nonneg i (by omega)];exact q)
theorem zoK:OpR X (binaryOp .Pow) (rI zrM fun i j=>.int (i ^ j.toNat)):=opI fun _ _ _ _ _ _ _ hc q=>pow_int_small hc.1 hc.2.1 hc.2.2 q
theorem unI{f:Value->Sem Value}{g:Int->Int}(rule:∀(i:Int) (t:Tok) (s:Shared) (Q:Value->Shared->Prop) (E:Value->Shared->Prop),Q (.int (g i) s.toks) { s with toks:=s.toks+1 }->wpAny (model X.prog X.w) X.A (f (.int i t)) Q E s) :
  UnR X f (rU fun i=>.int (g i)):=by
 intro pins s σ H x v Q I rx h
 obtain⟨i,rfl,q⟩:=h
 obtain⟨t,rfl⟩:=rx
 exact rule i t s _ _ ⟨.int (g i),H,I.tok _,⟨_,rfl⟩,q⟩
theorem zoL:UnR X (unaryOp .USub) (rU fun i=>.int (-i)):=unI fun _ _ _ _ _ q=>neg_int q
end
def zrN:V->V->Bool
 | .non,.non=>true|.non,.int _=>true|.int _,.non=>true|.non,.bl _=>true|.bl _,.non=>true|.non,.str _=>true|.str _,.non=>true
 | .int _,.int _=>true|.bl _,.bl _=>true|.str _,.str _=>true|.byt _,.byt _=>true
 | .int _,.str _=>true|.str _,.int _=>true|.bl _,.str _=>true|.str _,.bl _=>true
 | _,_=>false
def rEq:R2:=fun x y H Q=>zrN x y=true/\Q (.bl (decide (x=y))) H
def rNe:R2:=fun x y H Q=>zrN x y=true/\Q (.bl (!decide (x=y))) H
theorem ziT{i j:Int}:decide (V.int i=V.int j)=(i==j):=by
 rw[Bool.eq_iff_iff]
 simp
theorem zlV{i j:Bool}:decide (V.bl i=V.bl j)=(i==j):=by
 rw[Bool.eq_iff_iff]
 simp
theorem ziU{i j:Str}:decide (V.str i=V.str j)=(i==j):=by
 rw[Bool.eq_iff_iff]
 simp
theorem ziV{i j:Array UInt8}:decide (V.byt i=V.byt j)=(i.toList==j.toList):=by
 rw[Bool.eq_iff_iff]
 cases i
 cases j
 simp
section
variable {X:Cx} {a b c:Expr} {ta tb tc:TE} {pos:Pos}
theorem zaN{pins:List (Addr×Obj)}{σ:St}{H:Hp}{s:Shared}{Q:VK}{k k':Bool}(I:Inv X pins σ H s)(q:Q (.bl k) H)(e:k=k'):EP X pins σ Q (.bool k') s:=by
 subst e
 exact⟨.bl k,H,I,rfl,q⟩
theorem zqH:OpR X (compareOp .Eq) rEq:=by
 intro pins s σ H x y v u Q I rx ry h
 obtain⟨hs,q⟩:=h
 cases x with
 | non =>
  cases rx
  cases y with
  | non=>cases ry;exact PySem.EqNone.eq_none_none (zaN I q (by simp))
  | bl j=>cases ry;exact PySem.EqNone.eq_none_bool (zaN I q (by simp))
  | int j=>obtain⟨t',rfl⟩:=ry;exact PySem.EqNone.eq_none_int (zaN I q (by simp))
  | str j=>obtain⟨t',rfl⟩:=ry;exact PySem.EqNone.eq_none_str (zaN I q (by simp))
  | _=>exact absurd (show false=true from hs) Bool.false_ne_true
 | bl i =>
  cases rx
  cases y with
  | non=>cases ry;exact PySem.EqNone.eq_bool_none (zaN I q (by simp))
  | bl j=>cases ry;exact eq_bool (zaN I q zlV)
  | str j=>obtain⟨t',rfl⟩:=ry;exact PySem.EqMixed.eq_bool_str (zaN I q (by simp))
  | _=>exact absurd (show false=true from hs) Bool.false_ne_true
 | int i =>
  obtain⟨t,rfl⟩:=rx
  cases y with
  | non=>cases ry;exact PySem.EqNone.eq_int_none (zaN I q (by simp))
  | int j=>obtain⟨t',rfl⟩:=ry;exact eq_int (zaN I q ziT)
  | str j=>obtain⟨t',rfl⟩:=ry;exact PySem.EqMixed.eq_int_str (zaN I q (by simp))
  | _=>exact absurd (show false=true from hs) Bool.false_ne_true
 | str i =>
  obtain⟨t,rfl⟩:=rx
  cases y with
  | non=>cases ry;exact PySem.EqNone.eq_str_none (zaN I q (by simp))
  | bl j=>cases ry;exact PySem.EqMixed.eq_str_bool (zaN I q (by simp))
  | int j=>obtain⟨t',rfl⟩:=ry;exact PySem.EqMixed.eq_str_int (zaN I q (by simp))
  | str j=>obtain⟨t',rfl⟩:=ry;exact eq_str (zaN I q ziU)
  | _=>exact absurd (show false=true from hs) Bool.false_ne_true
 | byt i =>
  obtain⟨t,rfl⟩:=rx
  cases y with
  | byt j=>obtain⟨t',rfl⟩:=ry;exact PySem.W.eq_bytes (zaN I q ziV)
  | _=>exact absurd (show false=true from hs) Bool.false_ne_true
 | _=>cases y<;>exact absurd (show false=true from hs) Bool.false_ne_true
theorem zqI:OpR X (compareOp .NotEq) rNe:=by
 intro pins s σ H x y v u Q I rx ry h
 obtain⟨hs,q⟩:=h
 cases x with
 | non =>
  cases rx
  cases y with
  | non=>cases ry;exact PySem.EqNone.ne_none_none (zaN I q (by simp))
  | bl j=>cases ry;exact PySem.EqNone.ne_none_bool (zaN I q (by simp))
  | int j=>obtain⟨t',rfl⟩:=ry;exact PySem.EqNone.ne_none_int (zaN I q (by simp))
  | str j=>obtain⟨t',rfl⟩:=ry;exact PySem.EqNone.ne_none_str (zaN I q (by simp))
  | _=>exact absurd (show false=true from hs) Bool.false_ne_true
 | bl i =>
  cases rx
  cases y with
  | non=>cases ry;exact PySem.EqNone.ne_bool_none (zaN I q (by simp))
  | bl j=>cases ry;exact ne_bool (zaN I q (congrArg not zlV))
  | str j=>obtain⟨t',rfl⟩:=ry;exact PySem.EqMixed.ne_bool_str (zaN I q (by simp))
  | _=>exact absurd (show false=true from hs) Bool.false_ne_true
 | int i =>
  obtain⟨t,rfl⟩:=rx
  cases y with
  | non=>cases ry;exact PySem.EqNone.ne_int_none (zaN I q (by simp))
  | int j=>obtain⟨t',rfl⟩:=ry;exact ne_int (zaN I q (congrArg not ziT))
  | str j=>obtain⟨t',rfl⟩:=ry;exact PySem.EqMixed.ne_int_str (zaN I q (by simp))
  | _=>exact absurd (show false=true from hs) Bool.false_ne_true
 | str i =>
  obtain⟨t,rfl⟩:=rx
  cases y with
  | non=>cases ry;exact PySem.EqNone.ne_str_none (zaN I q (by simp))
  | bl j=>cases ry;exact PySem.EqMixed.ne_str_bool (zaN I q (by simp))
  | int j=>obtain⟨t',rfl⟩:=ry;exact PySem.EqMixed.ne_str_int (zaN I q (by simp))
  | str j=>obtain⟨t',rfl⟩:=ry;exact ne_str (zaN I q (congrArg not ziU))
  | _=>exact absurd (show false=true from hs) Bool.false_ne_true
 | byt i =>
  obtain⟨t,rfl⟩:=rx
  cases y with
  | byt j=>obtain⟨t',rfl⟩:=ry;exact PySem.W.ne_bytes (zaN I q (congrArg not ziV))
  | _=>exact absurd (show false=true from hs) Bool.false_ne_true
 | _=>cases y<;>exact absurd (show false=true from hs) Bool.false_ne_true
theorem zqJ:OpR X (compareOp .Lt) (rI0 fun i j=>.bl (decide (i<j))):=zqj fun _ _ _ _ _ _ _ q=>lt_int q
theorem zoM:OpR X (compareOp .LtE) (rI0 fun i j=>.bl (decide (i<=j))):=zqj fun _ _ _ _ _ _ _ q=>le_int q
theorem zoN:OpR X (compareOp .Gt) (rI0 fun i j=>.bl (decide (j<i))):=zqj fun _ _ _ _ _ _ _ q=>gt_int q
theorem zqK:OpR X (compareOp .GtE) (rI0 fun i j=>.bl (decide (j<=i))):=zqj fun _ _ _ _ _ _ _ q=>ge_int q
theorem zcl(b:Expr){op:CmpOp}(h:op≠.In:=by decide)(h2:op≠.NotIn:=by decide):behindInMarks op b=false:=by
 have e1:(op==CmpOp.In)=false:=by cases op<;>first|rfl|exact absurd rfl h
 have e2:(op==CmpOp.NotIn)=false:=by cases op<;>first|rfl|exact absurd rfl h2
 cases b<;>simp[behindInMarks,e1,e2]
theorem zgM{op:CmpOp}{r:R2}(ho:OpR X (compareOp op) r)(ha:PE X a ta)(hb:PE X b tb)(hm:behindInMarks op b=false):PE X (.Compare a [op] [b] pos) (tOp r ta tb):=by
 intro pins s σ H Q I h
 exact wpAny_Compare1 (zqE ha hb I h fun v u s2 x y H2 I2 rx ry q=>ho pins s2 σ H2 x y v u Q I2 rx ry q) hm
def zqL(t:TE):TT:=fun σ H Q=>t σ H fun x H'=>∃k,x=.bl k/\Q k H'
theorem zmL{op:CmpOp}{r:R2}(ho:OpR X (compareOp op) r)(ha:PE X a ta)(hb:PE X b tb)(hm:behindInMarks op b=false):PT X (.Compare a [op] [b] pos) (zqL (tOp r ta tb)):=by
 intro pins s σ H Q I h
 refine wpAny_isTrue_Compare1 (thn (ha pins s σ H _ I h) fun v s1 ⟨x,H1,I1,r1,q1⟩=>thn (hb pins s1 σ H1 _ I1 q1) fun u s2 ⟨y,H2,I2,r2,q2⟩ =>
  thn (ho pins s2 σ H2 x y v u _ I2 r1 r2 q2) fun c s3 ⟨z,H3,I3,r3,k,e,q3⟩=>?_) hm
 subst e
 cases r3
 exact wpAny_truthy_bool ⟨H3,I3,q3⟩
def zlW(r r':R2)(ta tb tc:TE):TE:=fun σ H Q=>ta σ H fun x H1=>tb σ H1 fun y H2=>r x y H2 fun z H3=>∃k,z=.bl k /\
 (if k=true then tc σ H3 fun w' H4=>r' y w' H4 Q else Q (.bl false) H3)
theorem zky{op op':CmpOp}{r r':R2}(ho:OpR X (compareOp op) r)(ho':OpR X (compareOp op') r')(ha:PE X a ta)(hb:PE X b tb)(hc:PE X c tc)(hm:lastMarks [op,op'] [b,c]=false:=by with_unfolding_all rfl):PE X (.Compare a [op,op'] [b,c] pos) (zlW r r' ta tb tc):=by
 intro pins s σ H Q I h
 refine Compare_chain (thn (ha pins s σ H _ I h) fun v s1 ⟨x,H1,I1,r1,q1⟩=>chain_link (thn (hb pins s1 σ H1 _ I1 q1) fun u s2 ⟨y,H2,I2,r2,q2⟩ =>
  thn (ho pins s2 σ H2 x y v u _ I2 r1 r2 q2) fun d s3 ⟨z,H3,I3,r3,k,e,q3⟩=>?_)) hm
 subst e
 cases r3
 refine wpAny_truthy_bool ?_
 cases k with
 | false=>exact ite_ff ⟨.bl false,H3,I3,rfl,q3⟩
 | true=>exact ite_tt (chain_last (thn (hc pins s3 σ H3 _ I3 q3) fun w' s4 ⟨z',H4,I4,r4,q4⟩=>ho' pins s4 σ H4 y z' u w' Q I4 r2 r4 q4))
def zqk(K:PySem.W.Frag)(x:V)(H:Hp)(k:Bool):Prop :=
 match x with
 | .non=>k=false
 | .bl b=>k=b
 | .int i=>k=(i != 0)
 | .str y=>y.length<=sizeLine/\k=((y.length:Int) != 0)
 | .byt y=>y.size<=sizeLine/\k=((y.size:Int) != 0)
 | .ref p=>(∃xs,SqL K H p xs/\k=!xs.isEmpty)\/(∃xs,SqT K H p xs/\k=!xs.isEmpty)\/∃kvs,H p=some (.dK kvs)/\k=!kvs.isEmpty
 | _=>False
theorem zh4{κ:Type}{kvs:List (κ×V)}{vs:List (κ×Value)}(r:KV kvs vs):(!vs.isEmpty)=!kvs.isEmpty:=by
 cases r<;>rfl
theorem zeC{xs:List V}{its:List Value}(r:Vals xs its):(!its.toArray.isEmpty)=!xs.isEmpty:=by
 cases r<;>simp
theorem zfY:(sizeLine:Nat)<2 ^ 63:=by rw[sizeLine_eq];decide
theorem zoO:zsC X (fun x H Q=>∃k,zqk X.K x H k/\Q k H):=by
 intro pins s σ H x v Q I rx h
 obtain⟨k,e,q⟩:=h
 have hl:=zfY
 have hs:sizeLine=16777216:=sizeLine_eq
 cases x with
 | non =>
  cases rx
  have e':k=false:=e
  subst e'
  exact truthy_none ⟨H,I,q⟩
 | bl b =>
  cases rx
  have e':k=b:=e
  subst e'
  exact wpAny_truthy_bool ⟨H,I,q⟩
 | int i =>
  obtain⟨t,rfl⟩:=rx
  have e':k=(i != 0):=e
  subst e'
  exact PySem.P.truthy_int ⟨H,I,q⟩
 | str y =>
  obtain⟨t,rfl⟩:=rx
  obtain⟨hy,e'⟩:y.length<=sizeLine/\k=((y.length:Int) != 0):=e
  subst e'
  exact PySem.P.truthy_str (by omega) ⟨H,I.tok _,q⟩
 | byt y =>
  obtain⟨t,rfl⟩:=rx
  obtain⟨hy,e'⟩:y.size<=sizeLine/\k=((y.size:Int) != 0):=e
  subst e'
  exact PySem.W.truthy_bytes (by omega) ⟨H,I.tok _,q⟩
 | ref p =>
  cases rx
  have e':(∃xs,SqL X.K H p xs/\k=!xs.isEmpty)\/(∃xs,SqT X.K H p xs/\k=!xs.isEmpty)\/∃kvs,H p=some (.dK kvs)/\k=!kvs.isEmpty:=e
  rcases e' with ⟨xs,hx,e'⟩|⟨xs,hx,e'⟩|⟨kvs,hx,e'⟩
  ·subst e'
   obtain⟨its,r,pl,hz⟩:=I.list hx
   have hlen:=r.length
   exact wpAny_truthy_list pl.isList (by simp only[List.size_toArray];omega) ⟨H,I.tok _,by rw[zeC r];exact q⟩
  ·subst e'
   obtain⟨its,r,pl,hz⟩:=I.tuple hx
   have hlen:=r.length
   exact truthy_tuple pl (by simp only[List.size_toArray];omega) ⟨H,I.tok _,by rw[zeC r];exact q⟩
  ·subst e'
   obtain⟨hz,hS,vs,r,m⟩:kvs.length<=sizeLine/\(p==sysModules)=false/\∃vs,KV kvs vs/\s.heap.DictOf (zaI X.prog X.w) p vs:=I.hok p _ hx
   have hlen:kvs.length=vs.length:=Paired.length r
   exact wpAny_truthy_dict hS m (by omega) ⟨H,I.tok _,by rw[zh4 r];exact q⟩
 | _=>exact(show False from e).elim
theorem zkz(ha:PE X a ta)(he:∀whole,isTrue a X.env whole=(do let v <- whole;standAt a.pos;holding [v] (truthy v))) :
  PT X a (fun σ H Q=>ta σ H fun x H'=>∃k,zqk X.K x H' k/\Q k H'):=by
 intro pins s σ H Q I h
 exact isTrue_plain (thn (ha pins s σ H _ I h) fun v s1 ⟨x,H1,I1,r1,q1⟩=>zoO pins s1 σ H1 x v Q I1 r1 q1) (he _)
theorem ze2{x:V}{us:List Value}(r:Vals [x] us):∃u,us=[u]/\RelV x u:=by
 cases r with
 | cons r1 r2=>cases r2;exact⟨_,rfl,r1⟩
theorem zkA{x y:V}{us:List Value}(r:Vals [x,y] us):∃u w',us=[u,w']/\RelV x u/\RelV y w':=by
 cases r with
 | cons r1 r2 =>
  cases r2 with
  | cons r3 r4=>cases r4;exact⟨_,_,rfl,r1,r3⟩
def zrO(K:PySem.W.Frag)(x:V)(H:Hp)(n:Nat):Prop :=
 match x with
 | .str y=>y.length<=sizeLine/\n=y.length
 | .byt y=>y.size<=sizeLine/\n=y.size
 | .ref p=>(∃xs,SqL K H p xs/\n=xs.length)\/∃xs,SqT K H p xs/\n=xs.length
 | _=>False
theorem zkB:CallR X (.builtin "len") (fun xs H Q=>∃x n,xs=[x]/\zrO X.K x H n/\Q (.int n) H):=by
 intro pins s σ H xs us Q I r h
 obtain⟨x,n,rfl,e,q⟩:=h
 obtain⟨u,rfl,rx⟩:=ze2 r
 have hl:=zfY
 have hs:sizeLine=16777216:=sizeLine_eq
 cases x with
 | str y =>
  obtain⟨t,rfl⟩:=rx
  obtain⟨hy,e'⟩:y.length<=sizeLine/\n=y.length:=e
  subst e'
  exact len_str (by omega) ⟨.int _,H,I.tok _,⟨_,rfl⟩,q⟩
 | byt y =>
  obtain⟨t,rfl⟩:=rx
  obtain⟨hy,e'⟩:y.size<=sizeLine/\n=y.size:=e
  subst e'
  exact PySem.W.len_bytes (by omega) ⟨.int _,H,I.tok _,⟨_,rfl⟩,q⟩
 | ref p =>
  cases rx
  have e':(∃xs,SqL X.K H p xs/\n=xs.length)\/∃xs,SqT X.K H p xs/\n=xs.length:=e
  rcases e' with ⟨xs,hx,e'⟩|⟨xs,hx,e'⟩
  ·subst e'
   obtain⟨its,r',pl,hz⟩:=I.list hx
   have hlen:=r'.length
   exact Calls.call_len_list pl.isList (by simp only[List.size_toArray];omega) ⟨.int xs.length,H,I.tok _,⟨_,by simp only[List.size_toArray];rw[hlen]⟩,q⟩
  ·subst e'
   obtain⟨its,r',pl,hz⟩:=I.tuple hx
   have hlen:=r'.length
   exact len_tuple pl (by simp only[List.size_toArray];omega) ⟨.int xs.length,H,I.tok _,⟨_,by simp only[List.size_toArray];rw[hlen]⟩,q⟩
 | _=>exact(show False from e).elim
end
end L2
namespace L2
open PySem PySem.Spec PyProof.Rows
structure ObjM (h:Heap) (x dx C:Addr) (mA:Str->Option Value):Prop where
 obj:h.get? x=some (PySem.W.instObj C dx)
 ns:h.Ns1 dx mA
 ne:dx≠x
theorem ziW{h:Heap}{dx:Addr}{mA:Str->Option Value}(n:h.Ns1 dx mA):∃od,h.get? dx=some od/\∀name,PySem.W.lookIn name od=some (mA name):=by
 obtain⟨o,es,ep,ho,hd,hk,_,hm⟩:=n
 refine⟨o,ho,fun name=>?_⟩
 have e:=hm name
 unfold nsFind findBy at e
 rw[<- Array.find?_toList] at e
 unfold PySem.W.lookIn
 rw[hd]
 dsimp only
 split
 ·rename_i y q
  rw[q] at e
  exact congrArg some e
 ·rename_i q
  rw[q] at e
  have a:es.toList.any (·.refKey)=false:=by
   rw[List.any_eq_false]
   intro y hy
   obtain⟨z,t,hkey⟩:=hk y (Array.mem_toList_iff.mp hy)
   simp[DictEntry.refKey,hkey]
  have a':¬es.toList.any (·.refKey)=true:=by rw[a];exact Bool.false_ne_true
  rw[if_neg a']
  exact congrArg some e
theorem ObjM.look{h:Heap}{x dx C:Addr}{mA:Str->Option Value}(I:ObjM h x dx C mA):∃od,PySem.W.InstAt h x (PySem.W.instObj C dx) C (some od)/\∀name,PySem.W.lookIn name od=some (mA name) :=
 let ⟨od,ho,hl⟩:=ziW I.ns
 ⟨od,⟨I.obj,rfl,rfl,ho⟩,hl⟩
section
variable {prog:Program} {w:World} {A:Around} {E:Value->Shared->Prop} {s:Shared} {K:PySem.W.Frag} {x dx C f:Addr} {mA:Str->Option Value} {name:Str} {v:Value}
theorem zmM{expr:Bool}{Q:Value->Shared->Prop}(X:K.In s.heap)(I:ObjM s.heap x dx C mA)(hg:PySem.W.plainGet K C name=true)(hh:PySem.W.hasDictIn K C=true)(ha:PySem.W.findIn K (.ref C) name=some none)(hv:mA name=some v)(hv':PySem.W.handedIn v=true)(h:Q v { s with toks:=s.toks+1 }) :
  wpAny (model prog w) A (getAttr (.ref x) name expr) Q E s:=by
 obtain⟨od,J,hl⟩:=I.look
 exact PySem.W.get_value X J (PySem.W.plainGet_of hg).1 (PySem.W.findObj_own hh ha rfl (by rw[hl,hv])) hv' h
theorem zkC{pl:Sem Bool}{Q:Value×List Value->Shared->Prop}(X:K.In s.heap)(I:ObjM s.heap x dx C mA)(hg:PySem.W.plainGet K C name=true)(hf:PySem.W.findIn K (.ref C) name=some (some (.ref f)))(ht:PySem.W.isFn K (.ref f)=true)(hv:mA name=none)(h:Q (.ref f,[.ref x]) s) :
  wpAny (model prog w) A (getMethod (.ref x) name pl) Q E s:=by
 obtain⟨od,J,hl⟩:=I.look
 exact PySem.W.method_fn X J (PySem.W.plainGet_of hg).1 (PySem.W.plainGet_of hg).2 hf (beq_iff_eq.mp ht) (by show(PySem.W.lookIn name od).map (·.isSome)=some false;rw[hl,hv];rfl) h
theorem zmN{ns:List Str}{Q:Unit->Shared->Prop}(X:K.In s.heap)(I:ObjM s.heap x dx C mA)(hs:PySem.W.findIn K (.ref C) "__setattr__" = some (some (.builtin "object.__setattr__")))(hp:PySem.W.plainOver K C=true)(ht:PySem.W.takerIn K C name=some none)(hh:PySem.W.hasDictIn K C=true)(hw:PySem.Within mA ns)(hsz:ns.length<=sizeLine)(h:∀h',ObjM h' x dx C (fun y=>if y=name then some v else mA y)->Heap.SameBut dx s.heap h'->Q () { s with heap:=h',toks:=s.toks+2 }) :
  wpAny (model prog w) A (setAttr (.ref x) name v) Q E s:=by
 obtain⟨od,J,hl⟩:=I.look
 refine PySem.W.set_plain X J hs (PySem.W.osa_open (s:={ s with toks:=s.toks+1 }) (r:=none) X J hp ht fun b=>?_)
 obtain⟨cd,hc,hd'⟩:=PySem.W.any_some hh
 have hx:s.heap.get? x=some ⟨.ref C,some dx,.plain,#[]⟩:=I.obj
 refine wpAny_bind (wpAny_pure (wpAny_bind (wpAny_bind (wpAny_loadPart hx (wpAny_bind (PySem.W.Looks.here (s:={ s with toks:=s.toks+1 }) (PySem.W.looks_clsIn X hc) ?_))))))
 rw[hd']
 refine wpAny_pure (a:=some dx) (wpAny_bind (wpAny_pure (wpAny_bind ?_)))
 refine wpAny_nsSet1 (s:={ s with toks:=s.toks+1 }) I.ns fun h' hn2 hs2=>?_
 obtain⟨oD,esD,epD,hoD,hdD,hcD⟩:=hn2.count (PySem.Within.cons name v hw)
 refine wpAny_bind (wpAny_lookBehind hoD (by rw[hdD];exact pastItsLine_dict (Nat.le_trans hcD (by rw[List.length_cons];omega))) ?_)
 exact wpAny_pure (h _ ⟨(hs2.2 _ (Ne.symm I.ne)).trans I.obj,hn2,I.ne⟩ hs2)
theorem zhn{R:Result->Shared->Prop}{vs:List Value}{kw:List (Str×Value)}(X:K.In s.heap)(hm:PySem.W.makesIn K C=true)(hi:PySem.W.findIn K (.ref C) "__init__" = some (some (.ref f)))(hf:PySem.W.typeIn K (.ref f)=some (.type "function"))(h:codeAny (model prog w) (A.under (.builtin "type.__call__" ⟨.ref C::vs,kw⟩)) (.call (.ref f) ⟨.ref (s.heap.objs.size+1)::vs,kw⟩) (PySem.W.InitBack (s.heap.objs.size+1) R)
   { s with heap:=(s.heap.push PySem.W.emptyDict).push (PySem.W.instObj C s.heap.objs.size) }) :
  codeAny (model prog w) A (.call (.ref C) ⟨vs,kw⟩) R s:=by
 obtain⟨hh,g,d,t,os⟩:=s
 exact PySem.W.make_core (PySem.W.makes_of X hm) (PySem.W.looks_findIn X hi) (fun self=>PySem.W.bind_fn X self hf) (.inl rfl) h
end
def ze3(f:Str)(v:V):List (Str×V)->List (Str×V)
 | []=>[(f,v)]
 | (g,x)::r=>if g=f then (g,v)::r else (g,x)::ze3 f v r
theorem zdF(f g:Str)(v:V):∀fs:List (Str×V),(ze3 f v fs).lookup g=if g=f then some v else fs.lookup g
 | []=>by
  show List.lookup g [(f,v)]=_
  by_cases h:g=f
  ·have hb:(g==f)=true:=beq_iff_eq.mpr h
   simp only[List.lookup,hb,if_pos h]
  ·have hb:(g==f)=false:=beq_eq_false_iff_ne.mpr h
   simp only[List.lookup,hb,if_neg h]
 | (k,x)::r=>by
  have ih:=zdF f g v r
  rw[show ze3 f v ((k,x)::r)=(if k=f then (k,v)::r else (k,x)::ze3 f v r) from rfl]
  by_cases hk:k=f
  ·rw[if_pos hk]
   by_cases h:g=k
   ·have hb:(g==k)=true:=beq_iff_eq.mpr h
    simp only[List.lookup,hb,if_pos (h.trans hk)]
   ·have hb:(g==k)=false:=beq_eq_false_iff_ne.mpr h
    simp only[List.lookup,hb,if_neg (fun e:g=f=>h (e.trans hk.symm))]
  ·rw[if_neg hk]
   by_cases h:g=k
   ·have hb:(g==k)=true:=beq_iff_eq.mpr h
    simp only[List.lookup,hb,if_neg (fun e:g=f=>hk (h.symm.trans e))]
   ·have hb:(g==k)=false:=beq_eq_false_iff_ne.mpr h
    simp only[List.lookup,hb]
    exact ih
theorem zdG(f:Str)(v:V):∀fs:List (Str×V),f∈(ze3 f v fs).map (·.1)/\∀g,g∈fs.map (·.1)->g∈(ze3 f v fs).map (·.1)
 | []=>⟨by simp[ze3],fun g h=>by simp at h⟩
 | (k,x)::r=>by
  obtain⟨i1,i2⟩:=zdG f v r
  rw[show ze3 f v ((k,x)::r)=(if k=f then (k,v)::r else (k,x)::ze3 f v r) from rfl]
  by_cases hk:k=f
  ·rw[if_pos hk]
   subst hk
   exact⟨by simp,fun g h=>by simpa using h⟩
  ·rw[if_neg hk]
   refine⟨?_,fun g h=>?_⟩
   ·rw[List.map_cons]
    exact List.mem_cons_of_mem _ i1
   ·rw[List.map_cons] at h ⊢
    rcases List.mem_cons.mp h with e|e
    ·exact List.mem_cons.mpr (.inl e)
    ·exact List.mem_cons_of_mem _ (i2 g e)
theorem zdH(f:Str)(v:V):∀fs:List (Str×V),(ze3 f v fs).length<=fs.length+1
 | []=>by simp[ze3]
 | (k,x)::r=>by
  have ih:=zdH f v r
  rw[show ze3 f v ((k,x)::r)=(if k=f then (k,v)::r else (k,x)::ze3 f v r) from rfl]
  by_cases hk:k=f
  ·rw[if_pos hk,List.length_cons,List.length_cons];omega
  ·rw[if_neg hk,List.length_cons,List.length_cons];omega
theorem RelO.some_of{v:V}{o:Option Value}(r:RelO (some v) o):∃u,o=some u/\RelV v u:=by
 cases o with
 | none=>exact(show False from r).elim
 | some u=>exact⟨u,rfl,r⟩
theorem RelO.none_of{o:Option Value}(r:RelO none o):o=none:=by
 cases o with
 | none=>rfl
 | some u=>exact(show False from r).elim
theorem ziX{v:V}{u:Value}(r:RelV v u):PySem.W.handedIn u=true:=by
 cases v with
 | non=>cases (show u=Value.none from r);rfl
 | bl b=>cases (show u=Value.bool b from r);rfl
 | int i=>obtain⟨t,e⟩:=(show ∃t,u=Value.int i t from r);cases e;rfl
 | str x=>obtain⟨t,e⟩:=(show ∃t,u=Value.str x t from r);cases e;rfl
 | byt b=>obtain⟨t,e⟩:=(show ∃t,u=Value.bytes b t from r);cases e;rfl
 | flt b=>obtain⟨t,e⟩:=(show ∃t,u=Value.float b t from r);cases e;rfl
 | ref a=>cases (show u=Value.ref a from r);rfl
 | ty n=>cases (show u=Value.type n from r);rfl
section
variable {P:Program} {w:World} {H H':Hp} {h h':Heap} {a C dx:Addr} {fs fs':List (Str×V)}
theorem ze4(hok:HOk P w H h)(e:H a=some (.ins C dx fs)):∃mA,ObjM h a dx C mA/\(∀f,RelO (fs.lookup f) (mA f))/\PySem.Within mA (fs.map (·.1))/\fs.length<=1000/\H dx=some (.own a):=by
 obtain⟨d,z,ne,ob,mA,n,r,q⟩:=(show ObjOk P w H h a (.ins C dx fs) from hok a _ e)
 exact⟨mA,⟨ob,n,ne⟩,r,q,z,d⟩
end
structure Cls (K:PySem.W.Frag) (C:Addr):Prop where
 pg:PySem.W.plainGet K C Str.empty=true
 hd:PySem.W.hasDictIn K C=true
 po:PySem.W.plainOver K C=true
 sa:PySem.W.findIn K (.ref C) "__setattr__" = some (some (.builtin "object.__setattr__"))
theorem Cls.get{K:PySem.W.Frag}{C:Addr}(c:Cls K C)(f:Str):PySem.W.plainGet K C f=true:=c.pg
def NoAttr(K:PySem.W.Frag)(C:Addr)(f:Str):Prop:=PySem.W.findIn K (.ref C) f=some none
theorem NoAttr.taker{K:PySem.W.Frag}{C:Addr}{f:Str}(n:NoAttr K C f):PySem.W.takerIn K C f=some none:=by
 unfold PySem.W.takerIn
 rw[show PySem.W.findIn K (.ref C) f=some none from n]
 rfl
structure Meth (K:PySem.W.Frag) (C:Addr) (m:Str) (f:Addr):Prop where
 at_:PySem.W.findIn K (.ref C) m=some (some (.ref f))
 fn:PySem.W.isFn K (.ref f)=true
 kp:PySem.W.keepIn K (.ref f)=true
section
variable {X:Cx} {pins:List (Addr×Obj)} {σ:St} {H:Hp} {s:Shared} {a C dx:Addr} {fs:List (Str×V)} {f:Str} {v:V} {A:Around} {E:Value->Shared->Prop}
theorem zh5{b:Bool}{Q:Value->Shared->Prop}(I:Inv X pins σ H s)(e:H a=some (.ins C dx fs))(c:Cls X.K C)(n:NoAttr X.K C f)(l:fs.lookup f=some v)(h:∀u s',Inv X pins σ H s'->RelV v u->Q u s'):wpAny (model X.prog X.w) A (getAttr (.ref a) f b) Q E s:=by
 obtain⟨mA,O,r,_,_,_⟩:=ze4 I.hok e
 obtain⟨u,hu,ru⟩:=RelO.some_of (v:=v) (o:=mA f) (by rw[<- l];exact r f)
 exact zmM I.kIn O (c.get f) c.hd n hu (ziX ru) (h u _ (I.tok _) ru)
theorem zdb{m:Str}{g:Addr}{pl:Sem Bool}{Q:Value×List Value->Shared->Prop}(I:Inv X pins σ H s)(e:H a=some (.ins C dx fs))(c:Cls X.K C)(k:Meth X.K C m g)(l:fs.lookup m=none)(h:Q (.ref g,[.ref a]) s):wpAny (model X.prog X.w) A (getMethod (.ref a) m pl) Q E s:=by
 obtain⟨mA,O,r,_,_,_⟩:=ze4 I.hok e
 have hn:mA m=none:=RelO.none_of (by rw[<- l];exact r m)
 exact zkC I.kIn O (c.get m) k.at_ k.fn hn h
theorem zh6{y:V}{u:Value}{Q:Unit->Shared->Prop}(I:Inv X pins σ H s)(e:H a=some (.ins C dx fs))(c:Cls X.K C)(n:NoAttr X.K C f)(hl:fs.length<1000)(ry:RelV y u)(h:∀s',Inv X pins σ (upd H a (.ins C dx (ze3 f y fs))) s'->Q () s'):wpAny (model X.prog X.w) A (setAttr (.ref a) f u) Q E s:=by
 obtain⟨mA,O,r,wi,_,ho⟩:=ze4 I.hok e
 have hz:(fs.map (·.1)).length<=sizeLine:=by rw[List.length_map,sizeLine_eq];omega
 refine zmN I.kIn O c.sa c.po n.taker c.hd wi hz fun h' O' sb=>h _ ?_
 have hd:∃o,h'.get? dx=some o:=let ⟨o,_,_,e',_⟩:=O'.ns;⟨o,e'⟩
 refine I.write (x:=a) (e:=dx) (by rw[e];exact True.intro) (.inr ho) (fun b q hb z=>(sb.2 b hb).trans z) hd ?_
 refine⟨by rw[zau O.ne];exact ho,?_,O.ne,O'.obj,_,O'.ns,fun g=>?_,fun g hg=>?_⟩
 ·have:=zdH f y fs;omega
 ·show RelO ((ze3 f y fs).lookup g) (if g=f then some u else mA g)
  rw[zdF]
  by_cases q:g=f
  ·rw[if_pos q,if_pos q];exact ry
  ·rw[if_neg q,if_neg q];exact r g
 ·by_cases q:g=f
  ·rw[q];exact(zdG f y fs).1
  ·refine(zdG f y fs).2 g (wi g fun z=>hg ?_)
   show(if g=f then some u else mA g)=none
   rw[if_neg q];exact z
theorem Inv.made(I:Inv X pins σ H s):Inv X pins σ (upd (upd H s.heap.objs.size (.own (s.heap.objs.size+1))) (s.heap.objs.size+1) (.ins C s.heap.objs.size []))
  { s with heap:=(s.heap.push PySem.W.emptyDict).push (PySem.W.instObj C s.heap.objs.size) }:=by
 have e1:(s.heap.push PySem.W.emptyDict).get? s.heap.objs.size=some PySem.W.emptyDict:=Heap.get?_push_size s.heap rfl
 have e2:((s.heap.push PySem.W.emptyDict).push (PySem.W.instObj C s.heap.objs.size)).get? (s.heap.objs.size+1)=some (PySem.W.instObj C s.heap.objs.size):=by
  have:=Heap.get?_push_size (s.heap.push PySem.W.emptyDict) (o:=PySem.W.instObj C s.heap.objs.size) rfl
  rwa [Heap.size_push] at this
 have e3:(s.heap.push PySem.W.emptyDict).Ns s.heap.objs.size (fun _=>none):=⟨PySem.W.emptyDict,#[],_,e1,rfl,(fun e he=>absurd he (by simp)),fun _=>rfl⟩
 have I1:=I.laid (a:=s.heap.objs.size) (o:=.own (s.heap.objs.size+1)) (h':=s.heap.push PySem.W.emptyDict) (t':=s.toks) (fun b u q=>Heap.get?_push_of_some _ q) (Nat.le_refl _) ⟨_,e1⟩
 refine I1.laid (a:=s.heap.objs.size+1) (o:=.ins C s.heap.objs.size []) (t':=s.toks) (fun b u q=>Heap.get?_push_of_some _ q) (Nat.le_of_eq (Heap.size_push _ _)) ?_
 have ne:s.heap.objs.size≠s.heap.objs.size+1:=Nat.ne_of_lt (Nat.lt_succ_self _)
 refine⟨by rw[zau ne,zat],Nat.zero_le _,ne,e2,fun _=>none,(Heap.Ns1.of_empty e3).at fun o q=>Heap.get?_push_of_some _ q,fun _=>True.intro,fun y hy=>absurd rfl hy⟩
theorem zmO{prog:Program}{w:World}{env:Env}{e:Expr}{f:Str}{pos:Pos}{s:Shared}{Q:Value->Shared->Prop}(hb:attributeBase e f env (eval e env)=eval e env)(h:wpAny (model prog w) A (eval e env) (fun o s₁=>wpAny (model prog w) A (getAttr o f true) Q E s₁) E s):wpAny (model prog w) A (eval (.Attribute e f pos) env) Q E s :=
 Attribute_any_ h (by rw[arm_eval_Attribute,hb])
end
def zsD(K:PySem.W.Frag)(ta:TE)(f:Str):TE:=fun σ H Q=>ta σ H fun x H1=>∃a C dx fs v,x=.ref a/\H1 a=some (.ins C dx fs)/\Cls K C/\NoAttr K C f/\fs.lookup f=some v/\Q v H1
def zsE(K:PySem.W.Frag)(ta tv:TE)(f:Str):TS:=fun D σ H=>tv σ H fun y H1=>ta σ H1 fun x H2=>∃a C dx fs,x=.ref a/\H2 a=some (.ins C dx fs)/\Cls K C/\NoAttr K C f/\fs.length<1000 /\
 D.nx σ (upd H2 a (.ins C dx (ze3 f y fs)))
section
variable {X:Cx} {o e value:Expr} {f:Str} {pos pos' tpos:Pos} {ta tv:TE}
theorem zoP(he:PE X e ta)(hb:attributeBase e f X.env (eval e X.env)=eval e X.env):PE X (.Attribute e f pos) (zsD X.K ta f):=by
 intro pins s σ H Q I h
 refine zmO hb (thn (he pins s σ H _ I h) fun u s1 ⟨x,H1,I1,rx,a,C,dx,fs,v,ex,ea,c,n,l,q⟩=>?_)
 subst ex
 obtain rfl:u=Value.ref a:=rx
 exact zh5 I1 ea c n l fun u' s2 I2 ru=>⟨v,H1,I2,ru,q⟩
theorem zoQ(ha:PE X o ta)(hv:PE X value tv)(hs:swapsWith value (some (.Attribute o f pos')) pos.line X.env=pure false):PS X (.Assign [.Attribute o f pos'] value pos) (zsE X.K ta tv f):=by
 intro pins s σ H D I h
 refine plainObj_wpAny_Assign_Attribute (thn (hv pins s σ H _ I h) fun u s1 ⟨y,H1,I1,ry,q⟩=>thn (ha pins s1 σ H1 _ I1 q) fun ov s2 ⟨x,H2,I2,rx,a,C,dx,fs,ex,ea,c,n,l,q2⟩=>?_) hs
 subst ex
 obtain rfl:ov=Value.ref a:=rx
 exact zh6 I2 ea c n l ry fun s3 I3=>⟨σ,_,I3,q2⟩
theorem zmP{pl:Sem Bool}{m:Str}{apos:Pos}{args:List Expr}{pins:List (Addr×Obj)}{s:Shared}{σ:St}{H:Hp}{Q:Value->Shared->Prop}{te:TE}(he:PE X e te)(I:Inv X pins σ H s)(h:te σ H fun x H1=>∃a C dx fs g,x=.ref a/\H1 a=some (.ins C dx fs)/\Cls X.K C/\Meth X.K C m g/\fs.lookup m=none /\
   ∀s1,Inv X pins σ H1 s1->wpAny (model X.prog X.w) X.A (callWith pos (.ref g) [.ref a] (backTo pos (starEach args X.env)) (backToKw pos (keywordEach [] X.env))) Q X.xe s1)(ht:eval (.Call (.Attribute e m apos) args [] pos) X.env=(do
   let ov <- eval e X.env
   standAt apos.atName
   let (f,first) <- holding [ov] (getMethod ov m pl)
   callWith pos f first (backTo pos (starEach args X.env)) (backToKw pos (keywordEach [] X.env)))) :
  wpAny (model X.prog X.w) X.A (eval (.Call (.Attribute e m apos) args [] pos) X.env) Q X.xe s:=by
 refine PySem.W.methodCall_KW (pl:=pl) (thn (he pins s σ H _ I h) fun u s1 ⟨x,H1,I1,rx,a,C,dx,fs,g,ex,ea,c,k,l,q⟩=>?_) ht
 subst ex
 obtain rfl:u=Value.ref a:=rx
 exact zdb I1 ea c k l (q s1 I1)
end
section
variable {X:Cx} {pins:List (Addr×Obj)} {σ:St} {H:Hp} {s:Shared} {A:Around} {E:Value->Shared->Prop} {Q:Value->Shared->Prop} {c:Value} {b:Bool}
inductive TyOf (K:PySem.W.Frag) (H:Hp):V->Value->Prop where
 | non:TyOf K H .non (.type "NoneType")
 | bl (x:Bool):TyOf K H (.bl x) (.type "bool")
 | int (i:Int):TyOf K H (.int i) (.type "int")
 | str (x:Str):TyOf K H (.str x) (.type "str")
 | flt (x:UInt64):TyOf K H (.flt x) (.type "float")
 | lst {a:Addr} {xs:List V} (e:H a=some (.lst xs)):TyOf K H (.ref a) (.type "list")
 | frz {a:Addr} {o:Obj} {xs:List V} (e:H a=some (.frz o (.lst xs))):TyOf K H (.ref a) (.type "list")
 | tup {a:Addr} {xs:List V} (e:H a=some (.tup xs)):TyOf K H (.ref a) (.type "tuple")
 | dK {a:Addr} {kvs:List (Key×V)} (e:H a=some (.dK kvs)):TyOf K H (.ref a) (.type "dict")
 | dT {a:Addr} {kvs:List (List Key×V)} (e:H a=some (.dT kvs)):TyOf K H (.ref a) (.type "dict")
 | ins {a C dx:Addr} {fs:List (Str×V)} (e:H a=some (.ins C dx fs)) (cl:Cls K C) (ha:PySem.W.findIn K (.ref C) "__class__" = some (some (.builtin "object.__class__")))
   (hn:PySem.W.specialIn K (.builtin "object.__class__") "__get__" = some (some (.builtin "getset_descriptor.__get__"))) (htk:PySem.W.takesIn K (.builtin "object.__class__")=some true)
   (hm:PySem.W.mroIn K C (.type "object")=some true):TyOf K H (.ref a) (.ref C)
theorem ziY{x:V}{u t:Value}(I:Inv X pins σ H s)(rx:RelV x u)(ty:TyOf X.K H x t)(e:PySem.W.kitOne X.K t c=some b)(h:∀tk,Q (.bool b) { s with toks:=tk }) :
  wpAny (model X.prog X.w) A (call (.builtin "isinstance") [u,c]) Q E s:=by
 cases ty with
 | non=>cases (show u=Value.none from rx);exact PySem.W.kia_one PySem.W.kitx_none I.kIn True.intro e (fun z=>nomatch z) h
 | bl y=>cases (show u=Value.bool y from rx);exact PySem.W.kia_one PySem.W.kitx_bool I.kIn True.intro e (fun z=>nomatch z) h
 | int i=>obtain⟨t,q⟩:=(show ∃t,u=Value.int i t from rx);cases q;exact PySem.W.kia_one PySem.W.kitx_int I.kIn True.intro e (fun z=>nomatch z) h
 | str y=>obtain⟨t,q⟩:=(show ∃t,u=Value.str y t from rx);cases q;exact PySem.W.kia_one PySem.W.kitx_str I.kIn True.intro e (fun z=>nomatch z) h
 | flt y=>obtain⟨t,q⟩:=(show ∃t,u=Value.float y t from rx);cases q;exact PySem.W.kia_one PySem.W.kitx_float I.kIn True.intro e (fun z=>nomatch z) h
 | @lst a xs ea =>
  cases (show u=Value.ref a from rx)
  obtain⟨_,_,n,_,h1⟩:=(show ObjOk X.prog X.w H s.heap a (.lst xs) from I.hok a _ ea)
  exact PySem.W.kia_one PySem.W.kitx_list I.kIn ⟨_,h1,rfl⟩ e (fun z=>nomatch z) h
 | @frz a ob xs ea =>
  cases (show u=Value.ref a from rx)
  obtain⟨_,_,_,n,_,h1⟩:=(show ObjOk X.prog X.w H s.heap a (.frz ob (.lst xs)) from I.hok a _ ea)
  exact PySem.W.kia_one PySem.W.kitx_list I.kIn ⟨_,h1,rfl⟩ e (fun z=>nomatch z) h
 | @tup a xs ea =>
  cases (show u=Value.ref a from rx)
  obtain⟨_,_,_,p⟩:=(show ObjOk X.prog X.w H s.heap a (.tup xs) from I.hok a _ ea)
  obtain⟨o,h1,h2,_⟩:=p
  exact PySem.W.kia_one PySem.W.kitx_tuple I.kIn ⟨o,h1,h2⟩ e (fun z=>nomatch z) h
 | @dK a kvs ea =>
  cases (show u=Value.ref a from rx)
  obtain⟨_,_,vs,_,p⟩:=(show ObjOk X.prog X.w H s.heap a (.dK kvs) from I.hok a _ ea)
  obtain⟨o,es,ep,h1,h2,_⟩:=p
  exact PySem.W.kia_one PySem.W.kitx_dict I.kIn ⟨o,h1,h2.1⟩ e (fun z=>nomatch z) h
 | @dT a kvs ea =>
  cases (show u=Value.ref a from rx)
  obtain⟨_,_,xs,_,o,es,ep,h1,h2,_⟩:=(show ObjOk X.prog X.w H s.heap a (.dT kvs) from I.hok a _ ea)
  exact PySem.W.kia_one PySem.W.kitx_dict I.kIn ⟨o,h1,h2.1⟩ e (fun z=>nomatch z) h
 | @ins a C dx fs ea cl ha hn htk hm =>
  cases (show u=Value.ref a from rx)
  obtain⟨mA,O,_⟩:=ze4 I.hok ea
  obtain⟨od,J,_⟩:=O.look
  exact PySem.W.kia_one (PySem.W.kitx_own (cl.get _) cl.hd ha hn htk hm) I.kIn J e (fun z=>nomatch z) h
end
end L2
namespace L2
open PySem PySem.Spec PyProof.Rows
structure Room (k:Nat) (A:Around):Prop where
 hd:A.handled=none
 dp:A.depth+3*k+5<recursionLimit
 un:A.units+16*k+200<cLine
theorem Room.mono{j k:Nat}{A:Around}(r:Room k A)(h:j<=k):Room j A:=⟨r.hd,by have:=r.dp;omega,by have:=r.un;omega⟩
theorem Room.deeper{k:Nat}{A:Around}(r:Room (k+1) A)(env:Env):Room k (A.deeper env) :=
 ⟨r.hd,by have:=r.dp;show A.depth+1+3*k+5<_;omega,by have:=r.un;show A.units+3+16*k+200<_;omega⟩
theorem zh7{A:Around}{C:Addr}{us:List Value}{kw:List (Str×Value)}:(A.under (.builtin "type.__call__" ⟨.ref C::us,kw⟩)).depth=A.depth+1:=by
 first|rfl|simp[Around.under,Code.weight,Code.isCreation,Code.isGuard,Code.isCaller,Code.frames,Code.isFrame,guardIds]
theorem zh8{A:Around}{C:Addr}{us:List Value}{kw:List (Str×Value)}:(A.under (.builtin "type.__call__" ⟨.ref C::us,kw⟩)).units=A.units+1:=by
 first|rfl|simp[Around.under,Code.cUnits,Code.frames,Code.isFrame]
theorem Room.make{k:Nat}{A:Around}(r:Room (k+1) A)(C:Addr)(us:List Value)(kw:List (Str×Value)):Room k (A.under (.builtin "type.__call__" ⟨.ref C::us,kw⟩)) :=
 ⟨r.hd,by have:=r.dp;rw[zh7];omega,by have:=r.un;rw[zh8];omega⟩
theorem Room.depth{k:Nat}{A:Around}(r:Room k A):A.depth<recursionLimit:=by have:=r.dp;omega
theorem Room.units{k:Nat}{A:Around}(r:Room k A):A.units+64<cLine:=by have:=r.un;omega
def zrP:TA:=fun _ H Q=>Q [] H
def zqM(ta:TE)(tr:TA):TA:=fun σ H Q=>ta σ H fun x H1=>tr σ H1 fun xs H2=>Q (x::xs) H2
section
variable {X:Cx} {e:Expr} {es:List Expr} {te:TE} {t:TA} {pos:Pos}
theorem ziZ:PA X [] zrP:=fun _ _ _ _ H Q I h=>Calls.spliced_nil ⟨[],H,I,.nil,h⟩
theorem ze5(ha:PE X e te)(hr:PA X es t)(hs:starEach (e::es) X.env=(false,eval e X.env)::starEach es X.env:=by rfl):PA X (e::es) (zqM te t):=by
 intro pos pins s σ H Q I h
 rw[hs]
 show wpAny _ _ (spliced ((false,eval e X.env)::backTo pos (starEach es X.env))) _ _ s
 refine Calls.spliced_cons (thn (ha pins s σ H _ I h) fun u s1 ⟨x,H1,I1,r1,q1⟩=>?_)
 exact thn (hr pos pins s1 σ H1 _ I1 q1) fun us s2 ⟨xs,H2,I2,r2,q2⟩=>⟨x::xs,H2,I2,.cons r1 r2,q2⟩
def zsF(t:TA):TE:=fun σ H Q=>t σ H fun xs H1=>xs.length<=sizeLine/\∀p,H1 p=none->Q (.ref p) (upd H1 p (.tup xs))
def zsG(t:TA):TE:=fun σ H Q=>t σ H fun xs H1=>xs.length<=sizeLine/\∀p,H1 p=none->Q (.ref p) (upd H1 p (.lst xs))
theorem zlX{x1}(h:PA X es t):PE X (.Tuple es x1 pos) (zsF t):=by
 intro pins s σ H Q I hq
 refine wpAny_Tuple_spliced (thn (h pos pins s σ H _ I hq) fun us s1 ⟨xs,H1,I1,r,z,q⟩=>⟨by rw[<- r.length];exact z,?_⟩)
 have hf:H1 s1.heap.objs.size=none:=I1.hok.fresh (Nat.le_refl _)
 refine⟨.ref s1.heap.objs.size,upd H1 s1.heap.objs.size (.tup xs),I1.laid (t':=s1.toks) (fun b u e=>Heap.get?_push_of_some _ e) (Nat.le_refl _) ?_,rfl,q _ hf⟩
 exact⟨z,us,r,⟨_,Heap.get?_push_size _ rfl,rfl,⟨_,rfl⟩,rfl⟩⟩
theorem zlY(h:PA X es t):PE X (.List es pos) (zsG t):=by
 intro pins s σ H Q I hq
 refine wpAny_List_spliced (thn (h pos pins s σ H _ I hq) fun us s1 ⟨xs,H1,I1,r,z,q⟩=>⟨by rw[<- r.length];exact z,?_⟩)
 have hf:H1 s1.heap.objs.size=none:=I1.hok.fresh (Nat.le_refl _)
 refine⟨.ref s1.heap.objs.size,upd H1 s1.heap.objs.size (.lst xs),I1.laid (t':=s1.toks) (fun b u e=>Heap.get?_push_of_some _ e) (Nat.le_refl _) ?_,rfl,q _ hf⟩
 exact⟨z,us,0,r,Heap.get?_push_size _ rfl⟩
end
abbrev Sp:=List V->Hp->VK->XK->Prop
abbrev CXT:=List Env->Hp->Shared->XK->Value->Shared->Prop
structure Env0 (P:Program) (w:World) (K:PySem.W.Frag) (mg:Str->Option Value) (base:Heap) (A:Around) (outer:List Env) (s:Shared) (H:Hp):Prop where
 frames:A.frames=some outer
 mod:Mod K mg base
 bs:∀b o,base.get? b=some o->s.heap.get? b=some o/\H b=none
 bsz:base.objs.size<=s.heap.objs.size
 funs:s.heap.FunFrames base outer
 frf:∀b∈frs outer,H b=none
 hok:HOk P w H s.heap
 bare:AllBare s.gens
def CE(outer:List Env)(P:Program)(w:World)(H:Hp)(s:Shared)(Q:VK)(u:Value)(s':Shared):Prop :=
 ∃v H',s'.os=s.os/\AllBare s'.gens/\Un (frs outer) [] H H' s.heap s'.heap/\HOk P w H' s'.heap/\RelV v u/\Q v H'
def CR(CX:CXT)(outer:List Env)(P:Program)(w:World)(H:Hp)(s:Shared)(Q:VK)(E:XK)(r:Result)(s':Shared):Prop :=
 match r with
 | .ok (.ret u)=>CE outer P w H s Q u s'
 | .ok _=>False
 | .error e=>CX outer H s E e s'
structure FnOk (P:Program) (w:World) (K:PySem.W.Frag) (mg:Str->Option Value) (base:Heap) (CX:CXT) (k:Nat) (f:Addr) (fd:FuncData) (ps:List Str) (sp:Sp):Prop where
 len:∀vs H Q E,sp vs H Q E->vs.length=ps.length
 run:∀(A:Around) (outer:List Env) (s:Shared) (H:Hp) (args:Args) (us:List Value) (vs:List V) (Q:VK) (E:XK),Room k A->Env0 P w K mg base A outer s H->BindsTo s fd args (ps.zip us)->Vals vs us->sp vs H Q E ->
  codeAny (model P w) A (.call (.ref f) args) (CR CX outer P w H s Q E) s
theorem FnOk.imp{P:Program}{w:World}{K:PySem.W.Frag}{mg:Str->Option Value}{base:Heap}{CX:CXT}{k:Nat}{f:Addr}{fd:FuncData}{ps:List Str}{sp sp':Sp}(F:FnOk P w K mg base CX k f fd ps sp)(h:∀vs H Q E,sp' vs H Q E->sp vs H Q E):FnOk P w K mg base CX k f fd ps sp' :=
 ⟨fun vs H Q E q=>F.len vs H Q E (h _ _ _ _ q),fun A outer s H args us vs Q E hr he hb hv hs=>F.run A outer s H args us vs Q E hr he hb hv (h _ _ _ _ hs)⟩
theorem Env0.make{P:Program}{w:World}{K:PySem.W.Frag}{mg:Str->Option Value}{base:Heap}{A:Around}{outer:List Env}{s:Shared}{H:Hp}(e:Env0 P w K mg base A outer s H)(C:Addr)(us:List Value)(kw:List (Str×Value)) :
  Env0 P w K mg base (A.under (.builtin "type.__call__" ⟨.ref C::us,kw⟩)) outer s H:=⟨by first|exact e.frames|(simpa[Around.under,Code.envs,Code.isFrame,pushEnvs] using e.frames),e.mod,e.bs,e.bsz,e.funs,e.frf,e.hok,e.bare⟩
section
variable {X:Cx} {pins:List (Addr×Obj)} {σ:St} {H:Hp} {s s':Shared}
theorem Inv.env0(I:Inv X pins σ H s):Env0 X.prog X.w X.K X.mg X.base X.A X.stack s H :=
 ⟨I.ok.frames,I.ok.mod,I.bs,Nat.le_trans I.ok.bsz I.sz,I.stack,I.stkFree,I.hok,I.bare⟩
theorem Inv.after{Q:VK}{u:Value}(I:Inv X pins σ H s)(h:CE X.stack X.prog X.w H s Q u s'):EP X pins σ Q u s':=by
 obtain⟨v,H',os,bare,un,hok,r,q⟩:=h
 obtain⟨hh,g,d,t,os'⟩:=s'
 obtain rfl:os'=s.os:=os
 exact⟨v,H',I.call (h':=hh) (g':=g) (d':=d) (t':=t) (ch:=[]) un hok bare (fun b z=>absurd z (by simp)),r,q⟩
end
def zqN(sp:Sp)(dvs:List V)(E:XK)(t:TA):TE:=fun σ H Q=>t σ H fun vs H1=>sp (vs++dvs) H1 Q E
def zqO(C:Addr)(m:Str)(sp:Sp)(dvs:List V)(E:XK)(ta:TE)(t:TA):TE:=fun σ H Q=>ta σ H fun x H1=>∃a dx fs,x=.ref a/\H1 a=some (.ins C dx fs)/\fs.lookup m=none /\
 t σ H1 fun vs H2=>sp (x::(vs++dvs)) H2 Q E
def zqP(C:Addr)(sp:Sp)(dvs:List V)(E:XK)(t:TA):TE:=fun σ H Q=>t σ H fun vs H1=>∀x dx,H1 x=none->H1 dx=none->dx≠x ->
 sp (.ref x::(vs++dvs)) (upd (upd H1 dx (.own x)) x (.ins C dx [])) (fun v H2=>v=.non/\Q (.ref x) H2) E
def Binds(K:PySem.W.Frag)(fd:FuncData)(ps:List Str)(ds:List Value):Prop :=
 ∀(s:Shared) (us:List Value),K.In s.heap->(us++ds).length=ps.length->BindsTo s fd ⟨us,[]⟩ (ps.zip (us++ds))
theorem Binds.all{K:PySem.W.Frag}{fd:FuncData}{ps:List Str}(h:∀us:List Value,us.length=ps.length->bindArgs fd ⟨us,[]⟩=pure (ps.zip us)):Binds K fd ps []:=fun s us _ hl=>by
 rw[List.append_nil] at hl ⊢
 exact .of_eq (h us hl)
def zcA(CX:CXT)(X:Cx)(E:XK):Prop:=∀(pins:List (Addr×Obj)) (σ:St) (H:Hp) (s:Shared) (e:Value) (s':Shared),Inv X pins σ H s->CX X.stack H s E e s'->X.xe e s'
section
variable {X:Cx} {CX:CXT} {k:Nat} {f C:Addr} {fd:FuncData} {ps:List Str} {sp:Sp} {dvs:List V} {ds:List Value} {E:XK} {x m:Str} {p pos apos:Pos} {e o:Expr} {es:List Expr} {ta:TE} {t:TA}
theorem zfZ{pins:List (Addr×Obj)}{σ:St}{H:Hp}{s:Shared}{Q:VK}{us:List Value}{vs:List V}(F:FnOk X.prog X.w X.K X.mg X.base CX k f fd ps sp)(hr:Room k X.A)(hb:Binds X.K fd ps ds)(hd:Vals dvs ds)(hx:zcA CX X E)(I:Inv X pins σ H s)(r:Vals vs us)(h:sp (vs++dvs) H Q E):wpAny (model X.prog X.w) X.A (call (.ref f) us) (EP X pins σ Q) X.xe s:=by
 have r2:Vals (vs++dvs) (us++ds):=r.append hd
 have hl:(us++ds).length=ps.length:=by rw[<- r2.length];exact F.len _ _ _ _ h
 refine wpAny_call (codeAny_mono (F.run X.A X.stack s H ⟨us,[]⟩ (us++ds) (vs++dvs) Q E hr I.env0 (hb s us I.kIn hl) r2 h) fun r s' hq=>?_)
 cases r with
 | error e=>exact hx pins σ H s e s' I hq
 | ok fl =>
  cases fl with
  | ret u=>exact I.after hq
  | next=>exact False.elim hq
  | brk=>exact False.elim hq
  | cont=>exact False.elim hq
theorem zmQ(F:FnOk X.prog X.w X.K X.mg X.base CX k f fd ps sp)(hr:Room k X.A)(hg:Gl X x)(hm:X.mg x=some (.ref f))(hk:PySem.W.keepIn X.K (.ref f)=true)(hb:Binds X.K fd ps ds)(hd:Vals dvs ds)(hx:zcA CX X E)(ha:PA X (e::es) t)(hdb:(x==("__debug__" : Str))=false:=by decide)(he:starEach (e::es) X.env=(false,eval e X.env)::starEach es X.env:=by rfl)(hpl:(backTo pos (starEach es X.env)).any (·.1)=false:=by rfl) :
  PE X (.Call (.Name x p) (e::es) [] pos) (zqN sp dvs E t):=by
 intro pins s σ H Q I h
 refine wpAny_Call_Name_kw (zda I hg hm ?_ hdb)
 refine PySem.W.callWith_K (h₀:=X.base) I.ok.mod.kin hk (thn (ha pos pins s σ H _ I h) fun us s1 ⟨vs,H1,I1,r,q⟩=>⟨I1.kIn,?_⟩) he hpl
 exact zfZ F hr hb hd hx I1 r q
theorem zkD{pl:Sem Bool}(he:PE X o ta)(c:Cls X.K C)(hm:Meth X.K C m f)(F:FnOk X.prog X.w X.K X.mg X.base CX k f fd ps sp)(hr:Room k X.A)(hb:Binds X.K fd ps ds)(hd:Vals dvs ds)(hx:zcA CX X E)(ht:eval (.Call (.Attribute o m apos) [] [] pos) X.env=(do
   let ov <- eval o X.env
   standAt apos.atName
   let (f,first) <- holding [ov] (getMethod ov m pl)
   callWith pos f first (backTo pos (starEach [] X.env)) (backToKw pos (keywordEach [] X.env))):=by rfl) :
  PE X (.Call (.Attribute o m apos) [] [] pos) (zqO C m sp dvs E ta zrP):=by
 intro pins s σ H Q I h
 refine PySem.W.methodCall_KW (pl:=pl) (thn (he pins s σ H _ I h) fun u s1 ⟨x,H1,I1,rx,a,dx,fs,ex,ea,l,q⟩=>?_) ht
 subst ex
 obtain rfl:u=Value.ref a:=rx
 refine zdb I1 ea c hm l ?_
 exact PySem.W.callWith_K0 (first:=[.ref a]) I1.kIn hm.kp (zfZ (us:=[.ref a]) (vs:=[.ref a]) F hr hb hd hx I1 (.cons rfl .nil) q)
structure Mk (K:PySem.W.Frag) (C f:Addr):Prop where
 makes:PySem.W.makesIn K C=true
 init:PySem.W.findIn K (.ref C) "__init__" = some (some (.ref f))
 fn:PySem.W.isFn K (.ref f)=true
 kp:PySem.W.keepIn K (.ref C)=true
theorem zkE{pins:List (Addr×Obj)}{σ:St}{H:Hp}{s:Shared}{Q:VK}{us:List Value}{vs:List V}(M:Mk X.K C f)(F:FnOk X.prog X.w X.K X.mg X.base CX k f fd ps sp)(hr:Room (k+1) X.A)(hb:Binds X.K fd ps ds)(hd:Vals dvs ds)(hx:zcA CX X E)(I:Inv X pins σ H s)(r:Vals vs us)(h:∀x dx,H x=none->H dx=none->dx≠x->sp (.ref x::(vs++dvs)) (upd (upd H dx (.own x)) x (.ins C dx [])) (fun v H2=>v=.non/\Q (.ref x) H2) E) :
  wpAny (model X.prog X.w) X.A (call (.ref C) us) (EP X pins σ Q) X.xe s:=by
 have hq:=h (s.heap.objs.size+1) s.heap.objs.size (I.hok.fresh (Nat.le_succ _)) (I.hok.fresh (Nat.le_refl _)) (Nat.ne_of_lt (Nat.lt_succ_self _))
 have I2:=Inv.made (C:=C) I
 have r2:Vals (V.ref (s.heap.objs.size+1)::(vs++dvs)) (Value.ref (s.heap.objs.size+1)::(us++ds)):=.cons rfl (r.append hd)
 have hl:(Value.ref (s.heap.objs.size+1)::us++ds).length=ps.length:=by
  have e:=r2.length
  rw[F.len _ _ _ _ hq] at e
  exact e.symm
 refine wpAny_call (zhn (f:=f) I.kIn M.makes M.init (beq_iff_eq.mp M.fn) (codeAny_mono (F.run _ X.stack _ _ ⟨Value.ref (s.heap.objs.size+1)::us,[]⟩ (Value.ref (s.heap.objs.size+1)::(us++ds)) _ _ E (hr.make C us [])
  (I2.env0.make C us []) (hb _ (Value.ref (s.heap.objs.size+1)::us) I2.kIn hl) r2 hq) fun r s' hq'=>?_))
 cases r with
 | error e=>exact hx pins σ _ _ e s' I2 hq'
 | ok fl =>
  cases fl with
  | ret u =>
   obtain⟨v,H',I3,rv,ev,q3⟩:=I2.after hq'
   subst ev
   exact⟨rv,⟨V.ref (s.heap.objs.size+1),H',I3,rfl,q3⟩⟩
  | next=>exact False.elim hq'
  | brk=>exact False.elim hq'
  | cont=>exact False.elim hq'
theorem zmR(M:Mk X.K C f)(F:FnOk X.prog X.w X.K X.mg X.base CX k f fd ps sp)(hr:Room (k+1) X.A)(hg:Gl X x)(hm:X.mg x=some (.ref C))(hb:Binds X.K fd ps ds)(hd:Vals dvs ds)(hx:zcA CX X E)(ha:PA X (e::es) t)(hdb:(x==("__debug__" : Str))=false:=by decide)(he:starEach (e::es) X.env=(false,eval e X.env)::starEach es X.env:=by rfl)(hpl:(backTo pos (starEach es X.env)).any (·.1)=false:=by rfl) :
  PE X (.Call (.Name x p) (e::es) [] pos) (zqP C sp dvs E t):=by
 intro pins s σ H Q I h
 refine wpAny_Call_Name_kw (zda I hg hm ?_ hdb)
 refine PySem.W.callWith_K (h₀:=X.base) I.ok.mod.kin M.kp (thn (ha pos pins s σ H _ I h) fun us s1 ⟨vs,H1,I1,r,q⟩=>⟨I1.kIn,?_⟩) he hpl
 exact zkE M F hr hb hd hx I1 r q
end
section
variable {X:Cx} {CX:CXT} {k:Nat} {f C:Addr} {fd:FuncData} {ps ks:List Str} {sp:Sp} {E:XK} {x m:Str} {p pos apos kpos:Pos} {e o:Expr} {es:List Expr} {kws:List Keyword} {te ta:TE} {t tk:TA} {nm:Option Str}
variable {g:List Value->List Value->List Value} {gV:List V->List V->List V}
end
structure FnScope (N P:List Str) (sc:Scope):Prop where
 kind:sc.kind=.function
 co:sc.isCoroutine=false
 gen:sc.isGenerator=false
 nd:N.Nodup
 pre:N.take P.length=P
 par:∀x∈P,sc.names.lookup x=some .local\/sc.names.lookup x=some .cell
 nofree:∀y∈sc.names,y.2≠.free
theorem zf0{kindOf:Str->Option NameKind}{x:Str}:∀{binds:List (Str×Value)} {m:Str->Option Value},(∀v,(x,v)∉binds)->bindL kindOf binds m x=m x
 | [],_,_=>rfl
 | (n,v)::r,m,h=>by
  unfold bindL
  rw[zf0 fun w hw=>h w (List.mem_cons_of_mem _ hw)]
  split
  ·have:x≠n:=by rintro rfl;exact h v List.mem_cons_self
   simp[this]
  ·rfl
theorem zf1{kindOf:Str->Option NameKind}{x:Str}:∀{binds:List (Str×Value)} {m:Str->Option Value},(∀v,(x,v)∉binds)->bindC kindOf binds m x=m x
 | [],_,_=>rfl
 | (n,v)::r,m,h=>by
  unfold bindC
  rw[zf1 fun w hw=>h w (List.mem_cons_of_mem _ hw)]
  split
  ·rfl
  ·have:x≠n:=by rintro rfl;exact h v List.mem_cons_self
   simp[this]
theorem zf2{kindOf:Str->Option NameKind}{x:Str}{v:Value}:∀{P:List Str} {vs:List Value} {i:Nat} {m:Str->Option Value},P.Nodup->P[i]?=some x->vs[i]?=some v->kindOf x=some .local ->
  bindL kindOf (P.zip vs) m x=some v
 | [],_,_,_,_,h,_,_=>by simp at h
 | _::_,[],_,_,_,_,h,_=>by simp at h
 | p::P,w::vs,0,m,nd,h1,h2,hk=>by
  simp at h1 h2;subst h1;subst h2
  show bindL kindOf ((p,w)::P.zip vs) m p=_
  unfold bindL
  rw[zf0 fun v hv=>(List.nodup_cons.mp nd).1 (List.of_mem_zip hv).1,if_pos hk]
  simp
 | p::P,w::vs,i+1,m,nd,h1,h2,hk=>by
  show bindL kindOf ((p,w)::P.zip vs) m x=_
  unfold bindL
  exact zf2 (i:=i) (List.nodup_cons.mp nd).2 (by simpa using h1) (by simpa using h2) hk
theorem zf3{kindOf:Str->Option NameKind}{x:Str}{v:Value}:∀{P:List Str} {vs:List Value} {i:Nat} {m:Str->Option Value},P.Nodup->P[i]?=some x->vs[i]?=some v->kindOf x≠some .local ->
  bindC kindOf (P.zip vs) m x=some v
 | [],_,_,_,_,h,_,_=>by simp at h
 | _::_,[],_,_,_,_,h,_=>by simp at h
 | p::P,w::vs,0,m,nd,h1,h2,hk=>by
  simp at h1 h2;subst h1;subst h2
  show bindC kindOf ((p,w)::P.zip vs) m p=_
  unfold bindC
  rw[zf1 fun v hv=>(List.nodup_cons.mp nd).1 (List.of_mem_zip hv).1,if_neg hk]
  simp
 | p::P,w::vs,i+1,m,nd,h1,h2,hk=>by
  show bindC kindOf ((p,w)::P.zip vs) m x=_
  unfold bindC
  exact zf3 (i:=i) (List.nodup_cons.mp nd).2 (by simpa using h1) (by simpa using h2) hk
def start(N:List Str)(vs:List V):St:=vs.map some++List.replicate (N.length-vs.length) none
def ziG(CX:CXT)(P:Program)(w:World)(K:PySem.W.Frag)(mg:Str->Option Value)(base:Heap)(N:List Str)(qual:Str)(scope:Scope)(f:Addr)(cd:Value)(A:Around)(outer:List Env)(s:Shared)(H:Hp)(E:XK):Cx where
 prog:=P
 w:=w
 K:=K
 mg:=mg
 base:=base
 A:=A.deeper (envOfC qual scope s.heap.objs.size f cd)
 N:=N
 s₀:=s
 H₀:=H
 env:=envOfC qual scope s.heap.objs.size f cd
 outer:=outer
 stack:=envOfC qual scope s.heap.objs.size f cd::outer
 ex:=[]
 calm:=true
 fn:=fun _=>true
 pn:=[]
 xe:=fun e s'=>wpAny (model P w) (A.deeper (envOfC qual scope s.heap.objs.size f cd)) (leaving (envOfC qual scope s.heap.objs.size f cd) e) (fun _ s''=>CX outer H s E e s'') (fun e' s''=>CX outer H s E e' s'') s'
theorem zho{sc:Scope}{n:Nat}{x:Str}(h:sc.names.lookup x=some .cell):∃c,(cellsFrom n sc.names []).lookup x=some c:=by
 have q:=PySem.W.cellsFrom_some sc.names n [] (.inl h)
 exact Option.isSome_iff_exists.mp q
theorem zi0{CX:CXT}{P:Program}{w:World}{K:PySem.W.Frag}{mg:Str->Option Value}{base:Heap}{N ps:List Str}{qual:Str}{scope:Scope}{f:Addr}{cd:Value}{A:Around}{outer:List Env}{s s1:Shared}{H:Hp}{E:XK}{us:List Value}{vs:List V}(S:FnScope N ps scope)(hd:A.handled=none)(e0:Env0 P w K mg base A outer s H)(hl:vs.length=ps.length)(r:Vals vs us)(x:InCallC s s.heap.objs.size (bindL (envOfC qual scope s.heap.objs.size f cd).kindOf (ps.zip us) fun _=>none) (cellsFrom (s.heap.objs.size+1) scope.names []) (bindC (envOfC qual scope s.heap.objs.size f cd).kindOf (ps.zip us) fun _=>none) s1) :
  Inv (ziG CX P w K mg base N qual scope f cd A outer s H E) [] (start N vs) H s1:=by
 have hpl:ps.length<=N.length:=by have:=congrArg List.length S.pre;rw[List.length_take] at this;omega
 obtain⟨h1,tk,rfl,hk⟩:=x.done
 have noA:∀b:Addr,b∉(ziG CX P w K mg base N qual scope f cd A outer s H E).ex:=fun b z=>absurd (show b∈([]:List Addr) from z) (by simp)
 refine⟨⟨e0.mod,S.kind,rfl,rfl,Nat.le_refl _,fun y z c h1 h2=>?_,fun y hy=>?_,fun y c _ h=>?_,fun _=>hd,Around.frames_deeper e0.frames,.inr ⟨rfl,rfl⟩,fun b z=>absurd z (noA b),e0.bs,e0.bsz,fun b _ _=>noA b,fun b z=>absurd z (noA b),e0.funs,e0.frf⟩,
  rfl,e0.bare,Un.kept hk,⟨_,x.toInCall.ns,fun i y v h1 h2 h3=>?_⟩,fun y c h=>⟨_,x.cell y c h⟩,e0.hok.fresh (Nat.le_refl _),fun y c h=>?_,fun p hp=>absurd (show p∈([]:List (Addr×Obj)) from hp) (by simp),e0.hok.kept hk,?_⟩
 ·exact name_of_addr x.apart (PySem.mem_of_lookup h1) (PySem.mem_of_lookup h2)
 ·have hy:scope.names.lookup y=some .cell\/scope.names.lookup y=some .free:=hy
  rcases hy with hy|hy
  ·exact zho hy
  ·exact absurd rfl (S.nofree _ (PySem.mem_of_lookup hy))
 ·exact Nat.le_of_lt (x.above y c (PySem.mem_of_lookup h))
 ·have hi:i<vs.length:=by
   unfold start at h2
   by_cases hi:i<vs.length
   ·exact hi
   ·rw[List.getElem?_append_right (by simpa using hi)] at h2
    rw[List.getElem?_replicate] at h2
    split at h2<;>cases h2
  have ha:vs[i]?=some v:=by
   unfold start at h2
   rw[List.getElem?_append_left (by simpa using hi),List.getElem?_map] at h2
   cases e:vs[i]? with
   | none=>rw[e] at h2;cases h2
   | some a=>rw[e] at h2;cases h2;rfl
  obtain⟨u,hu,rv⟩:=r.get ha
  have hp:ps[i]?=some y:=by
   rw[<- S.pre,List.getElem?_take_of_lt (by omega)];exact h1
  have ndP:ps.Nodup:=by rw[<- S.pre];exact S.nd.sublist (List.take_sublist _ _)
  refine⟨u,rv,?_⟩
  rcases S.par y (List.mem_of_getElem? hp) with k|k
  ·exact .inl ⟨k,zf2 ndP hp hu k⟩
  ·obtain⟨c,e⟩:=zho (n:=s.heap.objs.size+1) k
   refine .inr ⟨.inl k,c,e,?_⟩
   have q:=x.cell y c e
   rw[zf3 ndP hp hu (by show scope.names.lookup y≠_;rw[k];decide)] at q
   exact q
 ·exact e0.hok.fresh (Nat.le_of_lt (x.above y c (PySem.mem_of_lookup h)))
 ·unfold start
  show _=N.length
  rw[List.length_append,List.length_map,List.length_replicate]
  omega
theorem zqQ{CX:CXT}{P:Program}{w:World}{K:PySem.W.Frag}{mg:Str->Option Value}{base:Heap}{k:Nat}{f:Addr}{name qual:Str}{params:Arguments}{body:List Stmt}{scope:Scope}{dV kV doc pm cdv ct oc:Value}{an od:Option Addr}{osl:Array (Option Value)}{N ps:List Str}{sp:Sp}(lk:K.lookup f=some ⟨oc,od,.func (PySem.W.fnOf name qual params body scope dV kV doc pm an cdv ct),osl⟩)(hcd:PySem.W.codeIn K cdv qual=true)(S:FnScope N ps scope)(len:∀vs H Q E,sp vs H Q E->vs.length=ps.length)(hbody:∀(A:Around) (outer:List Env) (s:Shared) (H:Hp) (vs:List V) (Q:VK) (E:XK),Room k (A.deeper (envOfC qual scope s.heap.objs.size f cdv))->sp vs H Q E ->
   ∃t,PSs (ziG CX P w K mg base N qual scope f cdv A outer s H E) body t/\t { nx:=fun _ H'=>Q .non H',rt:=Q } (start N vs) H) :
  FnOk P w K mg base CX (k+1) f (PySem.W.fnOf name qual params body scope dV kV doc pm an cdv ct) ps sp:=by
 refine⟨len,fun A outer s H args us vs Q E hr e0 hb r hsp=>?_⟩
 have hl:=len _ _ _ _ hsp
 have KX:K.In s.heap:=e0.mod.kin.keeps fun b o e=>(e0.bs b o e).1
 have lim:s.heap.NoLimit:=e0.mod.nolimit.keeps fun b o e=>(e0.bs b o e).1
 have hkind:∀y∈ps.zip us,scope.names.lookup y.1=some .local\/(scope.names.lookup y.1=some .cell/\((cellsFrom (s.heap.objs.size+1) scope.names []).lookup y.1).isSome=true):=fun⟨n,v⟩ hy=>by
  rcases S.par n (List.of_mem_zip hy).1 with q|q
  ·exact .inl q
  ·exact .inr ⟨q,PySem.W.cellsFrom_some _ _ _ (.inl q)⟩
 refine codeAny_call_function hr.depth (KX _ _ lk) rfl S.co S.gen rfl (PySem.W.codeRec_of KX hcd) (hb _ _ _ _ ?_)
 refine wpAny_newFunctionEnv_cells S.kind hkind fun env he s1 x=>?_
 subst he
 refine⟨lim.keeps x.toInCall.keep,codeAny_func ?_⟩
 obtain⟨t,ht,hq⟩:=hbody A outer s H vs Q E (hr.deeper _) hsp
 have I:Inv (ziG CX P w K mg base N qual scope f cdv A outer s H E) [] (start N vs) H s1:=zi0 S hr.hd e0 hl r x
 refine wpAny_mono (ht [] s1 (start N vs) H _ I hq) (fun fl s' hs=>?_) fun e s' hs=>hs
 have fin:∀{σ':St} {H':Hp} {v:V} {u:Value},Inv (ziG CX P w K mg base N qual scope f cdv A outer s H E) [] σ' H' s'->RelV v u->Q v H'->CE outer P w H s Q u s' :=
  fun {σ' H' v u} J rv q=>⟨v,H',J.os,J.bare,J.base,J.hok,rv,q⟩
 cases fl with
 | ret u =>
  obtain⟨v,σ',H',J,rv,q⟩:=hs
  exact fin J rv q
 | next =>
  obtain⟨σ',H',J,q⟩:=hs
  exact fin (v:=V.non) (u:=Value.none) J rfl q
 | brk =>
  obtain⟨_,_,_,q⟩:=hs
  exact False.elim q
 | cont =>
  obtain⟨_,_,_,q⟩:=hs
  exact False.elim q
end L2
namespace L2
open PySem PySem.Spec PyProof.Rows
section
variable {X:Cx} {x:Str} {p pos:Pos} {e:Expr} {es:List Expr} {t:TA} {id T:String} {r:List V->Hp->VK->Prop}
def tCB(r:List V->Hp->VK->Prop)(t:TA):TE:=fun σ H Q=>t σ H fun vs H1=>r vs H1 Q
theorem zhp(hc:CallR X (.builtin id) r)(hg:Gl X x)(hm:X.mg x=none)(hv:bootBuiltins x=some (.builtin id))(ha:PA X (e::es) t)(hn:x ≠ "__name__" := by decide)(hdb:(x==("__debug__" : Str))=false:=by decide)(he:starEach (e::es) X.env=(false,eval e X.env)::starEach es X.env:=by rfl)(hpl:(backTo pos (starEach es X.env)).any (·.1)=false:=by rfl):PE X (.Call (.Name x p) (e::es) [] pos) (tCB r t):=by
 intro pins s σ H Q I h
 refine wpAny_Call_Name_kw (zhl I hg hm hv ?_ hn hdb)
 exact PyProof.Rows.callWith_builtin1 (thn (ha pos pins s σ H _ I h) fun us s1 ⟨vs,H1,I1,r1,q1⟩=>hc pins s1 σ H1 vs us Q I1 r1 q1) he hpl
theorem zi1(hc:CallR X (.type T) r)(hg:Gl X x)(hm:X.mg x=none)(hv:bootBuiltins x=some (.type T))(ha:PA X (e::es) t)(hn:x ≠ "__name__" := by decide)(hdb:(x==("__debug__" : Str))=false:=by decide)(he:starEach (e::es) X.env=(false,eval e X.env)::starEach es X.env:=by rfl)(hpl:(backTo pos (starEach es X.env)).any (·.1)=false:=by rfl):PE X (.Call (.Name x p) (e::es) [] pos) (tCB r t):=by
 intro pins s σ H Q I h
 refine wpAny_Call_Name_kw (zhl I hg hm hv ?_ hn hdb)
 exact PyProof.Rows.callWith_type1 (thn (ha pos pins s σ H _ I h) fun us s1 ⟨vs,H1,I1,r1,q1⟩=>hc pins s1 σ H1 vs us Q I1 r1 q1) he hpl
end
end L2
namespace HT
open PySem PyProof.Rows
section
open PySem.SeqAt
open PySem.AutoSeq1 (wpAny_loadPart')
open PySem.MeetsSeq PySem.MeetsSeq2 PySem.MeetsSeq3
end
section
variable {prog:Program} {w:World} {A:Around} {E:Value->Shared->Prop} {s:Shared}
theorem cat_tup{t b:Addr}{vs ws:List Value}{Q:Value->Shared->Prop}(ht:IsTup s.heap t vs.toArray)(hb:IsTup s.heap b ws.toArray)(hv:vs≠[])(h1:ws=[]->Q (.ref t) s)(h2:ws≠[]->Q (.ref s.heap.objs.size) { s with heap:=s.heap.push { cls:=.type "tuple",data:=.seq (vs++ws).toArray } })(hsz:vs.length+ws.length<=sizeLine):wpAny (model prog w) A (binaryOp .Add (.ref t) (.ref b)) Q E s:=by
 obtain⟨⟨cls,dd,data,sl⟩,ho,hc,n,hd⟩:=id ht
 obtain⟨⟨cls2,dd2,data2,sl2⟩,ho2,hc2,n2,hd2⟩:=id hb
 simp only at hc hd hc2 hd2
 subst hc hd hc2 hd2
 have e:vs.toArray++ws.toArray=(vs++ws).toArray:=by simp
 by_cases hw:ws=[]
 ·exact concat_meets ⟨_,ho,rfl⟩ ⟨_,ho2,rfl⟩ noFill_tuple_add seq_tuple_add PySem.F.slot_tuple_add PySem.F.entry_tuple_add (PySem.F.args_tuple_add_2 _ _)
   (tuple_addW1 t b vs.toArray ws.toArray n n2 dd dd2 sl sl2 (by simpa using hv) (by simp[hw])) ⟨ho,ho2,h1 hw⟩
 ·refine concat_meets ⟨_,ho,rfl⟩ ⟨_,ho2,rfl⟩ noFill_tuple_add seq_tuple_add PySem.F.slot_tuple_add PySem.F.entry_tuple_add (PySem.F.args_tuple_add_2 _ _)
   (tuple_addW2 t b vs.toArray ws.toArray n n2 dd dd2 sl sl2 (by simpa using hv) (by simpa using hw) (by rw[List.size_toArray,List.size_toArray];exact hsz)) ⟨ho,ho2,?_⟩
  rw[e]
  exact h2 hw
def sIx(n d:Nat):Option Int->Nat
 | none=>d
 | some v=>if v<0 then (v+(n:Int)).toNat else min v.toNat n
theorem sIx_nat(n d k:Nat):sIx n d (some (k:Int))=min k n:=by
 show(if (k:Int)<0 then ((k:Int)+(n:Int)).toNat else min (k:Int).toNat n)=min k n
 rw[if_neg (by omega),Int.toNat_natCast]
theorem zoR(n d:Nat)(hd:d<=n)(o:Option Int):sIx n d o<=n:=by
 cases o with
 | none=>exact hd
 | some v =>
  show(if v<0 then (v+(n:Int)).toNat else min v.toNat n)<=n
  by_cases hv:v<0
  ·rw[if_pos hv];omega
  ·rw[if_neg hv];exact Nat.min_le_right _ _
theorem zi2(v:Int)(n d:Nat):(if v<0 then max (v+(n:Int)) 0 else min v (n:Int))=((sIx n d (some v):Nat):Int):=by
 show(if v<0 then max (v+(n:Int)) 0 else min v (n:Int))=(((if v<0 then (v+(n:Int)).toNat else min v.toNat n):Nat):Int)
 by_cases hv:v<0
 ·simp only[if_pos hv];omega
 ·simp only[if_neg hv];omega
theorem zh9(lo hi:Option Int)(n:Nat):Builtin.Slice.sliceAdjust lo hi 1 (n:Int)=(((sIx n 0 lo:Nat):Int),((sIx n n hi:Nat):Int)):=by
 have h1:¬((1:Int)<0):=by omega
 unfold Builtin.Slice.sliceAdjust
 simp only[h1,if_false]
 refine Prod.ext ?_ ?_
 ·cases lo with
  | none=>rfl
  | some v=>exact zi2 v n 0
 ·cases hi with
  | none=>rfl
  | some v=>exact zi2 v n n
theorem zia(i j:Nat):Builtin.Slice.slicePlaces (i:Int) (j:Int) 1=j-i:=by
 unfold Builtin.Slice.slicePlaces
 have h1:(1:Int)>0:=by omega
 simp only[h1,if_true,Int.ediv_one]
 split<;>omega
theorem zeD{v:Value}{o:Option Int}{Q:Option Int->Shared->Prop}(p:IsPart v o)(h:Q o s):wpAny (model prog w) A (Builtin.Slice.slicePartIndex v) Q E s:=by
 cases p with
 | none=>exact slicePart_none h
 | int i t=>exact slicePart_int h
theorem zcc{sl:Addr}{vl vu:Value}{lo hi:Option Int}{n:Nat}{Q:Int×Int×Nat->Shared->Prop}(hs:s.heap.IsSliceOf sl vl vu .none)(pl:IsPart vl lo)(pu:IsPart vu hi)(h:Q (((sIx n 0 lo:Nat):Int),1,sIx n n hi-sIx n 0 lo) s):wpAny (model prog w) A (Builtin.Slice.sliceApplied (.ref sl) (pure (n:Int))) Q E s:=by
 obtain⟨os,hos,hcs,hds⟩:=id hs
 unfold Builtin.Slice.sliceApplied Builtin.Slice.sliceFields
 refine wpAny_bind (wpAny_bind (wpAny_field hos hds (x:=vl) rfl (wpAny_bind (wpAny_field hos hds (x:=vu) rfl (wpAny_bind (wpAny_field hos hds (x:=.none) rfl (wpAny_pure ?_)))))))
 refine wpAny_bind (slicePart_none ?_)
 show wpAny _ _ (if ((1:Int)==0)=true then _ else _) _ _ s
 rw[if_neg (by decide)]
 refine wpAny_bind (zeD pl (wpAny_bind (zeD pu (wpAny_bind (wpAny_pure ?_)))))
 show wpAny _ _ (match Builtin.Slice.sliceAdjust lo hi 1 (n:Int) with|(lo,hi)=>pure (lo,(1:Int),Builtin.Slice.slicePlaces lo hi 1)) _ _ s
 rw[zh9 lo hi n]
 show wpAny _ _ (pure (((sIx n 0 lo:Nat):Int),(1:Int),Builtin.Slice.slicePlaces ((sIx n 0 lo:Nat):Int) ((sIx n n hi:Nat):Int) 1)) _ _ s
 rw[zia]
 exact wpAny_pure h
theorem zkF(xs:Array Value)(i k:Nat):((List.range k).filterMap fun(m:Nat)=>xs[((i:Int)+(m:Int)*1).toNat]?).toArray=((xs.toList.drop i).take k).toArray:=by
 have e:(fun(m:Nat)=>xs[((i:Int)+(m:Int)*1).toNat]?)=fun m=>xs[i+m]?:=by
  funext m
  have:((i:Int)+(m:Int)*1).toNat=i+m:=by omega
  rw[this]
 rw[e]
 have:=pick_run xs i k
 rw[List.filterMap_map] at this
 have e2:((fun x=>xs[x]?)∘fun x=>i+x)=fun m=>xs[i+m]?:=rfl
 rw[e2] at this
 rw[this]
theorem getItem_tuple_cut{t sl:Addr}{items:Array Value}{vl vu:Value}{lo hi:Option Int}{Q:Value->Shared->Prop}(ht:IsTup s.heap t items)(hs:s.heap.IsSliceOf sl vl vu .none)(pl:IsPart vl lo)(pu:IsPart vu hi)(hw:¬(sIx items.size 0 lo=0/\sIx items.size items.size hi=items.size))(h:Q (.ref s.heap.objs.size) { s with heap:=s.heap.push { cls:=.type "tuple",data:=.seq ((items.toList.drop (sIx items.size 0 lo)).take (sIx items.size items.size hi-sIx items.size 0 lo)).toArray } })(hsz:items.size<=sizeLine):wpAny (model prog w) A (getItem (.ref t) (.ref sl)) Q E s:=by
 have htake:sizeOk (.seq ((items.toList.drop (sIx items.size 0 lo)).take (sIx items.size items.size hi-sIx items.size 0 lo)).toArray):=by
  show((items.toList.drop (sIx items.size 0 lo)).take (sIx items.size items.size hi-sIx items.size 0 lo)).toArray.size<=sizeLine
  rw[List.size_toArray,List.length_take,List.length_drop,Array.length_toList]
  omega
 have hj:sIx items.size items.size hi<=items.size:=zoR _ _ (Nat.le_refl _) hi
 obtain⟨os,hos,hcs,hds⟩:=id hs
 have hTs:s.TypeIs (.ref sl) "slice" := ⟨os,hos,hcs⟩
 unfold getItem
 try with_reducible refine wpAny_holding ?_
 first|refine wpAny_bind (wpAny_pure ?_)|skip
 refine wpAny_bind (wpAny_sequenceKey ht.typeIs (by decide) ?_)
 refine wpAny_bind (wpAny_callSpecial?_slot (name:=Str.ofString "__getitem__") ht.typeIs PyProof.Rows.slot_tuple_getitem
  (wpAny_call_entry PyProof.Rows.slot_tuple_getitem ht.typeIs entry_tuple_getitem ?_ (args_tuple_getitem _ _)))
 show wpAny _ _ (Builtin.Tuple.tupleItemsOf (.ref t) >>= _) _ _ s
 refine wpAny_bind (tupleItemsOf_ ht ?_)
 refine wpAny_bind (wpAny_typeOf hTs ?_)
 rw[if_pos (by decide)]
 refine wpAny_bind (zcc hs pl pu ?_)
 have hno:¬((((sIx items.size 0 lo:Nat):Int)==0&&(1:Int)==1&&(sIx items.size items.size hi-sIx items.size 0 lo)==items.size)=true):=by
  intro q
  rw[Bool.and_eq_true,Bool.and_eq_true] at q
  have q1:((sIx items.size 0 lo:Nat):Int)=0:=eq_of_beq q.1.1
  have q2:sIx items.size items.size hi-sIx items.size 0 lo=items.size:=eq_of_beq q.2
  exact hw ⟨by omega,by omega⟩
 show wpAny _ _ (if (((sIx items.size 0 lo:Nat):Int)==0&&(1:Int)==1&&(sIx items.size items.size hi-sIx items.size 0 lo)==items.size)=true then _ else _) _ _ s
 rw[if_neg hno,zkF]
 first
  | exact wpAny_bind (m:=Builtin.Tuple.tupleExact _) (wpAny_newObj_type (wpAny_pure ⟨_,rfl,wpAny_pure h⟩) htake)
  | exact wpAny_bind (m:=Builtin.Tuple.tupleExact _) (wpAny_newObj_type (wpAny_bind (wpAny_pure (wpAny_pure ⟨_,rfl,wpAny_pure h⟩))) htake)
  | exact wpAny_bind (wpAny_bind (m:=Builtin.Tuple.tupleExact _) (wpAny_newObj_type (wpAny_pure (wpAny_pure ⟨_,rfl,wpAny_pure h⟩)) htake))
  | exact wpAny_bind (wpAny_bind (m:=Builtin.Tuple.tupleExact _) (wpAny_newObj_type (wpAny_pure ⟨_,rfl,wpAny_pure h⟩) htake))
end
end HT
namespace L2
open PySem PySem.Spec PyProof.Rows
abbrev TO:=St->Hp->(Option Int->Hp->Prop)->Prop
def PO(X:Cx)(e:Option Expr)(t:TO):Prop :=
 ∀(pins:List (Addr×Obj)) (s:Shared) (σ:St) (H:Hp) (Q:Option Int->Hp->Prop),Inv X pins σ H s->t σ H Q ->
  wpAny (model X.prog X.w) X.A (evalPart e X.env) (fun u s'=>∃o H',Inv X pins σ H' s'/\IsPart u o/\Q o H') X.xe s
def zmS:TO:=fun _ H Q=>Q none H
def zqR(t:TE):TO:=fun σ H Q=>t σ H fun x H1=>∃i,x=.int i/\Q (some i) H1
theorem zeE{ns:List Int}:∀{us:List Value},Vals (ns.map V.int) us->IntsAre us ns:=by
 induction ns with
 | nil=>intro us r;rw[List.map_nil] at r;cases r;exact .nil
 | cons n ns ih =>
  intro us r
  rw[List.map_cons] at r
  cases r with
  | cons r1 r2 =>
   obtain⟨t,e⟩:=r1
   subst e
   exact .cons n t (ih r2)
section
variable {X:Cx} {e:Expr} {te:TE} {lo hi:Option Expr} {tl th:TO} {pos p2:Pos}
theorem zmT:PO X none zmS:=by
 intro pins s σ H Q I h
 rw[evalPart_none]
 exact wpAny_pure ⟨none,H,I,.none,h⟩
theorem zmU(h:PE X e te):PO X (some e) (zqR te):=by
 intro pins s σ H Q I hw
 rw[evalPart_some]
 refine thn (h pins s σ H _ I hw) fun u s1 ⟨x,H1,I1,r1,q1⟩=>?_
 obtain⟨i,rfl,q⟩:=q1
 obtain⟨t,rfl⟩:=r1
 exact⟨some i,H1,I1,.int i t,q⟩
def SlR(X:Cx)(r:V->Option Int->Option Int->Hp->VK->Prop):Prop :=
 ∀(pins:List (Addr×Obj)) (s:Shared) (σ:St) (H:Hp) (x:V) (v vl vu:Value) (lo hi:Option Int) (sl:Addr) (Q:VK),Inv X pins σ H s->RelV x v->s.heap.IsSliceOf sl vl vu .none->IsPart vl lo->IsPart vu hi->r x lo hi H Q ->
  ∃T id,typeLookup (.type T) "__getitem__" = pure (some (.builtin id))/\s.TypeIs v T/\wpAny (model X.prog X.w) X.A (getItem v (.ref sl)) (EP X pins σ Q) X.xe s
theorem SlR.or{r r':V->Option Int->Option Int->Hp->VK->Prop}(h:SlR X r)(h':SlR X r'):SlR X (fun x lo hi H Q=>r x lo hi H Q\/r' x lo hi H Q):=by
 intro pins s σ H x v vl vu lo hi sl Q I rx hs pl pu q
 rcases q with q|q
 ·exact h pins s σ H x v vl vu lo hi sl Q I rx hs pl pu q
 ·exact h' pins s σ H x v vl vu lo hi sl Q I rx hs pl pu q
def tSl(r:V->Option Int->Option Int->Hp->VK->Prop)(te:TE)(tl th:TO):TE:=fun σ H Q=>te σ H fun x H1=>tl σ H1 fun l H2=>th σ H2 fun u H3=>r x l u H3 Q
theorem zhq{r:V->Option Int->Option Int->Hp->VK->Prop}(hr:SlR X r)(he:PE X e te)(hl:PO X lo tl)(hu:PO X hi th):PE X (.Subscript e (.Slice lo hi none p2) pos) (tSl r te tl th):=by
 intro pins s σ H Q I h
 refine Subscript_ (thn (he pins s σ H _ I h) fun v s1 ⟨x,H1,I1,r1,q1⟩=>?_)
 refine wpAny_Slice (thn (hl pins s1 σ H1 _ I1 q1) fun vl s2 ⟨l,H2,I2,pl,q2⟩=>thn (hu pins s2 σ H2 _ I2 q2) fun vu s3 ⟨u,H3,I3,pu,q3⟩=>?_)
 rw[evalPart_none]
 refine wpAny_pure ?_
 have I4:Inv X pins σ H3 { s3 with heap:=s3.heap.push { cls:=.type "slice",data:=.fields #[vl,vu,.none] } }:=I3.kept (t':=s3.toks) fun b ob q=>Heap.get?_push_of_some _ q
 obtain⟨T,id,hT,ht,hg⟩:=hr pins { s3 with heap:=s3.heap.push { cls:=.type "slice",data:=.fields #[vl,vu,.none] } } σ H3 x v vl vu l u s3.heap.objs.size Q I4 r1 (Heap.IsSliceOf.new ..) pl pu q3
 show wpAny (model X.prog X.w) X.A (subscriptTail e (.Slice lo hi none p2) v (.ref s3.heap.objs.size)) (EP X pins σ Q) X.xe { s3 with heap:=s3.heap.push { cls:=.type "slice",data:=.fields #[vl,vu,.none] } }
 exact tail_any (ops:=[.ref s3.heap.objs.size,v]) ht hT hg (by with_unfolding_all rfl)
def zlZ(xs:List V)(lo hi:Option Int):List V:=(xs.drop (HT.sIx xs.length 0 lo)).take (HT.sIx xs.length xs.length hi-HT.sIx xs.length 0 lo)
theorem zdI(xs:List V)(lo hi:Option Int):(zlZ xs lo hi).length<=xs.length:=by
 unfold zlZ
 rw[List.length_take,List.length_drop]
 omega
def zrQ(K:PySem.W.Frag):V->Option Int->Option Int->Hp->VK->Prop:=fun x lo hi H Q=>∃a xs,x=.ref a/\SqT K H a xs /\
 ¬(HT.sIx xs.length 0 lo=0/\HT.sIx xs.length xs.length hi=xs.length)/\∀p,H p=none->Q (.ref p) (upd H p (.tup (zlZ xs lo hi)))
theorem zoS:SlR X (zrQ X.K):=by
 intro pins s σ H x v vl vu lo hi sl Q I rx hs pl pu h
 obtain⟨a,xs,rfl,hx,hw,q⟩:=h
 cases rx
 obtain⟨its,r,ht,hz⟩:=I.tuple hx
 have hlen:its.toArray.size=xs.length:=by rw[List.size_toArray];exact r.length.symm
 refine⟨"tuple",_,PyProof.Rows.slot_tuple_getitem.lookup,ht.typeIs,?_⟩
 refine HT.getItem_tuple_cut ht hs pl pu (by rw[hlen];exact hw) ?_ (by rw[hlen];exact hz)
 rw[hlen]
 refine⟨.ref s.heap.objs.size,_,I.laid (t':=s.toks) (o:=.tup (zlZ xs lo hi)) (fun b ob q=>Heap.get?_push_of_some _ q) (Nat.le_refl _) ?_,rfl,q _ (I.hok.fresh (Nat.le_refl _))⟩
 exact⟨Nat.le_trans (zdI xs lo hi) hz,_,(r.drop (HT.sIx xs.length 0 lo)).take (HT.sIx xs.length xs.length hi-HT.sIx xs.length 0 lo),TupN.new _ _⟩
def zqS(K:PySem.W.Frag):R2:=fun x y H Q=>∃a b xs ys,x=.ref a/\y=.ref b/\SqT K H a xs/\SqT K H b ys/\xs≠[]/\xs.length+ys.length<=sizeLine /\
 (ys=[]->Q (.ref a) H)/\(ys≠[]->∀p,H p=none->Q (.ref p) (upd H p (.tup (xs++ys))))
theorem Vals.nil_iff{xs:List V}{us:List Value}(r:Vals xs us):us=[]↔xs=[]:=by
 cases r with
 | nil=>simp
 | cons _ _=>simp
theorem zmV:OpR X (binaryOp .Add) (zqS X.K):=by
 intro pins s σ H x y v u Q I rx ry h
 obtain⟨a,b,xs,ys,rfl,rfl,ha,hb,hx,hz,q1,q2⟩:=h
 cases rx
 cases ry
 obtain⟨its,r1,p1,_⟩:=I.tuple ha
 obtain⟨its2,r2,p2,_⟩:=I.tuple hb
 refine HT.cat_tup p1 p2 (fun z=>hx (r1.nil_iff.mp z)) (fun z=>⟨.ref a,H,I,rfl,q1 (r2.nil_iff.mp z)⟩) (fun z=>?_) (by rw[<- r1.length,<- r2.length];exact hz)
 refine⟨.ref s.heap.objs.size,_,I.laid (t':=s.toks) (o:=.tup (xs++ys)) (fun b ob q=>Heap.get?_push_of_some _ q) (Nat.le_refl _) ?_,rfl,q2 (fun w=>z (r2.nil_iff.mpr w)) _ (I.hok.fresh (Nat.le_refl _))⟩
 exact⟨by rw[List.length_append];exact hz,_,r1.append r2,TupN.new _ _⟩
end
end L2
namespace L2
open PySem PySem.Spec PyProof.Rows
def ixN(n:Nat)(i:Int):Option Nat:=if 0<=i then (if i<n then some i.toNat else none) else if -(n:Int)<=i then some (i+n).toNat else none
def atI{α:Type}(xs:List α)(i:Int):Option α:=(ixN xs.length i).bind fun j=>xs[j]?
theorem zi3{n:Nat}{i:Int}{j:Nat}(h:ixN n i=some j):seqIndex? i n=some j/\j<n/\-(n:Int)<=i/\i<n:=by
 unfold ixN at h
 by_cases h0:0<=i
 ·rw[if_pos h0] at h
  by_cases h1:i<n
  ·rw[if_pos h1] at h
   have e:i.toNat=j:=Option.some.inj h
   exact⟨by rw[seqIndex_of h0 h1,e],by omega,by omega,h1⟩
  ·rw[if_neg h1] at h;cases h
 ·rw[if_neg h0] at h
  by_cases h1:-(n:Int)<=i
  ·rw[if_pos h1] at h
   have e:(i+n).toNat=j:=Option.some.inj h
   exact⟨by rw[seqIndex_neg (by omega) h1,e],by omega,h1,by omega⟩
  ·rw[if_neg h1] at h;cases h
theorem zi4{α:Type}{xs:List α}{i:Int}{v:α}(h:atI xs i=some v):∃j,seqIndex? i xs.length=some j/\xs[j]?=some v/\j<xs.length/\-(xs.length:Int)<=i/\i<xs.length:=by
 unfold atI at h
 cases e:ixN xs.length i with
 | none=>rw[e] at h;cases h
 | some j =>
  rw[e] at h
  obtain⟨h1,h2,h3,h4⟩:=zi3 e
  exact⟨j,h1,h,h2,h3,h4⟩
def zi5(b:Expr):Prop:=∀o i,subscripted b false o i=operate [o,i] (getItem o i)
def IxR(X:Cx)(r:R2):Prop :=
 ∀(value slice:Expr) (pins:List (Addr×Obj)) (s:Shared) (σ:St) (H:Hp) (x y:V) (v u:Value) (Q:VK),Inv X pins σ H s->RelV x v->RelV y u->r x y H Q ->
  subscripted slice false v u=operate [v,u] (getItem v u)->wpAny (model X.prog X.w) X.A (subscriptTail value slice v u) (EP X pins σ Q) X.xe s
def MtR(X:Cx)(id:String)(r:V->List V->Hp->VK->Prop):Prop :=
 ∀(pins:List (Addr×Obj)) (s:Shared) (σ:St) (H:Hp) (x:V) (xs:List V) (v:Value) (us:List Value) (Q:VK),Inv X pins σ H s->RelV x v->Vals xs us->r x xs H Q ->
  wpAny (model X.prog X.w) X.A (call (.builtin id) (v::us)) (EP X pins σ Q) X.xe s
section
variable {X:Cx} {a b:Expr} {ta tb:TE} {pos:Pos}
theorem IxR.or{r r':R2}(h:IxR X r)(h':IxR X r'):IxR X (fun x y H Q=>r x y H Q\/r' x y H Q):=by
 intro value slice pins s σ H x y v u Q I rx ry q hs
 rcases q with q|q
 ·exact h value slice pins s σ H x y v u Q I rx ry q hs
 ·exact h' value slice pins s σ H x y v u Q I rx ry q hs
theorem zqT{r:R2}(hr:IxR X r)(ha:PE X a ta)(hb:PE X b tb)(hs:zi5 b):PE X (.Subscript a b pos) (tOp r ta tb):=by
 intro pins s σ H Q I h
 exact Subscript_ (zqE ha hb I h fun v u s2 x y H2 I2 rx ry q=>hr a b pins s2 σ H2 x y v u Q I2 rx ry q (hs _ _))
def zqU(K:PySem.W.Frag):R2:=fun x y H Q=>∃p xs i v,x=.ref p/\y=.int i/\SqL K H p xs/\atI xs i=some v/\Q v H
def zqV(K:PySem.W.Frag):R2:=fun x y H Q=>∃p xs i v,x=.ref p/\y=.int i/\SqT K H p xs/\atI xs i=some v/\Q v H
theorem zmW:IxR X (zqU X.K):=by
 intro value slice pins s σ H x y v u Q I rx ry h hs
 obtain⟨p,xs,i,z,rfl,rfl,hq,he,q⟩:=h
 cases rx
 obtain⟨t,rfl⟩:=ry
 obtain⟨its,r,pl,hz⟩:=I.list hq
 obtain⟨j,h1,h2,h3,h4,h5⟩:=zi4 he
 obtain⟨w,ew,rw'⟩:=r.get h2
 have hl:=r.length
 have hn:=zfY
 have fin:EP X pins σ Q w s:=⟨z,H,I,rw',q⟩
 by_cases h0:0<=i
 ·have hj:i.toNat=j:=by
   rw[seqIndex_of h0 h5] at h1
   exact Option.some.inj h1
  exact item_listR pl.isList h0 (by omega) (by rw[hj];simpa using ew) fin hs
 ·have hj:(i+(its.toArray.size:Int)).toNat=j:=by
   rw[seqIndex_neg (by omega) h4] at h1
   rw[List.size_toArray,<- hl]
   exact Option.some.inj h1
  exact subscriptTail_builtinR (x:=w) pl.isList.typeIs slot_list_getitem.lookup
   (wpAny_getItem_list_neg (Q:=fun r s'=>r=w/\EP X pins σ Q r s') pl.isList (by omega) (by rw[List.size_toArray]<;>omega) (by omega) (by rw[hj];simpa using ew) ⟨rfl,fin⟩) hs
theorem zoT:IxR X (zqV X.K):=by
 intro value slice pins s σ H x y v u Q I rx ry h hs
 obtain⟨p,xs,i,z,rfl,rfl,hq,he,q⟩:=h
 cases rx
 obtain⟨t,rfl⟩:=ry
 obtain⟨its,r,pl,hz⟩:=I.tuple hq
 obtain⟨j,h1,h2,h3,h4,h5⟩:=zi4 he
 obtain⟨w,ew,rw'⟩:=r.get h2
 have hl:=r.length
 have hn:=zfY
 have fin:EP X pins σ Q w s:=⟨z,H,I,rw',q⟩
 exact subscriptTail_builtinR (x:=w) pl.typeIs slot_tuple_getitem.lookup
  (getItem_tuple (j:=j) (Q:=fun r s'=>r=w/\EP X pins σ Q r s') pl (by omega) (by omega) (by rw[List.size_toArray,<- hl];exact h1) (by simpa using ew) ⟨rfl,fin⟩) hs
theorem zib(its:List Value)(n j:Nat)(u:Value):Obj.mapSeq (·.setIfInBounds j u) { cls:=.type "list",data:=.seq its.toArray n }={ cls:=.type "list",data:=.seq (its.set j u).toArray n }:=by
 simp[Obj.mapSeq]
theorem Inv.lst{pins:List (Addr×Obj)}{σ:St}{H:Hp}{s:Shared}{p:Addr}{xs:List V}(I:Inv X pins σ H s)(h:H p=some (.lst xs)) :
  ∃(its:List Value) (n:Nat),Vals xs its/\s.heap.get? p=some { cls:=.type "list",data:=.seq its.toArray n }/\xs.length<=sizeLine:=by
 obtain⟨z,its,n,r,e⟩:=I.hok p _ h
 exact⟨its,n,r,e,z⟩
theorem Inv.lstUpd{pins:List (Addr×Obj)}{σ:St}{H:Hp}{s:Shared}{p:Addr}{xs ys:List V}{its its':List Value}{n n':Nat}{f:Obj->Obj}(I:Inv X pins σ H s)(h:H p=some (.lst xs))(ho:s.heap.get? p=some { cls:=.type "list",data:=.seq its.toArray n })(hf:f { cls:=.type "list",data:=.seq its.toArray n }={ cls:=.type "list",data:=.seq its'.toArray n' })(r:Vals ys its')(hz:ys.length<=sizeLine)(t:Nat) :
  Inv X pins σ (upd H p (.lst ys)) { s with heap:=s.heap.update p f,toks:=t }:=by
 have e:(s.heap.update p f).get? p=some { cls:=.type "list",data:=.seq its'.toArray n' }:=by
  rw[Heap.get?_update_self f ho (by rw[hf]<;>rfl),hf]
 refine I.write (x:=p) (e:=p) (by rw[h];trivial) (.inl rfl) (fun b u hb q=>(Heap.get?_update_other _ _ (Ne.symm hb)).trans q) ⟨_,e⟩ ?_
 exact⟨hz,its',n',r,e⟩
def zqW:V->V->V->Hp->(Hp->Prop)->Prop:=fun o i v H Q=>∃p xs k j,o=.ref p/\i=.int k/\H p=some (.lst xs)/\ixN xs.length k=some j/\Q (upd H p (.lst (xs.set j v)))
theorem zkG:zrK X zqW:=by
 intro pins s σ H o i v ov iv u Q I ro ri rv h
 obtain⟨p,xs,k,j,rfl,rfl,hp,hj,q⟩:=h
 cases ro
 obtain⟨t,rfl⟩:=ri
 obtain⟨its,n,r,ho,hz⟩:=I.lst hp
 obtain⟨h1,h2,h3,h4⟩:=zi3 hj
 have hl:=r.length
 have hn:=zfY
 have I':Inv X pins σ (upd H p (.lst (xs.set j v))) { s with heap:=s.heap.update p (Obj.mapSeq (·.setIfInBounds j u)) } :=
  I.lstUpd hp ho (zib its n j u) (r.set rv j) (by rw[List.length_set];exact hz) s.toks
 by_cases h0:0<=k
 ·have hk:k.toNat=j:=by
   rw[seqIndex_of h0 h4] at h1
   exact Option.some.inj h1
  exact PySem.W.ki_setAt ho h0 (by omega) (by rw[List.size_toArray,<- hl];exact h4) (by rw[hk];exact⟨_,I',q⟩)
 ·have hk:(k+(its.toArray.size:Int)).toNat=j:=by
   rw[seqIndex_neg (by omega) h3] at h1
   rw[List.size_toArray,<- hl]
   exact Option.some.inj h1
  exact PySem.W.ki_setBack ho (by omega) (by rw[List.size_toArray,<- hl];exact h3) (by omega) (by rw[hk];exact⟨_,I',q⟩)
theorem zf4(lo hi:Option Int)(n:Nat):(sliceBounds lo hi none n).1=((HT.sIx n 0 lo:Nat):Int)/\(sliceBounds lo hi none n).2.1=((HT.sIx n n hi:Nat):Int)/\(sliceBounds lo hi none n).2.2=1:=by
 refine⟨?_,?_,rfl⟩
 ·cases lo with
  | none=>simp[sliceBounds,HT.sIx]
  | some i =>
   simp only[sliceBounds,HT.sIx,Option.getD_none,show(1:Int)>0 by decide,if_true]
   by_cases h:i<0
   ·simp only[h,if_true]<;>omega
   ·simp only[h,if_false]<;>omega
 ·cases hi with
  | none=>simp[sliceBounds,HT.sIx]
  | some i =>
   simp only[sliceBounds,HT.sIx,Option.getD_none,show(1:Int)>0 by decide,if_true]
   by_cases h:i<0
   ·simp only[h,if_true]<;>omega
   ·simp only[h,if_false]<;>omega
theorem ze6(its:List Value)(lo hi:Option Int):slicePick its.toArray lo hi none=((its.drop (HT.sIx its.length 0 lo)).take (HT.sIx its.length its.length hi-HT.sIx its.length 0 lo)).toArray:=by
 obtain⟨h1,h2,h3⟩:=zf4 lo hi its.toArray.size
 unfold slicePick
 rw[h1,h2,h3]
 simp only[sliceRange_one,pick_run,List.size_toArray]<;>rfl
def zrR(K:PySem.W.Frag):V->Option Int->Option Int->Hp->VK->Prop:=fun x lo hi H Q=>∃a xs,x=.ref a/\SqL K H a xs/\∀p,H p=none->Q (.ref p) (upd H p (.lst (zlZ xs lo hi)))
theorem zmX:SlR X (zrR X.K):=by
 intro pins s σ H x v vl vu lo hi sl Q I rx hs pl pu h
 obtain⟨a,xs,rfl,hx,q⟩:=h
 cases rx
 obtain⟨its,r,ht,hz⟩:=I.list hx
 have hlen:=r.length
 refine⟨"list",_,slot_list_getitem.lookup,ht.isList.typeIs,?_⟩
 refine wpAny_getItem_list_slice ht.isList hs pl pu .none (by simp) ?_ (by rw[List.size_toArray]<;>omega)
 rw[ze6,<- hlen]
 refine⟨.ref s.heap.objs.size,_,I.laid (t':=s.toks) (o:=.lst (zlZ xs lo hi)) (fun b ob q=>Heap.get?_push_of_some _ q) (Nat.le_refl _) ?_,rfl,q _ (I.hok.fresh (Nat.le_refl _))⟩
 exact⟨Nat.le_trans (zdI xs lo hi) hz,_,0,(r.drop (HT.sIx xs.length 0 lo)).take (HT.sIx xs.length xs.length hi-HT.sIx xs.length 0 lo),Heap.get?_push_size _ rfl⟩
theorem zf5:CallR X (.type "list") (fun xs H Q=>∃p ys,xs=[.ref p]/\(SqL X.K H p ys\/SqT X.K H p ys)/\∀l,H l=none->Q (.ref l) (upd H l (.lst ys))):=by
 intro pins s σ H xs us Q I r h
 obtain⟨p,ys,rfl,hq,q⟩:=h
 obtain⟨u,rfl,rx⟩:=ze2 r
 cases rx
 have fin:∀(its:List Value),Vals ys its->ys.length<=sizeLine->∀(h':Heap) (c':Nat),(∀b o',s.heap.get? b=some o'->h'.get? b=some o') ->
   h'.get? s.heap.objs.size=some { cls:=.type "list",dict:=none,data:=.seq its.toArray c',slots:=#[] }->EP X pins σ Q (.ref s.heap.objs.size) { s with heap:=h' }:=fun its r' hz h' c' kp e =>
  ⟨.ref s.heap.objs.size,_,I.laid (t':=s.toks) kp (Nat.le_refl _) (show ObjOk X.prog X.w _ h' _ (.lst ys) from⟨hz,its,c',r',e⟩),rfl,q _ (I.hok.fresh (Nat.le_refl _))⟩
 rcases hq with hq|hq
 ·obtain⟨its,r',pl,hz⟩:=I.list hq
  have hlen:=r'.length
  obtain⟨o,ho,hc,n,hd⟩:=pl.isList
  exact call_list_seq p (.inl rfl) ho hc hd (fun h' c' kp e=>fin its r' hz h' c' kp e) (by simp only[List.size_toArray]<;>omega)
 ·obtain⟨its,r',pl,hz⟩:=I.tuple hq
  have hlen:=r'.length
  obtain⟨o,ho,hc,n,hd⟩:=pl
  exact call_list_seq p (.inr rfl) ho hc hd (fun h' c' kp e=>fin its r' hz h' c' kp e) (by simp only[List.size_toArray]<;>omega)
theorem ze7:CallR X (.type "tuple") (fun xs H Q=>∃p ys,xs=[.ref p]/\((SqL X.K H p ys/\∀l,H l=none->Q (.ref l) (upd H l (.tup ys)))\/(SqT X.K H p ys/\Q (.ref p) H))):=by
 intro pins s σ H xs us Q I r h
 obtain⟨p,ys,rfl,h⟩:=h
 obtain⟨u,rfl,rx⟩:=ze2 r
 cases rx
 rcases h with ⟨hq,q⟩|⟨hq,q⟩
 ·obtain⟨its,r',pl,hz⟩:=I.list hq
  have hlen:=r'.length
  refine call_tuple_list pl.isList (fun h' kp=>?_) (by simp only[List.size_toArray]<;>omega)
  have I1:Inv X pins σ H { s with heap:=h' }:=I.kept (t':=s.toks) kp
  have I2:Inv X pins σ (upd H h'.objs.size (.tup ys)) { s with heap:=h'.push { cls:=.type "tuple",data:=.seq its.toArray } } :=
   I1.laid (t':=s.toks) (fun b o e=>Heap.get?_push_of_some _ e) (Nat.le_refl _) (show ObjOk X.prog X.w _ _ _ (.tup ys) from⟨hz,its,r',TupN.new _ _⟩)
  exact⟨.ref h'.objs.size,_,I2,rfl,q _ (I1.hok.fresh (Nat.le_refl _))⟩
 ·obtain⟨its,r',pl,hz⟩:=I.tuple hq
  exact call_tuple_same pl ⟨.ref p,H,I,rfl,q⟩
def tyV(K:PySem.W.Frag)(T:String)(x:V)(H:Hp):Prop:=match x with
 | .str _=>T = "str"
 | .int _=>T = "int"
 | .ref p=>(T = "list" /\ ∃xs,SqL K H p xs)\/(T = "tuple" /\ ∃o,K.lookup p=some o/\o.cls=.type "tuple" /\ o.dict=none) \/
   (T = "dict" /\ ((∃kvs,H p=some (.dK kvs))\/∃kvs,H p=some (.dT kvs)))\/(T = "set" /\ ∃S n,H p=some (.set S n))
 | _=>False
theorem zl0{pins:List (Addr×Obj)}{σ:St}{H:Hp}{s:Shared}{T:String}{x:V}{v:Value}(I:Inv X pins σ H s)(r:RelV x v)(ty:tyV X.K T x H) :
  s.TypeIs v T/\∀a,v=.ref a->∃ob,s.heap.get? a=some ob/\ob.dict=none:=by
 cases x with
 | str z =>
  obtain⟨t,rfl⟩:=r
  cases (show T = "str" from ty)
  exact⟨typeIs_str s z t,fun _ e=>nomatch e⟩
 | int i =>
  obtain⟨t,rfl⟩:=r
  cases (show T = "int" from ty)
  exact⟨typeIs_int s i t,fun _ e=>nomatch e⟩
 | ref p =>
  cases r
  rcases ty with ⟨rfl,xs,hq⟩|⟨rfl,o,hk,hc,hd⟩|⟨rfl,hk⟩|⟨rfl,S,n,hk⟩
  ·obtain⟨its,_,pl,_⟩:=I.list hq
   refine⟨pl.isList.typeIs,fun a e=>?_⟩
   cases e
   obtain⟨o,n,e,c,hd,_⟩:=pl
   exact⟨o,e,hd⟩
  ·refine⟨⟨o,I.kIn p o hk,hc⟩,fun a e=>?_⟩
   cases e
   exact⟨o,I.kIn _ o hk,hd⟩
  ·have z:∃o,s.heap.get? p=some o/\o.ExactDict:=by
    rcases hk with ⟨kvs,hk⟩|⟨kvs,hk⟩
    ·obtain⟨_,_,_,_,o,_,_,e,ex,_⟩:=I.hok p _ hk
     exact⟨o,e,ex⟩
    ·obtain⟨_,_,_,_,o,_,_,e,ex,_⟩:=I.hok p _ hk
     exact⟨o,e,ex⟩
   obtain⟨o,e,ex⟩:=z
   refine⟨⟨o,e,ex.1⟩,fun a e2=>?_⟩
   cases e2
   exact⟨o,e,ex.2.1⟩
  ·obtain⟨o,_,_,_,e,ex,_⟩:=I.hok p _ hk
   refine⟨⟨o,e,ex.1⟩,fun a e2=>?_⟩
   cases e2
   exact⟨o,e,ex.2.1⟩
 | _=>exact False.elim ty
def zsH(K:PySem.W.Frag)(T:String)(r:V->List V->Hp->VK->Prop)(to:TE):TE:=fun σ H Q=>to σ H fun x H1=>tyV K T x H1/\r x [] H1 Q
def tBM(K:PySem.W.Frag)(T:String)(r:V->List V->Hp->VK->Prop)(to:TE)(t:TA):TE:=fun σ H Q=>to σ H fun x H1=>tyV K T x H1/\t σ H1 fun xs H2=>r x xs H2 Q
variable {o e:Expr} {es:List Expr} {to:TE} {t:TA} {name:Str} {apos cpos:Pos} {T id:String} {r:V->List V->Hp->VK->Prop}
theorem zoU(pa:PlainAttrs T)(slot:Slot T name id)(hty:typeOf (.builtin id)=pure (.type "method_descriptor"))(hm:MtR X id r)(ho:PE X o to)(hbase:attributeBase o name X.env (eval o X.env)=eval o X.env:=by rfl)(hline:(apos.endLine==cpos.line)=true:=by rfl):PE X (.Call (.Attribute o name apos) [] [] cpos) (zsH X.K T r to):=by
 intro pins s σ H Q I h
 refine wpAny_Call_method0_late hbase hline (thn (ho pins s σ H _ I h) fun v s1 ⟨x,H1,I1,r1,ty,q1⟩=>?_)
 obtain⟨h1,h2⟩:=zl0 I1 r1 ty
 exact⟨T,id,pa,slot,hty,h1,h2,Calls.callWith_builtin rfl (PySem.evalArgs_none (hm pins s1 σ H1 x [] v [] Q I1 r1 .nil q1))⟩
theorem zqX(pa:PlainAttrs T)(slot:Slot T name id)(hty:typeOf (.builtin id)=pure (.type "method_descriptor"))(hm:MtR X id r)(ho:PE X o to)(ha:PA X (e::es) t)(hbase:attributeBase o name X.env (eval o X.env)=eval o X.env:=by rfl)(hfew:((backTo cpos (starEach (e::es) X.env)).all (fun x=>!x.1)&&(backToKw cpos (keywordEach [] X.env)).all (fun x=>x.1.isSome)
   && decide ((e::es).length+([]:List Keyword).length+(if ([]:List Keyword).isEmpty then 0 else 1)<30))=true:=by rfl)(hline:(apos.endLine==cpos.line)=true:=by rfl)(hs:starEach (e::es) X.env=(false,eval e X.env)::starEach es X.env:=by rfl)(hplain:(backTo cpos (starEach es X.env)).any (·.1)=false:=by rfl) :
  PE X (.Call (.Attribute o name apos) (e::es) [] cpos) (tBM X.K T r to t):=by
 intro pins s σ H Q I h
 refine wpAny_Call_method_late hbase hfew hline rfl (thn (ho pins s σ H _ I h) fun v s1 ⟨x,H1,I1,r1,ty,q1⟩=>?_)
 obtain⟨h1,h2⟩:=zl0 I1 r1 ty
 refine⟨T,id,pa,slot,hty,h1,h2,?_⟩
 have hA:=ha cpos pins s1 σ H1 _ I1 q1
 rw[hs] at hA ⊢
 refine Calls.callWith_builtin (by show(false||(backTo cpos (starEach es X.env)).any (·.1))=false;rw[hplain]<;>rfl) (Calls.evalArgs_plain ?_)
 exact thn hA fun us s2 ⟨vs,H2,I2,r2,q2⟩=>hm pins s2 σ H2 x vs v us Q I2 r1 r2 q2
end
end L2
namespace L2
open PySem PySem.Spec PyProof.Rows
def MtM(X:Cx)(id:String)(r:V->List V->Hp->VK->Prop):Prop :=
 ∀(pins:List (Addr×Obj)) (s:Shared) (σ:St) (H:Hp) (x:V) (xs:List V) (v:Value) (us:List Value) (Q:VK),Inv X pins σ H s->RelV x v->Vals xs us->r x xs H Q ->
  wpAny (model X.prog X.w) X.A (call (.builtin id) (v::us)) (EP X pins σ Q) X.xe s
theorem Vals.one:∀{x:V} {us:List Value},Vals [x] us->∃u,us=[u]/\RelV x u
 | _,_,.cons r .nil=>⟨_,rfl,r⟩
theorem Vals.zero:∀{us:List Value},Vals [] us->us=[]
 | _,.nil=>rfl
theorem Vals.dropLast{xs:List V}{us:List Value}(h:Vals xs us):Vals xs.dropLast us.dropLast:=by
 induction h with
 | nil=>exact .nil
 | cons r t ih =>
  cases t with
  | nil=>exact .nil
  | cons q t'=>exact .cons r ih
theorem zic{α:Type}(l:List α):l.eraseIdx (l.length-1)=l.dropLast:=by
 induction l with
 | nil=>rfl
 | cons a r ih =>
  cases r with
  | nil=>rfl
  | cons b r =>
   have e:(a::b::r).length-1=((b::r).length-1)+1:=by
    have h1:(a::b::r).length=r.length+2:=rfl
    have h2:(b::r).length=r.length+1:=rfl
    omega
   rw[e,List.eraseIdx_cons_succ,ih]
   all_goals rfl
section
variable {X:Cx} {pins:List (Addr×Obj)} {σ:St} {H:Hp} {s:Shared} {l b:Addr} {xs ys zs:List V}
theorem Inv.lset{its its':List Value}{n:Nat}{f:Array Value->Array Value}{t':Nat}(I:Inv X pins σ H s)(hH:H l=some (.lst xs))(e:s.heap.get? l=some { cls:=.type "list",data:=.seq its.toArray n })(hf:f its.toArray=its'.toArray)(hv:Vals ys its')(hz:ys.length<=sizeLine) :
  Inv X pins σ (upd H l (.lst ys)) { s with heap:=s.heap.update l (Obj.mapSeq f),toks:=t' }:=by
 have q:=PySem.IsL.update e f
 rw[hf] at q
 refine I.write (x:=l) (e:=l) (by rw[hH];exact trivial) (.inl rfl) (fun b' u hb hu=>(Heap.get?_update_other s.heap (Obj.mapSeq f) (Ne.symm hb)).trans hu) ⟨_,q⟩ ?_
 exact⟨hz,its',_,hv,q⟩
theorem Inv.lnew{its:List Value}{t':Nat}(I:Inv X pins σ H s)(hv:Vals ys its)(hz:ys.length<=sizeLine) :
  Inv X pins σ (upd H s.heap.objs.size (.lst ys)) { s with heap:=s.heap.push { cls:=.type "list",data:=.seq its.toArray },toks:=t' } :=
 I.laid (fun _ _ q=>Heap.get?_push_of_some _ q) (Nat.le_refl _) ⟨hz,its,0,hv,Heap.get?_push_size _ rfl⟩
theorem Inv.fresh(I:Inv X pins σ H s):H s.heap.objs.size=none:=I.hok.fresh (Nat.le_refl _)
theorem Inv.lstM(I:Inv X pins σ H s)(hH:H l=some (.lst xs)):xs.length<=sizeLine/\∃(its:List Value) (n:Nat),Vals xs its/\xs.length=its.length/\s.heap.get? l=some { cls:=.type "list",data:=.seq its.toArray n }:=by
 obtain⟨z,its,n,r,e⟩:=I.hok l _ hH
 exact⟨z,its,n,r,r.length,e⟩
end
section
variable {X:Cx}
def zi6:V->List V->Hp->VK->Prop:=fun x vs H Q=>∃l xs y,x=.ref l/\vs=[y]/\H l=some (.lst xs)/\xs.length<sizeLine/\Q .non (upd H l (.lst (xs++[y])))
theorem zbw:MtM X "list.append" zi6:=by
 intro pins s σ H x vs v us Q I rx rv h
 obtain⟨l,xs,y,rfl,rfl,hH,hz,q⟩:=h
 cases rx
 obtain⟨u,rfl,ru⟩:=rv.one
 obtain⟨z,its,n,r,hl,e⟩:=I.lstM hH
 refine call_meets F.slot_list_append ⟨_,e,rfl⟩ F.entry_list_append (F.args_list_append_2 _ _) (PySem.list_append l its.toArray n u (by rw[List.size_toArray];omega)) ⟨e,?_⟩
 refine⟨.non,_,I.lset (its':=its++[u]) hH e (by simp) (r.append (.cons ru .nil)) ?_,rfl,q⟩
 rw[List.length_append,List.length_singleton]
 omega
def zrS:V->List V->Hp->VK->Prop:=fun x vs H Q=>∃l xs y,x=.ref l/\vs=[]/\H l=some (.lst xs)/\xs[xs.length-1]?=some y/\Q y (upd H l (.lst xs.dropLast))
theorem zoV:MtM X "list.pop" zrS:=by
 intro pins s σ H x vs v us Q I rx rv h
 obtain⟨l,xs,y,rfl,rfl,hH,hy,q⟩:=h
 cases rx
 have hus:=rv.zero
 subst hus
 obtain⟨z,its,n,r,hl,e⟩:=I.lstM hH
 obtain⟨u,hu,ru⟩:=r.get hy
 have hy':its.toArray[its.toArray.size-1]?=some u:=by
  show its.toArray[its.length-1]?=some u
  rw[<- Array.getElem?_toList,<- hl]
  exact hu
 refine call_meets F.slot_list_pop ⟨_,e,rfl⟩ F.entry_list_pop (F.args_list_pop_1 _) (MeetsSeq.list_pop_last l its.toArray n u hy' (by rw[List.size_toArray];omega)) ⟨e,?_⟩
 refine⟨y,_,I.lset (its':=its.dropLast) hH e ?_ r.dropLast ?_,ru,q⟩
 ·show its.toArray.eraseIdxIfInBounds (its.toArray.size-1)=its.dropLast.toArray
  rw[List.size_toArray,List.eraseIdxIfInBounds_toArray,zic]
 ·rw[List.length_dropLast]
  omega
end
section
variable {prog:Program} {w:World} {A:Around} {E:Value->Shared->Prop} {s:Shared}
end
section
variable {X:Cx}
end
end L2
namespace Att
open PySem PySem.W PySem.Calls PyProof.Rows
theorem zdJ{P:Params}{h:Heap}:∀(ns:List Int) (vs:List Value),WellAll P h vs (ns.map WData.int)->IntsAre vs ns:=by
 intro ns
 induction ns with
 | nil =>
  intro vs w
  rw[List.map_nil] at w
  cases w
  exact .nil
 | cons n ns ih =>
  intro vs w
  rw[List.map_cons] at w
  cases w with
  | cons a b =>
   cases a
   exact .cons _ _ (ih _ b)
theorem zi7{l:OpenLaw}{n:Nat}(hn:l.most=some n){P:Params}{h:Heap}{args:List WData}{vals:List Value}(hpre:l.row.toRowW.claim.pre args=true)(hwl:WellAll P h vals args) :
  ∃a vs ns,vals=[Value.ref a]/\args=[WData.list (ns.map WData.int)]/\h.get? a=some { cls:=.type "list",data:=.seq vs.toArray }/\IntsAre vs ns/\ns.length<=n:=by
 have hsh:WShape.hasAll [] args [.list .int]=true:=(pre_splitW hpre).1
 have hc:l.pre.holds [] { args:=args }=true:=(pre_splitW hpre).2
 obtain⟨d,r,rfl,h1,h2⟩:=hasAllW_cons hsh
 obtain rfl:=hasAllW_nil h2
 obtain⟨xs,rfl,h3⟩:=hasW_list h1
 obtain⟨ns,rfl⟩:=items_int h3
 have hlen:ns.length<=n:=by
  unfold OpenLaw.pre at hc
  have h4:(WTm.not (.lt (.lit (.int (n:Int))) (.len (.arg 0)))).holds [] { args:=[.list (ns.map .int)] }=true:=by
   have h4:=(holds_andW hc).1
   rw[hn] at h4
   exact h4
  have h5:=condW_of h4 (w_not (w_lt w_lit (w_len_list (w_arg rfl))))
  rw[List.length_map] at h5
  refine Nat.le_of_not_lt fun q=>?_
  have q':(n:Int)<((ns.length:Nat):Int):=by omega
  first
   | (rw[decide_eq_true q'] at h5;exact absurd h5 (by decide))
   | (simp at h5;omega)
 cases hwl with
 | cons w1 w2 =>
  cases w2
  cases w1 with
  | list ho hall=>exact⟨_,_,ns,rfl,rfl,ho,zdJ ns _ hall,hlen⟩
theorem zi8(l:OpenLaw)(args:List WData):l.row.toRowW.claim.post args (.bool true) args=true :=
 postW_of (r:=l.row.toRowW) (X:=(true==true))
  (show WShape.has [] (.bool true) .bool=true by first|rfl|decide|simp[WShape.has,WShape.arms,WShape.armsAll])
  (show(WTm.eq .res (.lit (.bool true))).value [] { args:=args,res:=some (.bool true),after:=args }=some (.bool (true==true)) from w_eq_bool (w_res rfl) w_lit) rfl
theorem attach_call{l:OpenLaw}{n:Nat}{q:Program}{loose:List Str}{XP:(Str->Option Value)->Heap->Prop}{YP:World->Heap->Prop}{d:DefRec}(hn:l.most=some n)(hdf:d.params.defaults=[])(call:∀(w:World) (s₀ s₁:Shared) (mg mb:Str->Option Value) (fa:Addr) (o:Obj) (pm cd doc:Value) (a:Addr) (vs:List Value) (ns:List Int),
   Ground q loose [] XP w s₀ mg mb s₁.heap->YP w s₁.heap ->
   s₁.heap.get? fa=some o->o.data=.func (docDef d.name d.params d.body d.scope pm cd doc)->s₁.heap.CodeRec cd d.name->mg d.name=some (.ref fa) ->
   s₁.heap.get? a=some { cls:=.type "list",data:=.seq vs.toArray }->IntsAre vs ns->ns.length<=n->s₁.gens=#[] ->
   codeAny (model l.prog w) callerA (.call (.ref fa) ⟨[.ref a],[]⟩) (fun r s'=>r=.ok (.ret (.bool true))/\OldK s₁.heap s'.heap/\s'.os=s₁.os/\AllBare s'.gens) s₁) :
  WalkO q loose XP YP l.row.toRowW d [] (fun f vs=>PySem.call f vs):=by
 intro w s₀ s₁ mg mb G Y fa o pm cd doc dV kV ho hd hcd hD hmg hg args vals as hpre hlay hrd hwl hlo
 obtain rfl:dV=.none:=Dflts.none hD hdf
 obtain rfl:kV=.none:=Dflts.noKw hD
 obtain⟨a,vs,ns,rfl,rfl,hobj,hints,hlen⟩:=zi7 hn hpre hwl
 refine enter_call (codeAny_mono (call w s₀ s₁ mg mb fa o pm cd doc a vs ns G Y ho (fd_plain hd) hcd hmg hobj hints hlen hg) fun r s' hq=>?_)
 obtain⟨rfl,h2,h3,h4⟩:=hq
 exact⟨.inl ⟨.bool true,.bool true,[],rfl,fun _=>rfl,.bool true,zi8 l _,fun _=>⟨List.Pairwise.nil,fun _ hm=>(nomatch hm)⟩⟩,h2,h3,h4⟩
section
variable {prog:Program} {w:World} {A:Around} {E:Value->Shared->Prop} {s:Shared} {K:Frag}
def zrT(h:Heap)(L d:Addr):List (Addr×Obj):=(List.range h.objs.size).filterMap fun a=>if a=L\/a=d then none else (h.get? a).map fun o=>(a,o)
end
end Att
namespace L2
open PySem PySem.Spec PyProof.Rows
theorem zcm:∀{vs:List Value} {ns:List Int},IntsAre vs ns->Vals (ns.map V.int) vs
 | _,_,.nil=>.nil
 | _,_,.cons n t h=>.cons ⟨t,rfl⟩ (zcm h)
def zoW(H:Hp):Prop:=∀b,H b=none\/∃o xs,H b=some (.frz o (.lst xs))
theorem zkH{P:Program}{w:World}{K:PySem.W.Frag}{mg mb:Str->Option Value}{CX:CXT}{k:Nat}{fa a:Addr}{fd:FuncData}{x:Str}{sp:Sp}{s₁:Shared}{vs:List Value}{ns:List Int}(KX:K.In s₁.heap)(hns:s₁.heap.Ns mainGlobals mg)(hb:s₁.heap.Ns builtinsNs mb)(hbb:∀x:Str,x ≠ "__name__" -> mb x=bootBuiltins x)(hlim:s₁.heap.NoLimit)(hg:s₁.gens=#[])(ha:s₁.heap.get? a=some { cls:=.type "list",data:=.seq vs.toArray })(hi:IntsAre vs ns)(hl:ns.length<=sizeLine)(hr:Room k callerA)(F:∀base:Heap,K.In base->base.Ns mainGlobals mg->FnOk P w K mg base CX k fa fd [x] sp)(hbind:∀(s:Shared) (u:Value),BindsTo s fd ⟨[u],[]⟩ [(x,u)])(hsp:∀H:Hp,zoW H->SqL K H a (ns.map V.int)->sp [.ref a] H (fun v _=>v=.bl true) fun _ _ _=>False)(hCX:∀H e s',CX [] H s₁ (fun _ _ _=>False) e s'->False) :
  codeAny (model P w) callerA (.call (.ref fa) ⟨[.ref a],[]⟩) (fun r s'=>r=.ok (.ret (.bool true))/\OldK s₁.heap s'.heap/\s'.os=s₁.os/\AllBare s'.gens) s₁:=by
 have rv:=zcm hi
 have lenV:=hi.length
 have core:∀H:Hp,zoW H->SqL K H a (ns.map V.int)->HOk P w H s₁.heap->(∀b,H b≠none->b=a)->(H a≠none->K.lookup a=none) ->
   codeAny (model P w) callerA (.call (.ref fa) ⟨[.ref a],[]⟩) (fun r s'=>r=.ok (.ret (.bool true))/\OldK s₁.heap s'.heap/\s'.os=s₁.os/\AllBare s'.gens) s₁:=by
  intro H hO hS hok hA hK
  have base_of:∀{b:Addr} {o:Obj},s₁.heap.get? b=some o->H b=none->(zkr s₁.heap H).get? b=some o:=fun e n=>zks e n
  have noA:∀{b:Addr} {o:Obj} {es:Array DictEntry} {ep:Nat},s₁.heap.get? b=some o->o.data=.dict es ep->H b=none:=fun {b o es ep} e d=>by
   cases q:H b with
   | none=>rfl
   | some u =>
    have e':b=a:=hA b (by rw[q];simp)
    subst e'
    rw[ha] at e;cases e
    have d':Data.seq vs.toArray _=Data.dict es ep:=d
    cases d'
  have nsK:∀{b:Addr} {m:Str->Option Value},s₁.heap.Ns b m->(zkr s₁.heap H).Ns b m:=fun {b m} ⟨o,es,ep,e,d,r⟩=>⟨o,es,ep,base_of e (noA e d),d,r⟩
  have hKb:K.In (zkr s₁.heap H):=fun b o e=>base_of (KX b o e) (by
   cases q:H b with
   | none=>rfl
   | some u =>
    have e':b=a:=hA b (by rw[q];simp)
    subst e'
    rw[hK (by rw[q];simp)] at e;cases e)
  have hM:Mod K mg (zkr s₁.heap H):=⟨hKb,nsK hns,⟨mb,nsK hb,hbb⟩,let ⟨mc,h1,h2⟩:=hlim;⟨mc,nsK h1,h2⟩⟩
  have e0:Env0 P w K mg (zkr s₁.heap H) callerA [] s₁ H:=⟨rfl,hM,fun b o e=>zmB e,Nat.le_of_eq (ziO _ _),trivial,fun b hb=>absurd (show b∈([]:List Addr) from hb) (by simp),hok,.of_eq hg⟩
  refine codeAny_mono ((F _ hKb (nsK hns)).run callerA [] s₁ H ⟨[.ref a],[]⟩ [.ref a] [.ref a] _ _ hr e0 (hbind s₁ (.ref a)) (.cons rfl .nil) (hsp H hO hS)) fun r s' h=>?_
  cases r with
  | error e=>exact(hCX H e s' h).elim
  | ok fl =>
   cases fl with
   | next=>exact False.elim h
   | brk=>exact False.elim h
   | cont=>exact False.elim h
   | ret u =>
    obtain⟨v,H',os,bare,un,hok',r',q⟩:=h
    have q':v=.bl true:=q
    subst q'
    obtain rfl:u=Value.bool true:=r'
    refine⟨rfl,OldK.of_keep fun b o e=>?_,os,bare⟩
    cases q:H b with
    | none=>exact un.keep b o e q (by intro z;exact absurd (show b∈([]:List Addr) from z) (by simp)) (by simp)
    | some u =>
     rcases hO b with z|⟨ob,xs,z⟩
     ·rw[q] at z;cases z
     ·have z2:=un.frzs b ob _ z
      obtain⟨e1,_⟩:=hok b _ z
      obtain⟨e2,_⟩:=hok' b _ z2
      rw[e] at e1;cases e1
      exact e2
 cases hk:K.lookup a with
 | some o =>
  have e:=KX a o hk
  rw[ha] at e
  cases e
  refine core (fun _=>none) (fun _=>.inl rfl) (.inr ⟨_,vs.toArray,_,hk,rfl,rfl,rfl,by rw[List.size_toArray,lenV];exact hl,by simpa using rv⟩) (fun b u z=>by have z':(none:Option HO)=some u:=z;cases z') (fun b z=>absurd rfl z) fun z=>absurd rfl z
 | none =>
  refine core (fun b=>if b=a then some (.frz { cls:=.type "list",data:=.seq vs.toArray } (.lst (ns.map V.int))) else none) (fun b=>?_) (.inl (.inr ⟨{ cls:=.type "list",data:=.seq vs.toArray },if_pos rfl⟩)) (fun b u z=>?_) (fun b z=>?_) fun _=>hk
  ·by_cases hb:b=a
   ·exact .inr ⟨_,_,if_pos hb⟩
   ·exact .inl (if_neg hb)
  ·by_cases hb:b=a
   ·have z':=(if_pos hb).symm.trans z
    cases z'
    subst hb
    exact⟨ha,by rw[List.length_map];exact hl,vs,_,rv,ha⟩
   ·have z':=(if_neg hb).symm.trans z
    cases z'
  ·by_cases hb:b=a
   ·exact hb
   ·exact absurd (if_neg hb) z
end L2
namespace L2
open PySem PySem.Spec PyProof.Rows
theorem zmY{l:PySem.W.OpenLaw}{n k:Nat}{q:Program}{loose:List Str}{XP:(Str->Option Value)->Heap->Prop}{YP:World->Heap->Prop}{d:DefRec}{K:Params->PySem.W.Frag}{CX:World->CXT}{sp:World->Sp}{x:Str}(hn:l.most=some n)(hn2:n<=sizeLine)(hdf:d.params.defaults=[])(hr:Room k callerA)(hY:∀(w:World) (h:Heap),YP w h->(K w.params).In h)(F:∀(w:World) (mg:Str->Option Value) (fa:Addr) (h:Heap),(K w.params).In h->h.Ns mainGlobals mg->mg d.name=some (.ref fa) ->
   ∃fd:FuncData,(∀(s:Shared) (u:Value),BindsTo s fd ⟨[u],[]⟩ [(x,u)]) /\
    ∀base:Heap,(K w.params).In base->base.Ns mainGlobals mg->FnOk l.prog w (K w.params) mg base (CX w) k fa fd [x] (sp w))(hsp:∀(w:World) (H:Hp) (a:Addr) (ns:List Int),ns.length<=n->zoW H->SqL (K w.params) H a (ns.map V.int)->sp w [.ref a] H (fun v _=>v=.bl true) fun _ _ _=>False)(hCX:∀(w:World) (H:Hp) (s:Shared) (e:Value) (s':Shared),CX w [] H s (fun _ _ _=>False) e s'->False) :
  PySem.W.WalkO q loose XP YP l.row.toRowW d [] (fun f vs=>PySem.call f vs):=by
 refine Att.attach_call hn hdf fun w s₀ s₁ mg mb fa o pm cd doc a vs ns G Y ho hd hcd hmg hobj hints hlen hg=>?_
 have KX:=hY w _ Y
 obtain⟨fd,hb,hF⟩:=F w mg fa _ KX G.T.g hmg
 exact zkH KX G.T.g G.T.b G.T.builtins G.T.nolimit hg hobj hints (Nat.le_trans hlen hn2) hr hF hb (fun H hO hS=>hsp w H a ns hlen hO hS) fun H e s'=>hCX w H s₁ e s'
theorem walk_ofK{l:PySem.W.OpenLaw}{n k:Nat}{q:Program}{loose:List Str}{XP:(Str->Option Value)->Heap->Prop}{YP:World->Heap->Prop}{d:DefRec}{K:Params->PySem.W.Frag}{CX:CXT}{sp:PySem.W.Frag->Sp}{x:Str}(hn:l.most=some n)(hn2:n<=sizeLine)(hdf:d.params.defaults=[])(hr:Room k callerA)(hY:∀(w:World) (h:Heap),YP w h->(K w.params).In h)(F:∀(w:World) (mg:Str->Option Value) (fa:Addr) (h:Heap),(K w.params).In h->h.Ns mainGlobals mg->mg d.name=some (.ref fa) ->
   ∃fd:FuncData,(∀(s:Shared) (u:Value),BindsTo s fd ⟨[u],[]⟩ [(x,u)]) /\
    ∀base:Heap,(K w.params).In base->base.Ns mainGlobals mg->FnOk l.prog w (K w.params) mg base CX k fa fd [x] (sp (K w.params)))(hsp:∀(K:PySem.W.Frag) (H:Hp) (a:Addr) (ns:List Int),ns.length<=n->zoW H->SqL K H a (ns.map V.int)->sp K [.ref a] H (fun v _=>v=.bl true) fun _ _ _=>False)(hCX:∀(H:Hp) (s:Shared) (e:Value) (s':Shared),CX [] H s (fun _ _ _=>False) e s'->False) :
  PySem.W.WalkO q loose XP YP l.row.toRowW d [] (fun f vs=>PySem.call f vs) :=
 zmY (K:=K) (CX:=fun _=>CX) (sp:=fun w=>sp (K w.params)) hn hn2 hdf hr hY F (fun w H a ns h1 h2 h3=>hsp (K w.params) H a ns h1 h2 h3) fun _ H s e s'=>hCX H s e s'
end L2
namespace L2
open PySem PySem.Spec PyProof.Rows
def zaz(s:Stmt):Arguments:=match s with
 | .FunctionDef _ a _ _ _ _ _ _ _ _=>a
 | _=>{ posonlyargs:=[],args:=[],vararg:=none,kwonlyargs:=[],kw_defaults:=[],kwarg:=none,defaults:=[] }
def zay(s:Stmt):List Stmt:=match s with
 | .FunctionDef _ _ b _ _ _ _ _ _ _=>b
 | _=>[]
def zah(s:Stmt):Scope:=match s with
 | .FunctionDef _ _ _ _ _ _ sc _ _ _=>sc
 | _=>{ kind:=.function,names:=[],isGenerator:=false,isCoroutine:=false }
abbrev CX0:CXT:=fun _ _ _ _ _ _=>False
abbrev E0:XK:=fun _ _ _=>False
structure Fun (K:PySem.W.Frag) (x qual:Str) (st:Stmt) (f:Addr) (fd:FuncData):Prop where
 ex:∃(oc:Value) (od:Option Addr) (kV doc pm:Value) (an:Option Addr) (cdv ct:Value) (osl:Array (Option Value)),
  fd=PySem.W.fnOf x qual (zaz st) (zay st) (zah st) .none kV doc pm an cdv ct/\K.lookup f=some ⟨oc,od,.func fd,osl⟩/\PySem.W.codeIn K cdv qual=true
 kp:PySem.W.keepIn K (.ref f)=true
section
variable {P:Program} {w:World} {K:PySem.W.Frag} {mg:Str->Option Value} {base:Heap}
theorem Fun.binds{x qual:Str}{st:Stmt}{f:Addr}{fd:FuncData}{ps:List Str}(F:Fun K x qual st f fd)(h:∀(kV doc pm:Value) (an:Option Addr) (cdv ct:Value) (us:List Value),us.length=ps.length->bindArgs (PySem.W.fnOf x qual (zaz st) (zay st) (zah st) .none kV doc pm an cdv ct) ⟨us,[]⟩=pure (ps.zip us)):Binds K fd ps []:=by
 obtain⟨oc,od,kV,doc,pm,an,cdv,ct,osl,rfl,lk,hcd⟩:=F.ex
 exact .all (h kV doc pm an cdv ct)
theorem zaV{x qual:Str}{st:Stmt}{f:Addr}{oc:Value}{od an:Option Addr}{osl:Array (Option Value)}{kV doc pm cdv ct:Value}(l:K.lookup f=some ⟨oc,od,.func (PySem.W.fnOf x qual (zaz st) (zay st) (zah st) .none kV doc pm an cdv ct),osl⟩)(c:PySem.W.codeIn K cdv qual=true)(k:PySem.W.keepIn K (.ref f)=true):Fun K x qual st f (PySem.W.fnOf x qual (zaz st) (zay st) (zah st) .none kV doc pm an cdv ct):=⟨⟨oc,od,kV,doc,pm,an,cdv,ct,osl,rfl,l,c⟩,k⟩
end
section
variable {X:Cx}
end
def zs3(H H':Hp):Prop:=∀b o,H b=some o->H' b=some o
end L2
namespace L2
open PySem PySem.Spec PyProof.Rows
def zid(js:List Nat)(σ:St):St:=js.map fun j=>σ.getD j none
structure BlkS (N:List Str) (psc:Scope) (js:List Nat) (N':List Str) (scope:Scope):Prop where
 cell:∀y∈scope.names,y.2≠.cell
 kind:scope.kind=.function
 names:∀y∈scope.names,y.2=.local->scope.names.lookup y.1=some .local
 frees:∀y∈scope.names,y.2=.free->psc.names.lookup y.1=some .cell\/psc.names.lookup y.1=some .free
 nd:N'.Nodup
 len:N'.length=js.length+1
 cap:∀p∈js.zip (N'.drop 1),N[p.1]?=some p.2/\scope.names.lookup p.2=some .free
def zcB(env:Env)(cs:List (Str×Addr))(y:Str×NameKind):List (Str×Addr):=if y.2==.free then (y.1,(env.cells.lookup y.1).getD 0)::cs else cs
def clOf(scope:Scope)(env:Env):List (Str×Addr):=scope.names.foldl (zcB env) []
theorem zdK{α β:Type}(f:α->β->Sem (ForInStep β))(g:β->α->β):∀(l:List α) (b:β),(∀x∈l,∀c,f x c=pure (.yield (g c x)))->forIn l b f=pure (l.foldl g b)
 | [],_,_=>rfl
 | x::l,b,h=>by
  rw[List.forIn_cons,h x List.mem_cons_self,pure_bind]
  exact zdK f g l (g b x) fun y hy=>h y (List.mem_cons_of_mem _ hy)
theorem zie{scope:Scope}{env:Env}(h:∀y∈scope.names,y.2=.free->∃c,env.cells.lookup y.1=some c):closureFor scope env=pure (clOf scope env):=by
 simp only[closureFor,clOf]
 rw[zdK _ (zcB env) scope.names [] (fun y hy c=>by
  obtain⟨n,k⟩:=y
  by_cases hk:k=.free
  ·subst hk
   obtain⟨a,ha⟩:=h _ hy rfl
   have ha':env.cells.lookup n=some a:=ha
   simp[cellOf,ha',zcB]
  ·have hb:(k==NameKind.free)=false:=by simpa using hk
   simp[hb,zcB])]
 rfl
theorem zeF{env:Env}{P:Str×Addr->Prop}:∀(l:List (Str×NameKind)) (acc:List (Str×Addr)),(∀p∈acc,P p)->(∀y∈l,y.2=.free->P (y.1,(env.cells.lookup y.1).getD 0))->∀p∈l.foldl (zcB env) acc,P p
 | [],_,ha,_=>ha
 | y::l,acc,ha,hl=>by
  refine zeF l _ (fun p hp=>?_) fun z hz=>hl z (List.mem_cons_of_mem _ hz)
  unfold zcB at hp
  by_cases hk:y.2=.free
  ·rw[if_pos (by simp[hk])] at hp
   rcases List.mem_cons.mp hp with e|hp
   ·rw[e];exact hl y List.mem_cons_self hk
   ·exact ha p hp
  ·rw[if_neg (by simp[hk])] at hp
   exact ha p hp
theorem zeG{env:Env}:∀(l:List (Str×NameKind)) (acc:List (Str×Addr)),∀p∈acc,p∈l.foldl (zcB env) acc
 | [],_,_,hp=>hp
 | y::l,acc,p,hp=>by
  refine zeG l _ p ?_
  unfold zcB
  split
  ·exact List.mem_cons_of_mem _ hp
  ·exact hp
theorem zeH{env:Env}{y:Str}:∀(l:List (Str×NameKind)) (acc:List (Str×Addr)),(y,NameKind.free)∈l->∃c,(y,c)∈l.foldl (zcB env) acc
 | z::l,acc,h=>by
  rcases List.mem_cons.mp h with e|h
  ·subst e
   exact⟨(env.cells.lookup y).getD 0,zeG l _ _ (by simp[zcB])⟩
  ·exact zeH l _ h
theorem zcO{β:Type}{y:Str}{c:β}:∀{l:List (Str×β)},(y,c)∈l->∃c',l.lookup y=some c'
 | (n,d)::l,h=>by
  rw[List.lookup_cons]
  cases e:y==n with
  | true=>exact⟨d,rfl⟩
  | false =>
   rcases List.mem_cons.mp h with q|q
   ·have q1:y=n:=congrArg Prod.fst q
    rw[q1] at e
    simp at e
   ·exact zcO q
theorem zf6{scope:Scope}{env:Env}(h:∀y∈scope.names,y.2=.free->∃c,env.cells.lookup y.1=some c){y:Str}{c:Addr}(e:(clOf scope env).lookup y=some c):env.cells.lookup y=some c:=by
 refine zeF (P:=fun p=>env.cells.lookup p.1=some p.2) scope.names [] (fun _ hp=>nomatch hp) (fun z hz hf=>?_) (y,c) (PySem.mem_of_lookup e)
 obtain⟨a,ha⟩:=h z hz hf
 simp[ha]
theorem zhr{scope:Scope}{env:Env}{y:Str}(h:(y,NameKind.free)∈scope.names):∃c,(clOf scope env).lookup y=some c:=by
 obtain⟨c,hc⟩:=zeH (env:=env) scope.names [] h
 exact zcO hc
theorem relabel_of{env:Env}{y:Str}{k':NameKind}:∀{names:List (Str×NameKind)},(names.map fun(n,k)=>if (k==NameKind.free&&env.scope.kind==.function&&env.kindOf n==some .cell) then (n,NameKind.cell) else (n,k)).lookup y=some k' ->
  ∃k,(y,k)∈names/\(k'=k\/(k=.free/\k'=.cell))
 | [],h=>by simp at h
 | (n,k)::r,h=>by
  have ih:=@relabel_of env y k' r
  have h:List.lookup y ((if (k==NameKind.free&&env.scope.kind==.function&&env.kindOf n==some .cell)=true then (n,NameKind.cell) else (n,k))::_)=some k':=h
  cases e:y==n with
  | true =>
   have e':y=n:=by simpa using e
   by_cases hc:(k==NameKind.free&&env.scope.kind==.function&&env.kindOf n==some .cell)=true
   ·rw[if_pos hc] at h
    simp only[List.lookup_cons,e] at h
    cases h
    have hk:k=.free:=by
     simp only[Bool.and_eq_true] at hc
     simpa using hc.1.1
    subst hk
    exact⟨.free,by rw[e'];exact List.mem_cons_self,.inr ⟨rfl,rfl⟩⟩
   ·rw[if_neg hc] at h
    simp only[List.lookup_cons,e] at h
    have hk:=Option.some.inj h
    exact⟨k,by rw[e'];exact List.mem_cons_self,.inl hk.symm⟩
  | false =>
   have h':List.lookup y (r.map fun(n,k)=>if (k==NameKind.free&&env.scope.kind==.function&&env.kindOf n==some .cell) then (n,NameKind.cell) else (n,k))=some k':=by
    by_cases hc:(k==NameKind.free&&env.scope.kind==.function&&env.kindOf n==some .cell)=true
    ·rw[if_pos hc] at h
     simp only[List.lookup_cons,e] at h
     exact h
    ·rw[if_neg hc] at h
     simp only[List.lookup_cons,e] at h
     exact h
   obtain⟨k0,h1,h2⟩:=ih h'
   exact⟨k0,List.mem_cons_of_mem _ h1,h2⟩
theorem relabel_free{env:Env}{y:Str}:∀{names:List (Str×NameKind)},names.lookup y=some .free ->
  (names.map fun(n,k)=>if (k==NameKind.free&&env.scope.kind==.function&&env.kindOf n==some .cell) then (n,NameKind.cell) else (n,k)).lookup y=some .cell \/
  (names.map fun(n,k)=>if (k==NameKind.free&&env.scope.kind==.function&&env.kindOf n==some .cell) then (n,NameKind.cell) else (n,k)).lookup y=some .free
 | [],h=>by simp at h
 | (n,k)::r,h=>by
  have ih:=@relabel_free env y r
  show List.lookup y ((if (k==NameKind.free&&env.scope.kind==.function&&env.kindOf n==some .cell)=true then (n,NameKind.cell) else (n,k))::_)=_\/List.lookup y ((if (k==NameKind.free&&env.scope.kind==.function&&env.kindOf n==some .cell)=true then (n,NameKind.cell) else (n,k))::_)=_
  cases e:y==n with
  | true =>
   simp only[List.lookup_cons,e] at h
   cases h
   by_cases hc:(NameKind.free==NameKind.free&&env.scope.kind==.function&&env.kindOf n==some .cell)=true
   ·rw[if_pos hc];exact .inl (by simp[List.lookup_cons,e])
   ·rw[if_neg hc];exact .inr (by simp[List.lookup_cons,e])
  | false =>
   simp only[List.lookup_cons,e] at h
   by_cases hc:(k==NameKind.free&&env.scope.kind==.function&&env.kindOf n==some .cell)=true
   ·rw[if_pos hc];simp only[List.lookup_cons,e];exact ih h
   ·rw[if_neg hc];simp only[List.lookup_cons,e];exact ih h
def blk(X:Cx)(N':List Str)(scope:Scope)(C:Addr)(fp:List Addr)(s₀:Shared)(H₀:Hp):Cx :=
 { X with N:=N',s₀:=s₀,H₀:=H₀,env:=compEnvC scope (clOf scope X.env) C X.env,outer:=X.stack,stack:=X.stack,ex:=fp,fn:=fun _=>false,pn:=[],xe:=fun _ _=>False }
theorem HOk.track{P:Program}{w:World}{H:Hp}{h:Heap}{a:Addr}{o:HO}(x:HOk P w H h)(hn:H a=none)(new:ObjOk P w (upd H a o) h a o):HOk P w (upd H a o) h:=fun b u e=>by
 by_cases hb:b=a
 ·subst hb;rw[zat] at e;cases e;exact new
 ·rw[zau hb] at e
  exact(x b u e).stay (fun c v _ q=>q) (fun c q=>by rw[zau (zaq q hn)];exact q) fun c xs q=>by rw[zau (zaq q hn)];exact q
section
variable {X:Cx} {pins:List (Addr×Obj)} {σ:St} {H:Hp} {s:Shared}
theorem Inv.stkNe(I:Inv X pins σ H s){b:Addr}(h1:b≠X.env.locals)(h2:b∉X.fs):b∉frs X.stack:=fun hb=>(List.mem_cons.mp (I.stkSub b hb)).elim h1 h2
theorem Inv.frees(I:Inv X pins σ H s){js:List Nat}{N':List Str}{scope:Scope}(B:BlkS X.N X.env.scope js N' scope):∀y∈scope.names,y.2=.free->∃c,X.env.cells.lookup y.1=some c :=
 fun y hy hf=>I.ok.has y.1 (B.frees y hy hf)
theorem zi9{js:List Nat}{x:Str}{caps:List Str}{scope:Scope}{C:Addr}{fp:List Addr}{h₁:Heap}{tk:Nat}{m:Str->Option Value}(B:BlkS X.N X.env.scope js (x::caps) scope)(I:Inv X pins σ H s)(f2:∀b∈fp,zlU X pins H b)(ho:∀b∈fp,∃o,s.heap.get? b=some o)(hC:s.heap.objs.size<=C)(old:∀b o,s.heap.get? b=some o->h₁.get? b=some o)(ns:h₁.Ns C m) :
  Inv (blk X (x::caps) scope C fp s H) [] (none::zid js σ) H { s with heap:=h₁,toks:=tk }:=by
 have fr:=I.frees B
 have clo:∀y c,(clOf scope X.env).lookup y=some c->X.env.cells.lookup y=some c:=fun y c e=>zf6 fr e
 have lt:∀b∈fp,b<s.heap.objs.size:=fun b hb=>let ⟨o,e⟩:=ho b hb;Heap.lt_size e
 refine⟨⟨I.ok.mod,B.kind,I.ok.glob,I.ok.blt,hC,fun a b c h1 h2=>I.ok.inj a b c (clo _ _ h1) (clo _ _ h2),fun y hy=>?_,fun y c h _=>absurd (show false=true from h) Bool.false_ne_true,I.ok.hd,I.ok.frames,.inl rfl,
   fun b hb=>⟨Nat.ne_of_lt (Nat.lt_of_lt_of_le (lt b hb) hC),fun y c h=>(f2 b hb).2.2.2.2.1 y c (clo y c h)⟩,I.bs,Nat.le_trans I.ok.bsz I.sz,fun b o e hb=>?_,fun b hb=>I.stkNe (f2 b hb).2.1 (f2 b hb).2.2.1,I.stack,I.stkFree⟩,
  rfl,I.bare,Un.kept old,⟨m,ns,fun i y v e1 e2 e3=>?_⟩,fun y c h=>?_,I.hok.fresh hC,fun y c h=>I.freeC y c (clo y c h),fun p hp=>absurd (show p∈([]:List (Addr×Obj)) from hp) (by simp),I.hok.kept old,?_⟩
 ·have hy':(relabel scope X.env).names.lookup y=some .cell\/(relabel scope X.env).names.lookup y=some .free:=hy
  have hm:(y,NameKind.free)∈scope.names:=by
   rcases hy' with z|z
   ·obtain⟨k,h1,h2⟩:=relabel_of z
    rcases h2 with h2|⟨h2,_⟩
    ·exact absurd h2.symm (B.cell _ h1)
    ·rw[h2] at h1;exact h1
   ·obtain⟨k,h1,h2⟩:=relabel_of z
    rcases h2 with h2|⟨_,h2⟩
    ·rw[<- h2] at h1;exact h1
    ·cases h2
  exact zhr hm
 ·rcases(f2 b hb).2.2.2.1 with z|z
  ·exact I.ok.noex b o e z
  ·exact absurd (Nat.lt_of_lt_of_le (Heap.lt_size e) (Nat.le_trans I.ok.bsz z)) (Nat.lt_irrefl _)
 ·cases i with
  | zero =>
   have q:some (none:Option V)=some (some v):=e2
   cases q
  | succ k =>
   have e1':caps[k]?=some y:=e1
   have e2':(js.map fun j=>σ.getD j none)[k]?=some (some v):=e2
   rw[List.getElem?_map] at e2'
   cases hj:js[k]? with
   | none=>rw[hj] at e2';cases e2'
   | some j =>
    rw[hj] at e2'
    have hv:σ.getD j none=some v:=Option.some.inj e2'
    have hσ:σ[j]?=some (some v):=by
     rw[List.getD_eq_getElem?_getD] at hv
     cases q:σ[j]? with
     | none=>rw[q] at hv;cases hv
     | some z=>rw[q] at hv;exact congrArg some hv
    have hz:(j,y)∈js.zip caps:=List.mem_of_getElem? (List.getElem?_zip_eq_some.mpr ⟨hj,e1'⟩)
    obtain⟨hN,hf⟩:=B.cap (j,y) hz
    have hk:=B.frees (y,.free) (PySem.mem_of_lookup hf) rfl
    obtain⟨m',_,hl⟩:=I.loc
    obtain⟨u,r,l⟩:=hl j y v hN hσ (.inr hk)
    rcases l with ⟨k1,_⟩|⟨k1,c,hcl,o,hco,hcd⟩
    ·have k1':X.env.scope.names.lookup y=some .local:=k1
     have hk':X.env.scope.names.lookup y=some .cell\/X.env.scope.names.lookup y=some .free:=hk
     rw[k1'] at hk'
     rcases hk' with z|z<;>cases z
    ·obtain⟨c',hc'⟩:=zhr (env:=X.env) (PySem.mem_of_lookup hf)
     have:=clo _ _ hc'
     rw[hcl] at this
     cases this
     exact⟨u,r,.inr ⟨relabel_free hf,c,hc',o,old c o hco,hcd⟩⟩
 ·obtain⟨v,o,h1,h2⟩:=I.cell y c (clo y c h)
  exact⟨v,o,old c o h1,h2⟩
 ·show(none::zid js σ).length=(x::caps).length
  rw[B.len]
  simp[zid]
end
end L2
namespace L2
open PySem PySem.Spec PyProof.Rows
def PIfs(Y:Cx)(ifs:List Expr)(tt:TT):Prop :=
 ∀(pins:List (Addr×Obj)) (s:Shared) (σ:St) (H:Hp) (Q:Bool->Hp->Prop),Inv Y pins σ H s->tt σ H Q ->
  wpAny (model Y.prog Y.w) Y.A (forIn ifs true fun c r=>if r=true then do let ok <- isTrue c Y.env (eval c Y.env);pure (ForInStep.yield ok) else pure (ForInStep.yield r)) (TP Y pins σ Q) Y.xe s
def zqY:TT:=fun _ H Q=>Q true H
theorem zkI{Y:Cx}:PIfs Y [] zqY:=fun _ _ _ H _ I h=>wpAny_tests_nil ⟨H,I,h⟩
theorem zkJ{Y:Cx}{c:Expr}{tc:TT}(h:PT Y c tc):PIfs Y [c] tc:=fun pins s σ H Q I hw=>wpAny_tests_one (h pins s σ H Q I hw)
def zsI(J:It)(cs:St)(tt:TT)(te:TE)(Q:VK)(H1:Hp):Prop:=∃W:Nat->Nat->List V->Hp->Prop,(∃m,W 0 m [] H1)/\∀i m ys H2,W i m ys H2 ->
 (J.stop i H2/\∀p,H2 p=none->Q (.ref p) (upd H2 p (.lst ys))) \/
 (J.go i H2/\ys.length<sizeLine/\∃N:List V->Hp->Prop,(∀ys' H',N ys' H'->∃m',m'<m/\W (i+1) m' ys' H') /\
  ∀x H',J.yld i H2 x H'->tt (some x::cs) H' fun b H4=>if b=true then te (some x::cs) H4 fun y H5=>N (ys++[y]) H5 else N ys H4)
def tLC(js:List Nat)(wi:TI)(tt:TT)(te:TE):TE:=fun σ H Q=>wi σ H fun J H1=>zsI J (zid js σ) tt te Q H1
theorem zkK{α:Type}{M:Model}{A:Around}{Φ:Unit->Shared->Prop}{E E':Value->Shared->Prop}{s:Shared}{t:Sem α}{Ψ:α->Shared->Prop}(h:wpAny M A (pure ()) Φ E s)(k:Φ () s->wpAny M A t Ψ E' s):wpAny M A t Ψ E' s :=
 fun Γ p hΓ=>k (h Γ p hΓ) Γ p hΓ
section
variable {X:Cx} {elt iter:Expr} {x:Str} {px pos p:Pos} {ifs:List Expr} {scope:Scope} {js:List Nat} {caps:List Str} {wi:TI} {tt:TT} {te:TE}
theorem zja{use:Option (Value->Sem Unit)}{Qf:Value->Shared->Prop}{pins:List (Addr×Obj)}{s:Shared}{σ:St}{H:Hp}{Q:VK}(B:BlkS X.N X.env.scope js (x::caps) scope)(hc:X.calm=true)(hx:scope.names.lookup x=some .local)(hi:PI X (.Name x px) iter wi)(ht:∀C fp s₀ H₀,PIfs (blk X (x::caps) scope C fp s₀ H₀) ifs tt)(he:∀C fp s₀ H₀,PE (blk X (x::caps) scope C fp s₀ H₀) elt te)(hs:∀v,foldedSetIterable iter X.env v=pure v)(I:Inv X pins σ H s)(hw:tLC js wi tt te σ H Q)(fin:∀(C D:Addr) (oC:Obj) (ys:List V) (H':Hp) (s1:Shared),Inv X (pins++[(C,oC)]) σ (upd H' D (.lst ys)) s1->Q (.ref D) (upd H' D (.lst ys)) ->
   (∀σ' H'' s',Inv X (pins++[(C,oC)]) σ' H'' s'->(∃m,s'.heap.Ns C m)/\∀h',Heap.SameBut C s'.heap h'->Inv X pins σ' H'' { s' with heap:=h' }) ->
   compPost (model X.prog X.w) X.A X.xe use Qf (.ref D) C (.ok .next) s1) :
  wpAny (model X.prog X.w) X.A (comprehension (.ListComp elt [⟨.Name x px,iter,ifs,0⟩] scope pos) scope X.env p (newList []) false (eval iter X.env) use) Qf X.xe s:=by
 have fr:=I.frees B
 refine wpAny_comprehension_free (use:=use) rfl hs (zie fr) B.kind B.names (thn (hi pins s σ H _ I hw) fun v s1 h1=>thn h1 fun itv s2 h2=>?_)
 obtain⟨it,fp,tn,J,H2,e,I2,T,st2,f2,W,⟨m0,w0⟩,turn⟩:=h2
 subst e
 refine wpAny_newObj_type (wpAny_newFunctionEnv B.cell (by intro y hy;simp at hy) (fun h₁ hns₁ hsb₁=>?_) B.kind)
 dsimp only at hns₁ hsb₁ ⊢
 generalize hG:s2.heap.push { cls:=.type "list",dict:=none,data:=.seq ([]:List Value).toArray }=G at hns₁ hsb₁ ⊢
 have hC:G.objs.size=s2.heap.objs.size+1:=by rw[<- hG,Heap.size_push]
 have hDC:s2.heap.objs.size≠G.objs.size:=by rw[hC];exact Nat.ne_of_lt (Nat.lt_succ_self _)
 have hCle:s2.heap.objs.size<=G.objs.size:=by rw[hC];exact Nat.le_succ _
 have old:∀b o,s2.heap.get? b=some o->h₁.get? b=some o:=fun b o e =>
  hsb₁.extBut b o (Nat.ne_of_lt (Nat.lt_of_lt_of_le (Heap.lt_size e) hCle)) (Heap.get?_push_of_some _ (hG▸Heap.get?_push_of_some _ e))
 have hacc:h₁.get? s2.heap.objs.size=some (LCg.lst []):=hsb₁.extBut _ _ hDC (Heap.get?_push_of_some _ (hG▸Heap.get?_push_size _ rfl))
 have fpo:∀b∈fp,∃o,s2.heap.get? b=some o:=fun b hb=>let ⟨o,e,_⟩:=T.obj 0 _ st2 b hb;⟨o,e⟩
 have fpl:∀b∈fp,b<s2.heap.objs.size:=fun b hb=>let ⟨o,e⟩:=fpo b hb;Heap.lt_size e
 have clo:∀y c,(clOf scope X.env).lookup y=some c->X.env.cells.lookup y=some c:=fun y c e=>zf6 fr e
 have cls2:∀y c,X.env.cells.lookup y=some c->c<s2.heap.objs.size:=fun y c e=>let ⟨v,o,h1,_⟩:=I2.cell y c e;Heap.lt_size h1
 have st1:tn 0 h₁:=T.keep 0 _ _ st2 fun b _ o e=>old b o e
 have D_fs:s2.heap.objs.size∉frs X.stack:=I2.stkNe (Nat.ne_of_gt I2.lt) (I2.nofs (Nat.le_refl _))
 have C_fs:G.objs.size∉X.fs:=I2.nofs hCle
 have C_L:G.objs.size≠X.env.locals:=Nat.ne_of_gt (Nat.lt_of_lt_of_le I2.lt hCle)
 have fpY:∀{pl:List (Addr×Obj)} {H':Hp},(∀b∈fp,H' b=none)->(∀p∈pl,s2.heap.objs.size<=p.1)->∀b∈fp,zlU (blk X (x::caps) scope G.objs.size fp s2 H2) pl H' b:=fun {pl H'} hn hp b hb =>
  ⟨hn b hb,Nat.ne_of_lt (Nat.lt_of_lt_of_le (fpl b hb) hCle),I2.stkNe (f2 b hb).2.1 (f2 b hb).2.2.1,.inl hb,fun y c h=>(f2 b hb).2.2.2.2.1 y c (clo y c h),fun p hp' z =>
   absurd (Nat.lt_of_lt_of_le (fpl b hb) (by rw[<- z];exact hp p (by simpa[blk] using hp'))) (Nat.lt_irrefl _)⟩
 have rel:∀{oC:Obj} {mC:Str->Option Value},LCg.NsObj oC mC->∀σ' H'' s',Inv X (pins++[(G.objs.size,oC)]) σ' H'' s'->(∃m,s'.heap.Ns G.objs.size m)/\∀h',Heap.SameBut G.objs.size s'.heap h'->Inv X pins σ' H'' { s' with heap:=h' }:=by
  intro oC mC hns σ' H'' s' I'
  obtain⟨e1,e2,e3,e4,e5⟩:=I'.pin (G.objs.size,oC) (List.mem_append_right _ (List.mem_append_right _ (by simp)))
  refine⟨⟨mC,hns.ns e1⟩,fun h' hs'=>?_⟩
  exact(I'.unpinned).turned (t':=s'.toks) (it:=G.objs.size) (fun b o hb e=>(hs'.2 b hb).trans e) e2 e3 (.inr (Nat.le_trans I2.sz hCle)) (fun y c h z=>absurd (Nat.lt_of_lt_of_le (cls2 y c h) (by rw[z];exact hCle)) (Nat.lt_irrefl _))
   (fun q hq z=>absurd (Nat.lt_of_lt_of_le (Heap.lt_size (I2.pin q hq).1) (by rw[z];exact hCle)) (Nat.lt_irrefl _))
 have I1:Inv (blk X (x::caps) scope G.objs.size fp s2 H2) [] (none::zid js σ) H2 { s2 with heap:=h₁,toks:=s2.toks+([]:List (Str×Value)).length }:=zi9 B I2 f2 fpo hCle old hns₁
 have hxl:(blk X (x::caps) scope G.objs.size fp s2 H2).env.scope.names.lookup x=some .local:=lookup_relabel_local hx
 have pinD:∀{us:List Value} {σ3:St} {H3:Hp} {s3:Shared},Inv (blk X (x::caps) scope G.objs.size fp s2 H2) [] σ3 H3 s3->s3.heap.get? s2.heap.objs.size=some (LCg.lst us)->H3 s2.heap.objs.size=none ->
   Inv (blk X (x::caps) scope G.objs.size fp s2 H2) [(s2.heap.objs.size,LCg.lst us)] σ3 H3 s3:=fun {us σ3 H3 s3} I3 hD nD=>I3.pins_of fun p hp=>by
  have e:p=(s2.heap.objs.size,LCg.lst us):=by simpa using hp
  subst e
  exact⟨hD,nD,hDC,D_fs,fun v z=>by
   have z':Data.seq _ _=Data.cell v:=z
   cases z'⟩
 have back:∀{us us':List Value} {ts:Option V} {H8:Hp} {s5 s8:Shared} {h9:Heap} {i:Nat},Inv (blk X (x::caps) scope G.objs.size fp s2 H2) ([(s2.heap.objs.size,LCg.lst us)]++zeB fp s5.heap) (ts::zid js σ) H8 s8->tn (i+1) s5.heap ->
   (∀b,b≠s2.heap.objs.size->h9.get? b=s8.heap.get? b)->h9.get? s2.heap.objs.size=some (LCg.lst us') ->
   Inv (blk X (x::caps) scope G.objs.size fp s2 H2) [] (none::zid js σ) H8 { s8 with heap:=h9 }/\tn (i+1) h9/\(∀b∈fp,H8 b=none)/\H8 s2.heap.objs.size=none:=by
  intro us us' ts H8 s5 s8 h9 i I8 st5 hk hD9
  have pn:∀q∈[(s2.heap.objs.size,LCg.lst us)]++zeB fp s5.heap,s8.heap.get? q.1=some q.2/\H8 q.1=none:=fun q hq=>let z:=I8.pin q (List.mem_append_right _ hq);⟨z.1,z.2.1⟩
  have nD:H8 s2.heap.objs.size=none:=(pn (s2.heap.objs.size,LCg.lst us) (by simp)).2
  have Iw:Inv (blk X (x::caps) scope G.objs.size fp s2 H2) [] (none::zid js σ) H8 s8:=(I8.pins_of (pins':=[]) fun q hq=>nomatch hq).weak rfl fun j v e=>by
   cases j with
   | zero =>
    have q:some (none:Option V)=some (some v):=e
    cases q
   | succ j=>exact e
  refine⟨Iw.turned (t':=s8.toks) (it:=s2.heap.objs.size) (fun b o hb e=>(hk b hb).trans e) nD hDC (.inr (Nat.le_refl _)) (fun y c h z=>absurd (cls2 y c (clo y c h)) (by rw[z];exact Nat.lt_irrefl _)) (fun q hq=>absurd (show q∈([]:List (Addr×Obj)) from hq) (by simp)),
   T.keep _ _ _ st5 fun b hb o e=>?_,fun b hb=>?_,nD⟩
  ·rw[hk b (Nat.ne_of_lt (fpl b hb))]
   exact(pn (b,o) (List.mem_append_right _ (zcu hb e))).1
  ·obtain⟨o,e,_⟩:=T.obj _ _ st5 b hb
   exact(pn (b,o) (List.mem_append_right _ (zcu hb e))).2
 have loop:codeAny (model X.prog X.w) X.A (.compLoop (.ListComp elt [⟨.Name x px,iter,ifs,0⟩] scope pos) 0 (.ref it) (.ref s2.heap.objs.size) (compEnvC scope (clOf scope X.env) G.objs.size X.env))
   (compPost (model X.prog X.w) X.A X.xe use Qf (.ref s2.heap.objs.size) G.objs.size) { s2 with heap:=h₁,toks:=s2.toks+([]:List (Str×Value)).length }:=by
  refine codeAny_compLoop_tests (fun n s'=>∃(i:Nat) (ys:List V) (us:List Value) (H':Hp),Inv (blk X (x::caps) scope G.objs.size fp s2 H2) [] (none::zid js σ) H' s'/\tn i s'.heap/\(∀b∈fp,H' b=none) /\
   s'.heap.get? s2.heap.objs.size=some (LCg.lst us)/\Vals ys us/\H' s2.heap.objs.size=none/\ys.length<=sizeLine/\W i n ys H') ?_ m0 ⟨0,[],[],H2,I1,st1,fun b hb=>(f2 b hb).1,hacc,.nil,I2.hok.fresh (Nat.le_refl _),Nat.zero_le _,w0⟩
  rintro n s3 ⟨i,ys,us,H3,I3,st3,fr3,hD,rv,nD,hz,w3⟩
  have I3':=pinD I3 hD nD
  have hpl:∀p∈[(s2.heap.objs.size,LCg.lst us)],s2.heap.objs.size<=p.1:=fun p hp=>by
   have e:p=(s2.heap.objs.size,LCg.lst us):=by simpa using hp
   subst e
   exact Nat.le_refl _
  rcases turn i n ys H3 w3 with ⟨stop,q⟩|⟨go,hlt,N,hN,step⟩
  ·refine wpAny_mono (T.done (blk X (x::caps) scope G.objs.size fp s2 H2) rfl rfl rfl hc i _ s3 _ H3 (fun _ _=>False) I3' (fpY fr3 hpl) st3 stop) (fun r s4 hr=>?_) fun _ _ z=>z.elim
   obtain⟨hr,I4⟩:=hr
   subst hr
   have hD4:s4.heap.get? s2.heap.objs.size=some (LCg.lst us):=(I4.pin (s2.heap.objs.size,LCg.lst us) (List.mem_append_right _ (by simp))).1
   have un:Un (frs X.stack) fp H2 (upd H3 s2.heap.objs.size (.lst ys)) s2.heap s4.heap :=
    ⟨fun b o e n hb hx=>I4.base.keep b o e n hb hx,fun b o e n hb hx=>I4.base.slot b o e n hb hx,fun b o e n hx=>by rw[zau (Nat.ne_of_lt (Heap.lt_size e))];exact I4.base.free b o e n hx,fun b o e hx=>I4.base.there b o e hx,
     fun b zs e=>by have q:=I4.base.tups b zs e;rw[zau (zaq q nD)];exact q,fun b o u e=>by have q:=I4.base.frzs b o u e;rw[zau (zaq q nD)];exact q,
     fun b ps e=>by obtain⟨more,q⟩:=I4.base.tbls b ps e;exact⟨more,by rw[zau (zaq q nD)];exact q⟩⟩
   have hok4:HOk X.prog X.w (upd H3 s2.heap.objs.size (.lst ys)) s4.heap:=HOk.track I4.hok nD ⟨hz,us,us.length,rv,hD4⟩
   have IX:Inv X pins σ (upd H3 s2.heap.objs.size (.lst ys)) s4:=I2.call' (ch:=fp) I4.os un hok4 I4.bare fun b hb=>⟨(f2 b hb).2.2.2.1,(f2 b hb).2.1,(f2 b hb).2.2.2.2.1,(f2 b hb).2.2.2.2.2⟩
   obtain⟨mC,hnC,_⟩:=I4.loc
   obtain⟨oC,eC,nsC⟩:=LCg.ns_obj hnC
   have nC:(upd H3 s2.heap.objs.size (.lst ys)) G.objs.size=none:=by rw[zau (Ne.symm hDC)];exact I4.free
   have dC:∀v,oC.data≠.cell v:=fun v z=>by
    obtain⟨es,ep,d,_⟩:=nsC
    rw[d] at z;cases z
   have IX':Inv X (pins++[(G.objs.size,oC)]) σ (upd H3 s2.heap.objs.size (.lst ys)) s4:=IX.pins_of fun q hq=>by
    rcases List.mem_append.mp hq with z|z
    ·exact IX.pin q (List.mem_append_right _ z)
    ·have e:q=(G.objs.size,oC):=by simpa using z
     subst e
     exact⟨eC,nC,C_L,C_fs,dC⟩
   exact fin G.objs.size s2.heap.objs.size oC ys H3 s4 IX' (q _ nD) (rel nsC)
  ·refine wpAny_mono (T.item (blk X (x::caps) scope G.objs.size fp s2 H2) rfl rfl rfl hc i _ s3 _ H3 (fun _ _=>False) I3' (fpY fr3 hpl) st3 go) (fun r s4 hr=>?_) fun _ _ z=>z.elim
   obtain⟨u,hr,h4⟩:=hr
   subst hr
   show wpAny _ _ (assign _ _ u) _ _ s4
   refine zkK h4 fun h5=>?_
   obtain⟨xv,H5,I5,r5,y5,st5,fr5⟩:=h5
   have I5':=I5.pinned (fpY fr5 hpl) (T.obj _ _ st5)
   refine wpAny_mono (zgL (X:=blk X (x::caps) scope G.objs.size fp s2 H2) (i:=0) (x:=x) B.nd rfl (Or.inl hxl) (.inr hxl) _ s4 _ H5 xv u (fun σ' H'=>σ'=some xv::zid js σ/\H'=H5) I5' r5 ⟨rfl,rfl⟩) (fun _ s6 h6=>?_) fun _ _ z=>False.elim z
   obtain⟨σ6,H6,I6,e6,e6'⟩:=h6
   subst e6 e6'
   refine wpAny_mono (ht _ _ _ _ _ s6 _ _ _ I6 (step xv _ y5)) (fun b s7 h7=>?_) fun _ _ z=>False.elim z
   obtain⟨H7,I7,q7⟩:=h7
   cases b with
   | false =>
    rw[if_neg Bool.false_ne_true] at q7
    show if false=true then _ else _
    rw[if_neg Bool.false_ne_true]
    have hD7:s7.heap.get? s2.heap.objs.size=some (LCg.lst us):=(I7.pin (s2.heap.objs.size,LCg.lst us) (List.mem_append_right _ (List.mem_append_left _ (by simp)))).1
    obtain⟨J1,J2,J3,J4⟩:=back I7 st5 (fun _ _=>rfl) hD7
    obtain⟨m',hm,w'⟩:=hN _ _ q7
    exact⟨m',hm,i+1,ys,us,H7,J1,J2,J3,hD7,rv,J4,hz,w'⟩
   | true =>
    rw[if_pos rfl] at q7
    show if true=true then _ else _
    rw[if_pos rfl]
    refine wpAny_mono (he _ _ _ _ _ s7 _ _ _ I7 q7) (fun yu s8 h8=>?_) fun _ _ z=>False.elim z
    obtain⟨yv,H8,I8,r8,q8⟩:=h8
    have hD8:s8.heap.get? s2.heap.objs.size=some (LCg.lst us):=(I8.pin (s2.heap.objs.size,LCg.lst us) (List.mem_append_right _ (List.mem_append_left _ (by simp)))).1
    have hlu:us.length=ys.length:=rv.length.symm
    refine append_at hD8 (fun h9 hs9 hD9=>?_) (by rw[List.size_toArray,hlu];exact hz)
    have hD9':h9.get? s2.heap.objs.size=some (LCg.lst (us++[yu])):=hD9.trans (congrArg some (LCg.lst_snoc us yu))
    obtain⟨J1,J2,J3,J4⟩:=back I8 st5 hs9.2 hD9'
    obtain⟨m',hm,w'⟩:=hN _ _ q8
    exact⟨m',hm,i+1,ys++[yv],us++[yu],H8,J1,J2,J3,hD9',rv.append (.cons r8 .nil),J4,by rw[List.length_append,List.length_singleton];exact hlt,w'⟩
 exact codeAny_compStart_list loop (T.self X.A 0 _ _ _ st1 loop)
theorem zqZ(B:BlkS X.N X.env.scope js (x::caps) scope)(hc:X.calm=true)(hx:scope.names.lookup x=some .local)(hi:PI X (.Name x px) iter wi)(ht:∀C fp s₀ H₀,PIfs (blk X (x::caps) scope C fp s₀ H₀) ifs tt)(he:∀C fp s₀ H₀,PE (blk X (x::caps) scope C fp s₀ H₀) elt te)(hs:∀v,foldedSetIterable iter X.env v=pure v:=by intro _;rfl):PE X (.ListComp elt [⟨.Name x px,iter,ifs,0⟩] scope pos) (tLC js wi tt te):=by
 intro pins s σ H Q I hw
 rw[eval_ListComp]
 refine zja (use:=none) (Q:=Q) B hc hx hi ht he hs I hw fun C D oC ys H' s1 IX q rel=>?_
 obtain⟨⟨m,hn⟩,rl⟩:=rel _ _ _ IX
 exact⟨m,hn,fun h' hs'=>⟨.ref D,_,rl h' hs',rfl,q⟩⟩
theorem zq0{y:Str}{py spos:Pos}{k:Nat}(B:BlkS X.N X.env.scope js (x::caps) scope)(hc:X.calm=true)(hx:scope.names.lookup x=some .local)(hi:PI X (.Name x px) iter wi)(ht:∀C fp s₀ H₀,PIfs (blk X (x::caps) scope C fp s₀ H₀) ifs tt)(he:∀C fp s₀ H₀,PE (blk X (x::caps) scope C fp s₀ H₀) elt te)(hN:X.N.Nodup)(hk:X.N[k]?=some y)(hy:X.env.scope.names.lookup y=some .local)(hsw:swapsWith (.ListComp elt [⟨.Name x px,iter,ifs,0⟩] scope pos) (some (.Name y py)) spos.line X.env=pure true)(hs:∀v,foldedSetIterable iter X.env v=pure v:=by intro _;rfl):PS X (.Assign [.Name y py] (.ListComp elt [⟨.Name x px,iter,ifs,0⟩] scope pos) spos) (zqB (tLC js wi tt te) (gName k)):=by
 intro pins s σ H D I hw
 rw[exec_Assign_Name_used _ _ _ _ hsw]
 refine wpAny_bind (wpAny_standAt (wpAny_bind ?_))
 show wpAny _ _ (do let _ <- comprehension (.ListComp elt [⟨.Name x px,iter,ifs,0⟩] scope pos) scope X.env _ (newList []) false (eval iter X.env) (some (assign (.Name y py) X.env))) _ _ s
 refine wpAny_bind (thn (zja (use:=some (assign (.Name y py) X.env)) (Qf:=fun _ s'=>SP X pins D .next s') (Q:=fun v H1=>D.nx (σ.set k (some v)) H1) B hc hx hi ht he hs I hw fun C a oC ys H' s1 IX q rel=>?_) fun _ s' hq=>wpAny_pure (wpAny_pure hq))
 show wpAny _ _ (assign (.Name y py) X.env (.ref a)) _ _ s1
 refine thn (zgL (i:=k) hN hk (Or.inl hy) (.inr hy) _ s1 σ _ (.ref a) (.ref a) (fun σ' H'=>D.nx σ' H') IX rfl q) fun _ s' h=>?_
 obtain⟨σ',H'',I',q'⟩:=h
 obtain⟨⟨m,hn⟩,rl⟩:=rel _ _ _ I'
 exact⟨m,hn,fun h' hs'=>⟨σ',H'',rl h' hs',q'⟩⟩
end
end L2
namespace L2
open PySem PySem.Spec PyProof.Rows
section
variable {X:Cx} {p pos:Pos}
def zq1(K:PySem.W.Frag):List V->Hp->VK->Prop:=fun xs H Q=>∃x T t b,xs=[x,.ty T]/\TyOf K H x t/\PySem.W.kitOne K t (.type T)=some b/\Q (.bl b) H
theorem zkL:CallR X (.builtin "isinstance") (zq1 X.K):=by
 intro pins s σ H xs us Q I r h
 obtain⟨x,T,t,b,rfl,ty,e,q⟩:=h
 obtain⟨u,w',rfl,rx,ry⟩:=zkA r
 cases ry
 exact ziY I rx ty e fun tk=>⟨.bl b,H,I.tok tk,rfl,q⟩
theorem zkM(hc:X.calm=true):CallR X (.builtin "all") (fun xs H Q=>∃(a:Addr) (bs:List Bool),xs=[.ref a]/\SqL X.K H a (bs.map V.bl)/\Q (.bl (bs.all id)) H):=by
 intro pins s σ H xs us Q I r h
 obtain⟨a,bs,rfl,hq,q⟩:=h
 obtain⟨u,rfl,rx⟩:=ze2 r
 cases rx
 obtain⟨its,rv,pl,hz⟩:=I.list hq
 have hlt:a<s.heap.objs.size:=by obtain⟨o,n,e,_⟩:=pl;exact Heap.lt_size e
 have hlen:bs.length=its.length:=by have:=rv.length;simpa using this
 have hh:X.A.in1.handled=none:=I.ok.hd hc
 refine call_all_walk (wpAny_pyIter_list pl.isList ?_)
 have tr:TruthOf X.prog X.w X.A.in1 (fun i v=>its.toArray[i]?=some v) (fun i=>bs.getD i true):=by
  intro i v s' Q' E' hv hQ
  have hv':its[i]?=some v:=by simpa using hv
  have hi:i<its.length:=(List.getElem?_eq_some_iff.mp hv').1
  have hb:bs[i]?=some bs[i]:=by simp[hlen,hi]
  obtain⟨u,hu,ru⟩:=rv.get (i:=i) (x:=V.bl (bs[i]'(by omega))) (by rw[List.getElem?_map,hb];rfl)
  rw[hv'] at hu
  cases hu
  cases (show v=Value.bool (bs[i]'(by omega)) from ru)
  have e:bs.getD i true=bs[i]'(by omega):=by rw[List.getD_eq_getElem?_getD,hb];rfl
  have hQ':Q' (bs.getD i true) s':=hQ
  rw[e] at hQ'
  exact wpAny_truthy_bool hQ'
 refine⟨s.heap.objs.size,_,_,its.toArray.size,_,_,fun i=>bs.getD i true,rfl,Walks.list hh s.heap.objs.size a (Nat.ne_of_lt hlt) its.toArray,⟨⟨_,Heap.get?_push_size _ rfl,rfl,rfl⟩,pl.isList.push _⟩,tr,fun h' tk hk=>?_⟩
 have I1:Inv X pins σ H { s with heap:=h',toks:=tk }:=I.kept fun b o e=>hk b o (by simpa using Nat.ne_of_lt (Heap.lt_size e)) (Heap.get?_push_of_some _ e)
 refine⟨.bl _,H,I1,rfl,?_⟩
 have e:(List.range its.toArray.size).all (fun i=>bs.getD i true)=bs.all id:=by
  rw[List.size_toArray,<- hlen]
  rw[Bool.eq_iff_iff,List.all_eq_true,List.all_eq_true]
  constructor
  ·intro z b hb
   obtain⟨i,hi,rfl⟩:=List.mem_iff_getElem.mp hb
   have:=z i (List.mem_range.mpr hi)
   rw[List.getD_eq_getElem?_getD] at this
   simpa[hi] using this
  ·intro z i hi
   have hi':=List.mem_range.mp hi
   have:=z (bs[i]) (List.getElem_mem hi')
   rw[List.getD_eq_getElem?_getD]
   simpa[hi'] using this
 rw[e]
 exact q
theorem zgN:CallR X (.builtin "sorted") (fun xs H Q=>∃(a:Addr) (ns:List Int),xs=[.ref a]/\SqL X.K H a (ns.map V.int)/\ns.length<64/\∀ms:List Int,ms.Perm ns->ms.Pairwise (·<=·)->∀l,H l=none->Q (.ref l) (upd H l (.lst (ms.map V.int)))):=by
 intro pins s σ H xs us Q I r h
 obtain⟨a,ns,rfl,hq,h64,q⟩:=h
 obtain⟨u,rfl,rx⟩:=ze2 r
 cases rx
 obtain⟨its,rv,pl,hz⟩:=I.list hq
 have hlen:ns.length=its.length:=by have:=rv.length;simpa using this
 refine sorted_ints pl.isList (zeE rv) (by omega) fun out ms hI hp hs=>?_
 obtain⟨e,he⟩:=sortedAll_at s.heap its out
 have rv':Vals (ms.map V.int) out.toList:=zcm hI
 have hl':ms.length=ns.length:=hp.length_eq
 refine⟨.ref (s.heap.objs.size+1),_,I.laid (t':=s.toks) (a:=s.heap.objs.size+1) (o:=.lst (ms.map V.int)) (fun b o e=>sortedAll_old e) (Nat.le_succ _) ?_,rfl,q ms hp hs _ (I.hok.fresh (Nat.le_succ _))⟩
 refine⟨by rw[List.length_map,hl',hlen];have:=rv.length;omega,out.toList,e,rv',?_⟩
 rw[Array.toArray_toList]
 exact he
end
abbrev Rep(α:Type):=PySem.W.Frag->Hp->V->α->Prop
def zs4:Rep Int:=fun _ _ v i=>v=.int i
def zs5{α:Type}(R:Rep α):Rep (List α):=fun K H v l=>∃p vs,v=.ref p/\SqL K H p vs/\Paired (R K H) vs l
def rPr{α β:Type}(R:Rep α)(S:Rep β):Rep (α×β):=fun K H v l=>∃p x y,v=.ref p/\SqT K H p [x,y]/\R K H x l.1/\S K H y l.2
theorem Paired.at2{α β:Type}{F:α->β->Prop}:∀{l₁:List α} {l₂:List β},Paired F l₁ l₂->∀(i:Nat) (a:α),l₁[i]?=some a->∃b,l₂[i]?=some b/\F a b
 | _,_,.nil,_,_,h=>by simp at h
 | _,_,.cons r t,0,a,h=>by simp at h;subst h;exact⟨_,rfl,r⟩
 | _,_,.cons r t,i+1,a,h=>by
  obtain⟨b,h1,h2⟩:=Paired.at2 t i a (by simpa using h)
  exact⟨b,by simpa using h1,h2⟩
section
variable {α β:Type} [DecidableEq α] [DecidableEq β] {n:Nat} {R:Rep α} {S:Rep β} {X:Cx} {pins:List (Addr×Obj)} {σ:St} {H:Hp} {s:Shared} {A:Around}
end
section
variable {α β:Type} [DecidableEq α] [DecidableEq β] {n:Nat} {R:Rep α} {S:Rep β}
end
section
variable {α:Type} [DecidableEq α] {n:Nat} {R:Rep α} {X:Cx}
end
section
variable {α β:Type} [DecidableEq α] [DecidableEq β] {n:Nat} {R:Rep α} {S:Rep β}
end
end L2
namespace L2
open PySem PySem.Spec PyProof.Rows
section
variable {X:Cx} {st:Stmt} {zen:List Stmt} {t u:TS} {e:Expr} {te:TE} {tt:TT}
end
def zoX(N:List Str)(psc:Scope)(js:List Nat)(N':List Str)(scope:Scope):Bool :=
 scope.names.all (fun y=>decide (y.2≠.cell))&&decide (scope.kind=.function)&&scope.names.all (fun y=>decide (y.2=.local->scope.names.lookup y.1=some .local)) &&
 scope.names.all (fun y=>decide (y.2=.free->psc.names.lookup y.1=some .cell\/psc.names.lookup y.1=some .free))&&decide N'.Nodup&&decide (N'.length=js.length+1) &&
 (js.zip (N'.drop 1)).all (fun p=>decide (N[p.1]?=some p.2/\scope.names.lookup p.2=some .free))
theorem zcd{N:List Str}{psc:Scope}{js:List Nat}{N':List Str}{scope:Scope}(h:zoX N psc js N' scope=true):BlkS N psc js N' scope:=by
 unfold zoX at h
 simp only[Bool.and_eq_true,List.all_eq_true,decide_eq_true_eq] at h
 obtain⟨⟨⟨⟨⟨⟨h1,h2⟩,h3⟩,h4⟩,h5⟩,h6⟩,h7⟩:=h
 exact⟨h1,h2,h3,h4,h5,h6,h7⟩
theorem Room.cmp{k:Nat}{A:Around}(r:Room k A)(n:Nat)(h:n<=64:=by decide):A.units+n<cLine:=by have:=r.units;omega
theorem Paired.app{α β:Type}{F:α->β->Prop}:∀{l₁ m₁:List α} {l₂ m₂:List β},Paired F l₁ l₂->Paired F m₁ m₂->Paired F (l₁++m₁) (l₂++m₂)
 | _,_,_,_,.nil,s=>s
 | _,_,_,_,.cons r t,s=>.cons r (Paired.app t s)
def pr(H:Hp)(v:V)(l:Int×Int):Prop:=∃q,v=.ref q/\H q=some (.tup [.int l.1,.int l.2])
def Lns(H:Hp)(p:Addr)(L:List (Int×Int)):Prop:=∃vs,H p=some (.lst vs)/\Paired (pr H) vs L
def zq2(H:Hp)(v:V)(r:List Int):Prop:=∃q,v=.ref q/\H q=some (.tup (r.map V.int))
def zrU(H:Hp)(v:V)(rows:List (List Int)):Prop:=∃q vs,v=.ref q/\H q=some (.tup vs)/\Paired (zq2 H) vs rows
end L2
namespace L2
open PySem PySem.Spec PyProof.Rows
section
variable {X:Cx} (K:PySem.W.Frag)
theorem ixL(hK:X.K=K:=by rfl):IxR X (zqU K):=hK▸zmW
theorem ixT(hK:X.K=K:=by rfl):IxR X (zqV K):=hK▸zoT
theorem zql(hK:X.K=K:=by rfl):CallR X (.builtin "isinstance") (zq1 K):=hK▸zkL
def zrV(K:PySem.W.Frag):List V->Hp->VK->Prop:=fun xs H Q=>∃(a:Addr) (bs:List Bool),xs=[.ref a]/\SqL K H a (bs.map V.bl)/\Q (.bl (bs.all id)) H
theorem zrW(hc:X.calm=true:=by rfl)(hK:X.K=K:=by rfl):CallR X (.builtin "all") (zrV K):=hK▸zkM hc
def zmZ(K:PySem.W.Frag):List V->Hp->VK->Prop:=fun xs H Q=>∃(a:Addr) (ns:List Int),xs=[.ref a]/\SqL K H a (ns.map V.int)/\ns.length<64/\∀ms:List Int,ms.Perm ns->ms.Pairwise (·<=·)->∀l,H l=none->Q (.ref l) (upd H l (.lst (ms.map V.int)))
def zm0(K:PySem.W.Frag):List V->Hp->VK->Prop:=fun xs H Q=>∃p ys,xs=[.ref p]/\(SqL K H p ys\/SqT K H p ys)/\∀l,H l=none->Q (.ref l) (upd H l (.lst ys))
def zl1(K:PySem.W.Frag):List V->Hp->VK->Prop:=fun xs H Q=>∃p ys,xs=[.ref p]/\((SqL K H p ys/\∀l,H l=none->Q (.ref l) (upd H l (.tup ys)))\/(SqT K H p ys/\Q (.ref p) H))
theorem zeI(hK:X.K=K:=by rfl):CallR X (.type "tuple") (zl1 K):=hK▸ze7
theorem slL(hK:X.K=K:=by rfl):SlR X (zrR K):=hK▸zmX
theorem slT(hK:X.K=K:=by rfl):SlR X (zrQ K):=hK▸zoS
variable {tg l a:Expr} {tl ta:TE}
def zsJ(K:PySem.W.Frag)(ta:TE):TT:=fun σ H Q=>ta σ H fun x H'=>∃k,zqk K x H' k/\Q k H'
theorem zq3(ha:PE X a ta)(he:∀whole,isTrue a X.env whole=(do let v <- whole;standAt a.pos;holding [v] (truthy v)))(hK:X.K=K:=by rfl):PT X a (zsJ K ta):=hK▸zkz ha he
variable {α:Type} [DecidableEq α] {n:Nat} {R:Rep α}
end
end L2
namespace L2
open PySem PySem.Spec PyProof.Rows
section
variable {κ:Type} [DecidableEq κ]
def zif(kvs:List (κ×V))(k:κ):Option V:=(kvs.find? fun kv=>decide (kv.1=k)).map (·.2)
def zfW(kvs:List (κ×V))(k:κ)(v:V):List (κ×V) :=
 if (kvs.any fun kv=>decide (kv.1=k))=true then kvs.map (fun kv=>if kv.1=k then (kv.1,v) else kv) else kvs++[(k,v)]
def zsK(kvs:List (κ×V))(k:κ):List (κ×V):=kvs.filter fun kv=>decide (kv.1≠k)
theorem zdv{p:κ×V}{r:List (κ×V)}{k:κ}(e:p.1=k):zif (p::r) k=some p.2:=by simp[zif,List.find?_cons,e]
theorem zdw{p:κ×V}{r:List (κ×V)}{k:κ}(e:¬p.1=k):zif (p::r) k=zif r k:=by simp[zif,List.find?_cons,e]
theorem zhs(k:κ):∀kvs:List (κ×V),(kvs.any fun kv=>decide (kv.1=k))=(zif kvs k).isSome
 | []=>rfl
 | p::r=>by
  rw[List.any_cons]
  by_cases e:p.1=k
  ·simp only[zdv e,decide_eq_true e,Bool.true_or,Option.isSome_some]
  ·rw[zdw e,decide_eq_false e,Bool.false_or];exact zhs k r
theorem zcH(kvs:List (κ×V))(k:κ)(v:V):(zfW kvs k v).length<=kvs.length+1:=by
 unfold zfW
 split
 ·rw[List.length_map];omega
 ·rw[List.length_append,List.length_cons,List.length_nil];omega
theorem RelO.isSome_eq{o:Option V}{u:Option Value}(r:RelO o u):o.isSome=u.isSome:=by
 cases o with
 | none=>cases u with
  | none=>rfl
  | some _=>exact(show False from r).elim
 | some _=>cases u with
  | none=>exact(show False from r).elim
  | some _=>rfl
theorem KV.val{kvs:List (κ×V)}{vs:List (κ×Value)}(r:KV kvs vs)(k:κ):RelO (zif kvs k) (valueAt vs k):=by
 unfold KV at r
 induction r with
 | nil=>exact True.intro
 | @cons p q ps qs h t ih =>
  obtain⟨h1,h2⟩:=h
  by_cases e:p.1=k
  ·have e':q.1=k:=h1.symm.trans e
   have b:valueAt (q::qs) k=some q.2:=by simp[valueAt,List.find?_cons,e']
   rw[zdv e,b];exact h2
  ·have e':¬q.1=k:=fun z=>e (h1.trans z)
   have b:valueAt (q::qs) k=valueAt qs k:=by simp[valueAt,List.find?_cons,e']
   rw[zdw e,b];exact ih
theorem KV.any{kvs:List (κ×V)}{vs:List (κ×Value)}(r:KV kvs vs)(k:κ):(kvs.any fun kv=>decide (kv.1=k))=vs.any fun kv=>decide (kv.1=k):=by
 unfold KV at r
 induction r with
 | nil=>rfl
 | cons h t ih=>rw[List.any_cons,List.any_cons,ih,h.1]
theorem KV.repl{kvs:List (κ×V)}{vs:List (κ×Value)}(r:KV kvs vs)(k:κ){y:V}{u:Value}(ry:RelV y u) :
  KV (kvs.map fun kv=>if kv.1=k then (kv.1,y) else kv) (vs.map fun kv=>if kv.1=k then (kv.1,u) else kv):=by
 unfold KV at r ⊢
 induction r with
 | nil=>exact .nil
 | @cons p q ps qs h t ih =>
  rw[List.map_cons,List.map_cons]
  refine .cons ?_ ih
  obtain⟨h1,h2⟩:=h
  by_cases e:p.1=k
  ·rw[if_pos e,if_pos (h1.symm.trans e)];exact⟨h1,ry⟩
  ·rw[if_neg e,if_neg (fun z=>e (h1.trans z))];exact⟨h1,h2⟩
theorem KV.put{kvs:List (κ×V)}{vs:List (κ×Value)}(r:KV kvs vs)(k:κ){y:V}{u:Value}(ry:RelV y u):KV (zfW kvs k y) (stored vs k u):=by
 unfold zfW stored
 rw[r.any k]
 by_cases e:(vs.any fun kv=>decide (kv.1=k))=true
 ·rw[if_pos e,if_pos e];exact r.repl k ry
 ·rw[if_neg e,if_neg e];exact Paired.snoc r ⟨rfl,ry⟩
theorem KV.keys{kvs:List (κ×V)}{vs:List (κ×Value)}(r:KV kvs vs):kvs.map (·.1)=vs.map (·.1):=by
 unfold KV at r
 induction r with
 | nil=>rfl
 | cons h t ih=>rw[List.map_cons,List.map_cons,ih,h.1]
theorem KV.length{kvs:List (κ×V)}{vs:List (κ×Value)}(r:KV kvs vs):kvs.length=vs.length:=Paired.length r
end
theorem kV_is{P:Program}{w:World}{k:Key}{u:Value}(r:RelV (kV k) u):(zaI P w).is k u=true:=by
 cases k with
 | inl i=>obtain⟨t,e⟩:=(show ∃t,u=Value.int i t from r);subst e;exact zgI P w i t
 | inr x=>obtain⟨t,e⟩:=(show ∃t,u=Value.str x t from r);subst e;exact zgJ P w x t
theorem zf7{P:Program}{w:World}:∀{ks:List Key} {us:List Value},Vals (ks.map kV) us->ItemsAre (zaI P w) ks us
 | [],_,r=>by rw[List.map_nil] at r;cases r;exact .nil
 | k::ks,_,r=>by
  rw[List.map_cons] at r
  cases r with
  | cons h t=>exact .cons (kV_is h) (zf7 t)
abbrev KT(H:Hp):List (List Key×V)->List (List Key×Addr×Value)->Prop:=Paired fun p q=>p.1=q.1/\H q.2.1=some (.tup (p.1.map kV))/\RelV p.2 q.2.2
theorem KT.val{H:Hp}{kvs:List (List Key×V)}{xs:List (List Key×Addr×Value)}(r:KT H kvs xs)(k:List Key):RelO (zif kvs k) ((atKey xs k).map (·.2)):=by
 induction r with
 | nil=>exact True.intro
 | @cons p q ps qs h t ih =>
  obtain⟨h1,_,h2⟩:=h
  by_cases e:p.1=k
  ·have e':q.1=k:=h1.symm.trans e
   have b:atKey (q::qs) k=some q.2:=by simp[atKey,List.find?_cons,e']
   rw[zdv e,b];exact h2
  ·have e':¬q.1=k:=fun z=>e (h1.trans z)
   have b:atKey (q::qs) k=atKey qs k:=by simp[atKey,List.find?_cons,e']
   rw[zdw e,b];exact ih
theorem KT.repl{H:Hp}{kvs:List (List Key×V)}{xs:List (List Key×Addr×Value)}(r:KT H kvs xs)(k:List Key){y:V}{u:Value}(ry:RelV y u) :
  KT H (kvs.map fun kv=>if kv.1=k then (kv.1,y) else kv) (xs.map (putAt k u)):=by
 induction r with
 | nil=>exact .nil
 | @cons p q ps qs h t ih =>
  rw[List.map_cons,List.map_cons]
  refine .cons ?_ ih
  obtain⟨h1,h2,h3⟩:=h
  unfold putAt
  by_cases e:p.1=k
  ·rw[if_pos e,if_pos (h1.symm.trans e)];exact⟨h1,h2,ry⟩
  ·rw[if_neg e,if_neg (fun z=>e (h1.trans z))];exact⟨h1,h2,h3⟩
theorem KT.put{H:Hp}{kvs:List (List Key×V)}{xs:List (List Key×Addr×Value)}(r:KT H kvs xs)(k:List Key){b:Addr}{y:V}{u:Value}(hb:H b=some (.tup (k.map kV)))(ry:RelV y u) :
  KT H (zfW kvs k y) (storedH xs k b u):=by
 have e:(kvs.any fun kv=>decide (kv.1=k))=(atKey xs k).isSome:=by
  rw[zhs,(r.val k).isSome_eq,Option.isSome_map]
 unfold zfW storedH
 rw[e]
 by_cases q:(atKey xs k).isSome=true
 ·rw[if_pos q,if_pos q];exact r.repl k ry
 ·rw[if_neg q,if_neg q];exact Paired.snoc r ⟨rfl,hb,ry⟩
theorem KT.keeps{H H':Hp}{kvs:List (List Key×V)}{xs:List (List Key×Addr×Value)}(r:KT H kvs xs)(ht:∀b ys,H b=some (.tup ys)->H' b=some (.tup ys)):KT H' kvs xs :=
 Paired.mapP r fun _ _ z=>⟨z.1,ht _ _ z.2.1,z.2.2⟩
section
variable {P:Program} {w:World} {H:Hp} {h:Heap} {a:Addr}
theorem zoY{u:HO}(ok:HOk P w H h)(e:Rd H a u):ObjOk P w H h a u:=e.ok ok
theorem zjb{kvs:List (Key×V)}(ok:HOk P w H h)(e:Rd H a (.dK kvs)):kvs.length<=sizeLine/\(a==sysModules)=false/\∃vs,KV kvs vs/\h.DictOf (zaI P w) a vs :=
 show ObjOk P w H h a (.dK kvs) from zoY ok e
theorem zoZ{kvs:List (Key×V)}(ok:HOk P w H h)(e:H a=some (.dK kvs)):kvs.length<=sizeLine/\(a==sysModules)=false/\∃vs,KV kvs vs/\h.DictOf (zaI P w) a vs:=zjb ok (.inl e)
theorem zjc{ks:List Key}(ok:HOk P w H h)(e:H a=some (.tup (ks.map kV))):(tupleKind (zaI P w)).is h ks a:=by
 obtain⟨_,its,r,o,h1,h2,⟨n,h3⟩,_⟩:=(show ObjOk P w H h a (.tup (ks.map kV)) from ok a _ e)
 exact⟨o,its.toArray,n,h1,h2,h3,by simpa using zf7 r⟩
theorem zo0{kvs:List (List Key×V)}(ok:HOk P w H h)(e:Rd H a (.dT kvs)):kvs.length<=sizeLine/\(a==sysModules)=false /\
  ∃xs,KT H kvs xs/\h.DictOfH (tupleKind (zaI P w)) a xs:=by
 obtain⟨z,y,xs,r,o,es,ep,h1,h2,h3,h4,h5⟩:=(show ObjOk P w H h a (.dT kvs) from zoY ok e)
 refine⟨z,y,xs,r,o,es,ep,h1,h2,h3,h4,fun x hx=>?_,h5⟩
 have all:∀{l:List (List Key×V)} {m:List (List Key×Addr×Value)},KT H l m->∀x∈m,(tupleKind (zaI P w)).is h x.1 x.2.1:=by
  intro l m q
  induction q with
  | nil=>intro x hx;exact nomatch hx
  | @cons p q ps qs hq t ih =>
   intro x hx
   rcases List.mem_cons.mp hx with e|hx
   ·subst e
    exact zjc ok (by rw[<- hq.1];exact hq.2.1)
   ·exact ih x hx
 exact all r x hx
theorem zq4{kvs:List (List Key×V)}(ok:HOk P w H h)(e:H a=some (.dT kvs)):kvs.length<=sizeLine/\(a==sysModules)=false /\
  ∃xs,KT H kvs xs/\h.DictOfH (tupleKind (zaI P w)) a xs:=zo0 ok (.inl e)
end
def DGet(H:Hp)(a:Addr)(y:V)(r:Option V):Prop :=
 (∃kvs k,Rd H a (.dK kvs)/\y=kV k/\r=zif kvs k)\/∃kvs k b,Rd H a (.dT kvs)/\y=.ref b/\H b=some (.tup (k.map kV))/\r=zif kvs k
def DPut(H:Hp)(a:Addr)(y v:V)(H':Hp):Prop :=
 (∃kvs k,H a=some (.dK kvs)/\y=kV k/\kvs.length<sizeLine/\H'=upd H a (.dK (zfW kvs k v))) \/
 ∃kvs k b,H a=some (.dT kvs)/\y=.ref b/\H b=some (.tup (k.map kV))/\kvs.length<sizeLine/\H'=upd H a (.dT (zfW kvs k v))
theorem DGet.k{H:Hp}{a:Addr}{kvs:List (Key×V)}{k:Key}(e:H a=some (.dK kvs)):DGet H a (kV k) (zif kvs k):=.inl ⟨kvs,k,.inl e,rfl,rfl⟩
theorem DPut.k{H:Hp}{a:Addr}{kvs:List (Key×V)}{k:Key}{v:V}(e:H a=some (.dK kvs))(hl:kvs.length<sizeLine):DPut H a (kV k) v (upd H a (.dK (zfW kvs k v))):=.inl ⟨kvs,k,e,rfl,hl,rfl⟩
section
variable {X:Cx} {pins:List (Addr×Obj)} {σ:St} {H:Hp} {s:Shared} {a:Addr} {y v:V} {u r:Value} {o:Option V} {A:Around} {E:Value->Shared->Prop}
theorem Inv.big(I:Inv X pins σ H s):sysModules<s.heap.objs.size:=by
 have h:mainGlobals<s.heap.objs.size:=(I.mod.glob.keeps I.bk).lt
 exact Nat.lt_trans (by decide) h
theorem zm1{Q:Value->Shared->Prop}(hu:A.units+1<cLine)(I:Inv X pins σ H s)(g:DGet H a y o)(ry:RelV y u)(h:∀s',Inv X pins σ H s'->Q (.bool (!o.isSome)) s') :
  wpAny (model X.prog X.w) A (compareOp .NotIn u (.ref a)) Q E s:=by
 rcases g with ⟨kvs,k,e,ey,l⟩|⟨kvs,k,b,e,ey,eb,l⟩
 ·subst ey
  obtain⟨z,hd,vs,rel,dd⟩:=zjb I.hok e
  refine wpAny_notIn_of (kV_is ry) hd dd.mapOf ?_
  rw[<- (rel.val k).isSome_eq,<- l]
  exact h _ (I.tok _)
 ·subst ey
  cases (show u=Value.ref b from ry)
  obtain⟨z,hd,xs,rel,dd⟩:=zo0 I.hok e
  refine wpAny_notIn_heap (tupleKind_room_in1 hu) (zjc I.hok eb) hd dd ?_
  have q:=(rel.val k).isSome_eq
  rw[Option.isSome_map] at q
  rw[<- q,<- l]
  exact h _ (I.tok _)
theorem zgO{h':Heap}{t':Nat}{ob:HO}(I:Inv X pins σ H s)(mu:Mut (H a))(hs:Heap.SameBut a s.heap h')(he:∃q,h'.get? a=some q)(new:ObjOk X.prog X.w (upd H a ob) h' a ob) :
  Inv X pins σ (upd H a ob) { s with heap:=h',toks:=t' } :=
 I.write (x:=a) (e:=a) mu (.inl rfl) (fun b q hb z=>(hs.2 b hb).trans z) he new
theorem zl2{P:Program}{w:World}{H':Hp}{h':Heap}{kvs:List (Key×V)}{vs:List (Key×Value)}(z:kvs.length<=sizeLine)(hd:(a==sysModules)=false)(rel:KV kvs vs)(dd:h'.DictOf (zaI P w) a vs) :
  ObjOk P w H' h' a (.dK kvs):=⟨z,hd,vs,rel,dd⟩
theorem zjd{H':Hp}{Q:Unit->Shared->Prop}(hu:A.units+1<cLine)(I:Inv X pins σ H s)(g:DPut H a y v H')(ry:RelV y u)(rv:RelV v r)(h:∀s',Inv X pins σ H' s'->Q () s') :
  wpAny (model X.prog X.w) A (setItem (.ref a) u r) Q E s:=by
 rcases g with ⟨kvs,k,e,ey,l,eH⟩|⟨kvs,k,b,e,ey,eb,l,eH⟩
 ·subst ey eH
  obtain⟨z,hd,vs,rel,dd⟩:=zoZ I.hok e
  have hz:vs.length<=sizeLine:=by rw[<- rel.length];exact z
  have hl:(zfW kvs k v).length<=sizeLine:=by have:=zcH kvs k v;omega
  refine wpAny_setItem_pairs (hsz:=hz) (kV_is ry) dd fun h' dd' hs=>h _ ?_
  have he:∃q,h'.get? a=some q:=let ⟨q,_,_,hq,_⟩:=dd';⟨q,hq⟩
  exact zgO I (by rw[e];exact True.intro) hs he (zl2 hl hd (rel.put k rv) dd')
 ·subst ey eH
  cases (show u=Value.ref b from ry)
  obtain⟨z,hd,xs,rel,dd⟩:=zq4 I.hok e
  have hz:xs.length<=sizeLine:=by rw[<- Paired.length rel];exact z
  have hl:(zfW kvs k v).length<=sizeLine:=by have:=zcH kvs k v;omega
  refine wpAny_setItem_heap (hsz:=hz) (tupleKind_room_in1 hu) (zjc I.hok eb) dd fun h' dd' hs=>h _ ?_
  obtain⟨q,es,ep,hq,h2,h3,h4,_,h5⟩:=dd'
  refine zgO I (by rw[e];exact True.intro) hs ⟨q,hq⟩ ⟨hl,hd,_,(rel.put k eb rv).keeps fun c ys ec=>?_,q,es,ep,hq,h2,h3,h4,h5⟩
  rw[zau (zqr ec e (fun z=>nomatch z))]
  exact ec
end
section
variable {X:Cx} {pins:List (Addr×Obj)} {σ:St} {H:Hp} {s:Shared} {a:Addr} {kvs:List (Key×V)} {k:Key} {u:Value} {A:Around} {E:Value->Shared->Prop}
theorem zq5{Q:Value->Shared->Prop}(I:Inv X pins σ H s)(e:Rd H a (.dK kvs))(h:∀t s',Inv X pins σ H s'->Q (.int kvs.length t) s'):wpAny (model X.prog X.w) A (call (.builtin "len") [.ref a]) Q E s:=by
 obtain⟨z,hd,vs,rel,dd⟩:=zjb I.hok e
 refine call_len_dict hd dd (by rw[<- rel.length];rw[sizeLine_eq] at z;omega) ?_
 rw[<- rel.length]
 exact h _ _ (I.tok _)
end
def zm2(ty td:TE):TE:=fun σ H Q=>ty σ H fun y H1=>td σ H1 fun x H2=>∃a o,x=.ref a/\DGet H2 a y o/\Q (.bl (!o.isSome)) H2
def zq6(td ty tv:TE):TS:=fun D σ H=>tv σ H fun v H1=>td σ H1 fun x H2=>ty σ H2 fun y H3=>∃a H4,x=.ref a/\DPut H3 a y v H4/\D.nx σ H4
section
variable {X:Cx} {o i e value:Expr} {pos pos' tpos:Pos} {td ty tv:TE}
theorem zje(hu:X.A.units+1<cLine)(hi:PE X i ty)(ho:PE X o td):PC X .NotIn i o (zm2 ty td):=by
 intro pins s σ H Q I h
 refine thn (hi pins s σ H _ I h) fun iv s1 ⟨y,H1,I1,ry,q1⟩=>thn (ho pins s1 σ H1 _ I1 q1) fun u s2 ⟨x,H2,I2,rx,a,ov,ex,g,q2⟩=>?_
 subst ex
 obtain rfl:u=Value.ref a:=rx
 exact zm1 hu I2 g ry fun s3 I3=>⟨.bl (!ov.isSome),H2,I3,rfl,q2⟩
theorem zm3(hu:X.A.units+1<cLine)(ho:PE X o td)(hi:PE X i ty)(hv:PE X value tv)(hs:swapsWith value (some (.Subscript o i pos')) pos.line X.env=pure false) :
  PS X (.Assign [.Subscript o i pos'] value pos) (zq6 td ty tv):=by
 intro pins s σ H D I h
 refine wpAny_Assign_Subscript (thn (hv pins s σ H _ I h) fun r s1 ⟨v,H1,I1,rv,q1⟩=>thn (ho pins s1 σ H1 _ I1 q1) fun u s2 ⟨x,H2,I2,rx,q2⟩=>thn (hi pins s2 σ H2 _ I2 q2) fun iv s3 ⟨y,H3,I3,ry,a,H4,ex,g,q3⟩=>?_) hs
 subst ex
 obtain rfl:u=Value.ref a:=rx
 exact zjd hu I3 g ry rv fun s4 I4=>⟨σ,H4,I4,q3⟩
end
theorem zht{P:Program}{w:World}{H:Hp}(h:Heap)(hb:sysModules<h.objs.size):ObjOk P w H (h.push { cls:=.type "dict",data:=.dict #[] }) h.objs.size (.dK []) :=
 ⟨Nat.zero_le _,beq_eq_false_iff_ne.mpr (Ne.symm (Nat.ne_of_lt hb)),[],.nil,Heap.DictOf.new h⟩
def zo1:TE:=fun _ H Q=>∀p,H p=none->Q (.ref p) (upd H p (.dK []))
section
variable {X:Cx} {pos:Pos}
theorem zkN:PE X (.Dict [] [] pos) zo1:=fun pins s σ H Q I h =>
 wpAny_Dict_empty ⟨.ref s.heap.objs.size,_,I.laid (a:=s.heap.objs.size) (o:=.dK []) (t':=s.toks) (fun _ _ q=>Heap.get?_push_of_some _ q) (Nat.le_refl _) (zht s.heap I.big),rfl,h _ (I.hok.fresh (Nat.le_refl _))⟩
end
def zjf:List (TE×TE)->St->Hp->(List (V×V)->Hp->Prop)->Prop
 | [],_,H,Q=>Q [] H
 | (tk,tv)::r,σ,H,Q=>tk σ H fun x H1=>tv σ H1 fun y H2=>zjf r σ H2 fun ps H3=>Q ((x,y)::ps) H3
abbrev VV:List (V×V)->List (Value×Value)->Prop:=Paired fun p q=>RelV p.1 q.1/\RelV p.2 q.2
def PPs(X:Cx)(pos:Pos)(keys:List (Option Expr))(values:List Expr)(trs:List (TE×TE)):Prop :=
 ∀(pins:List (Addr×Obj)) (s:Shared) (σ:St) (H:Hp) (Q:List (V×V)->Hp->Prop),Inv X pins σ H s->zjf trs σ H Q ->
  wpAny (model X.prog X.w) X.A (evalPairs (pairTrees keys values X.env pos)) (fun vs s'=>∃ps H',Inv X pins σ H' s'/\VV ps vs/\Q ps H') X.xe s
theorem zm4{X:Cx}{pos:Pos}:PPs X pos [] [] []:=fun pins s σ H Q I h=>pairTrees_nil_walk ⟨[],H,I,.nil,h⟩
theorem zkO{X:Cx}{pos:Pos}{k v:Expr}{ks:List (Option Expr)}{vs:List Expr}{tk tv:TE}{trs:List (TE×TE)}(hk:PE X k tk)(hv:PE X v tv)(hr:PPs X pos ks vs trs) :
  PPs X pos (some k::ks) (v::vs) ((tk,tv)::trs):=fun pins s σ H Q I h =>
 pairTrees_cons_walk (thn (hk pins s σ H _ I h) fun u s1 ⟨x,H1,I1,rx,q1⟩=>thn (hv pins s1 σ H1 _ I1 q1) fun w2 s2 ⟨y,H2,I2,ry,q2⟩ =>
  thn (hr pins s2 σ H2 _ I2 q2) fun ws s3 ⟨ps,H3,I3,rel,q3⟩=>⟨(x,y)::ps,H3,I3,.cons ⟨rx,ry⟩ rel,q3⟩)
def zdL(kvs more:List (Key×V)):List (Key×V):=more.foldl (fun acc kv=>zfW acc kv.1 kv.2) kvs
theorem KV.merge:∀{more:List (Key×V)} {rs:List (Key×Value)} {kvs:List (Key×V)} {vs:List (Key×Value)},KV more rs->KV kvs vs->KV (zdL kvs more) (merged vs rs):=by
 intro more rs kvs vs r
 unfold KV at r
 induction r generalizing kvs vs with
 | nil=>intro q;exact q
 | @cons p q ps qs h t ih =>
  intro r0
  have e:KV (zfW kvs p.1 p.2) (stored vs q.1 q.2):=by
   have:=r0.put p.1 h.2
   rw[<- h.1];exact this
  exact ih e
theorem zcP:∀(more kvs:List (Key×V)),(zdL kvs more).length<=kvs.length+more.length
 | [],kvs=>by show kvs.length<=kvs.length+0;omega
 | p::r,kvs=>by
  have h1:=zcP r (zfW kvs p.1 p.2)
  have h2:=zcH kvs p.1 p.2
  show(zdL (zfW kvs p.1 p.2) r).length<=_
  rw[List.length_cons];omega
theorem zeJ{P:Program}{w:World}:∀{kvs:List (Key×V)} {ws:List (Value×Value)},VV (kvs.map fun kv=>(kV kv.1,kv.2)) ws->∃rs,Carries (zaI P w) ws rs/\KV kvs rs
 | [],_,r=>by rw[List.map_nil] at r;cases r;exact⟨[],True.intro,.nil⟩
 | p::kvs,_,r=>by
  rw[List.map_cons] at r
  cases r with
  | @cons a b as bs h t =>
   obtain⟨rs,c,q⟩:=zeJ (P:=P) (w:=w) t
   obtain⟨b1,b2⟩:=b
   exact⟨(p.1,b2)::rs,⟨kV_is h.1,rfl,c⟩,.cons ⟨rfl,h.2⟩ q⟩
def zq7(trs:List (TE×TE)):TE:=fun σ H Q=>∀p,H p=none->zjf trs σ (upd H p (.dK [])) fun ps H2=>H2 p=some (.dK [])/\∃kvs:List (Key×V),ps=kvs.map (fun kv=>(kV kv.1,kv.2))/\kvs.length<=15/\Q (.ref p) (upd H2 p (.dK (zdL [] kvs)))
theorem zm5{X:Cx}{pos:Pos}{keys:List (Option Expr)}{values:List Expr}{trs:List (TE×TE)}(h:PPs X pos keys values trs)(hall:keys.all (·.isSome)=true)(hl:keys.length=values.length)(h0:keys≠[])(h15:keys.length<=15):PE X (.Dict keys values pos) (zq7 trs):=by
 intro pins s σ H Q I q
 have hn:=I.hok.fresh (Nat.le_refl s.heap.objs.size)
 have I1:=I.laid (a:=s.heap.objs.size) (o:=.dK []) (h':=s.heap.push { cls:=.type "dict",data:=.dict #[] }) (t':=s.toks) (fun _ _ q=>Heap.get?_push_of_some _ q) (Nat.le_refl _) (zht s.heap I.big)
 refine wpAny_Dict_walk (knd:=zaI X.prog X.w) hall hl h0 h15 (thn (h pins _ σ _ _ I1 (q _ hn)) fun ws s2 ⟨ps,H2,I2,rel,e,kvs,ep,lk,q2⟩=>?_)
 subst ep
 obtain⟨rs,c,rk⟩:=zeJ (P:=X.prog) (w:=X.w) rel
 obtain⟨z,hd,vs0,r0,dd⟩:=zoZ I2.hok e
 cases r0
 refine⟨rs,c,dd,fun h' dd' hs=>⟨.ref s.heap.objs.size,_,?_,rfl,q2⟩⟩
 have hz:(zdL [] kvs).length<=sizeLine:=by
  have h1:=zcP kvs []
  rw[List.length_nil] at h1
  rw[sizeLine_eq];omega
 have he:∃q,h'.get? s.heap.objs.size=some q:=let ⟨q,_,_,hq,_⟩:=dd';⟨q,hq⟩
 exact zgO I2 (by rw[e];exact True.intro) hs he (zl2 hz hd (rk.merge .nil) dd')
section
variable {X:Cx} {pins:List (Addr×Obj)} {σ:St} {H:Hp} {s:Shared} {a:Addr} {y d:V} {u r:Value} {o:Option V} {A:Around} {E:Value->Shared->Prop}
end
section
variable {X:Cx} {o e f:Expr} {apos cpos:Pos} {td ty tx:TE}
end
section
variable {X:Cx} {pins:List (Addr×Obj)} {σ:St} {H:Hp} {s:Shared} {a:Addr} {kvs:List (Key×V)} {A:Around} {E:Value->Shared->Prop}
end
section
variable {X:Cx} {pins:List (Addr×Obj)} {σ:St} {H:Hp} {s:Shared} {a:Addr} {y:V} {u:Value} {A:Around} {E:Value->Shared->Prop}
end
end L2
namespace L2
open PySem PySem.Spec PyProof.Rows
section
variable {X:Cx}
theorem zjg:CallR X (.builtin "len") (fun xs H Q=>∃a kvs,xs=[V.ref a]/\H a=some (.dK kvs)/\Q (.int kvs.length) H):=by
 intro pins s σ H xs us Q I r h
 obtain⟨a,kvs,rfl,ha,q⟩:=h
 obtain⟨u,rfl,ru⟩:=ze2 r
 cases ru
 exact zq5 I (.inl ha) fun t s' I'=>⟨.int kvs.length,H,I',⟨t,rfl⟩,q⟩
section
variable {κ:Type} [DecidableEq κ]
end
end
end L2
namespace L2
open PySem PySem.Spec PyProof.Rows
section
variable {X:Cx}
theorem zeK{P:Program}{w:World}{kvs:List (Key×V)}{vs:List (Key×Value)}{ns:List Int}(rel:KV kvs vs)(hk:kvs.map (·.1)=ns.map Sum.inl){acc:Array Value}(h:ItemsOf (fun i v=>∃k x,vs[i]?=some (k,x)/\(zaI P w).is k v=true) acc vs.length):IntsAre acc.toList ns:=by
 have hl:acc.toList.length=ns.length:=by
  rw[Array.length_toList,h.1,<- List.length_map (f:=fun x:Key×Value=>x.1),<- KV.keys rel,hk,List.length_map]
 have at':∀(i:Nat) (v:Value),acc.toList[i]?=some v->∃t,v=Value.int (ns.getD i 0) t:=by
  intro i v hv
  obtain⟨k,x,h1,h2⟩:=h.2 i v (by rw[<- Array.getElem?_toList];exact hv)
  have e:(ns.map Sum.inl:List Key)[i]?=some k:=by
   rw[<- hk,KV.keys rel,List.getElem?_map,h1];rfl
  rw[List.getElem?_map] at e
  cases q:ns[i]? with
  | none=>rw[q] at e;cases e
  | some n =>
   rw[q] at e
   simp only[Option.map_some,Option.some.injEq] at e
   subst e
   rcases zaL (k:=Sum.inl n) (v:=v) h2 with ⟨j,t,e1,e2⟩|⟨j,t,e1,e2⟩
   ·cases e1
    exact⟨t,by rw[e2,List.getD_eq_getElem?_getD,q];rfl⟩
   ·cases e1
 clear h
 revert hl at'
 generalize acc.toList=us
 clear hk
 induction ns generalizing us with
 | nil=>intro hl _;cases us with|nil=>exact .nil|cons a r=>simp at hl
 | cons n ns ih =>
  intro hl h
  cases us with
  | nil=>simp at hl
  | cons a r =>
   obtain⟨t,rfl⟩:=h 0 a rfl
   exact .cons n t (ih r (by simpa using hl) fun i v hv=>h (i+1) v hv)
theorem zf8(hc:X.calm=true):CallR X (.builtin "sorted") (fun xs H Q=>∃(a:Addr) (kvs:List (Key×V)) (ns:List Int),xs=[.ref a]/\Rd H a (.dK kvs)/\kvs.map (·.1)=ns.map Sum.inl/\ns.length<64 /\
  ∀ms:List Int,ms.Perm ns->ms.Pairwise (·<=·)->∀l,H l=none->Q (.ref l) (upd H l (.lst (ms.map V.int)))):=by
 intro pins s σ H xs us Q I r h
 obtain⟨a,kvs,ns,rfl,hd,hk,h64,q⟩:=h
 obtain⟨u,rfl,rx⟩:=ze2 r
 cases rx
 obtain⟨hz,hS,vs,rel,dd⟩:=zjb I.hok hd
 obtain⟨ep,hat⟩:=dd.dictAt
 have hh:X.A.in1.handled=none:=I.ok.hd hc
 have hlen:vs.length=ns.length:=by rw[<- KV.length rel,<- List.length_map (f:=fun x:Key×V=>x.1),hk,List.length_map]
 refine Calls.call_function_entry kind_sorted plain_sorted entry_sorted (args_sorted1 _) ?_
 unfold Builtin.«sorted»
 refine wpAny_bind (m:=checkCount "sorted" 1 1 _) (wpAny_pure ?_)
 refine wpAny_bind (PySem.W.kdu_collect (A:=X.A.in1) (PySem.W.kdl_dict (knd:=zaI X.prog X.w) (kvs:=vs) (ep:=ep) hS) hh hat (by rw[<- KV.length rel];exact hz) fun h' tk acc hkp hacc=>?_)
 have hI:=zeK rel hk hacc
 have hal:acc.toList.length=ns.length:=by rw[Array.length_toList,hacc.1,hlen]
 refine wpAny_bind (wpAny_newList ?_ (by rw[hal,<- hlen,<- KV.length rel];exact hz))
 have hoL:(h'.push (seqObj "list" acc.toList.toArray 0)).get? h'.objs.size=some (seqObj "list" acc.toList.toArray 0):=Heap.get?_push_size _ rfl
 refine wpAny_bind (wpAny_holding (wpAny_call_entry slot_list_sort ⟨_,hoL,rfl⟩ entry_list_sort (list_sort_tree hoL hI (by omega) fun out ns' a1 a2 a3=>⟨_,rfl,?_⟩) (args_list_sort _)))
 refine wpAny_pure ⟨_,rfl,?_⟩
 obtain⟨e,he⟩:=sortedHeap_at (out:=out) hoL
 have I1:Inv X pins σ H { s with heap:=h',toks:=tk }:=I.kept hkp
 have rv':Vals (ns'.map V.int) out.toList:=zcm a1
 refine⟨.ref h'.objs.size,_,I1.laid (t':=tk) (a:=h'.objs.size) (o:=.lst (ns'.map V.int)) (fun b o hb=>?_) (Nat.le_refl _) ?_,rfl,q ns' a2 a3 _ I1.fresh⟩
 ·have hb:h'.get? b=some o:=hb
  have hlt:=Heap.lt_size hb
  show(sortedHeap (h'.push (seqObj "list" acc.toList.toArray 0)) h'.objs.size acc.toList out).get? b=some o
  rw[sortedHeap_old (Nat.ne_of_lt hlt) (by rw[size_push'];exact Nat.lt_succ_of_lt hlt)]
  exact Heap.get?_push_of_some _ hb
 ·refine⟨by rw[List.length_map,a2.length_eq,<- hlen,<- KV.length rel];exact hz,out.toList,e,rv',?_⟩
  rw[Array.toArray_toList]
  exact he
theorem zig(hc:X.calm=true):CallR X (.type "list") (fun xs H Q=>∃(a:Addr) (kvs:List (Key×V)) (ns:List Int),xs=[.ref a]/\Rd H a (.dK kvs)/\kvs.map (·.1)=ns.map Sum.inl/\∀l,H l=none->Q (.ref l) (upd H l (.lst (ns.map V.int)))):=by
 intro pins s σ H xs us Q I r h
 obtain⟨a,kvs,ns,rfl,hd,hk,q⟩:=h
 obtain⟨u,rfl,rx⟩:=ze2 r
 cases rx
 obtain⟨hz,hS,vs,rel,dd⟩:=zjb I.hok hd
 obtain⟨ep,hat⟩:=dd.dictAt
 have hlen:vs.length=ns.length:=by rw[<- KV.length rel,<- List.length_map (f:=fun x:Key×V=>x.1),hk,List.length_map]
 refine PySem.W.kdl_call (PySem.W.kdl_dict (knd:=zaI X.prog X.w) (kvs:=vs) (ep:=ep) hS) (I.ok.hd hc) hat (by rw[<- KV.length rel];exact hz) fun h' tk acc c hkp hD hacc=>?_
 have hI:=zeK rel hk hacc
 refine⟨.ref s.heap.objs.size,_,I.laid (t':=tk) (a:=s.heap.objs.size) (o:=.lst (ns.map V.int)) hkp (Nat.le_refl _) ?_,rfl,q _ I.fresh⟩
 refine⟨by rw[List.length_map,<- hlen,<- KV.length rel];exact hz,acc.toList,c,zcm hI,?_⟩
 rw[Array.toArray_toList]
 exact hD
end
end L2
namespace L2
open PySem PySem.Spec PyProof.Rows
section
variable {X:Cx} {tg:Expr}
def Itd(a:Addr)(o:Obj)(ps:List (Key×V)):It where
 go:=fun i H=>H a=some (.frz o (.dK ps))/\i<ps.length
 yld:=fun i H x H'=>H'=H/\∃p,ps[i]?=some p/\x=kV p.1
 stop:=fun i H=>H a=some (.frz o (.dK ps))/\ps.length=i
theorem zm6{P:Program}{w:World}{k:Key}{u:Value}(h:(zaI P w).is k u=true):RelV (kV k) u:=by
 rcases zaL (k:=k) (v:=u) h with ⟨i,t,rfl,rfl⟩|⟨x,t,rfl,rfl⟩
 ·exact⟨t,rfl⟩
 ·exact⟨t,rfl⟩
theorem zl3{P:Program}{w:World}{H:Hp}{h:Heap}{a:Addr}{o:Obj}{ps:List (Key×V)}(ok:HOk P w H h)(e:H a=some (.frz o (.dK ps))){es:Array DictEntry}{ep:Nat}(hd:o.data=.dict es ep) :
  ∃vs,KV ps vs/\h.DictAt (zaI P w) a vs ep:=by
 obtain⟨h1,_,_,vs,r,o',es',ep',ho,hx,hd',hr⟩:=(show ObjOk P w H h a (.frz o (.dK ps)) from ok a _ e)
 rw[h1] at ho
 cases ho
 rw[hd] at hd'
 cases hd'
 exact⟨vs,r,o,es,h1,hx,hd,hr⟩
theorem zjh{P:Program}{w:World}{K:PySem.W.Frag}(a it:Addr){o:Obj}{ps:List (Key×V)}{es:Array DictEntry}{ep:Nat}(hd:o.data=.dict es ep):Turn P w K tg (Itd a o ps) [it] it (fun i h=>h.IsKeyIter it a i ps.length ep) where
 mem:=by simp
 obj:=fun i h st b hb=>by
  have e:b=it:=by simpa using hb
  subst e
  obtain⟨o,e,c,d⟩:=st
  exact⟨o,e,fun v z=>by rw[d] at z;cases z⟩
 keep:=fun i h h' st k=>st.at fun o e=>k it (by simp) o e
 item:=by
  intro X hP hw hK hc i pins s σ H E I hf st hg
  subst hP hw hK
  obtain⟨he,hi⟩:=hg
  obtain⟨vs,r,hat⟩:=zl3 I.hok he hd
  have hl:=KV.length r
  obtain⟨f0,f1,f2,f3,f4,f5⟩:=hf it (by simp)
  have hx:vs[i]?=some (vs[i]'(by omega)):=List.getElem?_eq_getElem _
  have hp:ps[i]?=some (ps[i]'(by omega)):=List.getElem?_eq_getElem _
  have hk:(vs[i]'(by omega)).1=(ps[i]'(by omega)).1:=by
   have e1:=congrArg (fun l:List Key=>l[i]?) (KV.keys r)
   simp only[List.getElem?_map,hx,hp,Option.map_some,Option.some.injEq] at e1
   exact e1.symm
  refine wpAny_pyNext_dict_item (knd:=zaI X.prog X.w) (hl▸st) hat (k:=(vs[i]'(by omega)).1) (v:=(vs[i]'(by omega)).2) (by rw[hx]) fun key h' hkey st' sb=>?_
  have I1:Inv X pins σ H { s with heap:=h' }:=I.turned (t':=s.toks) (fun b o hb e=>(sb.2 b hb).trans e) f0 f1 f3 f4 f5
  obtain⟨oi,e,c,d⟩:=id st'
  exact⟨key,rfl,zkw (s:={ s with heap:=h' }) e c d (by decide) ⟨kV (ps[i]'(by omega)).1,H,I1,hk▸zm6 hkey,⟨rfl,_,hp,rfl⟩,hl▸st',fun b hb=>(hf b hb).1⟩⟩
 done:=by
  intro X hP hw hK hc i pins s σ H E I hf st hg
  subst hP hw hK
  obtain⟨he,hi⟩:=hg
  obtain⟨vs,r,hat⟩:=zl3 I.hok he hd
  have hl:=KV.length r
  obtain⟨f0,f1,f2,f3,f4,f5⟩:=hf it (by simp)
  exact wpAny_pyNext_dict_end (knd:=zaI X.prog X.w) (I.ok.hd hc) (hl▸st) hat (List.getElem?_eq_none (by omega)) fun h' eb=>⟨rfl,I.turned (t':=s.toks) (fun b o hb e=>eb b o hb e) f0 f1 f3 f4 f5⟩
 self:=fun _ _ _ _ _ st h=>wpAny_pyIter_keyiter st h
def zq8(tl:TE):TI:=fun σ H R=>tl σ H fun v H1=>∃a,v=.ref a/\((∃ps,H1 a=some (.dK ps)/\∀o,R (Itd a o ps) (upd H1 a (.frz o (.dK ps))))\/∃o ps,H1 a=some (.frz o (.dK ps))/\R (Itd a o ps) H1)
theorem zm7{l:Expr}{tl:TE}(hl:PE X l tl):PI X tg l (zq8 tl):=by
 intro pins s σ H R I h
 refine thn (hl pins s σ H _ I h) fun v s1 ⟨x,H1,I1,r1,q1⟩=>?_
 obtain⟨a,e,q⟩:=q1
 subst e
 cases r1
 obtain⟨o,ps,H2,I2,he,q⟩:∃o ps H2,Inv X pins σ H2 s1/\H2 a=some (.frz o (.dK ps))/\R (Itd a o ps) H2:=by
  rcases q with ⟨ps,he,q⟩|⟨o,ps,he,q⟩
  ·have ok:=(show ObjOk X.prog X.w H1 s1.heap a (.dK ps) from I1.hok a _ he)
   obtain⟨_,_,vs,r,o,es,ep,ho,hr⟩:=id ok
   refine⟨o,ps,_,I1.write (t':=s1.toks) (h':=s1.heap) (x:=a) (e:=a) (o:=.frz o (.dK ps)) (by rw[he];trivial) (.inl rfl) (fun b u _ z=>z) ⟨o,ho⟩ ?_,zat,q o⟩
   exact⟨ho,ok⟩
  ·exact⟨o,ps,H1,I1,he,q⟩
 obtain⟨h1,_,hS,vs,r,o',es,ep,ho,hx,hd,hr⟩:=(show ObjOk X.prog X.w H2 s1.heap a (.frz o (.dK ps)) from I2.hok a _ he)
 rw[h1] at ho
 cases ho
 have hat:s1.heap.DictAt (zaI X.prog X.w) a vs ep:=⟨o,es,h1,hx,hd,hr⟩
 refine wpAny_pyIter_dict hS hat ?_
 refine⟨s1.heap.objs.size,[s1.heap.objs.size],_,_,H2,rfl,I2.kept (t':=s1.toks) fun b o e=>Heap.get?_push_of_some _ e,zjh a _ hd,⟨_,Heap.get?_push_size _ rfl,rfl,by rw[KV.length r];rfl⟩,fun b hb=>?_,q⟩
 have e:b=s1.heap.objs.size:=by simpa using hb
 subst e
 exact I2.fpOk (Nat.le_refl _) (I2.hok.fresh (Nat.le_refl _))
end
end L2
namespace L2
open PySem PySem.Spec PyProof.Rows
section
variable {prog:Program} {w:World} {A:Around} {E:Value->Shared->Prop} {s:Shared}
end
end L2
namespace VS
open PySem PySem.Spec PyProof.Rows L2
abbrev St:=L2.St
theorem zao{α:Type}{l:List α}{k:Nat}{a:α}(h:l[k]?=some a):k<l.length:=(List.getElem?_eq_some_iff.mp h).1
theorem zf9{α:Type}{l:List α}(h:l.Nodup){i j:Nat}(hi:i<l.length)(hj:j<l.length)(e:l[i]=l[j]):i=j:=by
 have p:=List.pairwise_iff_getElem.mp h
 rcases Nat.lt_trichotomy i j with q|q|q
 ·exact absurd e (p i j hi hj q)
 ·exact q
 ·exact absurd e.symm (p j i hj hi q)
inductive W where
 | non|bl (b:Bool)|int (i:Int)|str (x:Str)|ty (n:String)|lst (xs:List W)|tup (xs:List W)|cel (k:Nat)
inductive C where
 | lst (xs:List W)|dct (kvs:List (Key×W))|ins (c:Str) (fs:List (Str×W))|exn (c:Str)|dead|fzd (kvs:List (Key×W))|dtp (kvs:List (List Key×W))
def C.nf:C->Bool
 | .fzd _=>false
 | _=>true
def nfz:HO->Bool
 | .frz _ _=>false
 | _=>true
abbrev Ce:=List C
abbrev Sl:=List (Option W)
structure Exn where
 nm:Str
 fld:Option (Str×W)
inductive R (α:Type) where
 | ok (a:α) (ce:Ce)|ex (x:Exn) (ce:Ce)
abbrev M(α:Type):=Ce->Option (R α)
structure Ga where
 K:PySem.W.Frag
 cl:Str->Addr
 xr:Exn->Value->Option Addr->Hp->Prop
mutual
def Rep(F:Hp)(as:List Addr):W->V->Prop
 | .non,v=>v=.non
 | .bl b,v=>v=.bl b
 | .int i,v=>v=.int i
 | .str x,v=>v=.str x
 | .ty n,v=>v=.ty n
 | .lst xs,v=>∃a vs,v=.ref a/\Rd F a (.lst vs)/\Reps F as xs vs
 | .tup xs,v=>∃a vs,v=.ref a/\F a=some (.tup vs)/\Reps F as xs vs
 | .cel k,v=>∃a,v=.ref a/\as[k]?=some a
def Reps(F:Hp)(as:List Addr):List W->List V->Prop
 | [],vs=>vs=[]
 | x::xs,vs=>∃v r,vs=v::r/\Rep F as x v/\Reps F as xs r
end
structure Le (F:Hp) (as:List Addr) (F':Hp) (as':List Addr):Prop where
 f:∀a o,F a=some o->F' a=some o
 c:∀(k:Nat) (a:Addr),as[k]?=some a->as'[k]?=some a
theorem Le.refl{F:Hp}{as:List Addr}:Le F as F as:=⟨fun _ _ h=>h,fun _ _ h=>h⟩
theorem Le.trans{F F1 F2:Hp}{as as1 as2:List Addr}(h:Le F as F1 as1)(h':Le F1 as1 F2 as2):Le F as F2 as2:=⟨fun a o e=>h'.f a o (h.f a o e),fun k a e=>h'.c k a (h.c k a e)⟩
theorem Le.rd{F F':Hp}{as as':List Addr}(h:Le F as F' as'){a:Addr}{o:HO}(r:Rd F a o):Rd F' a o:=by
 rcases r with r|⟨u,r⟩
 ·exact .inl (h.f _ _ r)
 ·exact .inr ⟨u,h.f _ _ r⟩
mutual
theorem Rep.le{F F':Hp}{as as':List Addr}(h:Le F as F' as'):∀{w:W} {v:V},Rep F as w v->Rep F' as' w v
 | .non,_,r=>by simpa only[Rep] using r
 | .bl _,_,r=>by simpa only[Rep] using r
 | .int _,_,r=>by simpa only[Rep] using r
 | .str _,_,r=>by simpa only[Rep] using r
 | .ty _,_,r=>by simpa only[Rep] using r
 | .lst xs,_,r=>by
  simp only[Rep] at r ⊢
  obtain⟨a,vs,e,q,s⟩:=r
  exact⟨a,vs,e,h.rd q,Reps.le h s⟩
 | .tup xs,_,r=>by
  simp only[Rep] at r ⊢
  obtain⟨a,vs,e,q,s⟩:=r
  exact⟨a,vs,e,h.f _ _ q,Reps.le h s⟩
 | .cel k,_,r=>by
  simp only[Rep] at r ⊢
  obtain⟨a,e,q⟩:=r
  exact⟨a,e,h.c _ _ q⟩
theorem Reps.le{F F':Hp}{as as':List Addr}(h:Le F as F' as'):∀{ws:List W} {vs:List V},Reps F as ws vs->Reps F' as' ws vs
 | [],_,r=>by simpa only[Reps] using r
 | _::_,_,r=>by
  simp only[Reps] at r ⊢
  obtain⟨v,r',e,q,s⟩:=r
  exact⟨v,r',e,Rep.le h q,Reps.le h s⟩
end
section
variable {F:Hp} {as:List Addr}
theorem Reps.nil:Reps F as [] []:=by simp only[Reps]
theorem Reps.cons{w:W}{v:V}{ws:List W}{vs:List V}(h:Rep F as w v)(t:Reps F as ws vs):Reps F as (w::ws) (v::vs):=by simp only[Reps];exact⟨v,vs,rfl,h,t⟩
theorem Reps.length:∀{ws:List W} {vs:List V},Reps F as ws vs->vs.length=ws.length
 | [],_,r=>by simp only[Reps] at r;subst r;rfl
 | _::_,_,r=>by
  simp only[Reps] at r
  obtain⟨v,r',rfl,_,s⟩:=r
  simp only[List.length_cons,Reps.length s]
theorem Reps.get:∀{ws:List W} {vs:List V} {i:Nat} {w:W},Reps F as ws vs->ws[i]?=some w->∃v,vs[i]?=some v/\Rep F as w v
 | [],_,_,_,_,e=>by simp at e
 | _::_,_,0,_,r,e=>by
  simp only[Reps] at r
  obtain⟨v,r',rfl,q,s⟩:=r
  simp at e;subst e
  exact⟨v,rfl,q⟩
 | _::_,_,i+1,w,r,e=>by
  simp only[Reps] at r
  obtain⟨v,r',rfl,q,s⟩:=r
  obtain⟨u,h1,h2⟩:=Reps.get (i:=i) (w:=w) s (by simpa using e)
  exact⟨u,by simpa using h1,h2⟩
theorem Reps.get'{ws:List W}{vs:List V}{i:Nat}{v:V}(r:Reps F as ws vs)(e:vs[i]?=some v):∃w,ws[i]?=some w/\Rep F as w v:=by
 have hl:=r.length
 have hi:i<vs.length:=zao e
 have e1:ws[i]?=some ws[i]:=List.getElem?_eq_getElem (by omega)
 obtain⟨u,h1,h2⟩:=r.get e1
 rw[e] at h1;cases h1
 exact⟨_,e1,h2⟩
theorem Reps.append:∀{ws zs:List W} {vs us:List V},Reps F as ws vs->Reps F as zs us->Reps F as (ws++zs) (vs++us)
 | [],_,_,_,r,s=>by simp only[Reps] at r;subst r;exact s
 | _::_,_,_,_,r,s=>by
  simp only[Reps] at r
  obtain⟨v,r',rfl,q,t⟩:=r
  exact .cons q (Reps.append t s)
theorem Reps.set:∀{ws:List W} {vs:List V} {w:W} {v:V} (i:Nat),Reps F as ws vs->Rep F as w v->Reps F as (ws.set i w) (vs.set i v)
 | [],_,_,_,_,r,_=>by simp only[Reps] at r;subst r;exact .nil
 | _::_,_,_,_,0,r,h=>by
  simp only[Reps] at r
  obtain⟨v,r',rfl,q,t⟩:=r
  exact .cons h t
 | _::_,_,_,_,i+1,r,h=>by
  simp only[Reps] at r
  obtain⟨v,r',rfl,q,t⟩:=r
  exact .cons q (Reps.set i t h)
theorem Reps.take:∀{ws:List W} {vs:List V} (n:Nat),Reps F as ws vs->Reps F as (ws.take n) (vs.take n)
 | _,_,0,_=>by rw[List.take_zero,List.take_zero];exact .nil
 | [],_,_+1,r=>by simp only[Reps] at r;subst r;exact .nil
 | _::_,_,n+1,r=>by
  simp only[Reps] at r
  obtain⟨v,r',rfl,q,t⟩:=r
  exact .cons q (Reps.take n t)
theorem Reps.drop:∀{ws:List W} {vs:List V} (n:Nat),Reps F as ws vs->Reps F as (ws.drop n) (vs.drop n)
 | _,_,0,r=>r
 | [],_,_+1,r=>by simp only[Reps] at r;subst r;exact .nil
 | _::_,_,n+1,r=>by
  simp only[Reps] at r
  obtain⟨v,r',rfl,q,t⟩:=r
  exact Reps.drop n t
theorem Reps.dropLast{ws:List W}{vs:List V}(r:Reps F as ws vs):Reps F as ws.dropLast vs.dropLast:=by
 rw[List.dropLast_eq_take,List.dropLast_eq_take,r.length];exact r.take _
theorem Reps.ints:∀(ns:List Int),Reps F as (ns.map W.int) (ns.map V.int)
 | []=>.nil
 | n::r=>.cons (by simp only[Rep]) (Reps.ints r)
theorem Reps.of_ints:∀{ns:List Int} {vs:List V},Reps F as (ns.map W.int) vs->vs=ns.map V.int
 | [],_,r=>by simpa only[List.map_nil,Reps] using r
 | n::ns,_,r=>by
  simp only[List.map_cons,Reps,Rep] at r
  obtain⟨v,r',rfl,rfl,t⟩:=r
  rw[Reps.of_ints t,List.map_cons]
theorem Reps.of_bools:∀{bs:List Bool} {vs:List V},Reps F as (bs.map W.bl) vs->vs=bs.map V.bl
 | [],_,r=>by simpa only[List.map_nil,Reps] using r
 | n::ns,_,r=>by
  simp only[List.map_cons,Reps,Rep] at r
  obtain⟨v,r',rfl,rfl,t⟩:=r
  rw[Reps.of_bools t,List.map_cons]
end
theorem el6{α β γ δ:Type}{p q:α->β->γ->δ->Prop}{g:Prop}(h:∃a b c d,p a b c d/\q a b c d)(k:∀a b c d,p a b c d->q a b c d->g):g:=by
 obtain⟨a,b,c,d,h1,h2⟩:=h
 exact k a b c d h1 h2
theorem el8{α β γ δ:Type}{p q r s:α->β->γ->δ->Prop}{g:Prop}(h:∃a b c d,p a b c d/\q a b c d/\r a b c d/\s a b c d)(k:∀a b c d,p a b c d->q a b c d->r a b c d->s a b c d->g):g:=by
 obtain⟨a,b,c,d,h1,h2,h3,h4⟩:=h
 exact k a b c d h1 h2 h3 h4
def RepKV{κ:Type}(F:Hp)(as:List Addr)(kvs:List (κ×W))(ps:List (κ×V)):Prop:=Paired (fun(p:κ×W) (q:κ×V)=>p.1=q.1/\Rep F as p.2 q.2) kvs ps
theorem RepKV.le{κ:Type}{F F':Hp}{as as':List Addr}(h:Le F as F' as'){kvs:List (κ×W)}{ps:List (κ×V)}(r:RepKV F as kvs ps):RepKV F' as' kvs ps:=Paired.mapP r fun _ _ z=>⟨z.1,z.2.le h⟩
def XPhi(a:Addr)(cls:Value)(h:Heap):Prop:=∃o vs,h.get? a=some o/\o.cls=cls/\o.data=.fields vs
def CRep(G:Ga)(F:Hp)(as:List Addr)(H:Hp)(a:Addr):C->Prop
 | .lst xs=>∃vs,H a=some (.lst vs)/\Reps F as xs vs
 | .dct kvs=>∃ps,H a=some (.dK ps)/\RepKV F as kvs ps
 | .ins c fs=>∃dx ps,H a=some (.ins (G.cl c) dx ps)/\RepKV F as fs ps
 | .exn c=>H a=some (.ext (XPhi a (.ref (G.cl c))))
 | .dead=>∃o,H a=some o
 | .fzd kvs=>∃o ps,F a=some (.frz o (.dK ps))/\H a=some (.frz o (.dK ps))/\RepKV F as kvs ps
 | .dtp kvs=>∃ps,H a=some (.dT ps)/\RepKV F as kvs ps
structure Store (G:Ga) (F:Hp) (as:List Addr) (H:Hp) (ce:Ce):Prop where
 sub:∀a o,F a=some o->H a=some o
 nd:as.Nodup
 len:as.length=ce.length
 cell:∀(k:Nat) (a:Addr) (c:C),as[k]?=some a->ce[k]?=some c->(c.nf=true->F a=none)/\CRep G F as H a c
structure SR (G:Ga) (F:Hp) (as:List Addr) (H:Hp) (σ:VS.St) (sl:Sl) (ce:Ce):Prop where
 st:Store G F as H ce
 len:σ.length=sl.length
 slot:∀(i:Nat) (w:W),sl[i]?=some (some w)->∃v,σ[i]?=some (some v)/\Rep F as w v
section
variable {G:Ga} {F F':Hp} {as as':List Addr} {H H':Hp} {σ:VS.St} {sl:Sl} {ce ce':Ce} {a p:Addr} {k:Nat} {o:HO}
theorem CRep.tracked{c:C}(h:CRep G F as H a c):∃o,H a=some o:=by
 cases c with
 | lst xs=>obtain⟨vs,e,_⟩:=h;exact⟨_,e⟩
 | dct xs=>obtain⟨vs,e,_⟩:=h;exact⟨_,e⟩
 | ins c xs=>obtain⟨dx,vs,e,_⟩:=h;exact⟨_,e⟩
 | exn c=>exact⟨_,h⟩
 | dead=>exact h
 | fzd xs=>obtain⟨o,ps,_,e,_⟩:=h;exact⟨_,e⟩
 | dtp xs=>obtain⟨vs,e,_⟩:=h;exact⟨_,e⟩
theorem CRep.le{c:C}(l:Le F as F' as')(hH:H' a=H a)(h:CRep G F as H a c):CRep G F' as' H' a c:=by
 cases c with
 | lst xs=>obtain⟨vs,e,r⟩:=h;exact⟨vs,hH.trans e,r.le l⟩
 | dct xs=>obtain⟨vs,e,r⟩:=h;exact⟨vs,hH.trans e,r.le l⟩
 | ins c xs=>obtain⟨dx,vs,e,r⟩:=h;exact⟨dx,vs,hH.trans e,r.le l⟩
 | exn c=>exact hH.trans h
 | dead=>obtain⟨o,e⟩:=h;exact⟨o,hH.trans e⟩
 | fzd xs=>obtain⟨o,ps,e1,e2,r⟩:=h;exact⟨o,ps,l.f _ _ e1,hH.trans e2,r.le l⟩
 | dtp xs=>obtain⟨vs,e,r⟩:=h;exact⟨vs,hH.trans e,r.le l⟩
theorem Store.at(S:Store G F as H ce){c:C}(h:ce[k]?=some c):∃a,as[k]?=some a/\(c.nf=true->F a=none)/\CRep G F as H a c:=by
 have hk:k<ce.length:=zao h
 have e:as[k]?=some (as[k]'(by rw[S.len];exact hk)):=List.getElem?_eq_getElem _
 exact⟨_,e,S.cell _ _ _ e h⟩
theorem Store.tracked(S:Store G F as H ce)(h:as[k]?=some a):∃o,H a=some o:=by
 have hk:k<as.length:=zao h
 have e:ce[k]?=some (ce[k]'(by rw[<- S.len];exact hk)):=List.getElem?_eq_getElem _
 exact(S.cell _ _ _ h e).2.tracked
theorem SR.slots(S:SR G F as H σ sl ce)(S':Store G F' as' H' ce')(l:Le F as F' as'):SR G F' as' H' σ sl ce' :=
 ⟨S',S.len,fun i w e=>let ⟨v,h1,h2⟩:=S.slot i w e;⟨v,h1,h2.le l⟩⟩
theorem SR.var(S:SR G F as H σ sl ce){i:Nat}{w:W}(h:sl[i]?=some (some w)):∃v,σ[i]?=some (some v)/\Rep F as w v:=S.slot i w h
theorem SR.put(S:SR G F as H σ sl ce){w:W}{v:V}(r:Rep F as w v)(i:Nat):SR G F as H (σ.set i (some v)) (sl.set i (some w)) ce:=by
 refine⟨S.st,by rw[List.length_set,List.length_set];exact S.len,fun j u e=>?_⟩
 by_cases hj:i=j
 ·subst hj
  have hi:i<sl.length:=by have:=zao e;rwa [List.length_set] at this
  rw[List.getElem?_set_self hi] at e
  cases e
  exact⟨v,by rw[List.getElem?_set_self (by rw[S.len];exact hi)],r⟩
 ·rw[List.getElem?_set_ne hj] at e
  obtain⟨v',h1,h2⟩:=S.slot j u e
  exact⟨v',by rw[List.getElem?_set_ne hj];exact h1,h2⟩
theorem upd_sub(hF:F p=none):∀a u,F a=some u->upd F p o a=some u:=fun a u e=>by
 rw[zau (zaq e hF)];exact e
theorem Store.freeze(S:Store G F as H ce)(hp:H p=none):Store G (upd F p o) as (upd H p o) ce/\Le F as (upd F p o) as:=by
 have hF:F p=none:=by
  cases e:F p with
  | none=>rfl
  | some u=>rw[S.sub _ _ e] at hp;cases hp
 have l:Le F as (upd F p o) as:=⟨upd_sub hF,fun _ _ h=>h⟩
 refine⟨⟨fun a u e=>?_,S.nd,S.len,fun k a c h1 h2=>?_⟩,l⟩
 ·by_cases ha:a=p
  ·subst ha;rw[zat] at e ⊢;exact e
  ·rw[zau ha] at e ⊢;exact S.sub _ _ e
 ·obtain⟨q1,q2⟩:=S.cell k a c h1 h2
  obtain⟨u,hu⟩:=q2.tracked
  have ha:a≠p:=zaq hu hp
  exact⟨fun hn=>by rw[zau ha];exact q1 hn,q2.le l (zau ha)⟩
theorem Store.alloc(S:Store G F as H ce)(hp:H p=none){c:C}(hc:∀as',Le F as F as'->CRep G F as' (upd H p o) p c):Store G F (as++[p]) (upd H p o) (ce++[c])/\Le F as F (as++[p]):=by
 have hF:F p=none:=by
  cases e:F p with
  | none=>rfl
  | some u=>rw[S.sub _ _ e] at hp;cases hp
 have l:Le F as F (as++[p]):=⟨fun _ _ h=>h,fun k a h=>by
  have hk:k<as.length:=zao h
  rw[List.getElem?_append_left hk];exact h⟩
 refine⟨⟨fun a u e=>?_,?_,by rw[List.length_append,List.length_append,S.len];rfl,fun k a c' h1 h2=>?_⟩,l⟩
 ·rw[zau (zaq (S.sub _ _ e) hp)];exact S.sub _ _ e
 ·rw[List.nodup_append]
  refine⟨S.nd,by simp,fun a ha b hb=>?_⟩
  obtain⟨k,hk⟩:=List.getElem?_of_mem ha
  obtain⟨u,hu⟩:=S.tracked hk
  rw[List.mem_singleton] at hb
  subst hb
  exact zaq hu hp
 ·by_cases hk:k<ce.length
  ·rw[List.getElem?_append_left (by rw[S.len];exact hk)] at h1
   rw[List.getElem?_append_left hk] at h2
   obtain⟨q1,q2⟩:=S.cell k a c' h1 h2
   obtain⟨u,hu⟩:=q2.tracked
   exact⟨q1,q2.le l (zau (zaq hu hp))⟩
  ·rw[List.getElem?_append_right (by rw[S.len];omega)] at h1
   rw[List.getElem?_append_right (by omega)] at h2
   have e:k-as.length=0:=by
    cases q:k-as.length with
    | zero=>rfl
    | succ n=>rw[q] at h1;simp at h1
   rw[e] at h1
   rw[<- S.len,e] at h2
   simp at h1 h2
   subst h1;subst h2
   exact⟨fun _=>hF,hc _ l⟩
theorem Store.write(S:Store G F as H ce)(h1:as[k]?=some a){c:C}(hc:CRep G F as (upd H a o) a c)(hm:∃o',H a=some o'/\nfz o'=true:=by exact⟨_,by assumption,rfl⟩):Store G F as (upd H a o) (ce.set k c):=by
 have hk:k<ce.length:=by rw[<- S.len];exact zao h1
 have e:ce[k]?=some ce[k]:=List.getElem?_eq_getElem hk
 obtain⟨q1,q2⟩:=S.cell k a _ h1 e
 have q1:F a=none:=by
  cases ek:ce[k] with
  | fzd xs =>
   rw[ek] at q2
   obtain⟨o1,ps,_,e2,_⟩:=q2
   obtain⟨o',e3,hn⟩:=hm
   rw[e2] at e3
   cases e3
   cases hn
  | _=>exact q1 (by rw[ek];rfl)
 refine⟨fun b u e'=>?_,S.nd,by rw[List.length_set];exact S.len,fun j b c' h1' h2'=>?_⟩
 ·rw[zau (fun z=>by subst z;rw[q1] at e';cases e')];exact S.sub _ _ e'
 ·by_cases hj:k=j
  ·subst hj
   rw[List.getElem?_set_self hk] at h2'
   rw[h1] at h1'
   cases h1';cases h2'
   exact⟨fun _=>q1,hc⟩
  ·rw[List.getElem?_set_ne hj] at h2'
   obtain⟨p1,p2⟩:=S.cell j b c' h1' h2'
   have hb:b≠a:=fun z=>by
    subst z
    have hj':j<as.length:=zao h1'
    have hk':k<as.length:=by rw[S.len];exact hk
    have e1:as[k]=as[j]:=by
     rw[List.getElem?_eq_getElem hk'] at h1
     rw[List.getElem?_eq_getElem hj'] at h1'
     exact(Option.some.inj h1).trans (Option.some.inj h1').symm
    exact hj (zf9 S.nd hk' hj' e1)
   exact⟨p1,p2.le .refl (zau hb)⟩
end
end VS
namespace VS
open PySem PySem.Spec PyProof.Rows L2
def bnd{α β:Type}(m:M α)(f:α->M β):M β:=fun ce=>match m ce with
 | some (.ok a ce')=>f a ce'
 | some (.ex x ce')=>some (.ex x ce')
 | none=>none
def ret{α:Type}(a:α):M α:=fun ce=>some (.ok a ce)
def look{α:Type}(f:Ce->Option α):M α:=fun ce=>(f ce).map fun a=>R.ok a ce
def zga{α:Type}:M α:=fun _=>none
def Post{α β:Type}(G:Ga)(E:XK)(RP:Hp->List Addr->α->β->Prop)(F:Hp)(as:List Addr)(σ:VS.St)(sl:Sl)(Q:β->Hp->Prop):Option (R α)->Prop
 | some (.ok a ce')=>∀b H' F' as',Le F as F' as'->SR G F' as' H' σ sl ce'->RP F' as' a b->Q b H'
 | some (.ex x ce')=>∀H' F' as' cv od,Le F as F' as'->Store G F' as' H' ce'->G.xr x cv od H'->E cv od H'
 | none=>False
def toT{α β:Type}(G:Ga)(E:XK)(RP:Hp->List Addr->α->β->Prop)(d:Sl->M α):VS.St->Hp->(β->Hp->Prop)->Prop :=
 fun σ H Q=>∃F as sl ce,SR G F as H σ sl ce/\Post G E RP F as σ sl Q (d sl ce)
def rB:Hp->List Addr->Bool->Bool->Prop:=fun _ _ a b=>a=b
abbrev zam(G:Ga)(E:XK)(d:Sl->M W):TE:=toT G E Rep d
abbrev zcn(G:Ga)(E:XK)(d:Sl->M Bool):TT:=toT G E rB d
abbrev zgP(G:Ga)(E:XK)(d:Sl->M (List W)):TA:=toT G E Reps d
section
variable {α β γ δ:Type} {G:Ga} {E:XK} {RP:Hp->List Addr->α->β->Prop} {RQ:Hp->List Addr->γ->δ->Prop} {F F':Hp} {as as':List Addr} {H:Hp} {σ:VS.St} {sl:Sl} {ce:Ce}
theorem Post.le{Q:β->Hp->Prop}{r:Option (R α)}(l:Le F as F' as')(P:Post G E RP F as σ sl Q r):Post G E RP F' as' σ sl Q r:=by
 cases r with
 | none=>exact P
 | some r=>cases r with
  | ok a ce'=>exact fun b H' F2 as2 l2=>P b H' F2 as2 (l.trans l2)
  | ex x ce'=>exact fun H' F2 as2 cv od l2=>P H' F2 as2 cv od (l.trans l2)
theorem toT.mono{d:Sl->M α}{Q Q':β->Hp->Prop}(h:toT G E RP d σ H Q)(q:∀b H1,Q b H1->Q' b H1):toT G E RP d σ H Q':=by
 obtain⟨F,as,sl,ce,S,P⟩:=h
 refine⟨F,as,sl,ce,S,?_⟩
 revert P
 cases d sl ce with
 | none=>exact fun P=>P
 | some r=>cases r with
  | ok a ce'=>exact fun P b H' F' as' l S' r=>q _ _ (P b H' F' as' l S' r)
  | ex x ce'=>exact fun P=>P
theorem step{d:Sl->M α}{f:α->M γ}{Q:δ->Hp->Prop}(S:SR G F as H σ sl ce)(P:Post G E RQ F as σ sl Q (bnd (d sl) f ce)) :
  toT G E RP d σ H fun b H2=>∃a F' as' ce',Le F as F' as'/\SR G F' as' H2 σ sl ce'/\RP F' as' a b/\Post G E RQ F' as' σ sl Q (f a ce'):=by
 refine⟨F,as,sl,ce,S,?_⟩
 revert P
 unfold bnd
 cases d sl ce with
 | none=>exact fun P=>P
 | some r=>cases r with
  | ok a ce'=>exact fun P b H' F' as' l S' r=>⟨a,F',as',ce',l,S',r,P.le l⟩
  | ex x ce'=>exact fun P=>P
theorem za8{f:Ce->Option α}{Q:β->Hp->Prop}(P:Post G E RP F as σ sl Q (look f ce)):∃a,f ce=some a/\Post G E RP F as σ sl Q (some (.ok a ce)):=by
 revert P
 unfold look
 cases f ce with
 | none=>exact fun P=>P.elim
 | some a=>exact fun P=>⟨a,rfl,P⟩
theorem Post.done{a:α}{b:β}{Q:β->Hp->Prop}(S:SR G F as H σ sl ce)(P:Post G E RP F as σ sl Q (some (.ok a ce)))(r:RP F as a b):Q b H:=P b H F as .refl S r
end
theorem PE.imp{X:Cx}{e:Expr}{t t':TE}(h:PE X e t)(q:∀σ H Q,t' σ H Q->t σ H Q):PE X e t':=fun pins s σ H Q I z=>h pins s σ H Q I (q _ _ _ z)
theorem PT.imp{X:Cx}{e:Expr}{t t':TT}(h:PT X e t)(q:∀σ H Q,t' σ H Q->t σ H Q):PT X e t':=fun pins s σ H Q I z=>h pins s σ H Q I (q _ _ _ z)
theorem PW.imp{X:Cx}{e:Expr}{t t':TT}(h:PW X e t)(q:∀σ H Q,t' σ H Q->t σ H Q):PW X e t':=fun wh pins s σ H Q I z=>h wh pins s σ H Q I (q _ _ _ z)
theorem PA.imp{X:Cx}{e:List Expr}{t t':TA}(h:PA X e t)(q:∀σ H Q,t' σ H Q->t σ H Q):PA X e t':=fun pos pins s σ H Q I z=>h pos pins s σ H Q I (q _ _ _ z)
theorem PS.imp{X:Cx}{e:Stmt}{t t':TS}(h:PS X e t)(q:∀D σ H,t' D σ H->t D σ H):PS X e t':=fun pins s σ H Q I z=>h pins s σ H Q I (q _ _ _ z)
theorem PSs.imp{X:Cx}{e:List Stmt}{t t':TS}(h:PSs X e t)(q:∀D σ H,t' D σ H->t D σ H):PSs X e t':=fun pins s σ H Q I z=>h pins s σ H Q I (q _ _ _ z)
def zaf(i:Nat):Sl->M W:=fun sl ce=>match sl[i]? with
 | some (some w)=>some (.ok w ce)
 | _=>none
def dC(w:W):Sl->M W:=fun _=>ret w
def dOp(f:W->W->Option W)(a b:Sl->M W):Sl->M W:=fun sl=>bnd (a sl) fun x=>bnd (b sl) fun y=>look fun _=>f x y
def dUn(f:W->Option W)(a:Sl->M W):Sl->M W:=fun sl=>bnd (a sl) fun x=>look fun _=>f x
def scV:W->Option V
 | .non=>some .non
 | .bl b=>some (.bl b)
 | .int i=>some (.int i)
 | .str x=>some (.str x)
 | .ty n=>some (.ty n)
 | _=>none
theorem Rep.sc{F:Hp}{as:List Addr}{w:W}{v u:V}(r:Rep F as w v)(e:scV w=some u):v=u:=by
 cases w<;>simp only[scV,Option.some.injEq,reduceCtorEq] at e<;>simp only[Rep] at r<;>(subst e;exact r)
theorem Rep.of_sc{F:Hp}{as:List Addr}{w:W}{u:V}(e:scV w=some u):Rep F as w u:=by
 cases w<;>simp only[scV,Option.some.injEq,reduceCtorEq] at e<;>simp only[Rep]<;>exact e.symm
def Sc2(r:R2)(f:W->W->Option W):Prop:=∀x y w,f x y=some w->∃vx vy vw,scV x=some vx/\scV y=some vy/\scV w=some vw/\∀H Q,Q vw H->r vx vy H Q
def i2(g:Int->Int->W):W->W->Option W
 | .int i,.int j=>some (g i j)
 | _,_=>none
open Classical in
def i2c(c:Int->Int->Prop)(g:Int->Int->W):W->W->Option W
 | .int i,.int j=>if c i j then some (g i j) else none
 | _,_=>none
section
variable {X:Cx} {G:Ga} {E:XK} {a b c:Expr} {da db dc:Sl->M W} {pos:Pos}
theorem zaa(i:Nat){x:Str}{pos:Pos}(hN:X.N[i]?=some x:=by rfl)(hv:Vis X.env.scope x:=by first|exact Or.inl rfl|exact Or.inr (Or.inl rfl)|exact Or.inr (Or.inr rfl))(hd:(x==("__debug__" : Str))=false:=by decide)(hcd:(x==("__classdict__" : Str))=false:=by decide):PE X (.Name x pos) (zam G E (zaf i)):=by
 refine PE.imp (zok hN hv hd hcd) fun σ H Q h=>?_
 obtain⟨F,as,sl,ce,S,P⟩:=h
 revert P
 unfold zaf
 split
 ·rename_i w e
  intro P
  obtain⟨v,h1,h2⟩:=S.var e
  exact⟨v,h1,P.done S h2⟩
 ·exact fun P=>P.elim
theorem zn9{e:Expr}{w:W}{v:V}(h:PE X e (tC v))(hs:scV w=some v):PE X e (zam G E (dC w)):=by
 refine PE.imp h fun σ H Q h=>?_
 obtain⟨F,as,sl,ce,S,P⟩:=h
 exact P.done S (Rep.of_sc hs)
theorem zae{i j pos}:PE X (.Constant (.int i) j pos) (zam G E (dC (.int i))):=zn9 zol rfl
theorem zcI{i j pos}:PE X (.Constant (.bool i) j pos) (zam G E (dC (.bl i))):=zn9 zqs rfl
theorem zeL{j pos}:PE X (.Constant .none j pos) (zam G E (dC .non)):=zn9 zom rfl
theorem zdo{x j pos}:PE X (.Constant (.str x) j pos) (zam G E (dC (.str x))):=zn9 zon rfl
theorem zgb{r:R2}{f:W->W->M W}{σ:VS.St}{H:Hp}{Q:VK}(h:zam G E (fun sl=>bnd (da sl) fun x=>bnd (db sl) fun y=>f x y) σ H Q)(k:∀F as sl ce H2 x y wx wy,SR G F as H2 σ sl ce->Rep F as wx x->Rep F as wy y->Post G E Rep F as σ sl Q (f wx wy ce)->r x y H2 Q):tOp r (zam G E da) (zam G E db) σ H Q:=by
 obtain⟨F,as,sl,ce,S,P⟩:=h
 refine(step S P).mono fun x H1 zz_=>el8 zz_ fun wx F1 as1 ce1 l1 S1 rx P1=>(step S1 P1).mono fun y H2 zz_=>el8 zz_ fun wy F2 as2 ce2 l2 S2 ry P2=>?_
 exact k F2 as2 sl ce2 H2 x y wx wy S2 (rx.le l2) ry P2
theorem zgQ{op:Operator}{r:R2}{f:W->W->Option W}(ho:OpR X (binaryOp op) r)(hf:Sc2 r f)(ha:PE X a (zam G E da))(hb:PE X b (zam G E db)):PE X (.BinOp a op b pos) (zam G E (dOp f da db)):=by
 refine PE.imp (zmJ ho ha hb) fun σ H Q h=>zgb h fun F as sl ce H2 x y wx wy S rx ry P=>?_
 revert P
 unfold look
 cases e:f wx wy with
 | none=>exact fun P=>P.elim
 | some w =>
  intro P
  obtain⟨vx,vy,vw,e1,e2,e3,k⟩:=hf _ _ _ e
  rw[rx.sc e1,ry.sc e2]
  exact k _ _ (P.done S (Rep.of_sc e3))
theorem zo2{op:CmpOp}{r:R2}{f:W->W->Option W}(ho:OpR X (compareOp op) r)(hf:Sc2 r f)(ha:PE X a (zam G E da))(hb:PE X b (zam G E db))(hm:behindInMarks op b=false):PE X (.Compare a [op] [b] pos) (zam G E (dOp f da db)):=by
 refine PE.imp (zgM ho ha hb hm) fun σ H Q h=>zgb h fun F as sl ce H2 x y wx wy S rx ry P=>?_
 revert P
 unfold look
 cases e:f wx wy with
 | none=>exact fun P=>P.elim
 | some w =>
  intro P
  obtain⟨vx,vy,vw,e1,e2,e3,k⟩:=hf _ _ _ e
  rw[rx.sc e1,ry.sc e2]
  exact k _ _ (P.done S (Rep.of_sc e3))
theorem zgc{g:Int->Int->W}{h:Int->Int->V}(q:∀i j,scV (g i j)=some (h i j)):Sc2 (rI0 h) (i2 g):=by
 intro x y w e
 cases x<;>cases y<;>simp only[i2,Option.some.injEq,reduceCtorEq] at e
 subst e
 exact⟨_,_,_,rfl,rfl,q _ _,fun H Q hq=>⟨_,_,rfl,rfl,hq⟩⟩
theorem zhu{c:Int->Int->Prop}{g:Int->Int->W}{h:Int->Int->V}(q:∀i j,scV (g i j)=some (h i j)):Sc2 (rI c h) (i2c c g):=by
 intro x y w e
 cases x<;>cases y<;>simp only[i2c,reduceCtorEq] at e
 split at e
 ·rename_i hc
  cases e
  exact⟨_,_,_,rfl,rfl,q _ _,fun H Q hq=>⟨_,_,rfl,rfl,hc,hq⟩⟩
 ·cases e
def zb3:W->W->Option W:=i2 fun i j=>.int (i+j)
def zhv:W->W->Option W:=i2 fun i j=>.int (i-j)
def ze8:W->W->Option W:=i2c CMul fun i j=>.int (i*j)
def zbA:W->W->Option W:=i2c (fun _ j=>0<j) fun i j=>.int (i % j)
def zgR:W->W->Option W:=i2c zqG fun i j=>.int (i / j)
def fLt:W->W->Option W:=i2 fun i j=>.bl (decide (i<j))
def fLe:W->W->Option W:=i2 fun i j=>.bl (decide (i<=j))
def fGt:W->W->Option W:=i2 fun i j=>.bl (decide (j<i))
def fGe:W->W->Option W:=i2 fun i j=>.bl (decide (j<=i))
theorem za2(ha:PE X a (zam G E da))(hb:PE X b (zam G E db)):PE X (.BinOp a .Add b pos) (zam G E (dOp zb3 da db)):=zgQ zoG (zgc fun _ _=>rfl) ha hb
theorem zeM(ha:PE X a (zam G E da))(hb:PE X b (zam G E db)):PE X (.BinOp a .Sub b pos) (zam G E (dOp zhv da db)):=zgQ zoH (zgc fun _ _=>rfl) ha hb
theorem zdM(ha:PE X a (zam G E da))(hb:PE X b (zam G E db)):PE X (.BinOp a .Mult b pos) (zam G E (dOp ze8 da db)):=zgQ zoI (zhu fun _ _=>rfl) ha hb
theorem zaH(ha:PE X a (zam G E da))(hb:PE X b (zam G E db)):PE X (.BinOp a .Mod b pos) (zam G E (dOp zbA da db)):=zgQ zoJ (zhu fun _ _=>rfl) ha hb
theorem zcC(ha:PE X a (zam G E da))(hb:PE X b (zam G E db)):PE X (.BinOp a .FloorDiv b pos) (zam G E (dOp zgR da db)):=zgQ zmK (zhu fun _ _=>rfl) ha hb
theorem zq9(ha:PE X a (zam G E da))(hb:PE X b (zam G E db)):PE X (.Compare a [.Gt] [b] pos) (zam G E (dOp fGt da db)):=zo2 zoN (zgc fun _ _=>rfl) ha hb (zcl _)
def ziH:W->Option W
 | .int i=>some (.int (-i))
 | _=>none
theorem zgd(ha:PE X a (zam G E da)):PE X (.UnaryOp .USub a pos) (zam G E (dUn ziH da)):=by
 refine PE.imp (zqF zoL ha) fun σ H Q zz_=>el6 zz_ fun F as sl ce S P=>(step S P).mono fun x H1 zz_=>el8 zz_ fun wx F1 as1 ce1 l1 S1 rx P1=>?_
 revert P1
 unfold look ziH
 cases wx<;>first|exact fun P=>P.elim|skip
 simp only[Rep] at rx
 subst rx
 exact fun P=>⟨_,rfl,P.done S1 (by simp only[Rep])⟩
def zo3:W->Bool
 | .non=>true
 | _=>false
def zrX:W->Option W:=fun w=>some (.bl (zo3 w))
theorem Rep.isN{F:Hp}{as:List Addr}{w:W}{v:V}(r:Rep F as w v):decide (v=.non)=zo3 w:=by
 cases w<;>simp only[Rep] at r<;>first|(subst r;rfl)|(obtain⟨_,_,rfl,_⟩:=r;rfl)|(obtain⟨_,rfl,_⟩:=r;rfl)
theorem zo4{j pos'}(ha:PE X a (zam G E da)):PE X (.Compare a [.Is] [.Constant .none j pos'] pos) (zam G E (dUn zrX da)):=by
 refine PE.imp (zop (zoo ha)) fun σ H Q zz_=>el6 zz_ fun F as sl ce S P=>(step S P).mono fun x H1 zz_=>el8 zz_ fun wx F1 as1 ce1 l1 S1 rx P1=>?_
 exact Post.done S1 (a:=W.bl _) P1 (by simp only[Rep];rw[rx.isN])
def zhw(ce:Ce):W->Option Bool
 | .non=>some false
 | .bl b=>some b
 | .int i=>some (i != 0)
 | .str x=>if x.length<=sizeLine then some ((x.length:Int) != 0) else none
 | .lst xs=>some (!xs.isEmpty)
 | .tup xs=>some (!xs.isEmpty)
 | .cel k=>match ce[k]? with
  | some (.lst xs)=>some (!xs.isEmpty)
  | some (.dct xs)=>some (!xs.isEmpty)
  | _=>none
 | _=>none
theorem Reps.empty{F:Hp}{as:List Addr}{ws:List W}{vs:List V}(r:Reps F as ws vs):vs.isEmpty=ws.isEmpty:=by
 have:=r.length
 cases ws<;>cases vs<;>simp_all
theorem Rd.sub{G:Ga}{F:Hp}{as:List Addr}{H:Hp}{ce:Ce}(S:Store G F as H ce){a:Addr}{o:HO}(r:Rd F a o):Rd H a o:=by
 rcases r with r|⟨u,r⟩
 ·exact .inl (S.sub _ _ r)
 ·exact .inr ⟨u,S.sub _ _ r⟩
theorem zm8{F:Hp}{as:List Addr}{H:Hp}{ce:Ce}{w:W}{v:V}{k:Bool}(S:Store G F as H ce)(r:Rep F as w v)(e:zhw ce w=some k)(K:PySem.W.Frag):zqk K v H k:=by
 cases w with
 | non=>simp only[Rep] at r;simp only[zhw,Option.some.injEq] at e;subst r;exact e.symm
 | bl b=>simp only[Rep] at r;simp only[zhw,Option.some.injEq] at e;subst r;exact e.symm
 | int i=>simp only[Rep] at r;simp only[zhw,Option.some.injEq] at e;subst r;exact e.symm
 | str x =>
  simp only[Rep] at r
  subst r
  simp only[zhw] at e
  split at e
  ·rename_i h
   exact⟨h,(Option.some.inj e).symm⟩
  ·cases e
 | ty n=>simp only[zhw,reduceCtorEq] at e
 | lst xs =>
  simp only[Rep] at r
  obtain⟨a,vs,rfl,h,rs⟩:=r
  simp only[zhw,Option.some.injEq] at e
  exact .inl ⟨vs,.inl (Rd.sub S h),by rw[<- e,rs.empty]⟩
 | tup xs =>
  simp only[Rep] at r
  obtain⟨a,vs,rfl,h,rs⟩:=r
  simp only[zhw,Option.some.injEq] at e
  exact .inr (.inl ⟨vs,.inl (.inl (S.sub _ _ h)),by rw[<- e,rs.empty]⟩)
 | cel n =>
  simp only[Rep] at r
  obtain⟨a,rfl,h⟩:=r
  simp only[zhw] at e
  split at e
  ·rename_i xs hc
   obtain⟨_,vs,h2,rs⟩:=S.cell _ _ _ h hc
   exact .inl ⟨vs,.inl (.inl h2),by rw[<- Option.some.inj e,rs.empty]⟩
  ·rename_i xs hc
   obtain⟨_,vs,h2,rs⟩:=S.cell _ _ _ h hc
   refine .inr (.inr ⟨vs,h2,?_⟩)
   rw[<- Option.some.inj e]
   cases rs<;>rfl
  ·cases e
def zo5(d:Sl->M W):Sl->M Bool:=fun sl=>bnd (d sl) fun w=>look fun ce=>zhw ce w
theorem zo6{da:Sl->M W}(ha:PE X a (zam G E da))(he:∀whole,isTrue a X.env whole=(do let v <- whole;standAt a.pos;holding [v] (truthy v)):=by intro _;rfl):PT X a (zcn G E (zo5 da)):=by
 refine PT.imp (zq3 (K:=X.K) ha he) fun σ H Q zz_=>el6 zz_ fun F as sl ce S P=>(step S P).mono fun x H1 zz_=>el8 zz_ fun wx F1 as1 ce1 l1 S1 rx P1=>?_
 obtain⟨k,e,P⟩:=za8 P1
 exact⟨k,zm8 S1.st rx e _,Post.done (RP:=rB) S1 P rfl⟩
def dB(d:Sl->M W):Sl->M Bool:=fun sl=>bnd (d sl) fun w=>look fun _=>match w with|.bl b=>some b|_=>none
theorem zm9{t:TE}{σ:VS.St}{H:Hp}{Q:Bool->Hp->Prop}{d:Sl->M W}(h:zcn G E (dB d) σ H Q):tB (zam G E d) σ H Q:=by
 obtain⟨F,as,sl,ce,S,P⟩:=h
 refine(step S P).mono fun x H1 zz_=>el8 zz_ fun wx F1 as1 ce1 l1 S1 rx P1=>?_
 revert P1
 unfold look
 cases wx<;>first|exact fun P=>P.elim|skip
 simp only[Rep] at rx
 subst rx
 exact fun P=>⟨_,rfl,P.done S1 rfl⟩
theorem zdp{e:Expr}{d:Sl->M W}(h:PE X e (zam G E d))(he:∀whole,isTrue e X.env whole=(do let v <- whole;standAt e.pos;holding [v] (truthy v)):=by intro _;rfl):PT X e (zcn G E (dB d)) :=
 PT.imp (zor h he) fun σ H Q q=>zm9 (t:=zam G E d) q
theorem ze9{op:CmpOp}{d:Sl->M W}{r:R2}(ho:OpR X (compareOp op) r)(ha:PE X a (zam G E da))(hb:PE X b (zam G E db))(hm:behindInMarks op b=false)(q:∀σ H Q,zam G E d σ H Q->tOp r (zam G E da) (zam G E db) σ H Q):PT X (.Compare a [op] [b] pos) (zcn G E (dB d)):=by
 refine PT.imp (zmL ho ha hb hm) fun σ H Q h=>?_
 exact q σ H _ (zm9 (t:=zam G E d) h)
theorem zra{op:CmpOp}{d:Sl->M W}(h:∃t,PC X op a b t/\∀σ H Q,zam G E d σ H Q->t σ H Q)(h1:behindInMarks op b=false):PT X (.Compare a [op] [b] pos) (zcn G E (dB d)):=by
 obtain⟨t,h,q⟩:=h
 exact PT.imp (zoq h h1) fun σ H Q z=>q _ _ _ (zm9 (t:=zam G E d) z)
end
end VS
namespace VS
open PySem PySem.Spec PyProof.Rows L2
mutual
def peq:W->W->Bool
 | .non,y=>match y with|.non=>true|_=>false
 | .bl a,y=>match y with|.bl b=>a==b|.int b=>(if a then 1 else 0)==b|_=>false
 | .int a,y=>match y with|.int b=>a==b|.bl b=>a==(if b then 1 else 0)|_=>false
 | .str a,y=>match y with|.str b=>a==b|_=>false
 | .lst xs,y=>match y with|.lst ys=>peqs xs ys|_=>false
 | .tup xs,y=>match y with|.tup ys=>peqs xs ys|_=>false
 | .ty _,_=>false
 | .cel _,_=>false
def peqs:List W->List W->Bool
 | [],ys=>match ys with|[]=>true|_=>false
 | x::xs,ys=>match ys with|y::ys=>peq x y&&peqs xs ys|[]=>false
end
def cln:Nat->W->Bool
 | _,.non=>true
 | _,.bl _=>true
 | _,.int _=>true
 | _,.str _=>true
 | _,.ty _=>false
 | _,.cel _=>false
 | 0,.lst _=>false
 | 0,.tup _=>false
 | n+1,.lst xs=>xs.all (cln n)
 | n+1,.tup xs=>xs.all (cln n)
theorem zih{F:Hp}{a:Addr}{vs us:List V}(h:Rd F a (.lst vs))(h':Rd F a (.lst us)):vs=us:=by
 rcases h with h|⟨o,h⟩<;>rcases h' with h'|⟨o',h'⟩<;>(first|(rw[h] at h';cases h';rfl)|(rw[h] at h';cases h'))
theorem zii{F:Hp}{a:Addr}{vs us:List V}(h:Rd F a (.tup vs))(h':Rd F a (.tup us)):vs=us:=by
 rcases h with h|⟨o,h⟩<;>rcases h' with h'|⟨o',h'⟩<;>(first|(rw[h] at h';cases h';rfl)|(rw[h] at h';cases h'))
theorem zhx{F:Hp}{a:Addr}{vs us:List V}(h:Rd F a (.lst vs))(h':Rd F a (.tup us)):False:=by
 rcases h with h|⟨o,h⟩<;>rcases h' with h'|⟨o',h'⟩<;>(rw[h] at h';cases h')
theorem zji{F:Hp}{as:List Addr}:∀(n:Nat) {w w':W} {v:V},cln n w=true->cln n w'=true->Rep F as w v->Rep F as w' v->w=w':=by
 intro n
 induction n with
 | zero =>
  intro w w' v c c' r r'
  cases w<;>cases w'<;>simp only[cln,reduceCtorEq] at c c'<;>simp only[Rep] at r r'<;>(subst r;cases r')<;>rfl
 | succ n ih =>
  have its:∀{ws ws':List W} {vs:List V},ws.all (cln n)=true->ws'.all (cln n)=true->Reps F as ws vs->Reps F as ws' vs->ws=ws':=by
   intro ws
   induction ws with
   | nil =>
    intro ws' vs _ _ r r'
    simp only[Reps] at r
    subst r
    cases ws' with
    | nil=>rfl
    | cons y ys=>simp only[Reps] at r';obtain⟨v,r,e,_⟩:=r';cases e
   | cons x xs ihx =>
    intro ws' vs c c' r r'
    simp only[Reps] at r
    obtain⟨v,vs',rfl,h1,h2⟩:=r
    cases ws' with
    | nil=>simp only[Reps] at r';cases r'
    | cons y ys =>
     simp only[Reps] at r'
     obtain⟨v',r',e,h3,h4⟩:=r'
     cases e
     simp only[List.all_cons,Bool.and_eq_true] at c c'
     rw[ih c.1 c'.1 h1 h3,ihx c.2 c'.2 h2 h4]
  intro w w' v c c' r r'
  cases w<;>cases w'<;>simp only[cln,reduceCtorEq] at c c'<;>simp only[Rep] at r r'<;>first
   | (subst r;cases r';rfl)
   | (subst r;cases r';done)
   | (subst r;obtain⟨_,_,e,_⟩:=r';cases e)
   | (subst r';obtain⟨_,_,e,_⟩:=r;cases e)
   | (obtain⟨a,vs,rfl,q,s⟩:=r
      obtain⟨b,us,e,q',s'⟩:=r'
      cases e
      first
       | exact(zhx q (.inl q')).elim
       | exact(zhx q' (.inl q)).elim
       | (cases zih q q';rw[its c c' s s'])
       | (cases zii (.inl q) (.inl q');rw[its c c' s s']))
theorem zhy:∀(n:Nat) {w:W},cln n w=true->peq w w=true:=by
 intro n
 induction n with
 | zero=>intro w c;cases w<;>simp_all[cln,peq]
 | succ n ih =>
  have its:∀{ws:List W},ws.all (cln n)=true->peqs ws ws=true:=by
   intro ws
   induction ws with
   | nil=>intro _;simp[peqs]
   | cons x xs ihx =>
    intro c
    simp only[List.all_cons,Bool.and_eq_true] at c
    simp only[peqs,ih c.1,ihx c.2,Bool.and_self]
  intro w c
  cases w<;>simp only[cln,reduceCtorEq] at c<;>first|(simp only[peq];exact its c)|simp[peq]
theorem zfa:∀(xs ys:List W),xs.length=ys.length->peqs xs ys=(List.range xs.length).all fun j=>match xs[j]?,ys[j]? with|some a,some b=>peq a b|_,_=>false
 | [],[],_=>by simp[peqs]
 | x::xs,y::ys,h=>by
  have e:xs.length=ys.length:=by simpa using h
  simp only[peqs]
  rw[zfa xs ys e,List.length_cons,List.range_succ_eq_map,List.all_cons,List.all_map]
  rfl
 | [],_::_,h=>by simp at h
 | _::_,[],h=>by simp at h
theorem zhz:∀{xs ys:List W},peqs xs ys=true->xs.length=ys.length
 | [],[],_=>rfl
 | x::xs,y::ys,h=>by
  simp only[peqs,Bool.and_eq_true] at h
  simp only[List.length_cons,zhz h.2]
 | [],_::_,h=>by simp[peqs] at h
 | _::_,[],h=>by simp[peqs] at h
theorem zjj{xs ys:List W}(h:xs.length≠ys.length):peqs xs ys=false:=by
 cases e:peqs xs ys with
 | false=>rfl
 | true=>exact absurd (zhz e) h
section
variable {X:Cx} {pins:List (Addr×Obj)} {σ:VS.St} {H F:Hp} {as:List Addr} {s:Shared}
theorem zjk{A:Around}{ws zs:List W}{vs us:List V}{ps qs:List Value}(it:∀{w z:W} {v u:V} {p q:Value},w∈ws->z∈zs->Rep F as w v->Rep F as z u->L2.RelV v p->L2.RelV u q->SeqAt.EqAt A s p q (peq w z))(h1:Reps F as ws vs)(h2:Reps F as zs us)(r1:Vals vs ps)(r2:Vals us qs) :
  ∀j (k1:j<ps.toArray.size) (k2:j<qs.toArray.size),SeqAt.EqAt A s ps.toArray[j] qs.toArray[j] (match ws[j]?,zs[j]? with|some a,some b=>peq a b|_,_=>false):=by
 intro j k1 k2
 have k1':j<ps.length:=by simpa using k1
 have k2':j<qs.length:=by simpa using k2
 have l1:=r1.length
 have l2:=r2.length
 have e1:vs[j]?=some (vs[j]'(by omega)):=by simp
 have e2:us[j]?=some (us[j]'(by omega)):=by simp
 obtain⟨u,hu1,ru⟩:=r1.get e1
 obtain⟨z,hz1,rz⟩:=r2.get e2
 obtain⟨a,ha,ra⟩:=h1.get' e1
 obtain⟨b,hb,rb⟩:=h2.get' e2
 have eu:ps.toArray[j]=u:=by
  have:ps[j]?=some ps[j]:=by simp
  rw[hu1] at this
  simpa using (Option.some.inj this).symm
 have ez:qs.toArray[j]=z:=by
  have:qs[j]?=some qs[j]:=by simp
  rw[hz1] at this
  simpa using (Option.some.inj this).symm
 rw[eu,ez,ha,hb]
 exact it (List.mem_of_getElem? ha) (List.mem_of_getElem? hb) ra rb ru rz
theorem zkP{A:Around}{ws zs:List W}{vs us:List V}{a b:Addr}(I:Inv X pins σ H s)(hu:A.units<cLine)(ha:SqL X.K H a vs)(hb:SqL X.K H b us)(h1:Reps F as ws vs)(h2:Reps F as zs us)(it:∀{w z:W} {v u:V} {p q:Value},w∈ws->z∈zs->Rep F as w v->Rep F as z u->L2.RelV v p->L2.RelV u q->SeqAt.EqAt A.in1 s p q (peq w z)) :
  SeqAt.RcAt A s (.ref a) (.ref b) (peqs ws zs)/\SeqAt.RcNeAt A s (.ref a) (.ref b) (!peqs ws zs):=by
 obtain⟨ps,r1,p1,z1⟩:=I.list ha
 obtain⟨qs,r2,p2,z2⟩:=I.list hb
 have l1:=r1.length
 have l2:=r2.length
 have l3:=h1.length
 have l4:=h2.length
 by_cases hl:ws.length=zs.length
 ·have hsz:ps.toArray.size=qs.toArray.size:=by rw[List.size_toArray,List.size_toArray];omega
  have ia:=zjk (A:=A.in1) it h1 h2 r1 r2
  have a1:=SeqAt.RcAt.lists p1.isList p2.isList hsz hu ia
  have a2:=SeqAt.RcNeAt.lists p1.isList p2.isList hsz hu ia
  rw[List.size_toArray,show ps.length=ws.length by omega,<- zfa ws zs hl] at a1 a2
  exact⟨a1,a2⟩
 ·have hne:(ps.toArray.size != qs.toArray.size)=true:=by
   rw[List.size_toArray,List.size_toArray]
   simp
   omega
  rw[zjj hl]
  exact⟨SeqAt.RcAt.lists_lengths p1.isList p2.isList hne hu,SeqAt.RcNeAt.lists_lengths p1.isList p2.isList hne hu⟩
theorem zna{A:Around}{ws zs:List W}{vs us:List V}{a b:Addr}(I:Inv X pins σ H s)(hu:A.units<cLine)(ha:SqT X.K H a vs)(hb:SqT X.K H b us)(h1:Reps F as ws vs)(h2:Reps F as zs us)(it:∀{w z:W} {v u:V} {p q:Value},w∈ws->z∈zs->Rep F as w v->Rep F as z u->L2.RelV v p->L2.RelV u q->SeqAt.EqAt A.in1 s p q (peq w z)) :
  SeqAt.RcAt A s (.ref a) (.ref b) (peqs ws zs)/\SeqAt.RcNeAt A s (.ref a) (.ref b) (!peqs ws zs):=by
 obtain⟨ps,r1,p1,z1⟩:=I.tuple ha
 obtain⟨qs,r2,p2,z2⟩:=I.tuple hb
 have l1:=r1.length
 have l2:=r2.length
 have l3:=h1.length
 have l4:=h2.length
 have ia:=zjk (A:=A.in1) it h1 h2 r1 r2
 have e:((List.range (min ps.toArray.size qs.toArray.size)).all (fun j=>match ws[j]?,zs[j]? with|some a,some b=>peq a b|_,_=>false)&&ps.toArray.size==qs.toArray.size)=peqs ws zs:=by
  rw[List.size_toArray,List.size_toArray]
  by_cases hl:ws.length=zs.length
  ·have h1:ps.length=ws.length:=by omega
   have h2:qs.length=ws.length:=by omega
   rw[h1,h2,Nat.min_self,zfa ws zs hl]
   simp
  ·have e1:(ps.length==qs.length)=false:=by simp;omega
   rw[e1,Bool.and_false,zjj hl]
 have a1:=SeqAt.RcAt.tuples p1 p2 hu ia
 have a2:=SeqAt.RcNeAt.tuples p1 p2 hu ia
 rw[e] at a1 a2
 exact⟨a1,a2⟩
inductive Sh (F:Hp) (as:List Addr):W->V->Value->Prop where
 | non:Sh F as .non .non .none
 | bl (b:Bool):Sh F as (.bl b) (.bl b) (.bool b)
 | int (i:Int) (t:Tok):Sh F as (.int i) (.int i) (.int i t)
 | str (x:Str) (t:Tok):Sh F as (.str x) (.str x) (.str x t)
 | lst {xs:List W} {a:Addr} {vs:List V} (h:Rd F a (.lst vs)) (r:Reps F as xs vs):Sh F as (.lst xs) (.ref a) (.ref a)
 | tup {xs:List W} {a:Addr} {vs:List V} (h:Rd F a (.tup vs)) (r:Reps F as xs vs):Sh F as (.tup xs) (.ref a) (.ref a)
theorem zkQ{n:Nat}{w:W}{v:V}{p:Value}(c:cln n w=true)(r:Rep F as w v)(rv:L2.RelV v p):Sh F as w v p:=by
 cases w with
 | non=>simp only[Rep] at r;subst r;cases rv;exact .non
 | bl b=>simp only[Rep] at r;subst r;cases rv;exact .bl b
 | int i=>simp only[Rep] at r;subst r;obtain⟨t,rfl⟩:=rv;exact .int i t
 | str i=>simp only[Rep] at r;subst r;obtain⟨t,rfl⟩:=rv;exact .str i t
 | ty i=>cases n<;>simp only[cln,reduceCtorEq] at c
 | cel i=>cases n<;>simp only[cln,reduceCtorEq] at c
 | lst xs=>simp only[Rep] at r;obtain⟨a,vs,rfl,h,q⟩:=r;cases rv;exact .lst h q
 | tup xs=>simp only[Rep] at r;obtain⟨a,vs,rfl,h,q⟩:=r;cases rv;exact .tup (.inl h) q
set_option maxHeartbeats 0 in
theorem zrb(hs:∀a o,F a=some o->H a=some o)(I:Inv X pins σ H s):∀(n:Nat) {A:Around} {w z:W} {v u:V} {p q:Value},A.units+n<cLine->cln n w=true->cln n z=true->Rep F as w v->Rep F as z u->L2.RelV v p->L2.RelV u q ->
  SeqAt.RcAt A s p q (peq w z)/\SeqAt.RcNeAt A s p q (!peq w z)/\SeqAt.EqAt A s p q (peq w z):=by
 have sub:∀{a:Addr} {o:HO},Rd F a o->Rd H a o:=fun {a o} r=>by
  rcases r with r|⟨u,r⟩
  ·exact .inl (hs _ _ r)
  ·exact .inr ⟨u,hs _ _ r⟩
 have isL:∀{a:Addr} {vs:List V},Rd F a (.lst vs)->∃its,s.heap.IsList a its:=fun {a vs} h=>by
  obtain⟨its,_,p,_⟩:=I.list (.inl (sub h))
  exact⟨_,p.isList⟩
 have isT:∀{a:Addr} {vs:List V},Rd F a (.tup vs)->∃its,s.heap.IsTuple a its:=fun {a vs} h=>by
  obtain⟨its,_,p,_⟩:=I.tuple (.inl (sub h))
  exact⟨_,p⟩
 intro n
 induction n with
 | zero =>
  intro A w z v u p q hu c c' r r' rv ru
  have sh:=zkQ c r rv
  have sh':=zkQ c' r' ru
  cases sh with
  | non =>
   cases sh' with
   | non =>
    simp only[peq]
    exact⟨SeqAt.RcAt.none_none ,SeqAt.RcNeAt.none_none ,SeqAt.EqAt.same _⟩
   | bl b2 =>
    simp only[peq]
    exact⟨SeqAt.RcAt.none_bool _,SeqAt.RcNeAt.none_bool _,SeqAt.EqAt.none_bool _⟩
   | int i2 t2 =>
    simp only[peq]
    exact⟨SeqAt.RcAt.none_int _ _,SeqAt.RcNeAt.none_int _ _,SeqAt.EqAt.none_int _ _⟩
   | str x2 t2 =>
    simp only[peq]
    exact⟨SeqAt.RcAt.none_str _ _,SeqAt.RcNeAt.none_str _ _,SeqAt.EqAt.none_str _ _⟩
   | lst q2 s2 =>
    simp only[cln,reduceCtorEq] at c'
   | tup q2 s2 =>
    simp only[cln,reduceCtorEq] at c'
  | bl b =>
   cases sh' with
   | non =>
    simp only[peq]
    exact⟨SeqAt.RcAt.bool_none _,SeqAt.RcNeAt.bool_none _,SeqAt.EqAt.bool_none _⟩
   | bl b2 =>
    simp only[peq]
    exact⟨SeqAt.RcAt.bool_bool _ _,SeqAt.RcNeAt.bool_bool _ _,SeqAt.EqAt.bool_bool _ _⟩
   | int i2 t2 =>
    simp only[peq]
    exact⟨SeqAt.RcAt.bool_int _ _ _,SeqAt.RcNeAt.bool_int _ _ _,SeqAt.EqAt.bool_int _ _ _⟩
   | str x2 t2 =>
    simp only[peq]
    exact⟨SeqAt.RcAt.bool_str _ _ _,SeqAt.RcNeAt.bool_str _ _ _,SeqAt.EqAt.bool_str _ _ _⟩
   | lst q2 s2 =>
    simp only[cln,reduceCtorEq] at c'
   | tup q2 s2 =>
    simp only[cln,reduceCtorEq] at c'
  | int i t =>
   cases sh' with
   | non =>
    simp only[peq]
    exact⟨SeqAt.RcAt.int_none _ _,SeqAt.RcNeAt.int_none _ _,SeqAt.EqAt.int_none _ _⟩
   | bl b2 =>
    simp only[peq]
    exact⟨SeqAt.RcAt.int_bool _ _ _,SeqAt.RcNeAt.int_bool _ _ _,SeqAt.EqAt.int_bool _ _ _⟩
   | int i2 t2 =>
    simp only[peq]
    exact⟨SeqAt.RcAt.int_int _ _ _ _,SeqAt.RcNeAt.int_int _ _ _ _,SeqAt.EqAt.int_int _ _ _ _⟩
   | str x2 t2 =>
    simp only[peq]
    exact⟨SeqAt.RcAt.int_str _ _ _ _,SeqAt.RcNeAt.int_str _ _ _ _,SeqAt.EqAt.int_str _ _ _ _⟩
   | lst q2 s2 =>
    simp only[cln,reduceCtorEq] at c'
   | tup q2 s2 =>
    simp only[cln,reduceCtorEq] at c'
  | str x t =>
   cases sh' with
   | non =>
    simp only[peq]
    exact⟨SeqAt.RcAt.str_none _ _,SeqAt.RcNeAt.str_none _ _,SeqAt.EqAt.str_none _ _⟩
   | bl b2 =>
    simp only[peq]
    exact⟨SeqAt.RcAt.str_bool _ _ _,SeqAt.RcNeAt.str_bool _ _ _,SeqAt.EqAt.str_bool _ _ _⟩
   | int i2 t2 =>
    simp only[peq]
    exact⟨SeqAt.RcAt.str_int _ _ _ _,SeqAt.RcNeAt.str_int _ _ _ _,SeqAt.EqAt.str_int _ _ _ _⟩
   | str x2 t2 =>
    simp only[peq]
    exact⟨SeqAt.RcAt.str_str _ _ _ _,SeqAt.RcNeAt.str_str _ _ _ _,SeqAt.EqAt.str_str _ _ _ _⟩
   | lst q2 s2 =>
    simp only[cln,reduceCtorEq] at c'
   | tup q2 s2 =>
    simp only[cln,reduceCtorEq] at c'
  | lst q1 s1 =>
   simp only[cln,reduceCtorEq] at c
  | tup q1 s1 =>
   simp only[cln,reduceCtorEq] at c
 | succ n ih =>
  intro A w z v u p q hu c c' r r' rv ru
  have hu0:A.units<cLine:=by omega
  have hu1:A.in1.units+n<cLine:=by show A.units+1+n<cLine;omega
  have ref:∀{a b:Addr},v=.ref a->u=.ref b->(SeqAt.RcAt A s (.ref a) (.ref b) (peq w z)/\SeqAt.RcNeAt A s (.ref a) (.ref b) (!peq w z))->SeqAt.RcAt A s (.ref a) (.ref b) (peq w z)/\SeqAt.RcNeAt A s (.ref a) (.ref b) (!peq w z)/\SeqAt.EqAt A s (.ref a) (.ref b) (peq w z):=by
   intro a b e1 e2 ⟨h1,h2⟩
   subst e1 e2
   refine⟨h1,h2,?_⟩
   by_cases e:a=b
   ·subst e
    rw[zji (n+1) c c' r r',zhy (n+1) c']
    exact SeqAt.EqAt.same _
   ·exact SeqAt.EqAt.of_refs e h1
  have sh:=zkQ c r rv
  have sh':=zkQ c' r' ru
  cases sh with
  | non =>
   cases sh' with
   | non =>
    simp only[peq]
    exact⟨SeqAt.RcAt.none_none ,SeqAt.RcNeAt.none_none ,SeqAt.EqAt.same _⟩
   | bl b2 =>
    simp only[peq]
    exact⟨SeqAt.RcAt.none_bool _,SeqAt.RcNeAt.none_bool _,SeqAt.EqAt.none_bool _⟩
   | int i2 t2 =>
    simp only[peq]
    exact⟨SeqAt.RcAt.none_int _ _,SeqAt.RcNeAt.none_int _ _,SeqAt.EqAt.none_int _ _⟩
   | str x2 t2 =>
    simp only[peq]
    exact⟨SeqAt.RcAt.none_str _ _,SeqAt.RcNeAt.none_str _ _,SeqAt.EqAt.none_str _ _⟩
   | lst q2 s2 =>
    obtain⟨_,p1⟩:=isL q2
    simp only[peq]
    exact⟨SeqAt.RcAt.none_list p1 hu0,SeqAt.RcNeAt.none_list p1 hu0,SeqAt.EqAt.none_list p1 hu0⟩
   | tup q2 s2 =>
    obtain⟨_,p1⟩:=isT q2
    simp only[peq]
    exact⟨SeqAt.RcAt.none_tuple p1 hu0,SeqAt.RcNeAt.none_tuple p1 hu0,SeqAt.EqAt.none_tuple p1 hu0⟩
  | bl b =>
   cases sh' with
   | non =>
    simp only[peq]
    exact⟨SeqAt.RcAt.bool_none _,SeqAt.RcNeAt.bool_none _,SeqAt.EqAt.bool_none _⟩
   | bl b2 =>
    simp only[peq]
    exact⟨SeqAt.RcAt.bool_bool _ _,SeqAt.RcNeAt.bool_bool _ _,SeqAt.EqAt.bool_bool _ _⟩
   | int i2 t2 =>
    simp only[peq]
    exact⟨SeqAt.RcAt.bool_int _ _ _,SeqAt.RcNeAt.bool_int _ _ _,SeqAt.EqAt.bool_int _ _ _⟩
   | str x2 t2 =>
    simp only[peq]
    exact⟨SeqAt.RcAt.bool_str _ _ _,SeqAt.RcNeAt.bool_str _ _ _,SeqAt.EqAt.bool_str _ _ _⟩
   | lst q2 s2 =>
    obtain⟨_,p1⟩:=isL q2
    simp only[peq]
    exact⟨SeqAt.RcAt.bool_list _ p1 hu0,SeqAt.RcNeAt.bool_list _ p1 hu0,SeqAt.EqAt.bool_list _ p1 hu0⟩
   | tup q2 s2 =>
    obtain⟨_,p1⟩:=isT q2
    simp only[peq]
    exact⟨SeqAt.RcAt.bool_tuple _ p1 hu0,SeqAt.RcNeAt.bool_tuple _ p1 hu0,SeqAt.EqAt.bool_tuple _ p1 hu0⟩
  | int i t =>
   cases sh' with
   | non =>
    simp only[peq]
    exact⟨SeqAt.RcAt.int_none _ _,SeqAt.RcNeAt.int_none _ _,SeqAt.EqAt.int_none _ _⟩
   | bl b2 =>
    simp only[peq]
    exact⟨SeqAt.RcAt.int_bool _ _ _,SeqAt.RcNeAt.int_bool _ _ _,SeqAt.EqAt.int_bool _ _ _⟩
   | int i2 t2 =>
    simp only[peq]
    exact⟨SeqAt.RcAt.int_int _ _ _ _,SeqAt.RcNeAt.int_int _ _ _ _,SeqAt.EqAt.int_int _ _ _ _⟩
   | str x2 t2 =>
    simp only[peq]
    exact⟨SeqAt.RcAt.int_str _ _ _ _,SeqAt.RcNeAt.int_str _ _ _ _,SeqAt.EqAt.int_str _ _ _ _⟩
   | lst q2 s2 =>
    obtain⟨_,p1⟩:=isL q2
    simp only[peq]
    exact⟨SeqAt.RcAt.int_list _ _ p1 hu0,SeqAt.RcNeAt.int_list _ _ p1 hu0,SeqAt.EqAt.int_list _ _ p1 hu0⟩
   | tup q2 s2 =>
    obtain⟨_,p1⟩:=isT q2
    simp only[peq]
    exact⟨SeqAt.RcAt.int_tuple _ _ p1 hu0,SeqAt.RcNeAt.int_tuple _ _ p1 hu0,SeqAt.EqAt.int_tuple _ _ p1 hu0⟩
  | str x t =>
   cases sh' with
   | non =>
    simp only[peq]
    exact⟨SeqAt.RcAt.str_none _ _,SeqAt.RcNeAt.str_none _ _,SeqAt.EqAt.str_none _ _⟩
   | bl b2 =>
    simp only[peq]
    exact⟨SeqAt.RcAt.str_bool _ _ _,SeqAt.RcNeAt.str_bool _ _ _,SeqAt.EqAt.str_bool _ _ _⟩
   | int i2 t2 =>
    simp only[peq]
    exact⟨SeqAt.RcAt.str_int _ _ _ _,SeqAt.RcNeAt.str_int _ _ _ _,SeqAt.EqAt.str_int _ _ _ _⟩
   | str x2 t2 =>
    simp only[peq]
    exact⟨SeqAt.RcAt.str_str _ _ _ _,SeqAt.RcNeAt.str_str _ _ _ _,SeqAt.EqAt.str_str _ _ _ _⟩
   | lst q2 s2 =>
    obtain⟨_,p1⟩:=isL q2
    simp only[peq]
    exact⟨SeqAt.RcAt.str_list _ _ p1 hu0,SeqAt.RcNeAt.str_list _ _ p1 hu0,SeqAt.EqAt.str_list _ _ p1 hu0⟩
   | tup q2 s2 =>
    obtain⟨_,p1⟩:=isT q2
    simp only[peq]
    exact⟨SeqAt.RcAt.str_tuple _ _ p1 hu0,SeqAt.RcNeAt.str_tuple _ _ p1 hu0,SeqAt.EqAt.str_tuple _ _ p1 hu0⟩
  | lst q1 s1 =>
   cases sh' with
   | non =>
    obtain⟨_,p1⟩:=isL q1
    simp only[peq]
    exact⟨SeqAt.RcAt.list_none p1 hu0,SeqAt.RcNeAt.list_none p1 hu0,SeqAt.EqAt.list_none p1 hu0⟩
   | bl b2 =>
    obtain⟨_,p1⟩:=isL q1
    simp only[peq]
    exact⟨SeqAt.RcAt.list_bool _ p1 hu0,SeqAt.RcNeAt.list_bool _ p1 hu0,SeqAt.EqAt.list_bool _ p1 hu0⟩
   | int i2 t2 =>
    obtain⟨_,p1⟩:=isL q1
    simp only[peq]
    exact⟨SeqAt.RcAt.list_int _ _ p1 hu0,SeqAt.RcNeAt.list_int _ _ p1 hu0,SeqAt.EqAt.list_int _ _ p1 hu0⟩
   | str x2 t2 =>
    obtain⟨_,p1⟩:=isL q1
    simp only[peq]
    exact⟨SeqAt.RcAt.list_str _ _ p1 hu0,SeqAt.RcNeAt.list_str _ _ p1 hu0,SeqAt.EqAt.list_str _ _ p1 hu0⟩
   | lst q2 s2 =>
    refine ref rfl rfl ?_
    simp only[peq]
    simp only[cln] at c c'
    exact zkP I hu0 (.inl (sub q1)) (.inl (sub q2)) s1 s2 fun {w z v u p q} m m' r r' rv ru=>(ih hu1 (List.all_eq_true.mp c _ m) (List.all_eq_true.mp c' _ m') r r' rv ru).2.2
   | tup q2 s2 =>
    refine ref rfl rfl ?_
    simp only[peq]
    obtain⟨_,p1⟩:=isL q1
    obtain⟨_,p2⟩:=isT q2
    exact⟨SeqAt.RcAt.list_tuple p1 p2 hu0,SeqAt.RcNeAt.list_tuple p1 p2 hu0⟩
  | tup q1 s1 =>
   cases sh' with
   | non =>
    obtain⟨_,p1⟩:=isT q1
    simp only[peq]
    exact⟨SeqAt.RcAt.tuple_none p1 hu0,SeqAt.RcNeAt.tuple_none p1 hu0,SeqAt.EqAt.tuple_none p1 hu0⟩
   | bl b2 =>
    obtain⟨_,p1⟩:=isT q1
    simp only[peq]
    exact⟨SeqAt.RcAt.tuple_bool _ p1 hu0,SeqAt.RcNeAt.tuple_bool _ p1 hu0,SeqAt.EqAt.tuple_bool _ p1 hu0⟩
   | int i2 t2 =>
    obtain⟨_,p1⟩:=isT q1
    simp only[peq]
    exact⟨SeqAt.RcAt.tuple_int _ _ p1 hu0,SeqAt.RcNeAt.tuple_int _ _ p1 hu0,SeqAt.EqAt.tuple_int _ _ p1 hu0⟩
   | str x2 t2 =>
    obtain⟨_,p1⟩:=isT q1
    simp only[peq]
    exact⟨SeqAt.RcAt.tuple_str _ _ p1 hu0,SeqAt.RcNeAt.tuple_str _ _ p1 hu0,SeqAt.EqAt.tuple_str _ _ p1 hu0⟩
   | lst q2 s2 =>
    refine ref rfl rfl ?_
    simp only[peq]
    obtain⟨_,p1⟩:=isT q1
    obtain⟨_,p2⟩:=isL q2
    exact⟨SeqAt.RcAt.tuple_list p1 p2 hu0,SeqAt.RcNeAt.tuple_list p1 p2 hu0⟩
   | tup q2 s2 =>
    refine ref rfl rfl ?_
    simp only[peq]
    simp only[cln] at c c'
    exact zna I hu0 (.inl (sub q1)) (.inl (sub q2)) s1 s2 fun {w z v u p q} m m' r r' rv ru=>(ih hu1 (List.all_eq_true.mp c _ m) (List.all_eq_true.mp c' _ m') r r' rv ru).2.2
end
end VS
namespace VS
open PySem PySem.Spec PyProof.Rows L2
def drf(ce:Ce):W->W
 | .cel k=>match ce[k]? with
  | some (.lst xs)=>.lst xs
  | _=>.cel k
 | w=>w
def zcQ(ce:Ce):W->Option (List W)
 | .lst xs=>some xs
 | .cel k=>match ce[k]? with
  | some (.lst xs)=>some xs
  | _=>none
 | _=>none
def zeN(ce:Ce):W->Option (List W)
 | .tup xs=>some xs
 | w=>zcQ ce w
def zoa(ce:Ce):W->Option (List (Key×W))
 | .cel k=>match ce[k]? with
  | some (.dct xs)=>some xs
  | _=>none
 | _=>none
def zkj(ce:Ce):W->Option (List (Key×W))
 | .cel k=>match ce[k]? with
  | some (.dct xs)=>some xs
  | some (.fzd xs)=>some xs
  | _=>none
 | _=>none
def ziI:W->Option Key
 | .int i=>some (.inl i)
 | .str x=>some (.inr x)
 | _=>none
section
variable {G:Ga} {F:Hp} {as:List Addr} {H:Hp} {ce:Ce} {w:W} {v:V}
theorem Store.toH(S:Store G F as H ce):Le F as H as:=⟨S.sub,fun _ _ h=>h⟩
theorem zgS(S:Store G F as H ce)(r:Rep F as w v):Rep H as (drf ce w) v:=by
 cases w with
 | cel k =>
  simp only[drf]
  split
  ·rename_i xs hc
   simp only[Rep] at r ⊢
   obtain⟨a,rfl,h⟩:=r
   obtain⟨_,vs,h2,rs⟩:=S.cell _ _ _ h hc
   exact⟨a,vs,rfl,.inl h2,rs.le S.toH⟩
  ·exact r.le S.toH
 | _=>exact r.le S.toH
theorem zb4{xs:List W}(S:Store G F as H ce)(r:Rep F as w v)(e:zcQ ce w=some xs):∃a vs,v=.ref a/\Rd H a (.lst vs)/\Reps F as xs vs:=by
 cases w<;>simp only[zcQ,reduceCtorEq,Option.some.injEq] at e
 ·subst e
  simp only[Rep] at r
  obtain⟨a,vs,rfl,h,q⟩:=r
  exact⟨a,vs,rfl,Rd.sub S h,q⟩
 ·split at e
  ·rename_i xs' hc
   cases e
   simp only[Rep] at r
   obtain⟨a,rfl,h⟩:=r
   obtain⟨_,vs,h2,rs⟩:=S.cell _ _ _ h hc
   exact⟨a,vs,rfl,.inl h2,rs⟩
  ·cases e
theorem zfb{xs:List W}(S:Store G F as H ce)(r:Rep F as w v)(e:zeN ce w=some xs):∃a vs,v=.ref a/\(Rd H a (.lst vs)\/Rd H a (.tup vs))/\Reps F as xs vs:=by
 cases w with
 | tup ys =>
  simp only[zeN,Option.some.injEq] at e
  subst e
  simp only[Rep] at r
  obtain⟨a,vs,rfl,h,q⟩:=r
  exact⟨a,vs,rfl,.inr (.inl (S.sub _ _ h)),q⟩
 | _ =>
  obtain⟨a,vs,h1,h2,h3⟩:=zb4 S r e
  exact⟨a,vs,h1,.inl h2,h3⟩
theorem zjl{xs:List (Key×W)}(S:Store G F as H ce)(r:Rep F as w v)(e:zoa ce w=some xs):∃k a ps,w=.cel k/\v=.ref a/\as[k]?=some a/\H a=some (.dK ps)/\RepKV F as xs ps:=by
 cases w<;>simp only[zoa,reduceCtorEq] at e
 split at e
 ·rename_i k xs' hc
  cases e
  simp only[Rep] at r
  obtain⟨a,rfl,h⟩:=r
  obtain⟨_,ps,h2,rs⟩:=S.cell _ _ _ h hc
  exact⟨_,a,ps,rfl,rfl,h,h2,rs⟩
 ·cases e
theorem zhA{xs:List (Key×W)}(S:Store G F as H ce)(r:Rep F as w v)(e:zkj ce w=some xs):∃k a ps,w=.cel k/\v=.ref a/\as[k]?=some a/\Rd H a (.dK ps)/\RepKV F as xs ps:=by
 cases w<;>simp only[zkj,reduceCtorEq] at e
 split at e
 ·rename_i k xs' hc
  cases e
  simp only[Rep] at r
  obtain⟨a,rfl,h⟩:=r
  obtain⟨_,ps,h2,rs⟩:=S.cell _ _ _ h hc
  exact⟨_,a,ps,rfl,rfl,h,.inl h2,rs⟩
 ·rename_i k xs' hc
  cases e
  simp only[Rep] at r
  obtain⟨a,rfl,h⟩:=r
  obtain⟨_,o,ps,_,h2,rs⟩:=S.cell _ _ _ h hc
  exact⟨_,a,ps,rfl,rfl,h,.inr ⟨o,h2⟩,rs⟩
 ·cases e
theorem zgT{k:Key}(r:Rep F as w v)(e:ziI w=some k):v=kV k:=by
 cases w<;>simp only[ziI,reduceCtorEq,Option.some.injEq] at e<;>subst e<;>simp only[Rep] at r<;>exact r
end
def zqm(ng:Bool):R2:=fun x y H Q=>∃as w z,Rep H as w x/\Rep H as z y/\cln 8 w=true/\cln 8 z=true/\Q (.bl (if ng then !peq w z else peq w z)) H
def zrY(K:PySem.W.Frag)(ng:Bool):R2:=fun x y H Q=>∃as w ys a vs,Rep H as w x/\y=.ref a/\(SqL K H a vs\/SqT K H a vs)/\Reps H as ys vs/\cln 8 w=true/\ys.all (cln 8)=true/\Q (.bl (if ng then !ys.any (peq · w) else ys.any (peq · w))) H
section
variable {X:Cx}
theorem zjm(hu:X.A.units+8<cLine):OpR X (compareOp .Eq) (zqm false):=by
 intro pins s σ H x y v u Q I rx ry ⟨as,w,z,r1,r2,c1,c2,q⟩
 exact(zrb (fun _ _ h=>h) I 8 hu c1 c2 r1 r2 rx ry).1 X.prog X.w X.xe _ ⟨.bl _,H,I,rfl,q⟩
theorem zl4(hu:X.A.units+8<cLine):OpR X (compareOp .NotEq) (zqm true):=by
 intro pins s σ H x y v u Q I rx ry ⟨as,w,z,r1,r2,c1,c2,q⟩
 exact(zrb (fun _ _ h=>h) I 8 hu c1 c2 r1 r2 rx ry).2.1 X.prog X.w X.xe _ ⟨.bl _,H,I,rfl,q⟩
open Classical in
theorem zdN{pins:List (Addr×Obj)}{σ:VS.St}{H:Hp}{s:Shared}{as:List Addr}{A:Around}{w:W}{x:V}{u:Value}{ys:List W}{vs:List V}{ps:List Value}(I:Inv X pins σ H s)(hu:A.units+8<cLine)(rw':Rep H as w x)(c:cln 8 w=true)(cs:ys.all (cln 8)=true)(ru:L2.RelV x u)(rs:Reps H as ys vs)(rp:Vals vs ps):∃e:Value->Bool,(∀y,y∈ps.toArray->SeqAt.EqAt A s y u (e y))/\ps.toArray.any e=ys.any (peq · w):=by
 have hl:=rs.length
 have hl2:=rp.length
 have key:∀{j:Nat} {p:Value},ps[j]?=some p->∃y v,ys[j]?=some y/\Rep H as y v/\L2.RelV v p/\cln 8 y=true:=fun {j p} hp=>by
  have hj:=zao hp
  have e1:vs[j]?=some (vs[j]'(by omega)):=by simp
  obtain⟨q,hq,rq⟩:=rp.get e1
  rw[hp] at hq
  cases hq
  obtain⟨y,hy,ry⟩:=rs.get' e1
  exact⟨y,_,hy,ry,rq,List.all_eq_true.mp cs _ (List.mem_of_getElem? hy)⟩
 have uniq:∀{j j':Nat} {p:Value} {y y':W},ps[j]?=some p->ps[j']?=some p->ys[j]?=some y->ys[j']?=some y'->y=y':=fun {j j' p y y'} h1 h2 h3 h4=>by
  obtain⟨z,v,hz,rz,rv,cz⟩:=key h1
  obtain⟨z',v',hz',rz',rv',cz'⟩:=key h2
  rw[h3] at hz;cases hz
  rw[h4] at hz';cases hz'
  cases rv.inj rv'
  exact zji 8 cz cz' rz rz'
 refine⟨fun p=>decide (∃(j:Nat) (y:W),ps[j]?=some p/\ys[j]?=some y/\peq y w=true),fun p hp=>?_,?_⟩
 ·have hp':p∈ps:=by simpa using hp
  obtain⟨j,hj⟩:=List.getElem?_of_mem hp'
  obtain⟨y,v,hy,ry,rv,cy⟩:=key hj
  have q:=(zrb (fun _ _ h=>h) I 8 hu cy c ry rw' rv ru).2.2
  have e:decide (∃(j:Nat) (y:W),ps[j]?=some p/\ys[j]?=some y/\peq y w=true)=peq y w:=by
   rw[Bool.eq_iff_iff,decide_eq_true_iff]
   constructor
   ·rintro⟨j',y',h1,h2,h3⟩
    rw[uniq hj h1 hy h2];exact h3
   ·intro h
    exact⟨j,y,hj,hy,h⟩
  show SeqAt.EqAt A s p u (decide (∃(j:Nat) (y:W),ps[j]?=some p/\ys[j]?=some y/\peq y w=true))
  rw[e];exact q
 ·rw[Bool.eq_iff_iff,Array.any_eq_true',List.any_eq_true]
  constructor
  ·rintro⟨p,_,hp⟩
   obtain⟨j,y,h1,h2,h3⟩:=of_decide_eq_true hp
   exact⟨y,List.mem_of_getElem? h2,h3⟩
  ·rintro⟨y,hy,h⟩
   obtain⟨j,hj⟩:=List.getElem?_of_mem hy
   have hlt:=zao hj
   have e1:ps[j]?=some (ps[j]'(by omega)):=by simp
   refine⟨ps[j]'(by omega),by simp,decide_eq_true ⟨j,y,e1,hj,h⟩⟩
theorem zjn{K:PySem.W.Frag}(hu:X.A.units+9<cLine)(hK:X.K=K:=by rfl):OpR X (compareOp .NotIn) (zrY K true):=by
 subst hK
 intro pins s σ H x y v u Q I rx ry ⟨as,w,ys,a,vs,r1,ey,sq,rs,c1,c2,q⟩
 subst ey
 cases ry
 rcases sq with sq|sq
 ·obtain⟨ps,rp,pl,_⟩:=I.list sq
  obtain⟨e,he,ea⟩:=zdN (A:=X.A.in1) I (by show X.A.units+1+8<cLine;omega) r1 c1 c2 rx rs rp
  exact SeqAt.notIn_listAt e pl.isList he ⟨.bl _,H,I,rfl,by rw[ea];exact q⟩
 ·obtain⟨ps,rp,pl,_⟩:=I.tuple sq
  obtain⟨e,he,ea⟩:=zdN (A:=X.A.in1) I (by show X.A.units+1+8<cLine;omega) r1 c1 c2 rx rs rp
  exact SeqAt.notIn_tupleAt e pl he ⟨.bl _,H,I,rfl,by rw[ea];exact q⟩
end
def eqW(ng:Bool)(ce:Ce)(x y:W):Option W:=if (cln 8 (drf ce x)&&cln 8 (drf ce y))=true then some (.bl (if ng then !peq (drf ce x) (drf ce y) else peq (drf ce x) (drf ce y))) else none
def inW(ng:Bool)(ce:Ce)(x y:W):Option W:=match zeN ce y with
 | some ys=>if (cln 8 (drf ce x)&&ys.all (cln 8))=true then some (.bl (if ng then !ys.any (peq · (drf ce x)) else ys.any (peq · (drf ce x)))) else none
 | none=>none
def zaR(f:Ce->W->W->Option W)(a b:Sl->M W):Sl->M W:=fun sl=>bnd (a sl) fun x=>bnd (b sl) fun y=>look fun ce=>f ce x y
section
variable {X:Cx} {G:Ga} {E:XK} {a b c:Expr} {da db dc:Sl->M W} {pos:Pos}
def OpC(r:R2)(f:Ce->W->W->Option W):Prop:=∀(G:Ga) F as H ce x y wx wy w,Store G F as H ce->Rep F as wx x->Rep F as wy y->f ce wx wy=some w->∀Q:VK,(∀v,Rep F as w v->Q v H)->r x y H Q
theorem zbB{r:R2}{f:Ce->W->W->Option W}(hf:OpC r f)(σ:L2.St)(H:Hp)(Q:VK)(h:zam G E (zaR f da db) σ H Q):tOp r (zam G E da) (zam G E db) σ H Q:=by
 refine zgb h fun F as sl ce H2 x y wx wy S rx ry P=>?_
 obtain⟨w,e,P⟩:=za8 P
 exact hf G F as H2 ce x y wx wy w S.st rx ry e Q fun v r=>P.done S r
theorem zjo(ng:Bool):OpC (zqm ng) (eqW ng):=by
 intro G F as H ce x y wx wy w S rx ry e Q q
 unfold eqW at e
 split at e
 ·rename_i hc
  rw[Bool.and_eq_true] at hc
  cases e
  exact⟨as,_,_,zgS S rx,zgS S ry,hc.1,hc.2,q _ (by simp only[Rep])⟩
 ·cases e
theorem zo7(K:PySem.W.Frag)(ng:Bool):OpC (zrY K ng) (inW ng):=by
 intro G F as H ce x y wx wy w S rx ry e Q q
 unfold inW at e
 split at e
 ·rename_i ys hy
  split at e
  ·rename_i hc
   rw[Bool.and_eq_true] at hc
   cases e
   obtain⟨a,vs,rfl,h,rs⟩:=zfb S ry hy
   exact⟨as,_,ys,a,vs,zgS S rx,rfl,h.imp .inl .inl,rs.le S.toH,hc.1,hc.2,q _ (by simp only[Rep])⟩
  ·cases e
 ·cases e
theorem zrc(hu:X.A.units+8<cLine)(ha:PE X a (zam G E da))(hb:PE X b (zam G E db)):PE X (.Compare a [.Eq] [b] pos) (zam G E (zaR (eqW false) da db)):=PE.imp (zgM (zjm hu) ha hb (zcl _)) (zbB (zjo false))
theorem zkR(hu:X.A.units+8<cLine)(ha:PE X a (zam G E da))(hb:PE X b (zam G E db)):PT X (.Compare a [.Eq] [b] pos) (zcn G E (dB (zaR (eqW false) da db))):=ze9 (zjm hu) ha hb (zcl _) (zbB (zjo false))
theorem zo8(hu:X.A.units+8<cLine)(ha:PE X a (zam G E da))(hb:PE X b (zam G E db)):PT X (.Compare a [.NotEq] [b] pos) (zcn G E (dB (zaR (eqW true) da db))):=ze9 (zl4 hu) ha hb (zcl _) (zbB (zjo true))
theorem zkS(hu:X.A.units+9<cLine)(ha:PE X a (zam G E da))(hb:PE X b (zam G E db))(hm:behindInMarks .NotIn b=false):PT X (.Compare a [.NotIn] [b] pos) (zcn G E (dB (zaR (inW true) da db))):=ze9 (zjn hu rfl) ha hb hm (zbB (zo7 _ true))
theorem zdO{r:R2}{f:W->W->Option W}(hf:Sc2 r f):OpC r (fun _=>f):=by
 intro G F as H ce x y wx wy w S rx ry e Q q
 obtain⟨vx,vy,vw,e1,e2,e3,k⟩:=hf _ _ _ e
 rw[rx.sc e1,ry.sc e2]
 exact k _ _ (q _ (Rep.of_sc e3))
theorem znb(ha:PE X a (zam G E da))(hb:PE X b (zam G E db)):PT X (.Compare a [.Lt] [b] pos) (zcn G E (dB (dOp fLt da db))):=ze9 zqJ ha hb (zcl _) (zbB (zdO (zgc fun _ _=>rfl)))
theorem znc(ha:PE X a (zam G E da))(hb:PE X b (zam G E db)):PT X (.Compare a [.Gt] [b] pos) (zcn G E (dB (dOp fGt da db))):=ze9 zoN ha hb (zcl _) (zbB (zdO (zgc fun _ _=>rfl)))
theorem zrd(ha:PE X a (zam G E da))(hb:PE X b (zam G E db)):PT X (.Compare a [.GtE] [b] pos) (zcn G E (dB (dOp fGe da db))):=ze9 zqK ha hb (zcl _) (zbB (zdO (zgc fun _ _=>rfl)))
def zl5(a b:Sl->M W):Sl->M W:=fun sl=>bnd (a sl) fun x=>match x with
 | .bl true=>b sl
 | .bl false=>ret (.bl false)
 | _=>zga
def zo9(a:Sl->M W):Sl->M W:=fun sl=>bnd (a sl) fun x=>match x with
 | .bl b=>ret (.bl (!b))
 | _=>zga
def zdP(a b:Sl->M Bool):Sl->M Bool:=fun sl=>bnd (a sl) fun x=>match x with
 | true=>b sl
 | false=>ret false
def zkk(a b:Sl->M Bool):Sl->M Bool:=fun sl=>bnd (a sl) fun x=>match x with
 | true=>ret true
 | false=>b sl
def zdQ(a:Sl->M Bool):Sl->M Bool:=fun sl=>bnd (a sl) fun x=>ret (!x)
def zs6(c:Sl->M Bool)(a b:Sl->M W):Sl->M W:=fun sl=>bnd (c sl) fun x=>match x with
 | true=>a sl
 | false=>b sl
variable {zen:List Expr} {ta tb:Sl->M Bool}
theorem zjp{op}(h:PE X a (zam G E da)):PE X (.BoolOp op [a] pos) (zam G E da):=zov h
theorem zhB(ha:PE X a (zam G E da))(hb:PE X (.BoolOp .And (b::zen) pos) (zam G E db)):PE X (.BoolOp .And (a::b::zen) pos) (zam G E (zl5 da db)):=by
 refine PE.imp (zow ha hb) fun σ H Q zz_=>el6 zz_ fun F as sl ce S P=>(step S P).mono fun x H1 zz_=>el8 zz_ fun wx F1 as1 ce1 l1 S1 rx P1=>?_
 cases wx<;>first|exact(show False from P1).elim|skip
 rename_i k
 simp only[Rep] at rx
 subst rx
 cases k
 ·exact⟨false,rfl,by rw[if_neg Bool.false_ne_true];exact Post.done S1 (a:=W.bl false) P1 (by simp only[Rep])⟩
 ·exact⟨true,rfl,by rw[if_pos rfl];exact⟨F1,as1,sl,ce1,S1,P1⟩⟩
theorem zl6(ha:PE X a (zam G E da)):PE X (.UnaryOp .Not a pos) (zam G E (zo9 da)):=by
 refine PE.imp (zox ha) fun σ H Q zz_=>el6 zz_ fun F as sl ce S P=>(step S P).mono fun x H1 zz_=>el8 zz_ fun wx F1 as1 ce1 l1 S1 rx P1=>?_
 cases wx<;>first|exact(show False from P1).elim|skip
 rename_i k
 simp only[Rep] at rx
 subst rx
 exact⟨k,rfl,Post.done S1 (a:=W.bl (!k)) P1 (by simp only[Rep])⟩
theorem zdR(ha:PT X a (zcn G E ta)):PW X (.BoolOp .And [a] pos) (zcn G E ta):=zmD ha
theorem zhC(ha:PT X a (zcn G E ta)):PW X (.BoolOp .Or [a] pos) (zcn G E ta):=zos ha
theorem zeO(ha:PT X a (zcn G E ta))(hb:PW X (.BoolOp .And (b::zen) pos) (zcn G E tb)):PW X (.BoolOp .And (a::b::zen) pos) (zcn G E (zdP ta tb)):=by
 refine PW.imp (zot ha hb) fun σ H Q zz_=>el6 zz_ fun F as sl ce S P=>(step (RP:=rB) S P).mono fun x H1 zz_=>el8 zz_ fun wx F1 as1 ce1 l1 S1 rx P1=>?_
 have rx:wx=x:=rx
 subst rx
 cases wx
 ·rw[if_neg Bool.false_ne_true];exact Post.done (RP:=rB) S1 (a:=false) P1 rfl
 ·rw[if_pos rfl];exact⟨F1,as1,sl,ce1,S1,P1⟩
theorem zkT(ha:PT X a (zcn G E ta))(hb:PW X (.BoolOp .Or (b::zen) pos) (zcn G E tb)):PW X (.BoolOp .Or (a::b::zen) pos) (zcn G E (zkk ta tb)):=by
 refine PW.imp (zqt ha hb) fun σ H Q zz_=>el6 zz_ fun F as sl ce S P=>(step (RP:=rB) S P).mono fun x H1 zz_=>el8 zz_ fun wx F1 as1 ce1 l1 S1 rx P1=>?_
 have rx:wx=x:=rx
 subst rx
 cases wx
 ·rw[if_neg Bool.false_ne_true];exact⟨F1,as1,sl,ce1,S1,P1⟩
 ·rw[if_pos rfl];exact Post.done (RP:=rB) S1 (a:=true) P1 rfl
theorem zeP(ha:PT X a (zcn G E ta)):PT X (.UnaryOp .Not a pos) (zcn G E (zdQ ta)):=by
 refine PT.imp (zou ha) fun σ H Q zz_=>el6 zz_ fun F as sl ce S P=>(step (RP:=rB) S P).mono fun x H1 zz_=>el8 zz_ fun wx F1 as1 ce1 l1 S1 rx P1=>?_
 have rx:wx=x:=rx
 subst rx
 exact Post.done (RP:=rB) S1 (a:=!wx) P1 rfl
def zge(f g:Ce->W->W->Option W)(a b c:Sl->M W):Sl->M W:=fun sl=>bnd (a sl) fun x=>bnd (b sl) fun y=>bnd (look fun ce=>f ce x y) fun t=>match t with
 | .bl true=>bnd (c sl) fun z=>look fun ce=>g ce y z
 | .bl false=>ret (.bl false)
 | _=>zga
theorem zjq{r r':R2}{f g:Ce->W->W->Option W}(hf:OpC r f)(hg:OpC r' g)(σ:L2.St)(H:Hp)(Q:VK)(h:zam G E (zge f g da db dc) σ H Q):zlW r r' (zam G E da) (zam G E db) (zam G E dc) σ H Q:=by
 obtain⟨F,as,sl,ce,S,P⟩:=h
 refine(step S P).mono fun x H1 zz_=>el8 zz_ fun wx F1 as1 ce1 l1 S1 rx P1=>(step S1 P1).mono fun y H2 zz_=>el8 zz_ fun wy F2 as2 ce2 l2 S2 ry P2=>?_
 have e:∃w,f ce2 wx wy=some w/\Post G E Rep F2 as2 σ sl Q ((match w with|.bl true=>bnd (dc sl) fun z=>look fun ce=>g ce wy z|.bl false=>ret (.bl false)|_=>zga:M W) ce2):=by
  revert P2
  simp only[bnd,look]
  cases f ce2 wx wy with
  | none=>exact fun P=>P.elim
  | some w=>exact fun P=>⟨w,rfl,P⟩
 obtain⟨w,e,P3⟩:=e
 refine hf G F2 as2 H2 ce2 x y wx wy w S2.st (rx.le l2) ry e _ fun v rv=>?_
 cases w<;>first|exact(show False from P3).elim|skip
 rename_i k
 simp only[Rep] at rv
 subst rv
 refine⟨k,rfl,?_⟩
 cases k
 ·rw[if_neg Bool.false_ne_true];exact Post.done S2 (a:=W.bl false) P3 (by simp only[Rep])
 ·rw[if_pos rfl]
  refine(step S2 P3).mono fun z H3 zz_=>el8 zz_ fun wz F3 as3 ce3 l3 S3 rz P4=>?_
  obtain⟨w',e',P4⟩:=za8 P4
  exact hg G F3 as3 H3 ce3 y z wy wz w' S3.st (ry.le l3) rz e' Q fun v r=>P4.done S3 r
theorem zkU{op op':CmpOp}{r r':R2}{f g:Ce->W->W->Option W}(ho:OpR X (compareOp op) r)(ho':OpR X (compareOp op') r')(hf:OpC r f)(hg:OpC r' g)(ha:PE X a (zam G E da))(hb:PE X b (zam G E db))(hc:PE X c (zam G E dc))(hm:lastMarks [op,op'] [b,c]=false:=by with_unfolding_all rfl):PE X (.Compare a [op,op'] [b,c] pos) (zam G E (zge f g da db dc)):=PE.imp (zky ho ho' ha hb hc hm) (zjq hf hg)
end
end VS
namespace VS
open PySem PySem.Spec PyProof.Rows L2
section
def zap:Sl->M (List W):=fun _=>ret []
def zad(a:Sl->M W)(r:Sl->M (List W)):Sl->M (List W):=fun sl=>bnd (a sl) fun x=>bnd (r sl) fun xs=>ret (x::xs)
open Classical in
def mkF(w:W)(n:Nat):M W:=fun ce=>if n<=sizeLine then some (.ok w ce) else none
open Classical in
def mkC(c:C)(n:Nat):M W:=fun ce=>if n<=sizeLine then some (.ok (.cel ce.length) (ce++[c])) else none
def zem(r:Sl->M (List W)):Sl->M W:=fun sl=>bnd (r sl) fun xs=>mkF (.tup xs) xs.length
def zeo(r:Sl->M (List W)):Sl->M W:=fun sl=>bnd (r sl) fun xs=>mkF (.lst xs) xs.length
def zcy(r:Sl->M (List W)):Sl->M W:=fun sl=>bnd (r sl) fun xs=>mkC (.lst xs) xs.length
section
variable {X:Cx} {G:Ga} {E:XK} {e:Expr} {es:List Expr} {da:Sl->M W} {dr:Sl->M (List W)} {pos:Pos} {F:Hp} {as:List Addr} {H:Hp} {σ:VS.St} {sl:Sl} {ce:Ce} {Q:VK}
theorem zag:PA X [] (zgP G E zap):=PA.imp ziZ fun σ H Q zz_=>el6 zz_ fun F as sl ce S P=>Post.done (RP:=Reps) S (a:=[]) P Reps.nil
theorem zab(ha:PE X e (zam G E da))(hr:PA X es (zgP G E dr))(hs:starEach (e::es) X.env=(false,eval e X.env)::starEach es X.env:=by rfl):PA X (e::es) (zgP G E (zad da dr)):=by
 refine PA.imp (ze5 ha hr hs) fun σ H Q zz_=>el6 zz_ fun F as sl ce S P=>(step S P).mono fun x H1 zz_=>el8 zz_ fun wx F1 as1 ce1 l1 S1 rx P1=>(step (RP:=Reps) S1 P1).mono fun y H2 zz_=>el8 zz_ fun wy F2 as2 ce2 l2 S2 ry P2=>?_
 exact Post.done (RP:=Reps) S2 (a:=wx::wy) P2 (.cons (rx.le l2) ry)
theorem zjr{xs:List W}{vs:List V}{n:Nat}(S:SR G F as H σ sl ce)(rs:Reps F as xs vs)(P:Post G E Rep F as σ sl Q (mkF (.lst xs) n ce)):n<=sizeLine/\∀p,H p=none->Q (.ref p) (upd H p (.lst vs)):=by
 revert P
 unfold mkF
 split
 ·rename_i h
  intro P
  refine⟨h,fun p hp=>?_⟩
  obtain⟨S',l⟩:=S.st.freeze (o:=.lst vs) hp
  exact P _ _ _ _ l (S.slots S' l) (by simp only[Rep];exact⟨p,vs,rfl,.inl zat,rs.le l⟩)
 ·exact fun P=>P.elim
theorem zfc{xs:List W}{vs:List V}{n:Nat}(S:SR G F as H σ sl ce)(rs:Reps F as xs vs)(P:Post G E Rep F as σ sl Q (mkF (.tup xs) n ce)):n<=sizeLine/\∀p,H p=none->Q (.ref p) (upd H p (.tup vs)):=by
 revert P
 unfold mkF
 split
 ·rename_i h
  intro P
  refine⟨h,fun p hp=>?_⟩
  obtain⟨S',l⟩:=S.st.freeze (o:=.tup vs) hp
  exact P _ _ _ _ l (S.slots S' l) (by simp only[Rep];exact⟨p,vs,rfl,zat,rs.le l⟩)
 ·exact fun P=>P.elim
theorem zjs{c:C}{o:HO}{n:Nat}(S:SR G F as H σ sl ce)(hc:∀p as',Le F as F as'->CRep G F as' (upd H p o) p c)(P:Post G E Rep F as σ sl Q (mkC c n ce)):n<=sizeLine/\∀p,H p=none->Q (.ref p) (upd H p o):=by
 revert P
 unfold mkC
 split
 ·rename_i h
  intro P
  refine⟨h,fun p hp=>?_⟩
  obtain⟨S',l⟩:=S.st.alloc (c:=c) hp (hc p)
  exact P _ _ _ _ l (S.slots S' l) (by simp only[Rep];exact⟨p,rfl,by rw[<- S.st.len];simp⟩)
 ·exact fun P=>P.elim
theorem zjt{xs:List W}{vs:List V}{n:Nat}(S:SR G F as H σ sl ce)(rs:Reps F as xs vs)(P:Post G E Rep F as σ sl Q (mkC (.lst xs) n ce)):n<=sizeLine/\∀p,H p=none->Q (.ref p) (upd H p (.lst vs)) :=
 zjs (c:=.lst xs) S (fun p as' l=>⟨vs,zat,rs.le l⟩) P
theorem zbQ{x1}(h:PA X es (zgP G E dr)):PE X (.Tuple es x1 pos) (zam G E (zem dr)):=by
 refine PE.imp (zlX h) fun σ H Q zz_=>el6 zz_ fun F as sl ce S P=>(step (RP:=Reps) S P).mono fun x H1 zz_=>el8 zz_ fun wx F1 as1 ce1 l1 S1 rx P1=>?_
 have:=zfc S1 rx P1
 rwa [<- Reps.length rx] at this
theorem zbK(h:PA X es (zgP G E dr)):PE X (.List es pos) (zam G E (zeo dr)):=by
 refine PE.imp (zlY h) fun σ H Q zz_=>el6 zz_ fun F as sl ce S P=>(step (RP:=Reps) S P).mono fun x H1 zz_=>el8 zz_ fun wx F1 as1 ce1 l1 S1 rx P1=>?_
 have:=zjr S1 rx P1
 rwa [<- Reps.length rx] at this
theorem zdc(h:PA X es (zgP G E dr)):PE X (.List es pos) (zam G E (zcy dr)):=by
 refine PE.imp (zlY h) fun σ H Q zz_=>el6 zz_ fun F as sl ce S P=>(step (RP:=Reps) S P).mono fun x H1 zz_=>el8 zz_ fun wx F1 as1 ce1 l1 S1 rx P1=>?_
 have:=zjt S1 rx P1
 rwa [<- Reps.length rx] at this
def zep:Sl->M W:=fun _=>mkC (.dct []) 0
theorem zdd:PE X (.Dict [] [] pos) (zam G E zep):=by
 refine PE.imp zkN fun σ H Q zz_=>el6 zz_ fun F as sl ce S P=>?_
 exact(zjs (c:=.dct []) (o:=.dK []) S (fun p as' l=>⟨[],zat,.nil⟩) P).2
end
def zij(kvs:List (Key×W))(k:Key):Option W:=(kvs.find? fun kv=>decide (kv.1=k)).map (·.2)
def zik(kvs:List (Key×W))(k:Key)(v:W):List (Key×W) :=
 if (kvs.any fun kv=>decide (kv.1=k))=true then kvs.map (fun kv=>if kv.1=k then (kv.1,v) else kv) else kvs++[(k,v)]
section
variable {F:Hp} {as:List Addr} {kvs:List (Key×W)} {ps:List (Key×V)}
theorem RepKV.val(r:RepKV F as kvs ps)(k:Key):(zij kvs k=none/\zif ps k=none)\/∃w v,zij kvs k=some w/\zif ps k=some v/\Rep F as w v:=by
 induction r with
 | nil=>exact .inl ⟨rfl,rfl⟩
 | @cons p q l1 l2 h t ih =>
  obtain⟨e,rv⟩:=h
  by_cases hk:p.1=k
  ·refine .inr ⟨p.2,q.2,?_,zdv (by rw[<- e];exact hk),rv⟩
   simp[zij,List.find?_cons,hk]
  ·have e1:zij (p::l1) k=zij l1 k:=by simp only[zij,List.find?_cons,hk,decide_false]
   rw[e1,zdw (by rw[<- e];exact hk)]
   exact ih
theorem RepKV.any(r:RepKV F as kvs ps)(k:Key):(kvs.any fun kv=>decide (kv.1=k))=(ps.any fun kv=>decide (kv.1=k)):=by
 induction r with
 | nil=>rfl
 | cons h t ih=>rw[List.any_cons,List.any_cons,ih,h.1]
theorem RepKV.mapPut{w:W}{v:V}(k:Key)(rv:Rep F as w v)(r:RepKV F as kvs ps):RepKV F as (kvs.map fun kv=>if kv.1=k then (kv.1,w) else kv) (ps.map fun kv=>if kv.1=k then (kv.1,v) else kv):=by
 induction r with
 | nil=>exact .nil
 | @cons p q l1 l2 h t ih =>
  rw[List.map_cons,List.map_cons]
  refine .cons ?_ ih
  by_cases hk:p.1=k
  ·rw[if_pos hk,if_pos (by rw[<- h.1];exact hk)]
   exact⟨h.1,rv⟩
  ·rw[if_neg hk,if_neg (by rw[<- h.1];exact hk)]
   exact h
theorem RepKV.put{w:W}{v:V}(r:RepKV F as kvs ps)(k:Key)(rv:Rep F as w v):RepKV F as (zik kvs k w) (zfW ps k v):=by
 unfold zik zfW
 rw[r.any k]
 split
 ·exact r.mapPut k rv
 ·exact Paired.app r (.cons ⟨rfl,rv⟩ .nil)
theorem RepKV.length(r:RepKV F as kvs ps):kvs.length=ps.length:=Paired.length r
end
def zl7(ng:Bool)(ce:Ce)(x y:W):Option W:=match ziI x,zoa ce y with
 | some k,some kvs=>some (.bl (if ng then !(zij kvs k).isSome else (zij kvs k).isSome))
 | _,_=>none
section
variable {X:Cx} {G:Ga} {E:XK} {a b c:Expr} {da db dc:Sl->M W} {pos:Pos}
theorem znd(ng:Bool)(σ:L2.St)(H:Hp)(Q:VK)(h:zam G E (zaR (zl7 ng) da db) σ H Q) :
  zam G E da σ H fun y H1=>zam G E db σ H1 fun x H2=>∃a o,x=.ref a/\DGet H2 a y o/\Q (.bl (if ng then !o.isSome else o.isSome)) H2:=by
 obtain⟨F,as,sl,ce,S,P⟩:=h
 refine(step S P).mono fun x H1 zz_=>el8 zz_ fun wx F1 as1 ce1 l1 S1 rx P1=>(step S1 P1).mono fun y H2 zz_=>el8 zz_ fun wy F2 as2 ce2 l2 S2 ry P2=>?_
 obtain⟨w,e,P3⟩:=za8 P2
 unfold zl7 at e
 split at e
 ·rename_i k kvs hk hd
  cases e
  obtain⟨n,a,ps,rfl,rfl,ha,hH,rk⟩:=zjl S2.st ry hd
  rw[zgT rx hk]
  refine⟨a,_,rfl,DGet.k hH,?_⟩
  rcases rk.val k with ⟨e1,e2⟩|⟨w,v,e1,e2,_⟩
  ·rw[e1] at P3;rw[e2];exact P3.done S2 (by simp only[Rep];cases ng<;>rfl)
  ·rw[e1] at P3;rw[e2];exact P3.done S2 (by simp only[Rep];cases ng<;>rfl)
 ·cases e
theorem zgf(hu:X.A.units+1<cLine)(ha:PE X a (zam G E da))(hb:PE X b (zam G E db))(h1:behindInMarks .NotIn b=false):PT X (.Compare a [.NotIn] [b] pos) (zcn G E (dB (zaR (zl7 true) da db))):=zra ⟨_,zje hu ha hb,znd true⟩ h1
def ixW(ce:Ce)(x y:W):Option W:=match zeN ce x,y with
 | some xs,.int i=>atI xs i
 | _,_=>none
theorem Reps.atI{F:Hp}{as:List Addr}{ws:List W}{vs:List V}{i:Int}{w:W}(r:Reps F as ws vs)(h:L2.atI ws i=some w):∃v,L2.atI vs i=some v/\Rep F as w v:=by
 unfold L2.atI at h ⊢
 rw[r.length]
 cases e:ixN ws.length i with
 | none=>rw[e] at h;cases h
 | some j=>rw[e] at h;exact r.get h
theorem zpa(K:PySem.W.Frag):OpC (fun x y H Q=>zqU K x y H Q\/zqV K x y H Q) ixW:=by
 intro G F as H ce x y wx wy w S rx ry e Q q
 unfold ixW at e
 split at e
 ·rename_i xs i hs
  obtain⟨a,vs,rfl,h,rs⟩:=zfb S rx hs
  obtain⟨v,hv,rv⟩:=rs.atI e
  simp only[Rep] at ry
  subst ry
  rcases h with h|h
  ·exact .inl ⟨a,vs,i,v,rfl,rfl,.inl h,hv,q _ rv⟩
  ·exact .inr ⟨a,vs,i,v,rfl,rfl,.inl h,hv,q _ rv⟩
 ·cases e
theorem zaE(ha:PE X a (zam G E da))(hb:PE X b (zam G E db))(hs:zi5 b):PE X (.Subscript a b pos) (zam G E (zaR ixW da db)):=PE.imp (zqT (IxR.or (ixL X.K rfl) (ixT X.K rfl)) ha hb hs) (zbB (zpa _))
def zaZ:Sl->M (Option Int):=fun _=>ret none
def zba(d:Sl->M W):Sl->M (Option Int):=fun sl=>bnd (d sl) fun w=>match w with
 | .int i=>ret (some i)
 | _=>zga
def rO:Hp->List Addr->Option Int->Option Int->Prop:=fun _ _ a b=>a=b
abbrev zob(G:Ga)(E:XK)(d:Sl->M (Option Int)):TO:=toT G E rO d
theorem PO.imp{e:Option Expr}{t t':TO}(h:PO X e t)(q:∀σ H Q,t' σ H Q->t σ H Q):PO X e t':=fun pins s σ H Q I z=>h pins s σ H Q I (q _ _ _ z)
theorem zco:PO X none (zob G E zaZ):=PO.imp zmT fun σ H Q zz_=>el6 zz_ fun F as sl ce S P=>Post.done (RP:=rO) S (a:=none) P rfl
theorem zbk(h:PE X a (zam G E da)):PO X (some a) (zob G E (zba da)):=by
 refine PO.imp (zmU h) fun σ H Q zz_=>el6 zz_ fun F as sl ce S P=>(step S P).mono fun x H1 zz_=>el8 zz_ fun wx F1 as1 ce1 l1 S1 rx P1=>?_
 cases wx<;>first|exact(show False from P1).elim|skip
 simp only[Rep] at rx
 exact⟨_,rx,Post.done (RP:=rO) S1 (a:=some _) P1 rfl⟩
def zeQ(xs:List W)(lo hi:Option Int):List W:=(xs.drop (HT.sIx xs.length 0 lo)).take (HT.sIx xs.length xs.length hi-HT.sIx xs.length 0 lo)
theorem Reps.cut{F:Hp}{as:List Addr}{ws:List W}{vs:List V}(r:Reps F as ws vs)(lo hi:Option Int):Reps F as (zeQ ws lo hi) (zlZ vs lo hi):=by
 unfold zeQ zlZ
 rw[r.length]
 exact(r.drop _).take _
def slW(mk:List W->M W)(x:W)(lo hi:Option Int):M W:=fun ce=>match zcQ ce x with
 | some xs=>mk (zeQ xs lo hi) ce
 | none=>none
def zbl(xs:List W):M W:=mkF (.lst xs) xs.length
def zgG(xs:List W):M W:=mkC (.lst xs) xs.length
def zne(xs:List W):M W:=mkF (.tup xs) xs.length
def dSl(mk:List W->M W)(d:Sl->M W)(l h:Sl->M (Option Int)):Sl->M W:=fun sl=>bnd (d sl) fun x=>bnd (l sl) fun lo=>bnd (h sl) fun hi=>slW mk x lo hi
def MkL(G:Ga)(E:XK)(mk:List W->M W):Prop:=∀{F:Hp} {as:List Addr} {H:Hp} {σ:VS.St} {sl:Sl} {ce:Ce} {Q:VK} {xs:List W} {vs:List V},SR G F as H σ sl ce->Reps F as xs vs->Post G E Rep F as σ sl Q (mk xs ce)->xs.length<=sizeLine/\∀p,H p=none->Q (.ref p) (upd H p (.lst vs))
theorem zc9:MkL G E zbl:=fun S rs P=>zjr S rs P
theorem zl8:MkL G E zgG:=fun S rs P=>zjt S rs P
theorem zgg{lo hi:Option Expr}{dl dh:Sl->M (Option Int)}{mk:List W->M W}{p2:Pos}(hm:MkL G E mk)(he:PE X a (zam G E da))(hl:PO X lo (zob G E dl))(hu:PO X hi (zob G E dh)):PE X (.Subscript a (.Slice lo hi none p2) pos) (zam G E (dSl mk da dl dh)):=by
 refine PE.imp (zhq (L2.slL X.K) he hl hu) fun σ H Q zz_=>el6 zz_ fun F as sl ce S P=>(step S P).mono fun x H1 zz_=>el8 zz_ fun wx F1 as1 ce1 l1 S1 rx P1=>(step (RP:=rO) S1 P1).mono fun y H2 zz_=>el8 zz_ fun wy F2 as2 ce2 l2 S2 ry P2=>(step (RP:=rO) S2 P2).mono fun z H3 zz_=>el8 zz_ fun wz F3 as3 ce3 l3 S3 rz P3=>?_
 have ry:wy=y:=ry
 have rz:wz=z:=rz
 subst ry rz
 unfold slW at P3
 cases e:zcQ ce3 wx with
 | none=>rw[e] at P3;exact(show False from P3).elim
 | some xs =>
  rw[e] at P3
  obtain⟨p,vs,rfl,h,rs⟩:=zb4 S3.st ((rx.le l2).le l3) e
  exact⟨p,vs,rfl,.inl h,(hm S3 (rs.cut wy wz) P3).2⟩
def slT(x:W)(lo hi:Option Int):M W:=fun ce=>match x with
 | .tup xs=>if HT.sIx xs.length 0 lo=0/\HT.sIx xs.length xs.length hi=xs.length then none else zne (zeQ xs lo hi) ce
 | _=>none
open Classical in
def zre(mk:List W->M W)(x y:W):M W:=fun ce=>match zcQ ce x,zcQ ce y with
 | some xs,some ys=>if xs.length+ys.length<=sizeLine then mk (xs++ys) ce else none
 | _,_=>none
def zkl(mk:List W->M W)(a b:Sl->M W):Sl->M W:=fun sl=>bnd (a sl) fun x=>bnd (b sl) fun y=>zre mk x y
def zrf:R2:=fun x y H Q=>∃l b xs zs,x=.ref l/\y=.ref b/\Rd H l (.lst xs)/\Rd H b (.lst zs)/\xs.length+zs.length<=sizeLine/\∀p,H p=none->Q (.ref p) (upd H p (.lst (xs++zs)))
theorem Inv.lstR{pins:List (Addr×Obj)}{σ:VS.St}{H:Hp}{s:Shared}{l:Addr}{xs:List V}(I:Inv X pins σ H s)(hH:Rd H l (.lst xs)):xs.length<=sizeLine/\∃(its:List Value) (n:Nat),Vals xs its/\xs.length=its.length/\s.heap.get? l=some { cls:=.type "list",data:=.seq its.toArray n }:=by
 obtain⟨z,its,n,r,e⟩:=hH.ok I.hok
 exact⟨z,its,n,r,r.length,e⟩
theorem znf:OpR X (binaryOp .Add) zrf:=by
 intro pins s σ H x y v u Q I rx ry h
 obtain⟨l,b,xs,zs,rfl,rfl,hH,hB,hz,q⟩:=h
 cases rx
 cases ry
 obtain⟨z,its,n,r,hl,e⟩:=Inv.lstR I hH
 obtain⟨z2,its2,n2,r2,hl2,e2⟩:=Inv.lstR I hB
 refine PySem.P.add_list e e2 ?_ (by rw[List.size_toArray,List.size_toArray];omega)
 have ea:its.toArray++its2.toArray=(its++its2).toArray:=by simp
 rw[ea]
 exact⟨.ref _,_,I.lnew (t':=s.toks) (r.append r2) (by rw[List.length_append];omega),rfl,q _ I.fresh⟩
theorem zhD{mk:List W->M W}(hm:MkL G E mk)(ha:PE X a (zam G E da))(hb:PE X b (zam G E db)):PE X (.BinOp a .Add b pos) (zam G E (zkl mk da db)):=by
 refine PE.imp (zmJ znf ha hb) fun σ H Q h=>zgb h fun F as sl ce H2 x y wx wy S rx ry P=>?_
 unfold zre at P
 split at P
 ·rename_i xs ys h1 h2
  split at P
  ·rename_i hl
   obtain⟨p,vs,rfl,q1,r1⟩:=zb4 S.st rx h1
   obtain⟨p',us,rfl,q2,r2⟩:=zb4 S.st ry h2
   exact⟨p,p',vs,us,rfl,rfl,q1,q2,by rw[r1.length,r2.length];exact hl,(hm S (r1.append r2) P).2⟩
  ·exact(show False from P).elim
 ·exact(show False from P).elim
end
end
end VS
namespace VS
open PySem PySem.Spec PyProof.Rows L2
section
inductive Fl where
 | nx|bk|ct|rt (w:W)
inductive O where
 | go (f:Fl) (sl:Sl) (ce:Ce)|ex (x:Exn) (ce:Ce)
abbrev DS:=Sl->Ce->Option O
def zrg(D:Ends)(F:Hp)(as:List Addr)(σ:VS.St)(H:Hp):Fl->Prop
 | .nx=>D.nx σ H
 | .bk=>D.bk σ H
 | .ct=>D.ct σ H
 | .rt w=>∀v,Rep F as w v->D.rt v H
def PostS(G:Ga)(E:XK)(D:Ends)(F:Hp)(as:List Addr):Option O->Prop
 | some (.go f sl' ce')=>∀σ' H' F' as',Le F as F' as'->SR G F' as' H' σ' sl' ce'->zrg D F' as' σ' H' f
 | some (.ex x ce')=>∀H' F' as' cv od,Le F as F' as'->Store G F' as' H' ce'->G.xr x cv od H'->E cv od H'
 | none=>False
def toTS(G:Ga)(E:XK)(d:DS):TS:=fun D σ H=>∃F as sl ce,SR G F as H σ sl ce/\PostS G E D F as (d sl ce)
def lft{α:Type}(m:Option (R α))(k:α->Ce->Option O):Option O:=match m with
 | some (.ok a ce')=>k a ce'
 | some (.ex x ce')=>some (.ex x ce')
 | none=>none
section
variable {α β:Type} {G:Ga} {E:XK} {RP:Hp->List Addr->α->β->Prop} {F F':Hp} {as as':List Addr} {H:Hp} {σ:VS.St} {sl:Sl} {ce:Ce} {D D':Ends}
theorem PostS.le{r:Option O}(l:Le F as F' as')(P:PostS G E D F as r):PostS G E D F' as' r:=by
 cases r with
 | none=>exact P
 | some r=>cases r with
  | go f sl' ce'=>exact fun σ' H' F2 as2 l2=>P σ' H' F2 as2 (l.trans l2)
  | ex x ce'=>exact fun H' F2 as2 cv od l2=>P H' F2 as2 cv od (l.trans l2)
theorem zde{d:Sl->M α}{k:α->Ce->Option O}(S:SR G F as H σ sl ce)(P:PostS G E D F as (lft (d sl ce) k)) :
  toT G E RP d σ H fun b H2=>∃a F' as' ce',Le F as F' as'/\SR G F' as' H2 σ sl ce'/\RP F' as' a b/\PostS G E D F' as' (k a ce'):=by
 refine⟨F,as,sl,ce,S,?_⟩
 revert P
 unfold lft
 cases d sl ce with
 | none=>exact fun P=>P
 | some r=>cases r with
  | ok a ce'=>exact fun P b H' F' as' l S' r=>⟨a,F',as',ce',l,S',r,P.le l⟩
  | ex x ce'=>exact fun P=>P
theorem PostS.nxt(S:SR G F as H σ sl ce)(P:PostS G E D F as (some (.go .nx sl ce))):D.nx σ H:=P σ H F as .refl S
end
def zbb:DS:=fun sl ce=>some (.go .nx sl ce)
def zav(a b:DS):DS:=fun sl ce=>match a sl ce with
 | some (.go .nx sl' ce')=>b sl' ce'
 | r=>r
def dEx(d:Sl->M W):DS:=fun sl ce=>lft (d sl ce) fun _ ce'=>some (.go .nx sl ce')
def zbO(d:Sl->M W):DS:=fun sl ce=>lft (d sl ce) fun w ce'=>some (.go (.rt w) sl ce')
def dIf(c:Sl->M Bool)(a b:DS):DS:=fun sl ce=>lft (c sl ce) fun t ce'=>match t with
 | true=>a sl ce'
 | false=>b sl ce'
abbrev DG:=W->Sl->Ce->Option (Sl×Ce)
def gN(i:Nat):DG:=fun w sl ce=>some (sl.set i (some w),ce)
def ziJ(d:Sl->M W)(g:DG):DS:=fun sl ce=>lft (d sl ce) fun w ce'=>match g w sl ce' with
 | some (sl',ce'')=>some (.go .nx sl' ce'')
 | none=>none
def zbj(i:Nat)(d:Sl->M W):DS:=fun sl ce=>lft (d sl ce) fun w ce'=>some (.go .nx (sl.set i (some w)) ce')
def PGv(G:Ga)(X:Cx)(tg:Expr)(g:DG):Prop:=∃t:TG,PG X tg t/\∀F as H σ sl ce w v sl' ce' (Q:VS.St->Hp->Prop),SR G F as H σ sl ce->Rep F as w v->g w sl ce=some (sl',ce') ->
 (∀σ' H' F' as',Le F as F' as'->SR G F' as' H' σ' sl' ce'->Q σ' H')->t v σ H Q
def zqn(G:Ga)(X:Cx)(tgs:List Expr)(g:List W->Sl->Ce->Option (Sl×Ce)):Prop:=∃t:TGs,PGs X tgs t/\∀F as H σ sl ce ws vs sl' ce' (Q:VS.St->Hp->Prop),SR G F as H σ sl ce->Reps F as ws vs->g ws sl ce=some (sl',ce') ->
 (∀σ' H' F' as',Le F as F' as'->SR G F' as' H' σ' sl' ce'->Q σ' H')->t vs σ H Q
def zkV:List W->Sl->Ce->Option (Sl×Ce):=fun ws sl ce=>match ws with
 | []=>some (sl,ce)
 | _=>none
def zdq(g:DG)(r:List W->Sl->Ce->Option (Sl×Ce)):List W->Sl->Ce->Option (Sl×Ce):=fun ws sl ce=>match ws with
 | w::ws=>match g w sl ce with
  | some (sl',ce')=>r ws sl' ce'
  | none=>none
 | []=>none
def gT(n:Nat)(r:List W->Sl->Ce->Option (Sl×Ce)):DG:=fun w sl ce=>match w with
 | .tup ws=>if ws.length=n then r ws sl ce else none
 | _=>none
section
variable {X:Cx} {G:Ga} {E:XK} {st:Stmt} {zen:List Stmt} {a b:DS} {e tg:Expr} {d da db dc:Sl->M W} {c:Sl->M Bool} {g:DG} {pos:Pos}
theorem zaA:PSs X [] (toTS G E zbb):=PSs.imp zmE fun D σ H zz_=>el6 zz_ fun F as sl ce S P=>P.nxt S
theorem zai(h:PS X st (toTS G E a)):PSs X [st] (toTS G E a):=zmF h
theorem zac(h1:PS X st (toTS G E a))(h2:PSs X zen (toTS G E b)):PSs X (st::zen) (toTS G E (zav a b)):=by
 refine PSs.imp (zkt h1 h2) fun D σ H zz_=>el6 zz_ fun F as sl ce S P=>⟨F,as,sl,ce,S,?_⟩
 revert P
 unfold zav
 cases a sl ce with
 | none=>exact fun P=>P.elim
 | some r=>cases r with
  | ex x ce'=>exact fun P=>P
  | go f sl' ce'=>cases f with
   | nx=>exact fun P σ' H' F' as' l S'=>⟨F',as',sl',ce',S',P.le l⟩
   | bk=>exact fun P=>P
   | ct=>exact fun P=>P
   | rt w=>exact fun P=>P
theorem zb5(he:PE X e (zam G E d))(hs:swapsWith e none pos.line X.env=pure false:=by rfl):PS X (.Expr e pos) (toTS G E (dEx d)) :=
 PS.imp (zmG he hs) fun D σ H zz_=>el6 zz_ fun F as sl ce S P=>(zde S P).mono fun x H1 zz_=>el8 zz_ fun wx F1 as1 ce1 l1 S1 rx P1=>P1.nxt S1
theorem zaD(he:PE X e (zam G E d)):PS X (.Return (some e) pos) (toTS G E (zbO d)) :=
 PS.imp (zoy he) fun D σ H zz_=>el6 zz_ fun F as sl ce S P=>(zde S P).mono fun x H1 zz_=>el8 zz_ fun wx F1 as1 ce1 l1 S1 rx P1=>P1 σ H1 F1 as1 .refl S1 x rx
theorem zbm{t:Expr}{sa sb:List Stmt}(hc:PT X t (zcn G E c))(ha:PSs X sa (toTS G E a))(hb:PSs X sb (toTS G E b)):PS X (.If t sa sb pos) (toTS G E (dIf c a b)):=by
 refine PS.imp (zqy hc ha hb) fun D σ H zz_=>el6 zz_ fun F as sl ce S P=>(zde (RP:=rB) S P).mono fun x H1 zz_=>el8 zz_ fun wx F1 as1 ce1 l1 S1 rx P1=>?_
 have rx:wx=x:=rx
 subst rx
 cases wx
 ·rw[if_neg Bool.false_ne_true];exact⟨F1,as1,sl,ce1,S1,P1⟩
 ·rw[if_pos rfl];exact⟨F1,as1,sl,ce1,S1,P1⟩
theorem zas{i:Nat}{x:Str}{pos':Pos}(hN:X.N.Nodup)(hi:X.N[i]?=some x)(hx:Loc X.env.scope x)(he:PE X e (zam G E d))(hs:swapsWith e (some (.Name x pos')) pos.line X.env=pure false:=by rfl)(hf:X.fn x=true\/X.env.scope.names.lookup x=some .local:=by first|exact .inl rfl|exact .inr rfl|assumption):PS X (.Assign [.Name x pos'] e pos) (toTS G E (zbj i d)) :=
 PS.imp (zoC hN hi hx he hs hf) fun D σ H zz_=>el6 zz_ fun F as sl ce S P=>(zde S P).mono fun x H1 zz_=>el8 zz_ fun wx F1 as1 ce1 l1 S1 rx P1=>P1 _ H1 F1 as1 .refl (S1.put rx i)
theorem zaJ{i:Nat}{x:Str}(hN:X.N.Nodup)(hi:X.N[i]?=some x)(hx:Loc X.env.scope x)(hf:X.fn x=true\/X.env.scope.names.lookup x=some .local:=by first|exact .inl rfl|exact .inr rfl|assumption):PGv G X (.Name x pos) (gN i) :=
 ⟨gName i,zgL hN hi hx hf,fun F as H σ sl ce w v sl' ce' Q S r e k=>by
  cases e
  exact k _ _ _ _ .refl (S.put r i)⟩
theorem zju:zqn G X [] zkV:=⟨_,zmH,fun F as H σ sl ce ws vs sl' ce' Q S r e k=>by
 cases ws with
 | nil=>cases e;simp only[Reps] at r;exact⟨r,k _ _ _ _ .refl S⟩
 | cons w ws=>cases e⟩
theorem zdx{es:List Expr}{r:List W->Sl->Ce->Option (Sl×Ce)}(h1:PGv G X e g)(h2:zqn G X es r)(hs:(assignEach (e::es) X.env).map (·.2)=assign e X.env::(assignEach es X.env).map (·.2):=by rfl):zqn G X (e::es) (zdq g r):=by
 obtain⟨t,h1,q1⟩:=h1
 obtain⟨u,h2,q2⟩:=h2
 refine⟨_,zku h1 h2 hs,fun F as H σ sl ce ws vs sl' ce' Q S rs e k=>?_⟩
 cases ws with
 | nil=>cases e
 | cons w ws =>
  simp only[Reps] at rs
  obtain⟨v,vs',rfl,rv,rs⟩:=rs
  simp only[zdq] at e
  split at e
  ·rename_i sl1 ce1 eg
   refine⟨v,vs',rfl,q1 F as H σ sl ce w v sl1 ce1 _ S rv eg fun σ' H' F' as' l S'=>?_⟩
   exact q2 F' as' H' σ' sl1 ce1 ws vs' sl' ce' Q S' (rs.le l) e fun σ2 H2 F2 as2 l2 S2=>k _ _ _ _ (l.trans l2) S2
  ·cases e
theorem zl9{es:List Expr}{k n:Nat}{r:List W->Sl->Ce->Option (Sl×Ce)}(hc:X.calm=true)(h:zqn G X es r)(hn:(assignEach es X.env).length=n:=by rfl)(hst:(assignEach es X.env).findIdx? (·.1)=none:=by rfl):PGv G X (.Tuple es k pos) (gT n r):=by
 obtain⟨t,h,q⟩:=h
 refine⟨_,zoz hc h hn hst,fun F as H σ sl ce w v sl' ce' Q S rw' e k=>?_⟩
 cases w<;>simp only[gT,reduceCtorEq] at e
 split at e
 ·rename_i ws hl
  simp only[Rep] at rw'
  obtain⟨a,vs,rfl,ha,rs⟩:=rw'
  exact⟨a,vs,rfl,.inl (.inl (S.st.sub _ _ ha)),by rw[rs.length];exact hl,q F as H σ sl ce _ vs sl' ce' Q S rs e k⟩
 ·cases e
theorem zgh(he:PE X e (zam G E d))(hg:PGv G X tg g)(hs:swapsWithSole [tg] e pos.line X.env=pure false:=by rfl)(hw:swappedStores [tg] e X.env=pure none:=by rfl)(h1:(assignEach [tg] X.env).map (·.2)=[assign tg X.env]:=by rfl):PS X (.Assign [tg] e pos) (toTS G E (ziJ d g)):=by
 obtain⟨t,hg,q⟩:=hg
 refine PS.imp (zoB he hg hs hw h1) fun D σ H zz_=>el6 zz_ fun F as sl ce S P=>(zde S P).mono fun x H1 zz_=>el8 zz_ fun wx F1 as1 ce1 l1 S1 rx P1=>?_
 split at P1
 ·rename_i sl' ce'' eg
  exact q F1 as1 H1 σ sl ce1 wx x sl' ce'' _ S1 rx eg fun σ' H' F' as' l S'=>P1 σ' H' F' as' l S'
 ·exact(show False from P1).elim
def zkW(ce:Ce):W->Option (Nat×List W)
 | .cel k=>match ce[k]? with
  | some (.lst xs)=>some (k,xs)
  | _=>none
 | _=>none
def zma(ce:Ce):W->Option (Nat×List (Key×W))
 | .cel k=>match ce[k]? with
  | some (.dct xs)=>some (k,xs)
  | _=>none
 | _=>none
theorem zdy{F:Hp}{as:List Addr}{H:Hp}{ce:Ce}{w:W}{v:V}{k:Nat}{xs:List W}(S:Store G F as H ce)(r:Rep F as w v)(e:zkW ce w=some (k,xs)):∃a vs,v=.ref a/\as[k]?=some a/\H a=some (.lst vs)/\Reps F as xs vs:=by
 cases w<;>simp only[zkW,reduceCtorEq] at e
 split at e
 ·rename_i hc
  cases e
  simp only[Rep] at r
  obtain⟨a,rfl,h⟩:=r
  obtain⟨_,vs,h2,rs⟩:=S.cell _ _ _ h hc
  exact⟨a,vs,rfl,h,h2,rs⟩
 ·cases e
theorem zkX{F:Hp}{as:List Addr}{H:Hp}{ce:Ce}{w:W}{v:V}{k:Nat}{xs:List (Key×W)}(S:Store G F as H ce)(r:Rep F as w v)(e:zma ce w=some (k,xs)):∃a ps,v=.ref a/\as[k]?=some a/\H a=some (.dK ps)/\RepKV F as xs ps:=by
 cases w<;>simp only[zma,reduceCtorEq] at e
 split at e
 ·rename_i hc
  cases e
  simp only[Rep] at r
  obtain⟨a,rfl,h⟩:=r
  obtain⟨_,ps,h2,rs⟩:=S.cell _ _ _ h hc
  exact⟨a,ps,rfl,h,h2,rs⟩
 ·cases e
def zeq(o i:Sl->M W):DG:=fun w sl ce=>match o sl ce with
 | some (.ok ow ce1)=>match i sl ce1 with
  | some (.ok (.int j) ce2)=>match zkW ce2 ow with
   | some (k,xs)=>match ixN xs.length j with
    | some n=>some (sl,ce2.set k (.lst (xs.set n w)))
    | none=>none
   | none=>none
  | _=>none
 | _=>none
theorem zfd{o i:Expr}(ho:PE X o (zam G E da))(hi:PE X i (zam G E db))(hA:∀v,assign (.Subscript o i pos) X.env v=(do
   let ov <- holding [v] (eval o X.env)
   let iv <- holding [v,ov] (eval i X.env)
   standAt pos
   holding [v,ov,iv] (setItem ov iv v)
   release [v,ov,iv] []):=by intro _;rfl):PGv G X (.Subscript o i pos) (zeq da db):=by
 refine⟨_,zoA ho hi zkG hA,fun F as H σ sl ce w v sl' ce' Q S rw' e k=>?_⟩
 unfold zeq at e
 refine⟨F,as,sl,ce,S,?_⟩
 cases e1:da sl ce with
 | none=>rw[e1] at e;cases e
 | some r1=>cases r1 with
  | ex x c=>rw[e1] at e;cases e
  | ok ow ce1 =>
   rw[e1] at e
   intro ov H1 F1 as1 l1 S1 ro
   refine⟨F1,as1,sl,ce1,S1,?_⟩
   dsimp only at e
   cases e2:db sl ce1 with
   | none=>rw[e2] at e;cases e
   | some r2=>cases r2 with
    | ex x c=>rw[e2] at e;cases e
    | ok iw ce2 =>
     rw[e2] at e
     intro iv H2 F2 as2 l2 S2 ri
     cases iw<;>simp only[reduceCtorEq] at e
     rename_i j
     split at e
     ·rename_i kk xs hk
      split at e
      ·rename_i n hn
       cases e
       simp only[Rep] at ri
       subst ri
       obtain⟨a,vs,rfl,ha,hH,rs⟩:=zdy S2.st (ro.le l2) hk
       have rset:=rs.set n ((rw'.le l1).le l2)
       refine⟨a,vs,j,n,rfl,rfl,hH,by rw[rs.length];exact hn,?_⟩
       exact k _ _ _ _ (l1.trans l2) (S2.slots (S2.st.write (o:=.lst (vs.set n v)) (c:=.lst (xs.set n w)) ha ⟨_,zat,rset⟩) .refl)
      ·cases e
     ·cases e
open Classical in
def ziK(o i v:Sl->M W):DS:=fun sl ce=>lft (v sl ce) fun w ce1=>lft (o sl ce1) fun ow ce2=>lft (i sl ce2) fun iw ce3=>match ziI iw,zma ce3 ow with
 | some key,some (k,kvs)=>if kvs.length<sizeLine then some (.go .nx sl (ce3.set k (.dct (zik kvs key w)))) else none
 | _,_=>none
theorem zdS{o i value:Expr}{pos':Pos}(hu:X.A.units+1<cLine)(ho:PE X o (zam G E da))(hi:PE X i (zam G E db))(hv:PE X value (zam G E dc))(hs:swapsWith value (some (.Subscript o i pos')) pos.line X.env=pure false:=by rfl) :
  PS X (.Assign [.Subscript o i pos'] value pos) (toTS G E (ziK da db dc)):=by
 refine PS.imp (zm3 hu ho hi hv hs) fun D σ H zz_=>el6 zz_ fun F as sl ce S P=>(zde S P).mono fun x H1 zz_=>el8 zz_ fun wx F1 as1 ce1 l1 S1 rx P1=>(zde S1 P1).mono fun y H2 zz_=>el8 zz_ fun wy F2 as2 ce2 l2 S2 ry P2=>(zde S2 P2).mono fun z H3 zz_=>el8 zz_ fun wz F3 as3 ce3 l3 S3 rz P3=>?_
 split at P3
 ·rename_i key kk kvs hk hc
  split at P3
  ·rename_i hl
   obtain⟨a,ps,rfl,ha,hH,rk⟩:=zkX S3.st (ry.le l3) hc
   rw[zgT rz hk]
   have rput:=rk.put key ((rx.le l2).le l3)
   refine⟨a,_,rfl,DPut.k hH (by rw[<- rk.length];exact hl),?_⟩
   exact P3 _ _ _ _ .refl (S3.slots (S3.st.write (o:=.dK (zfW ps key x)) (c:=.dct (zik kvs key wx)) ha ⟨_,zat,rput⟩) .refl)
  ·exact(show False from P3).elim
 ·exact(show False from P3).elim
end
end
end VS
namespace VS
open PySem PySem.Spec PyProof.Rows L2
section
inductive Src where
 | lst (xs:List W)|tup (xs:List W)|cell (k:Nat) (xs:List W)|rng (lo:Int) (n:Nat)|dky (xs:List W)
def kW:Key->W
 | .inl i=>.int i
 | .inr x=>.str x
def Src.items:Src->List W
 | .lst xs=>xs
 | .tup xs=>xs
 | .cell _ xs=>xs
 | .rng lo n=>(List.range n).map fun(i:Nat)=>W.int (lo+(i:Int))
 | .dky xs=>xs
def Src.Stays(ce:Ce):Src->Prop
 | .cell k xs=>ce[k]?=some (.lst xs)
 | _=>True
def IRep(K:PySem.W.Frag)(F:Hp)(as:List Addr):Src->It->Prop
 | .lst xs,J=>∃a vs,J=Itl K a/\Rd F a (.lst vs)/\Reps F as xs vs
 | .tup xs,J=>∃a vs,J=Itt K a/\Rd F a (.tup vs)/\Reps F as xs vs
 | .cell k _,J=>∃a,J=Itl K a/\as[k]?=some a
 | .rng lo n,J=>J=Itr lo n
 | .dky xs,J=>∃a o ps,J=Itd a o ps/\F a=some (.frz o (.dK ps))/\xs=ps.map fun p=>kW p.1
theorem IRep.le{K:PySem.W.Frag}{F F':Hp}{as as':List Addr}{s:Src}{J:It}(l:Le F as F' as')(h:IRep K F as s J):IRep K F' as' s J:=by
 cases s with
 | lst xs=>obtain⟨a,vs,e,h,r⟩:=h;exact⟨a,vs,e,l.rd h,r.le l⟩
 | tup xs=>obtain⟨a,vs,e,h,r⟩:=h;exact⟨a,vs,e,l.rd h,r.le l⟩
 | cell k xs=>obtain⟨a,e,h⟩:=h;exact⟨a,e,l.c _ _ h⟩
 | rng lo n=>exact h
 | dky xs=>obtain⟨a,o,ps,e,h,q⟩:=h;exact⟨a,o,ps,e,l.f _ _ h,q⟩
theorem IRep.turn{G:Ga}{K:PySem.W.Frag}{F:Hp}{as:List Addr}{H:Hp}{ce:Ce}{s:Src}{J:It}(S:Store G F as H ce)(h:IRep K F as s J)(hs:s.Stays ce)(i:Nat) :
  (i<s.items.length->J.go i H/\∀x H',J.yld i H x H'->H'=H/\∃w,s.items[i]?=some w/\Rep F as w x)/\(i=s.items.length->J.stop i H):=by
 have lst:∀{a:Addr} {vs:List V} {xs:List W},SqL K H a vs->Reps F as xs vs->(i<xs.length->(Itl K a).go i H/\∀x H',(Itl K a).yld i H x H'->H'=H/\∃w,xs[i]?=some w/\Rep F as w x)/\(i=xs.length->(Itl K a).stop i H):=by
  intro a vs xs hq rs
  have hl:=rs.length
  refine⟨fun hi=>⟨⟨vs,vs[i]'(by omega),hq,by simp⟩,fun x H' y=>?_⟩,fun hi=>⟨vs,hq,by omega⟩⟩
  obtain⟨e,y⟩:=y
  exact⟨e,rs.get' (y vs hq)⟩
 cases s with
 | lst xs=>obtain⟨a,vs,rfl,h,r⟩:=h;exact lst (.inl (Rd.sub S h)) r
 | cell k xs =>
  obtain⟨a,rfl,h⟩:=h
  obtain⟨_,vs,h2,rs⟩:=S.cell _ _ _ h hs
  exact lst (.inl (.inl h2)) rs
 | tup xs =>
  obtain⟨a,vs,rfl,h,rs⟩:=h
  have hq:SqT K H a vs:=.inl (Rd.sub S h)
  have hl:=rs.length
  refine⟨fun hi=>⟨⟨vs,vs[i]'(by show i<_;simp only[Src.items] at hi;omega),hq,by simp⟩,fun x H' y=>?_⟩,fun hi=>⟨vs,hq,by simp only[Src.items] at hi;omega⟩⟩
  obtain⟨e,y⟩:=y
  exact⟨e,rs.get' (y vs hq)⟩
 | rng lo n =>
  cases h
  have hl:(Src.rng lo n).items.length=n:=by simp[Src.items]
  rw[hl]
  refine⟨fun hi=>⟨hi,fun x H' y=>?_⟩,fun hi=>by rw[hi];exact Nat.le_refl _⟩
  obtain⟨e,rfl⟩:=y
  refine⟨e,.int (lo+i),?_,by simp only[Rep]⟩
  simp[Src.items,hi]
 | dky xs =>
  obtain⟨a,o,ps,rfl,h,rfl⟩:=h
  have hH:=S.sub _ _ h
  have hl:(Src.dky (ps.map fun p=>kW p.1)).items.length=ps.length:=by simp[Src.items]
  rw[hl]
  refine⟨fun hi=>⟨⟨hH,hi⟩,fun x H' y=>?_⟩,fun hi=>⟨hH,hi.symm⟩⟩
  obtain⟨e,p,hp,rfl⟩:=y
  refine⟨e,kW p.1,by simp only[Src.items,List.getElem?_map,hp,Option.map_some],?_⟩
  cases p.1<;>simp only[kW,kV,Rep]
abbrev zkY(G:Ga)(E:XK)(K:PySem.W.Frag)(d:Sl->M Src):TI:=toT G E (IRep K) d
theorem PI.imp{X:Cx}{tg e:Expr}{t t':TI}(h:PI X tg e t)(q:∀σ H R,t' σ H R->t σ H R):PI X tg e t':=fun pins s σ H Q I z=>h pins s σ H Q I (q _ _ _ z)
def zil(ce:Ce):W->Option Src
 | .lst xs=>some (.lst xs)
 | .cel k=>match ce[k]? with
  | some (.lst xs)=>some (.cell k xs)
  | _=>none
 | _=>none
def zrh:W->Option Src
 | .tup xs=>some (.tup xs)
 | _=>none
def dID(d:Sl->M W):Sl->M Src:=fun sl=>bnd (d sl) fun w ce=>match w with
 | .cel k=>match ce[k]? with
  | some (.dct kvs)=>some (.ok (.dky (kvs.map fun p=>kW p.1)) (ce.set k (.fzd kvs)))
  | some (.fzd kvs)=>some (.ok (.dky (kvs.map fun p=>kW p.1)) ce)
  | _=>none
 | _=>none
def dIL(d:Sl->M W):Sl->M Src:=fun sl=>bnd (d sl) fun w=>look fun ce=>zil ce w
def dIT(d:Sl->M W):Sl->M Src:=fun sl=>bnd (d sl) fun w=>look fun _=>zrh w
open Classical in
def zng:List W->Option Src
 | [.int j]=>@ite _ (-4611686018427387904<=j/\j<4611686018427387904) (Classical.propDecidable _) (some (.rng 0 j.toNat)) none
 | _=>none
def zgH(d:Sl->M (List W)):Sl->M Src:=fun sl=>bnd (d sl) fun ws=>look fun _=>zng ws
section
variable {X:Cx} {G:Ga} {E:XK} {tg a b:Expr} {da:Sl->M W} {dr:Sl->M (List W)} {p pos:Pos}
theorem zhE(hl:PE X a (zam G E da)):PI X tg a (zkY G E X.K (dIL da)):=by
 refine PI.imp (zmI hl) fun σ H R zz_=>el6 zz_ fun F as sl ce S P=>(step S P).mono fun x H1 zz_=>el8 zz_ fun wx F1 as1 ce1 l1 S1 rx P1=>?_
 obtain⟨src,e,P2⟩:=za8 P1
 cases wx<;>simp only[zil,reduceCtorEq,Option.some.injEq] at e
 ·subst e
  simp only[Rep] at rx
  obtain⟨a,vs,rfl,h,rs⟩:=rx
  exact⟨a,rfl,⟨vs,.inl (Rd.sub S1.st h)⟩,Post.done (RP:=IRep X.K) S1 P2 ⟨a,vs,rfl,h,rs⟩⟩
 ·split at e
  ·rename_i hc
   cases e
   simp only[Rep] at rx
   obtain⟨a,rfl,h⟩:=rx
   obtain⟨_,vs,h2,rs⟩:=S1.st.cell _ _ _ h hc
   exact⟨a,rfl,⟨vs,.inl (.inl h2)⟩,Post.done (RP:=IRep X.K) S1 P2 ⟨a,rfl,h⟩⟩
  ·cases e
theorem RepKV.kW{F:Hp}{as:List Addr}{kvs:List (Key×W)}{ps:List (Key×V)}(r:RepKV F as kvs ps):(kvs.map fun p=>VS.kW p.1)=ps.map fun p=>VS.kW p.1:=by
 induction r with
 | nil=>rfl
 | cons h t ih=>rw[List.map_cons,List.map_cons,ih,h.1]
theorem Store.fzd{F:Hp}{as:List Addr}{H:Hp}{ce:Ce}{k:Nat}{a:Addr}{kvs:List (Key×W)}{ps:List (Key×V)}(S:Store G F as H ce)(h:as[k]?=some a)(hc:ce[k]?=some (.dct kvs))(hH:H a=some (.dK ps))(r:RepKV F as kvs ps)(o:Obj) :
  Store G (upd F a (.frz o (.dK ps))) as (upd H a (.frz o (.dK ps))) (ce.set k (.fzd kvs))/\Le F as (upd F a (.frz o (.dK ps))) as:=by
 have hk:k<ce.length:=zao hc
 have q1:F a=none:=(S.cell k a _ h hc).1 rfl
 have l:Le F as (upd F a (.frz o (.dK ps))) as:=⟨upd_sub q1,fun _ _ h=>h⟩
 refine⟨⟨fun b u e=>?_,S.nd,by rw[List.length_set];exact S.len,fun j b c h1 h2=>?_⟩,l⟩
 ·by_cases hb:b=a
  ·subst hb;rw[zat] at e ⊢;exact e
  ·rw[zau hb] at e ⊢;exact S.sub _ _ e
 ·by_cases hj:k=j
  ·subst hj
   rw[List.getElem?_set_self hk] at h2
   rw[h] at h1
   cases h1;cases h2
   exact⟨(fun z=>by cases z),o,ps,zat,zat,r.le l⟩
  ·rw[List.getElem?_set_ne hj] at h2
   obtain⟨p1,p2⟩:=S.cell j b c h1 h2
   have hb:b≠a:=fun z=>by
    subst z
    have hj':j<as.length:=zao h1
    have hk':k<as.length:=zao h
    have e1:as[k]=as[j]:=by
     rw[List.getElem?_eq_getElem hk'] at h
     rw[List.getElem?_eq_getElem hj'] at h1
     exact(Option.some.inj h).trans (Option.some.inj h1).symm
    exact hj (zf9 S.nd hk' hj' e1)
   exact⟨fun z=>by rw[zau hb];exact p1 z,p2.le l (zau hb)⟩
theorem zsL(hl:PE X a (zam G E da)):PI X tg a (zkY G E X.K (dID da)):=by
 refine PI.imp (zm7 hl) fun σ H R zz_=>el6 zz_ fun F as sl ce S P=>(step S P).mono fun x H1 zz_=>el8 zz_ fun wx F1 as1 ce1 l1 S1 rx P1=>?_
 cases wx<;>first|exact P1.elim|skip
 rename_i k
 simp only[Rep] at rx
 obtain⟨a,rfl,h⟩:=rx
 dsimp only at P1
 refine⟨a,rfl,?_⟩
 split at P1
 ·rename_i kvs hc
  obtain⟨_,ps,hH,r⟩:=S1.st.cell _ _ _ h hc
  refine .inl ⟨ps,hH,fun o=>?_⟩
  obtain⟨S2,l2⟩:=S1.st.fzd h hc hH r o
  exact P1 (Itd a o ps) _ _ _ l2 (S1.slots S2 l2) ⟨a,o,ps,rfl,zat,r.kW⟩
 ·rename_i kvs hc
  obtain⟨_,o,ps,hF,hH,r⟩:=S1.st.cell _ _ _ h hc
  exact .inr ⟨o,ps,hH,Post.done (RP:=IRep X.K) S1 P1 ⟨a,o,ps,rfl,hF,r.kW⟩⟩
 ·exact P1.elim
theorem znh(hl:PE X a (zam G E da)):PI X tg a (zkY G E X.K (dIT da)):=by
 refine PI.imp (zoE hl) fun σ H R zz_=>el6 zz_ fun F as sl ce S P=>(step S P).mono fun x H1 zz_=>el8 zz_ fun wx F1 as1 ce1 l1 S1 rx P1=>?_
 obtain⟨src,e,P2⟩:=za8 P1
 cases wx<;>simp only[zrh,reduceCtorEq,Option.some.injEq] at e
 subst e
 simp only[Rep] at rx
 obtain⟨a,vs,rfl,h,rs⟩:=rx
 exact⟨a,rfl,⟨vs,.inl (.inl (S1.st.sub _ _ h))⟩,Post.done (RP:=IRep X.K) S1 P2 ⟨a,vs,rfl,.inl h,rs⟩⟩
theorem zer(hg:Gl X "range")(hm:X.mg "range" = none)(ha:PA X [a] (zgP G E dr))(hs:starEach [a] X.env=[(false,eval a X.env)]:=by rfl):PI X tg (.Call (.Name "range" p) [a] [] pos) (zkY G E X.K (zgH dr)):=by
 refine PI.imp (ziR hg hm ha hs) fun σ H R zz_=>el6 zz_ fun F as sl ce S P=>(step (RP:=Reps) S P).mono fun x H1 zz_=>el8 zz_ fun wx F1 as1 ce1 l1 S1 rx P1=>?_
 obtain⟨src,e,P2⟩:=za8 P1
 unfold zng at e
 split at e
 ·rename_i j
  split at e
  ·rename_i hj
   cases e
   simp only[Reps,Rep] at rx
   obtain⟨v,r,rfl,rfl,rfl⟩:=rx
   exact⟨j,rfl,by omega,by omega,Post.done (RP:=IRep X.K) S1 P2 rfl⟩
  ·cases e
 ·cases e
end
open Classical in
def zhF(s:Src)(g:DG)(body:DS):List W->DS
 | []=>fun sl ce=>if s.Stays ce then some (.go .nx sl ce) else none
 | x::r=>fun sl ce=>if s.Stays ce then (match g x sl ce with
  | some (sl1,ce1)=>match body sl1 ce1 with
   | some (.go .nx sl2 ce2)=>zhF s g body r sl2 ce2
   | some (.go .ct sl2 ce2)=>zhF s g body r sl2 ce2
   | some (.go .bk sl2 ce2)=>some (.go .nx sl2 ce2)
   | o=>o
  | none=>none) else none
def zcN(i:Sl->M Src)(g:DG)(body:DS):DS:=fun sl ce=>lft (i sl ce) fun s ce'=>zhF s g body s.items sl ce'
def zce(c:Sl->M Bool)(body:DS):Nat->DS
 | 0=>fun _ _=>none
 | n+1=>fun sl ce=>lft (c sl ce) fun t ce1=>match t with
  | false=>some (.go .nx sl ce1)
  | true=>match body sl ce1 with
   | some (.go .nx sl2 ce2)=>zce c body n sl2 ce2
   | some (.go .ct sl2 ce2)=>zce c body n sl2 ce2
   | some (.go .bk sl2 ce2)=>some (.go .nx sl2 ce2)
   | o=>o
section
variable {X:Cx} {G:Ga} {E:XK} {tg iter t:Expr} {body:List Stmt} {di:Sl->M Src} {g:DG} {b:DS} {c:Sl->M Bool} {pos:Pos}
theorem zgi{D:Ends}{F:Hp}{as:List Addr}{N:VS.St->Hp->Prop}{k:DS}{r:Option O}(P:PostS G E D F as (match r with
   | some (.go .nx sl2 ce2)=>k sl2 ce2
   | some (.go .ct sl2 ce2)=>k sl2 ce2
   | some (.go .bk sl2 ce2)=>some (.go .nx sl2 ce2)
   | o=>o))(hN:∀σ H F' as' sl ce,Le F as F' as'->SR G F' as' H σ sl ce->PostS G E D F' as' (k sl ce)->N σ H):PostS G E { D with nx:=N,ct:=N,bk:=D.nx } F as r:=by
 cases r with
 | none=>exact P
 | some r=>cases r with
  | ex x ce'=>exact P
  | go f sl' ce'=>cases f with
   | nx=>exact fun σ' H' F' as' l S'=>hN σ' H' F' as' sl' ce' l S' (P.le l)
   | ct=>exact fun σ' H' F' as' l S'=>hN σ' H' F' as' sl' ce' l S' (P.le l)
   | bk=>exact fun σ' H' F' as' l S'=>P σ' H' F' as' l S'
   | rt w=>exact fun σ' H' F' as' l S'=>P σ' H' F' as' l S'
theorem za9(hp:PassesOwn (model X.prog X.w) X.A X.env X.xe)(hc:X.calm=true)(hi:PI X tg iter (zkY G E X.K di))(hg:PGv G X tg g)(hb:PSs X body (toTS G E b))(hs:∀x,foldedSetIterable iter X.env x=pure x:=by intro _;rfl):PS X (.For tg iter body [] pos) (toTS G E (zcN di g b)):=by
 obtain⟨tgt,hg,qg⟩:=hg
 refine PS.imp (zoF hp hc hi hg hb hs) fun D σ H zz_=>el6 zz_ fun F as sl ce S P=>(zde (RP:=IRep X.K) S P).mono fun J H1 zz_=>el8 zz_ fun s F1 as1 ce1 l1 S1 rJ P1=>?_
 refine⟨fun i m σ H=>∃F as sl ce,SR G F as H σ sl ce/\IRep X.K F as s J/\m=s.items.length-i/\i<=s.items.length/\PostS G E D F as (zhF s g b (s.items.drop i) sl ce),⟨s.items.length,F1,as1,sl,ce1,S1,rJ,rfl,Nat.zero_le _,P1⟩,?_⟩
 rintro i m σ H ⟨F,as,sl,ce,S,rJ,rfl,hi,P⟩
 by_cases hlt:i<s.items.length
 ·rw[List.drop_eq_getElem_cons hlt] at P
  simp only[zhF] at P
  split at P
  ·rename_i hst
   obtain⟨t1,t2⟩:=rJ.turn S.st hst i
   obtain⟨go,yl⟩:=t1 hlt
   refine .inr ⟨go,_,fun σ' H' h=>h,fun x H' y=>?_⟩
   obtain⟨rfl,w,hw,rw'⟩:=yl x H' y
   rw[List.getElem?_eq_getElem hlt] at hw
   cases hw
   split at P
   ·rename_i sl1 ce1 eg
    refine qg F as H' σ sl ce _ x sl1 ce1 _ S rw' eg fun σ' H2 F' as' l S'=>⟨F',as',sl1,ce1,S',?_⟩
    refine zgi (P.le l) fun σ3 H3 F3 as3 sl3 ce3 l3 S3 P3=>?_
    exact⟨s.items.length-(i+1),by omega,F3,as3,sl3,ce3,S3,rJ.le (l.trans l3),rfl,hlt,P3⟩
   ·exact(show False from P).elim
  ·exact(show False from P).elim
 ·have e:i=s.items.length:=by omega
  subst e
  rw[List.drop_length] at P
  simp only[zhF] at P
  split at P
  ·rename_i hst
   exact .inl ⟨(rJ.turn S.st hst _).2 rfl,P.nxt S⟩
  ·exact(show False from P).elim
theorem zhG(n:Nat)(hp:PassesOwn (model X.prog X.w) X.A X.env X.xe)(hc:PT X t (zcn G E c))(hb:PSs X body (toTS G E b)):PS X (.While t body [] pos) (toTS G E (zce c b n)):=by
 refine PS.imp (zkv hp hc hb) fun D σ H zz_=>el6 zz_ fun F as sl ce S P=>?_
 refine⟨fun m σ H=>∃F as sl ce,SR G F as H σ sl ce/\PostS G E D F as (zce c b m sl ce),⟨n,F,as,sl,ce,S,P⟩,?_⟩
 rintro m σ H ⟨F,as,sl,ce,S,P⟩
 cases m with
 | zero=>exact(show False from P).elim
 | succ m =>
  refine(zde (RP:=rB) S P).mono fun x H1 zz_=>el8 zz_ fun wx F1 as1 ce1 l1 S1 rx P1=>?_
  have rx:wx=x:=rx
  subst rx
  cases wx
  ·rw[if_neg Bool.false_ne_true];exact P1.nxt S1
  ·rw[if_pos rfl]
   refine⟨fun σ' H'=>∃F as sl ce,SR G F as H' σ' sl ce/\PostS G E D F as (zce c b m sl ce),fun σ' H' h=>⟨m,Nat.lt_succ_self _,h⟩,F1,as1,sl,ce1,S1,?_⟩
   exact zgi P1 fun σ3 H3 F3 as3 sl3 ce3 l3 S3 P3=>⟨F3,as3,sl3,ce3,S3,P3⟩
end
def zcR(js:List Nat)(sl:Sl):Sl:=js.map fun j=>sl.getD j none
open Classical in
def lcL(s:Src)(cs:Sl)(c:Sl->M Bool)(e:Sl->M W):List W->List W->M (List W)
 | [],ys=>fun ce=>if s.Stays ce then some (.ok ys ce) else none
 | x::r,ys=>fun ce=>if s.Stays ce/\ys.length<sizeLine then bnd (c (some x::cs)) (fun t=>match t with
   | true=>bnd (e (some x::cs)) fun y=>lcL s cs c e r (ys++[y])
   | false=>lcL s cs c e r ys) ce else none
def dLC(mk:List W->M W)(js:List Nat)(i:Sl->M Src)(c:Sl->M Bool)(e:Sl->M W):Sl->M W:=fun sl=>bnd (i sl) fun s=>bnd (lcL s (zcR js sl) c e s.items []) mk
def zdf:Sl->M Bool:=fun _=>ret true
section
variable {X:Cx} {G:Ga} {E:XK} {elt iter:Expr} {x:Str} {px pos:Pos} {ifs:List Expr} {scope:Scope} {js:List Nat} {caps:List Str} {di:Sl->M Src} {c:Sl->M Bool} {e:Sl->M W} {mk:List W->M W}
theorem PIfs.imp{Y:Cx}{ifs:List Expr}{t t':TT}(h:PIfs Y ifs t)(q:∀σ H Q,t' σ H Q->t σ H Q):PIfs Y ifs t':=fun pins s σ H Q I z=>h pins s σ H Q I (q _ _ _ z)
theorem zbD{Y:Cx}:PIfs Y [] (zcn G E zdf):=PIfs.imp zkI fun σ H Q zz_=>el6 zz_ fun F as sl ce S P=>Post.done (RP:=rB) S (a:=true) P rfl
theorem zfe{Y:Cx}{t:Expr}(h:PT Y t (zcn G E c)):PIfs Y [t] (zcn G E c):=zkJ h
theorem SR.cap{F:Hp}{as:List Addr}{H:Hp}{σ:VS.St}{sl:Sl}{ce:Ce}(S:SR G F as H σ sl ce)(js:List Nat){w:W}{v:V}(r:Rep F as w v):SR G F as H (some v::zid js σ) (some w::zcR js sl) ce:=by
 refine⟨S.st,by simp[zid,zcR],fun i u h=>?_⟩
 cases i with
 | zero=>simp at h;subst h;exact⟨v,rfl,r⟩
 | succ i =>
  simp only[zcR,List.getElem?_cons_succ,List.getElem?_map] at h
  cases e:js[i]? with
  | none=>rw[e] at h;cases h
  | some j =>
   rw[e] at h
   have hj:sl[j]?=some (some u):=by
    have h':sl.getD j none=some u:=by simpa using h
    rw[List.getD_eq_getElem?_getD] at h'
    cases q:sl[j]? with
    | none=>rw[q] at h';cases h'
    | some z=>rw[q] at h';simp at h';rw[h']
   obtain⟨v',h1,h2⟩:=S.slot j u hj
   refine⟨v',?_,h2⟩
   simp only[zid,List.getElem?_cons_succ,List.getElem?_map,e,Option.map_some,List.getD_eq_getElem?_getD,h1,Option.getD_some]
theorem zpb{α β γ δ:Type}{RP:Hp->List Addr->α->β->Prop}{RQ:Hp->List Addr->γ->δ->Prop}{F:Hp}{as:List Addr}{H:Hp}{σ σ':VS.St}{sl sl':Sl}{ce:Ce}{d:Sl->M α}{f:α->M γ}{Q:δ->Hp->Prop}(S:SR G F as H σ sl ce)(S':SR G F as H σ' sl' ce)(P:Post G E RQ F as σ sl Q (bnd (d sl') f ce)) :
  toT G E RP d σ' H fun b H2=>∃a F' as' ce',Le F as F' as'/\SR G F' as' H2 σ sl ce'/\SR G F' as' H2 σ' sl' ce'/\RP F' as' a b/\Post G E RQ F' as' σ sl Q (f a ce'):=by
 refine⟨F,as,sl',ce,S',?_⟩
 revert P
 unfold bnd
 cases d sl' ce with
 | none=>exact fun P=>P
 | some r=>cases r with
  | ok a ce'=>exact fun P b H' F' as' l S2 r=>⟨a,F',as',ce',l,S.slots S2.st l,S2,r,P.le l⟩
  | ex x ce'=>exact fun P=>P
theorem zgj{α β γ:Type}(m:M α)(f:α->M β)(g:β->M γ):bnd (bnd m f) g=bnd m fun a=>bnd (f a) g:=by
 funext ce
 unfold bnd
 cases m ce with
 | none=>rfl
 | some r=>cases r<;>rfl
theorem zjv{α β:Type}{m m':M α}{g:α->M β}{ce:Ce}(h:m ce=m' ce):bnd m g ce=bnd m' g ce:=by simp only[bnd,h]
theorem zff{s:Src}{cs:Sl}{c:Sl->M Bool}{e:Sl->M W}{x:W}{r ys:List W}{ce:Ce}(h:s.Stays ce/\ys.length<sizeLine):lcL s cs c e (x::r) ys ce=bnd (c (some x::cs)) (fun t=>match t with
   | true=>bnd (e (some x::cs)) fun y=>lcL s cs c e r (ys++[y])
   | false=>lcL s cs c e r ys) ce:=by simp only[lcL,if_pos h]
theorem zpc{s:Src}{cs:Sl}{c:Sl->M Bool}{e:Sl->M W}{x:W}{r ys:List W}{ce:Ce}(h:¬(s.Stays ce/\ys.length<sizeLine)):lcL s cs c e (x::r) ys ce=none:=by simp only[lcL,if_neg h]
theorem zmb(hm:MkL G E mk)(σ:L2.St)(H:Hp)(Q:VK)(h:zam G E (dLC mk js di c e) σ H Q):tLC js (zkY G E X.K di) (zcn G E c) (zam G E e) σ H Q:=by
 obtain⟨F,as,sl,ce,S,P⟩:=h
 refine(step (RP:=IRep X.K) S P).mono fun J H1 zz_=>el8 zz_ fun s F1 as1 ce1 l1 S1 rJ P1=>?_
 refine⟨fun i m ys H=>∃F as ce ws,SR G F as H σ sl ce/\IRep X.K F as s J/\m=s.items.length-i/\i<=s.items.length/\Reps F as ws ys/\Post G E Rep F as σ sl Q (bnd (lcL s (zcR js sl) c e (s.items.drop i) ws) mk ce),⟨s.items.length,F1,as1,ce1,[],S1,rJ,rfl,Nat.zero_le _,.nil,P1⟩,?_⟩
 rintro i m ys H ⟨F,as,ce,ws,S,rJ,rfl,hi,rs,P⟩
 by_cases hlt:i<s.items.length
 ·rw[List.drop_eq_getElem_cons hlt] at P
  by_cases hst:s.Stays ce/\ws.length<sizeLine
  ·obtain⟨go,yl⟩:=(rJ.turn S.st hst.1 i).1 hlt
   refine .inr ⟨go,by rw[rs.length];exact hst.2,_,fun ys' H' h=>h,fun x H' y=>?_⟩
   obtain⟨rfl,w,hw,rw'⟩:=yl x H' y
   rw[List.getElem?_eq_getElem hlt] at hw
   cases hw
   have P':=P
   rw[zjv (zff hst)] at P'
   rw[zgj] at P'
   refine(zpb (RP:=rB) S (S.cap js rw') P').mono fun b H2 ⟨t,F2,as2,ce2,l2,S2,S2',rt,P2⟩=>?_
   have rt:t=b:=rt
   subst rt
   cases t
   ·rw[if_neg Bool.false_ne_true]
    exact⟨s.items.length-(i+1),by omega,F2,as2,ce2,ws,S2,rJ.le l2,rfl,hlt,rs.le l2,P2⟩
   ·rw[if_pos rfl]
    dsimp only at P2
    rw[zgj] at P2
    refine(zpb (RP:=Rep) S2 S2' P2).mono fun y H3 ⟨wy,F3,as3,ce3,l3,S3,S3',ry,P3⟩=>?_
    exact⟨s.items.length-(i+1),by omega,F3,as3,ce3,ws++[wy],S3,rJ.le (l2.trans l3),rfl,hlt,(rs.le (l2.trans l3)).append (.cons ry .nil),P3⟩
  ·have P':=P
   simp only[bnd,zpc hst] at P'
   exact(show False from P').elim
 ·have e':i=s.items.length:=by omega
  subst e'
  rw[List.drop_length] at P
  by_cases hst:s.Stays ce
  ·have eq:bnd (lcL s (zcR js sl) c e [] ws) mk ce=mk ws ce:=by simp only[bnd,lcL,if_pos hst]
   rw[eq] at P
   exact .inl ⟨(rJ.turn S.st hst _).2 rfl,(hm S rs P).2⟩
  ·have eq:bnd (lcL s (zcR js sl) c e [] ws) mk ce=none:=by simp only[bnd,lcL,if_neg hst]
   rw[eq] at P
   exact(show False from P).elim
theorem zgk(hm:MkL G E mk)(B:BlkS X.N X.env.scope js (x::caps) scope)(hc:X.calm=true)(hx:scope.names.lookup x=some .local)(hi:PI X (.Name x px) iter (zkY G E X.K di))(ht:∀C fp s₀ H₀,PIfs (blk X (x::caps) scope C fp s₀ H₀) ifs (zcn G E c))(he:∀C fp s₀ H₀,PE (blk X (x::caps) scope C fp s₀ H₀) elt (zam G E e))(hs:∀v,foldedSetIterable iter X.env v=pure v:=by intro _;rfl):PE X (.ListComp elt [⟨.Name x px,iter,ifs,0⟩] scope pos) (zam G E (dLC mk js di c e)):=PE.imp (zqZ B hc hx hi ht he hs) (zmb hm)
theorem zkZ{y:Str}{py spos:Pos}{k:Nat}(hm:MkL G E mk)(B:BlkS X.N X.env.scope js (x::caps) scope)(hc:X.calm=true)(hx:scope.names.lookup x=some .local)(hi:PI X (.Name x px) iter (zkY G E X.K di))(ht:∀C fp s₀ H₀,PIfs (blk X (x::caps) scope C fp s₀ H₀) ifs (zcn G E c))(he:∀C fp s₀ H₀,PE (blk X (x::caps) scope C fp s₀ H₀) elt (zam G E e))(hN:X.N.Nodup)(hk:X.N[k]?=some y)(hy:X.env.scope.names.lookup y=some .local)(hsw:swapsWith (.ListComp elt [⟨.Name x px,iter,ifs,0⟩] scope pos) (some (.Name y py)) spos.line X.env=pure true)(hs:∀v,foldedSetIterable iter X.env v=pure v:=by intro _;rfl):PS X (.Assign [.Name y py] (.ListComp elt [⟨.Name x px,iter,ifs,0⟩] scope pos) spos) (toTS G E (zbj k (dLC mk js di c e))):=by
 refine PS.imp (zq0 B hc hx hi ht he hN hk hy hsw hs) fun D σ H zz_=>el6 zz_ fun F as sl ce S P=>?_
 refine zmb (X:=X) hm σ H _ ((zde S P).mono fun x H1 zz_=>el8 zz_ fun wx F1 as1 ce1 l1 S1 rx P1=>?_)
 exact P1 _ H1 F1 as1 .refl (S1.put rx k)
end
end
end VS
namespace VS
open PySem PySem.Spec PyProof.Rows L2
section
mutual
def Bel(n:Nat):W->Prop
 | .cel k=>k<n
 | .lst xs=>zdr n xs
 | .tup xs=>zdr n xs
 | .non=>True
 | .bl _=>True
 | .int _=>True
 | .str _=>True
 | .ty _=>True
def zdr(n:Nat):List W->Prop
 | []=>True
 | x::xs=>Bel n x/\zdr n xs
end
mutual
theorem Rep.bel{F:Hp}{as:List Addr}:∀{w:W} {v:V},Rep F as w v->Bel as.length w
 | .non,_,_=>by simp only[Bel]
 | .bl _,_,_=>by simp only[Bel]
 | .int _,_,_=>by simp only[Bel]
 | .str _,_,_=>by simp only[Bel]
 | .ty _,_,_=>by simp only[Bel]
 | .lst xs,_,r=>by
  simp only[Rep] at r
  obtain⟨a,vs,_,_,s⟩:=r
  simp only[Bel]
  exact Reps.bel s
 | .tup xs,_,r=>by
  simp only[Rep] at r
  obtain⟨a,vs,_,_,s⟩:=r
  simp only[Bel]
  exact Reps.bel s
 | .cel k,_,r=>by
  simp only[Rep] at r
  obtain⟨a,_,h⟩:=r
  simp only[Bel]
  exact zao h
theorem Reps.bel{F:Hp}{as:List Addr}:∀{ws:List W} {vs:List V},Reps F as ws vs->zdr as.length ws
 | [],_,_=>by simp only[zdr]
 | _::_,_,r=>by
  simp only[Reps] at r
  obtain⟨v,vs',_,h,t⟩:=r
  simp only[zdr]
  exact⟨Rep.bel h,Reps.bel t⟩
end
mutual
theorem Rep.cut{F:Hp}{as as':List Addr}{n:Nat}(hl:∀k,k<n->as'[k]?=as[k]?):∀{w:W} {v:V},Bel n w->Rep F as w v->Rep F as' w v
 | .non,_,_,r=>by simpa only[Rep] using r
 | .bl _,_,_,r=>by simpa only[Rep] using r
 | .int _,_,_,r=>by simpa only[Rep] using r
 | .str _,_,_,r=>by simpa only[Rep] using r
 | .ty _,_,_,r=>by simpa only[Rep] using r
 | .lst xs,_,b,r=>by
  simp only[Rep] at r ⊢
  simp only[Bel] at b
  obtain⟨a,vs,h1,h2,s⟩:=r
  exact⟨a,vs,h1,h2,Reps.cutS hl b s⟩
 | .tup xs,_,b,r=>by
  simp only[Rep] at r ⊢
  simp only[Bel] at b
  obtain⟨a,vs,h1,h2,s⟩:=r
  exact⟨a,vs,h1,h2,Reps.cutS hl b s⟩
 | .cel k,_,b,r=>by
  simp only[Rep] at r ⊢
  simp only[Bel] at b
  obtain⟨a,h1,h⟩:=r
  exact⟨a,h1,by rw[hl k b];exact h⟩
theorem Reps.cutS{F:Hp}{as as':List Addr}{n:Nat}(hl:∀k,k<n->as'[k]?=as[k]?):∀{ws:List W} {vs:List V},zdr n ws->Reps F as ws vs->Reps F as' ws vs
 | [],_,_,r=>by simpa only[Reps] using r
 | _::_,_,b,r=>by
  simp only[Reps] at r ⊢
  simp only[zdr] at b
  obtain⟨v,vs',h1,h,t⟩:=r
  exact⟨v,vs',h1,Rep.cut hl b.1 h,Reps.cutS hl b.2 t⟩
end
def zim(n:Nat):C->Prop
 | .lst xs=>zdr n xs
 | .dct kvs=>∀p∈kvs,Bel n p.2
 | .ins _ fs=>∀p∈fs,Bel n p.2
 | .exn _=>True
 | .dead=>True
 | .fzd kvs=>∀p∈kvs,Bel n p.2
 | .dtp kvs=>∀p∈kvs,Bel n p.2
theorem RepKV.bel{κ:Type}{F:Hp}{as:List Addr}{kvs:List (κ×W)}{ps:List (κ×V)}(r:RepKV F as kvs ps):∀p∈kvs,Bel as.length p.2:=by
 induction r with
 | nil=>simp
 | cons h t ih =>
  intro p hp
  rcases List.mem_cons.mp hp with rfl|hp
  ·exact h.2.bel
  ·exact ih p hp
theorem RepKV.cut{κ:Type}{F:Hp}{as as':List Addr}{n:Nat}(hl:∀k,k<n->as'[k]?=as[k]?){kvs:List (κ×W)}{ps:List (κ×V)}(b:∀p∈kvs,Bel n p.2)(r:RepKV F as kvs ps):RepKV F as' kvs ps:=by
 induction r with
 | nil=>exact .nil
 | cons h t ih=>exact .cons ⟨h.1,h.2.cut hl (b _ List.mem_cons_self)⟩ (ih fun p hp=>b p (List.mem_cons_of_mem _ hp))
section
variable {G:Ga} {F:Hp} {as as':List Addr} {H:Hp} {a:Addr} {c:C} {n:Nat}
theorem CRep.bel(h:CRep G F as H a c):zim as.length c:=by
 cases c with
 | lst xs=>obtain⟨vs,_,r⟩:=h;exact r.bel
 | dct xs=>obtain⟨vs,_,r⟩:=h;exact r.bel
 | ins c xs=>obtain⟨dx,vs,_,r⟩:=h;exact r.bel
 | exn c=>trivial
 | dead=>trivial
 | fzd xs=>obtain⟨o,ps,_,_,r⟩:=h;exact r.bel
 | dtp xs=>obtain⟨vs,_,r⟩:=h;exact r.bel
theorem CRep.cut(hl:∀k,k<n->as'[k]?=as[k]?)(b:zim n c)(h:CRep G F as H a c):CRep G F as' H a c:=by
 cases c with
 | lst xs=>obtain⟨vs,e,r⟩:=h;exact⟨vs,e,r.cutS hl b⟩
 | dct xs=>obtain⟨vs,e,r⟩:=h;exact⟨vs,e,RepKV.cut hl b r⟩
 | ins c xs=>obtain⟨dx,vs,e,r⟩:=h;exact⟨dx,vs,e,RepKV.cut hl b r⟩
 | exn c=>exact h
 | dead=>exact h
 | fzd xs=>obtain⟨o,ps,e1,e2,r⟩:=h;exact⟨o,ps,e1,e2,RepKV.cut hl b r⟩
 | dtp xs=>obtain⟨vs,e,r⟩:=h;exact⟨vs,e,RepKV.cut hl b r⟩
end
def zfg(ce ce':Ce):Prop:=ce.length<=ce'.length/\∀(k:Nat) (c:C),k<ce.length->ce'[k]?=some c->ce[k]?=some c\/zim ce.length c
section
variable {G:Ga} {F F':Hp} {as as':List Addr} {H H':Hp} {ce ce':Ce}
theorem zbs{α:Type}{l:List α}{n k:Nat}(h:k<n):(l.take n)[k]?=l[k]?:=List.getElem?_take_of_lt h
theorem Store.cut(S:Store G F as H ce)(S':Store G F' as' H' ce')(l:Le F as F' as')(h:zfg ce ce'):Store G F' (as'.take ce.length) H' (ce'.take ce.length)/\Le F as F' (as'.take ce.length):=by
 have hl:∀k,k<ce.length->(as'.take ce.length)[k]?=as'[k]?:=fun k hk=>zbs hk
 refine⟨⟨S'.sub,S'.nd.sublist (List.take_sublist _ _),by rw[List.length_take,List.length_take,S'.len],fun k a c h1 h2=>?_⟩,l.f,fun k a e=>?_⟩
 ·have hk:k<ce.length:=by have:=zao h2;rw[List.length_take] at this;omega
  rw[zbs hk] at h1 h2
  obtain⟨q1,q2⟩:=S'.cell k a c h1 h2
  refine⟨q1,q2.cut hl ?_⟩
  rcases h.2 k c hk h2 with h3|h3
  ·obtain⟨a0,e0,_,q0⟩:=S.at h3
   rw[<- S.len];exact q0.bel
  ·exact h3
 ·have hk:k<ce.length:=by rw[<- S.len];exact zao e
  rw[zbs hk];exact l.c k a e
end
open Classical in
def finC(ce ce':Ce)(w:W):Option (R W):=if zfg ce ce'/\Bel ce.length w then some (.ok w (ce'.take ce.length)) else none
open Classical in
def finO(ce ce':Ce)(w:W):Option (R W):=match w with
 | .cel k=>match ce'[k]? with
  | some c=>if zfg ce ce'/\ce.length<=k/\zim ce.length c then some (.ok (.cel ce.length) (ce'.take ce.length++[c])) else none
  | none=>none
 | _=>none
def zni(_ce ce':Ce)(w:W):Option (R W):=some (.ok w ce')
def zk0(G:Ga)(fin:Ce->Ce->W->Option (R W)):Prop:=∀(F F':Hp) (as as':List Addr) (H H':Hp) (ce ce':Ce) (w:W) (v:V) (r:R W),Store G F as H ce->Store G F' as' H' ce'->Le F as F' as'->Rep F' as' w v->fin ce ce' w=some r ->
 ∃w2 ce2 as2,r=.ok w2 ce2/\Le F as F' as2/\Store G F' as2 H' ce2/\Rep F' as2 w2 v
theorem znj{G:Ga}:zk0 G zni:=fun F F' as as' H H' ce ce' w v r S S' l rw' e=>by
 cases e
 exact⟨w,ce',as',rfl,l,S',rw'⟩
theorem zcz{G:Ga}:zk0 G finC:=fun F F' as as' H H' ce ce' w v r S S' l rw' e=>by
 unfold finC at e
 split at e
 ·rename_i h
  cases e
  obtain⟨S2,l2⟩:=S.cut S' l h.1
  exact⟨w,_,_,rfl,l2,S2,rw'.cut (fun k hk=>zbs hk) h.2⟩
 ·cases e
theorem zin{G:Ga}:zk0 G finO:=fun F F' as as' H H' ce ce' w v r S S' l rw' e=>by
 cases w<;>simp only[finO,reduceCtorEq] at e
 rename_i k
 split at e
 ·rename_i c hc
  split at e
  ·rename_i h
   obtain⟨h1,h2,h3⟩:=h
   cases e
   obtain⟨S2,l2⟩:=S.cut S' l h1
   simp only[Rep] at rw'
   obtain⟨a,rfl,ha⟩:=rw'
   obtain⟨q1,q2⟩:=S'.cell k a c ha hc
   have hlen:(as'.take ce.length).length=ce.length:=by rw[List.length_take,S'.len];exact Nat.min_eq_left h1.1
   have hlen2:(ce'.take ce.length).length=ce.length:=by rw[List.length_take];exact Nat.min_eq_left h1.1
   have l3:Le F' (as'.take ce.length) F' (as'.take ce.length++[a]):=⟨fun _ _ h=>h,fun j b hb=>by rw[List.getElem?_append_left (zao hb)];exact hb⟩
   refine⟨_,_,as'.take ce.length++[a],rfl,l2.trans l3,⟨S'.sub,?_,by rw[List.length_append,List.length_append,hlen,hlen2];rfl,fun j b c' e1 e2=>?_⟩,?_⟩
   ·rw[List.nodup_append]
    refine⟨S2.nd,by simp,fun b hb d hd=>?_⟩
    rw[List.mem_singleton] at hd
    subst hd
    rintro rfl
    obtain⟨j,hj⟩:=List.getElem?_of_mem hb
    have hj1:j<ce.length:=by have:=zao hj;omega
    rw[zbs hj1] at hj
    have ha':=zao ha
    have hj':=zao hj
    rw[List.getElem?_eq_getElem ha'] at ha
    rw[List.getElem?_eq_getElem hj'] at hj
    have:=zf9 S'.nd ha' hj' ((Option.some.inj ha).trans (Option.some.inj hj).symm)
    omega
   ·by_cases hj:j<ce.length
    ·rw[List.getElem?_append_left (by omega)] at e1 e2
     obtain⟨p1,p2⟩:=S2.cell j b c' e1 e2
     exact⟨p1,p2.le l3 rfl⟩
    ·rw[List.getElem?_append_right (by omega),hlen] at e1
     rw[List.getElem?_append_right (by omega),hlen2] at e2
     have hz:j-ce.length=0:=by
      cases q:j-ce.length with
      | zero=>rfl
      | succ m=>rw[q] at e1;simp at e1
     rw[hz] at e1 e2
     simp at e1 e2
     subst e1;subst e2
     exact⟨q1,(q2.cut (n:=ce.length) (fun i hi=>zbs hi) h3).le l3 rfl⟩
   ·simp only[Rep]
    exact⟨a,rfl,by rw[List.getElem?_append_right (by omega),hlen];simp⟩
  ·cases e
 ·cases e
open Classical in
def dFn(fin:Ce->Ce->W->Option (R W))(n:Nat)(body:DS):List W->M W:=fun ws ce=>match body (ws.map some++List.replicate (n-ws.length) none) ce with
 | some (.go (.rt w) _ ce')=>fin ce ce' w
 | some (.go .nx _ ce')=>fin ce ce' .non
 | some (.ex x ce')=>if zfg ce ce' then some (.ex x (ce'.take ce.length)) else none
 | _=>none
def PostF(G:Ga)(E:XK)(F:Hp)(as:List Addr)(Q:VK):Option (R W)->Prop
 | some (.ok w ce')=>∀v H' F' as',Le F as F' as'->Store G F' as' H' ce'->Rep F' as' w v->Q v H'
 | some (.ex x ce')=>∀H' F' as' cv od,Le F as F' as'->Store G F' as' H' ce'->G.xr x cv od H'->E cv od H'
 | none=>False
def spV(G:Ga)(fe:XK->XK)(n:Nat)(d:List W->M W):Sp:=fun vs H Q E=>vs.length=n/\∃F as ws ce,Store G F as H ce/\Reps F as ws vs/\PostF G (fe E) F as Q (d ws ce)
theorem zk1{G:Ga}{F:Hp}{as:List Addr}{H:Hp}{ce:Ce}{ws:List W}{vs:List V}(S:Store G F as H ce)(rs:Reps F as ws vs)(N:List Str):SR G F as H (L2.start N vs) (ws.map some++List.replicate (N.length-ws.length) none) ce:=by
 have hl:=rs.length
 refine⟨S,by unfold L2.start;simp[hl],fun i w h=>?_⟩
 have hi:i<ws.length:=by
  by_cases hi:i<ws.length
  ·exact hi
  ·rw[List.getElem?_append_right (by simpa using hi),List.getElem?_replicate] at h
   split at h<;>cases h
 rw[List.getElem?_append_left (by simpa using hi),List.getElem?_map] at h
 cases e:ws[i]? with
 | none=>rw[e] at h;cases h
 | some w' =>
  rw[e] at h
  simp only[Option.map_some,Option.some.injEq] at h
  subst h
  obtain⟨v,h1,h2⟩:=rs.get e
  refine⟨v,?_,h2⟩
  unfold L2.start
  rw[List.getElem?_append_left (by simp;omega),List.getElem?_map,h1]
  rfl
theorem zaG{G:Ga}{E:XK}{F:Hp}{as:List Addr}{H:Hp}{ce:Ce}{ws:List W}{vs:List V}{Q:VK}{fin:Ce->Ce->W->Option (R W)}{body:DS}(hf:zk0 G fin)(N:List Str)(S:Store G F as H ce)(rs:Reps F as ws vs)(P:PostF G E F as Q (dFn fin N.length body ws ce)) :
  toTS G E body { nx:=fun _ H'=>Q .non H',rt:=Q } (L2.start N vs) H:=by
 refine⟨F,as,_,ce,zk1 S rs N,?_⟩
 revert P
 unfold dFn
 have key:∀{w:W} {ce':Ce},PostF G E F as Q (fin ce ce' w)->∀v H' F' as',Le F as F' as'->Store G F' as' H' ce'->Rep F' as' w v->Q v H':=by
  intro w ce' P v H' F' as' l S' rw'
  cases e:fin ce ce' w with
  | none=>rw[e] at P;exact P.elim
  | some r =>
   obtain⟨w2,ce2,as2,rfl,l2,S2,r2⟩:=hf F F' as as' H H' ce ce' w v r S S' l rw' e
   rw[e] at P
   exact P v H' F' as2 l2 S2 r2
 cases body (ws.map some++List.replicate (N.length-ws.length) none) ce with
 | none=>exact fun P=>P
 | some o=>cases o with
  | ex x ce' =>
   intro P H' F' as' cv od l S' hx
   dsimp only at P
   split at P
   ·rename_i h
    obtain⟨S2,l2⟩:=S.cut S' l h
    exact P H' F' _ cv od l2 S2 hx
   ·exact P.elim
  | go f sl' ce'=>cases f with
   | nx=>exact fun P σ' H' F' as' l S'=>key P .non H' F' as' l S'.st (by simp only[Rep])
   | bk=>exact fun P=>P.elim
   | ct=>exact fun P=>P.elim
   | rt w=>exact fun P σ' H' F' as' l S' v r=>key P v H' F' as' l S'.st r
def zbo(n:Nat)(f:List W->M W)(args:Sl->M (List W)):Sl->M W:=fun sl=>bnd (args sl) fun ws=>if ws.length=n then f ws else zga
section
variable {X:Cx} {G:Ga} {E E1:XK} {CX:CXT} {k n:Nat} {f:Addr} {fd:FuncData} {ps:List Str} {df:List W->M W} {x:Str} {p pos:Pos} {e:Expr} {es:List Expr} {dr:Sl->M (List W)} {fe:XK->XK}
theorem PostF.of{F:Hp}{as:List Addr}{H:Hp}{σ:VS.St}{sl:Sl}{ce:Ce}{Q:VK}{r:Option (R W)}(S:SR G F as H σ sl ce)(P:Post G E Rep F as σ sl Q r):PostF G E F as Q r:=by
 cases r with
 | none=>exact P
 | some r=>cases r with
  | ok w ce'=>exact fun v H' F' as' l S' rv=>P v H' F' as' l (S.slots S' l) rv
  | ex y ce'=>exact P
theorem zaM(Fk:FnOk X.prog X.w X.K X.mg X.base CX k f fd ps (spV G fe n df))(hr:Room k X.A)(hg:Gl X x)(hm:X.mg x=some (.ref f))(hk:PySem.W.keepIn X.K (.ref f)=true)(hb:Binds X.K fd ps [])(hx:zcA CX X E1)(ha:PA X (e::es) (zgP G E dr))(hfe:fe E1=E:=by rfl)(hdb:(x==("__debug__" : Str))=false:=by decide)(he:starEach (e::es) X.env=(false,eval e X.env)::starEach es X.env:=by rfl)(hpl:(backTo pos (starEach es X.env)).any (·.1)=false:=by rfl) :
  PE X (.Call (.Name x p) (e::es) [] pos) (zam G E (zbo n df dr)):=by
 refine PE.imp (zmQ Fk hr hg hm hk hb .nil hx ha hdb he hpl) fun σ H Q zz_=>el6 zz_ fun F as sl ce S P=>(step (RP:=Reps) S P).mono fun vs H1 zz_=>el8 zz_ fun ws F1 as1 ce1 l1 S1 rs P1=>?_
 split at P1
 ·rename_i hn
  rw[List.append_nil]
  exact⟨by rw[rs.length];exact hn,F1,as1,ws,ce1,S1.st,rs,by rw[hfe];exact PostF.of S1 P1⟩
 ·exact(show False from P1).elim
end
open Classical in
def zgU(d:List W->M W):List W->M W:=fun ws ce=>match d ws ce with
 | some (.ok (.cel k) ce')=>match ce'[k]? with
  | some (.lst xs)=>if zfg ce ce'/\k=ce.length/\zdr ce.length xs then some (.ok (.lst xs) (ce'.take ce.length)) else none
  | _=>none
 | some (.ok w ce')=>some (.ok w ce')
 | r=>r
theorem zdT{P:Program}{w:World}{K:PySem.W.Frag}{mg:Str->Option Value}{base:Heap}{CX:CXT}{k n:Nat}{f:Addr}{fd:FuncData}{ps:List Str}{G:Ga}{fe:XK->XK}{d:List W->M W}(h:FnOk P w K mg base CX k f fd ps (spV G fe n d)):FnOk P w K mg base CX k f fd ps (spV G fe n (zgU d)):=by
 refine h.imp fun vs H Q E ⟨hl,F,as,ws,ce,S,rs,Pf⟩=>⟨hl,F,as,ws,ce,S,rs,?_⟩
 revert Pf
 unfold zgU
 cases d ws ce with
 | none=>exact fun P=>P
 | some r=>cases r with
  | ex x ce'=>exact fun P=>P
  | ok w ce' =>
   cases w<;>first|exact fun P=>P|skip
   rename_i j
   dsimp only
   intro Pf v H' F' as' l S' rv
   simp only[Rep] at rv
   obtain⟨a,rfl,ha⟩:=rv
   split at Pf
   ·rename_i xs hc
    split at Pf
    ·rename_i h
     obtain⟨h1,h2,h3⟩:=h
     obtain⟨q1,vs',hH,rs'⟩:=S'.cell j a _ ha hc
     have q1:=q1 rfl
     obtain⟨S2,l2⟩:=S.cut S' l h1
     have rs2:Reps F' (as'.take ce.length) xs vs':=rs'.cutS (fun i hi=>zbs hi) h3
     have l3:Le F' (as'.take ce.length) (upd F' a (.lst vs')) (as'.take ce.length):=⟨upd_sub q1,fun _ _ h=>h⟩
     refine Pf (.ref a) H' (upd F' a (.lst vs')) (as'.take ce.length) (l2.trans l3) ⟨fun b o e=>?_,S2.nd,S2.len,fun i b c e1 e2=>?_⟩ (by simp only[Rep];exact⟨a,vs',rfl,.inl zat,rs2.le l3⟩)
     ·by_cases hb:b=a
      ·subst hb;rw[zat] at e;cases e;exact hH
      ·rw[zau hb] at e;exact S2.sub _ _ e
     ·obtain⟨p1,p2⟩:=S2.cell i b c e1 e2
      have hb:b≠a:=by
       rintro rfl
       have hi:i<ce.length:=by have:=zao e2;rw[List.length_take] at this;omega
       rw[zbs hi] at e1
       have a1:=zao ha
       have a2:=zao e1
       rw[List.getElem?_eq_getElem a1] at ha
       rw[List.getElem?_eq_getElem a2] at e1
       have:=zf9 S'.nd a1 a2 ((Option.some.inj ha).trans (Option.some.inj e1).symm)
       omega
      exact⟨fun hn=>by rw[zau hb];exact p1 hn,p2.le l3 rfl⟩
    ·exact Pf.elim
   ·exact Pf.elim
end
end VS
namespace VS
open PySem PySem.Spec PyProof.Rows L2
section
def zfh:List W->Option (List Int)
 | []=>some []
 | .int i::r=>(zfh r).map (i::·)
 | _=>none
def zdU:List W->Option (List Bool)
 | []=>some []
 | .bl i::r=>(zdU r).map (i::·)
 | _=>none
def zgl:List (Key×W)->Option (List Int)
 | []=>some []
 | (.inl i,_)::r=>(zgl r).map (i::·)
 | _=>none
theorem zgm:∀ns:List Int,zfh (ns.map W.int)=some ns
 | []=>rfl
 | n::r=>by simp only[List.map_cons,zfh,zgm r,Option.map_some]
theorem zeR:∀ns:List Bool,zdU (ns.map W.bl)=some ns
 | []=>rfl
 | n::r=>by simp only[List.map_cons,zdU,zeR r,Option.map_some]
theorem zfi:∀{ws:List W} {ns:List Int},zfh ws=some ns->ws=ns.map W.int
 | [],ns,h=>by simp only[zfh,Option.some.injEq] at h;subst h;rfl
 | w::r,ns,h=>by
  cases w<;>simp only[zfh,reduceCtorEq,Option.map_eq_some_iff] at h
  obtain⟨ms,h1,rfl⟩:=h
  rw[zfi h1,List.map_cons]
theorem zgn:∀{ws:List W} {ns:List Bool},zdU ws=some ns->ws=ns.map W.bl
 | [],ns,h=>by simp only[zdU,Option.some.injEq] at h;subst h;rfl
 | w::r,ns,h=>by
  cases w<;>simp only[zdU,reduceCtorEq,Option.map_eq_some_iff] at h
  obtain⟨ms,h1,rfl⟩:=h
  rw[zgn h1,List.map_cons]
theorem zfj:∀{kvs:List (Key×W)} {ns:List Int},zgl kvs=some ns->kvs.map (·.1)=ns.map Sum.inl
 | [],ns,h=>by simp only[zgl,Option.some.injEq] at h;subst h;rfl
 | (k,w)::r,ns,h=>by
  cases k<;>simp only[zgl,reduceCtorEq,Option.map_eq_some_iff] at h
  obtain⟨ms,h1,rfl⟩:=h
  rw[List.map_cons,zfj h1,List.map_cons]
def srt(ns:List Int):List Int:=ns.mergeSort fun a b=>decide (a<=b)
theorem zbt(ns:List Int):(srt ns).Perm ns:=List.mergeSort_perm ns _
theorem zcv(ns:List Int):(srt ns).Pairwise (·<=·):=by
 have:=List.pairwise_mergeSort (le:=fun a b:Int=>decide (a<=b)) (fun a b c=>by simp;omega) (fun a b=>by simp;omega) ns
 exact this.imp fun h=>by simpa using h
theorem zb6:∀{a b:List Int},a.Perm b->a.Pairwise (·<=·)->b.Pairwise (·<=·)->a=b
 | [],b,p,_,_=>by rw[List.nil_perm] at p;exact p.symm
 | x::a,[],p,_,_=>by have:=p.length_eq;simp at this
 | x::a,y::b,p,sa,sb=>by
  rw[List.pairwise_cons] at sa sb
  have h1:x=y:=by
   have hx:x∈y::b:=p.subset List.mem_cons_self
   have hy:y∈x::a:=p.symm.subset List.mem_cons_self
   rcases List.mem_cons.mp hx with e|hx
   ·exact e
   ·rcases List.mem_cons.mp hy with e|hy
    ·exact e.symm
    ·have:=sb.1 x hx
     have:=sa.1 y hy
     omega
  subst h1
  rw[zb6 (List.Perm.cons_inv p) sa.2 sb.2]
theorem zmc{ms ns:List Int}(p:ms.Perm ns)(s:ms.Pairwise (·<=·)):ms=srt ns:=zb6 (p.trans (zbt ns).symm) s (zcv ns)
def dBi(f:List W->M W)(args:Sl->M (List W)):Sl->M W:=fun sl=>bnd (args sl) f
def Bi(G:Ga)(E:XK)(r:List V->Hp->VK->Prop)(f:List W->M W):Prop:=∀F as H σ sl ce ws vs Q,SR G F as H σ sl ce->Reps F as ws vs->Post G E Rep F as σ sl Q (f ws ce)->r vs H Q
open Classical in
def zcJ:List W->M W:=fun ws ce=>match ws with
 | [.str x]=>if x.length<=sizeLine then some (.ok (.int x.length) ce) else none
 | [w]=>match zeN ce w with
  | some xs=>some (.ok (.int xs.length) ce)
  | none=>match zoa ce w with
   | some kvs=>some (.ok (.int kvs.length) ce)
   | none=>none
 | _=>none
open Classical in
def za0(mk:List W->M W):List W->M W:=fun ws ce=>match ws with
 | [w]=>match zcQ ce w with
  | some xs=>match zfh xs with
   | some ns=>if ns.length<64 then mk ((srt ns).map W.int) ce else none
   | none=>none
  | none=>match zkj ce w with
   | some kvs=>match zgl kvs with
    | some ns=>if ns.length<64 then mk ((srt ns).map W.int) ce else none
    | none=>none
   | none=>none
 | _=>none
def zcS(mk:List W->M W):List W->M W:=fun ws ce=>match ws with
 | [w]=>match zeN ce w with
  | some xs=>mk xs ce
  | none=>match zkj ce w with
   | some kvs=>match zgl kvs with
    | some ns=>mk (ns.map W.int) ce
    | none=>none
   | none=>none
 | _=>none
def zbx:List W->M W:=fun ws ce=>match ws with
 | [.tup xs]=>some (.ok (.tup xs) ce)
 | [w]=>match zcQ ce w with
  | some xs=>zne xs ce
  | none=>none
 | _=>none
def zoc:List W->M W:=fun ws ce=>match ws with
 | [w]=>match zcQ ce w with
  | some xs=>match zdU xs with
   | some bs=>some (.ok (.bl (bs.all id)) ce)
   | none=>none
  | none=>none
 | _=>none
def zs7:List W->M W:=fun ws ce=>match ws with
 | [.int i,.int j]=>some (.ok (.int (if j<i then j else i)) ce)
 | _=>none
def zs8:List W->M W:=fun ws ce=>match ws with
 | [.int i,.int j]=>some (.ok (.int (if j>i then j else i)) ce)
 | _=>none
def tyW(ce:Ce):W->Option String
 | .non=>some "NoneType"
 | .bl _=>some "bool"
 | .int _=>some "int"
 | .str _=>some "str"
 | .lst _=>some "list"
 | .tup _=>some "tuple"
 | .cel k=>match ce[k]? with
  | some (.lst _)=>some "list"
  | some (.dct _)=>some "dict"
  | _=>none
 | .ty _=>none
def znk(a b:String):Bool:=a==b||(a == "bool" && b == "int")
def kinds:List String:=["NoneType", "bool", "int", "str", "list", "tuple", "dict"]
theorem zjw(K:PySem.W.Frag):∀a∈kinds,∀b∈["int", "bool", "list", "tuple", "str", "dict"],PySem.W.kitOne K (.type a) (.type b)=some (znk a b):=by
 have h:∀a∈kinds,∀b∈["int", "bool", "list", "tuple", "str", "dict"],(fun _:Unit=>PySem.W.kitOne K (.type a) (.type b)) ()=some (znk a b):=by
  intro a ha b hb
  simp only[kinds,List.mem_cons,List.not_mem_nil,or_false] at ha hb
  rcases ha with rfl|rfl|rfl|rfl|rfl|rfl|rfl<;>rcases hb with rfl|rfl|rfl|rfl|rfl|rfl<;>kernel_rfl
 exact h
def zio:List W->M W:=fun ws ce=>match ws with
 | [w,.ty T]=>match tyW ce w with
  | some t=>if (kinds.contains t&&["int", "bool", "list", "tuple", "str", "dict"].contains T)=true then some (.ok (.bl (znk t T)) ce) else none
  | none=>none
 | _=>none
section
variable {X:Cx} {G:Ga} {E:XK} {F:Hp} {as:List Addr} {H:Hp} {ce:Ce} {w:W} {v:V}
theorem CallR.or{f:Value}{r r':List V->Hp->VK->Prop}(h:CallR X f r)(h':CallR X f r'):CallR X f (fun xs H Q=>r xs H Q\/r' xs H Q):=by
 intro pins s σ H xs us Q I rx q
 rcases q with q|q
 ·exact h pins s σ H xs us Q I rx q
 ·exact h' pins s σ H xs us Q I rx q
theorem zb7{vs:List V}(h:Reps F as [w] vs):∃v,vs=[v]/\Rep F as w v:=by
 simp only[Reps] at h
 obtain⟨v,r,rfl,h1,rfl⟩:=h
 exact⟨v,rfl,h1⟩
theorem znl{w':W}{vs:List V}(h:Reps F as [w,w'] vs):∃v v',vs=[v,v']/\Rep F as w v/\Rep F as w' v':=by
 simp only[Reps] at h
 obtain⟨v,r,rfl,h1,v',r',rfl,h2,rfl⟩:=h
 exact⟨v,v',rfl,h1,h2⟩
def zpd(K:PySem.W.Frag):List V->Hp->VK->Prop:=fun xs H Q=>(∃x n,xs=[x]/\zrO K x H n/\Q (.int n) H)\/∃a kvs,xs=[V.ref a]/\H a=some (.dK kvs)/\Q (.int kvs.length) H
theorem zdg{K:PySem.W.Frag}(hK:X.K=K:=by rfl):CallR X (.builtin "len") (zpd K):=by subst hK;exact CallR.or zkB zjg
theorem zdh(K:PySem.W.Frag):Bi G E (zpd K) zcJ:=by
 intro F as H σ sl ce ws vs Q S rs P
 unfold zcJ at P
 split at P
 ·rename_i x
  split at P
  ·rename_i hl
   obtain⟨v,rfl,r⟩:=zb7 rs
   simp only[Rep] at r
   subst r
   exact .inl ⟨_,_,rfl,⟨hl,rfl⟩,P.done S (by simp only[Rep])⟩
  ·exact P.elim
 ·rename_i w _
  obtain⟨v,rfl,r⟩:=zb7 rs
  split at P
  ·rename_i xs hx
   obtain⟨a,us,rfl,h,rs'⟩:=zfb S.st r hx
   refine .inl ⟨_,us.length,rfl,?_,P.done S (by simp only[Rep];rw[rs'.length])⟩
   rcases h with h|h
   ·exact .inl ⟨us,.inl h,rfl⟩
   ·exact .inr ⟨us,.inl h,rfl⟩
  ·split at P
   ·rename_i kvs hd
    obtain⟨n,a,ps,rfl,rfl,ha,hH,rk⟩:=zjl S.st r hd
    exact .inr ⟨a,ps,rfl,hH,P.done S (by simp only[Rep];rw[rk.length])⟩
   ·exact P.elim
 ·exact P.elim
def zrZ(K:PySem.W.Frag):List V->Hp->VK->Prop:=fun xs H Q=>zmZ K xs H Q\/∃(a:Addr) (kvs:List (Key×V)) (ns:List Int),xs=[.ref a]/\Rd H a (.dK kvs)/\kvs.map (·.1)=ns.map Sum.inl/\ns.length<64 /\
  ∀ms:List Int,ms.Perm ns->ms.Pairwise (·<=·)->∀l,H l=none->Q (.ref l) (upd H l (.lst (ms.map V.int)))
theorem zjx{K:PySem.W.Frag}(hc:X.calm=true:=by rfl)(hK:X.K=K:=by rfl):CallR X (.builtin "sorted") (zrZ K):=by subst hK;exact CallR.or zgN (zf8 hc)
theorem RepKV.keys{kvs:List (Key×W)}{ps:List (Key×V)}(r:RepKV F as kvs ps):ps.map (·.1)=kvs.map (·.1):=by
 induction r with
 | nil=>rfl
 | cons h t ih=>rw[List.map_cons,List.map_cons,ih,h.1]
theorem zjy{mk:List W->M W}(K:PySem.W.Frag)(hm:MkL G E mk):Bi G E (zrZ K) (za0 mk):=by
 intro F as H σ sl ce ws vs Q S rs P
 unfold za0 at P
 split at P
 ·rename_i w
  obtain⟨v,rfl,r⟩:=zb7 rs
  split at P
  ·rename_i xs hx
   split at P
   ·rename_i ns hi
    split at P
    ·rename_i h64
     obtain⟨a,us,rfl,h,rs'⟩:=zb4 S.st r hx
     cases zfi hi
     cases rs'.of_ints
     refine .inl ⟨a,ns,rfl,.inl h,h64,fun ms p s l hl=>?_⟩
     rw[zmc p s]
     exact(hm S (Reps.ints (srt ns)) P).2 l hl
    ·exact P.elim
   ·exact P.elim
  ·split at P
   ·rename_i kvs hd
    split at P
    ·rename_i ns hk
     split at P
     ·rename_i h64
      obtain⟨n,a,ps,rfl,rfl,ha,hH,rk⟩:=zhA S.st r hd
      refine .inr ⟨a,ps,ns,rfl,hH,by rw[rk.keys];exact zfj hk,h64,fun ms p s l hl=>?_⟩
      rw[zmc p s]
      exact(hm S (Reps.ints (srt ns)) P).2 l hl
     ·exact P.elim
    ·exact P.elim
   ·exact P.elim
 ·exact P.elim
def zpe(K:PySem.W.Frag):List V->Hp->VK->Prop:=fun xs H Q=>zm0 K xs H Q\/∃(a:Addr) (kvs:List (Key×V)) (ns:List Int),xs=[.ref a]/\Rd H a (.dK kvs)/\kvs.map (·.1)=ns.map Sum.inl/\∀l,H l=none->Q (.ref l) (upd H l (.lst (ns.map V.int)))
theorem zdV{K:PySem.W.Frag}(hc:X.calm=true:=by rfl)(hK:X.K=K:=by rfl):CallR X (.type "list") (zpe K):=by subst hK;exact CallR.or zf5 (zig hc)
theorem zdW{mk:List W->M W}(K:PySem.W.Frag)(hm:MkL G E mk):Bi G E (zpe K) (zcS mk):=by
 intro F as H σ sl ce ws vs Q S rs P
 unfold zcS at P
 split at P
 ·rename_i w
  obtain⟨v,rfl,r⟩:=zb7 rs
  split at P
  ·rename_i xs hx
   obtain⟨a,us,rfl,h,rs'⟩:=zfb S.st r hx
   exact .inl ⟨a,us,rfl,h.imp .inl .inl,(hm S rs' P).2⟩
  ·split at P
   ·rename_i kvs hd
    split at P
    ·rename_i ns hk
     obtain⟨n,a,ps,rfl,rfl,ha,hH,rk⟩:=zhA S.st r hd
     exact .inr ⟨a,ps,ns,rfl,hH,by rw[rk.keys];exact zfj hk,(hm S (Reps.ints ns) P).2⟩
    ·exact P.elim
   ·exact P.elim
 ·exact P.elim
theorem zdi(K:PySem.W.Frag):Bi G E (zl1 K) zbx:=by
 intro F as H σ sl ce ws vs Q S rs P
 unfold zbx at P
 split at P
 ·rename_i xs
  obtain⟨v,rfl,r⟩:=zb7 rs
  have r':=r
  simp only[Rep] at r
  obtain⟨a,us,rfl,h,rs'⟩:=r
  exact⟨a,us,rfl,.inr ⟨.inl (.inl (S.st.sub _ _ h)),P.done S r'⟩⟩
 ·rename_i w _
  obtain⟨v,rfl,r⟩:=zb7 rs
  split at P
  ·rename_i xs hx
   obtain⟨a,us,rfl,h,rs'⟩:=zb4 S.st r hx
   exact⟨a,us,rfl,.inl ⟨.inl h,(zfc S rs' P).2⟩⟩
  ·exact P.elim
 ·exact P.elim
theorem zpf(K:PySem.W.Frag):Bi G E (zrV K) zoc:=by
 intro F as H σ sl ce ws vs Q S rs P
 unfold zoc at P
 split at P
 ·obtain⟨v,rfl,r⟩:=zb7 rs
  split at P
  ·rename_i xs hx
   split at P
   ·rename_i bs hb
    obtain⟨a,us,rfl,h,rs'⟩:=zb4 S.st r hx
    cases zgn hb
    cases rs'.of_bools
    exact⟨a,bs,rfl,.inl h,P.done S (by simp only[Rep])⟩
   ·exact P.elim
  ·exact P.elim
 ·exact P.elim
theorem zpg(S:Store G F as H ce)(r:Rep F as w v){t:String}(e:tyW ce w=some t)(K:PySem.W.Frag):TyOf K H v (.type t):=by
 have lst:∀{a:Addr} {vs:List V},Rd H a (.lst vs)->TyOf K H (.ref a) (.type "list"):=fun {a vs} h=>by
  rcases h with h|⟨o,h⟩
  ·exact .lst h
  ·exact .frz h
 cases w with
 | non=>simp only[tyW,Option.some.injEq] at e;simp only[Rep] at r;subst e r;exact .non
 | bl b=>simp only[tyW,Option.some.injEq] at e;simp only[Rep] at r;subst e r;exact .bl b
 | int b=>simp only[tyW,Option.some.injEq] at e;simp only[Rep] at r;subst e r;exact .int b
 | str b=>simp only[tyW,Option.some.injEq] at e;simp only[Rep] at r;subst e r;exact .str b
 | ty b=>simp only[tyW,reduceCtorEq] at e
 | lst xs =>
  simp only[tyW,Option.some.injEq] at e
  simp only[Rep] at r
  obtain⟨a,vs,rfl,h,_⟩:=r
  subst e
  exact lst (Rd.sub S h)
 | tup xs =>
  simp only[tyW,Option.some.injEq] at e
  simp only[Rep] at r
  obtain⟨a,vs,rfl,h,_⟩:=r
  subst e
  exact .tup (S.sub _ _ h)
 | cel k =>
  simp only[Rep] at r
  obtain⟨a,rfl,h⟩:=r
  simp only[tyW] at e
  split at e
  ·rename_i hc
   cases e
   obtain⟨_,vs,h2,rs⟩:=S.cell _ _ _ h hc
   exact .lst h2
  ·rename_i hc
   cases e
   obtain⟨_,vs,h2,rs⟩:=S.cell _ _ _ h hc
   exact .dK h2
  ·cases e
end
end
end VS
namespace VS
open PySem PySem.Spec PyProof.Rows L2
section
section
variable {X:Cx} {G:Ga} {E:XK} {x:Str} {p pos:Pos} {e:Expr} {es:List Expr} {dr:Sl->M (List W)} {id T:String} {r:List V->Hp->VK->Prop} {f:List W->M W}
theorem zk2(K:PySem.W.Frag):Bi G E (zq1 K) zio:=by
 intro F as H σ sl ce ws vs Q S rs P
 unfold zio at P
 split at P
 ·rename_i w T
  obtain⟨v,v',rfl,r,r'⟩:=znl rs
  simp only[Rep] at r'
  subst r'
  split at P
  ·rename_i t ht
   split at P
   ·rename_i hk
    rw[Bool.and_eq_true,List.contains_iff_mem,List.contains_iff_mem] at hk
    exact⟨v,T,_,_,rfl,zpg S.st r ht K,zjw K t hk.1 T hk.2,P.done S (by simp only[Rep])⟩
   ·exact P.elim
  ·exact P.elim
 ·exact P.elim
theorem zax(hc:CallR X (.builtin id) r)(hf:Bi G E r f)(hg:Gl X x)(hm:X.mg x=none)(hv:bootBuiltins x=some (.builtin id))(ha:PA X (e::es) (zgP G E dr))(hn:x ≠ "__name__" := by decide)(hdb:(x==("__debug__" : Str))=false:=by decide)(he:starEach (e::es) X.env=(false,eval e X.env)::starEach es X.env:=by rfl)(hpl:(backTo pos (starEach es X.env)).any (·.1)=false:=by rfl):PE X (.Call (.Name x p) (e::es) [] pos) (zam G E (dBi f dr)) :=
 PE.imp (zhp hc hg hm hv ha hn hdb he hpl) fun σ H Q zz_=>el6 zz_ fun F as sl ce S P=>(step (RP:=Reps) S P).mono fun vs H1 zz_=>el8 zz_ fun ws F1 as1 ce1 l1 S1 rs P1=>hf F1 as1 H1 σ sl ce1 ws vs Q S1 rs P1
theorem zaS(hc:CallR X (.type T) r)(hf:Bi G E r f)(hg:Gl X x)(hm:X.mg x=none)(hv:bootBuiltins x=some (.type T))(ha:PA X (e::es) (zgP G E dr))(hn:x ≠ "__name__" := by decide)(hdb:(x==("__debug__" : Str))=false:=by decide)(he:starEach (e::es) X.env=(false,eval e X.env)::starEach es X.env:=by rfl)(hpl:(backTo pos (starEach es X.env)).any (·.1)=false:=by rfl):PE X (.Call (.Name x p) (e::es) [] pos) (zam G E (dBi f dr)) :=
 PE.imp (zi1 hc hg hm hv ha hn hdb he hpl) fun σ H Q zz_=>el6 zz_ fun F as sl ce S P=>(step (RP:=Reps) S P).mono fun vs H1 zz_=>el8 zz_ fun ws F1 as1 ce1 l1 S1 rs P1=>hf F1 as1 H1 σ sl ce1 ws vs Q S1 rs P1
open Classical in
def zsM(mk:List W->M W):List W->M W:=fun ws ce=>match zng ws with
 | some (.rng lo n)=>if n<=sizeLine then mk ((List.range n).map fun(i:Nat)=>W.int (lo+(i:Int))) ce else none
 | _=>none
def zkm(ce:Ce)(w:W):Option Unit:=(zcQ ce w).map fun _=>()
def dMt(f:W->List W->M W)(o:Sl->M W)(args:Sl->M (List W)):Sl->M W:=fun sl=>bnd (o sl) fun x=>bnd (look fun ce=>zkm ce x) fun _=>bnd (args sl) fun ws=>f x ws
def Mt(G:Ga)(E:XK)(r:V->List V->Hp->VK->Prop)(f:W->List W->M W):Prop:=∀F as H σ sl ce w v ws vs Q,SR G F as H σ sl ce->Rep F as w v->Reps F as ws vs->Post G E Rep F as σ sl Q (f w ws ce)->r v vs H Q
variable {o:Expr} {name:Str} {apos cpos:Pos} {do':Sl->M W} {rm:V->List V->Hp->VK->Prop} {fm:W->List W->M W}
theorem zgo{F:Hp}{as:List Addr}{σ:VS.St}{sl:Sl}{ce:Ce}{Q:VK}{w:W}{k:Unit->M W}(P:Post G E Rep F as σ sl Q (bnd (look fun ce=>zkm ce w) k ce)):∃xs,zcQ ce w=some xs/\Post G E Rep F as σ sl Q (k () ce):=by
 revert P
 simp only[bnd,look,zkm]
 cases zcQ ce w with
 | none=>exact fun P=>P.elim
 | some xs=>exact fun P=>⟨xs,rfl,P⟩
theorem zfk(slot:Slot "list" name id)(hty:typeOf (.builtin id)=pure (.type "method_descriptor"))(hm:MtR X id rm)(hf:Mt G E rm fm)(ho:PE X o (zam G E do'))(ha:PA X (e::es) (zgP G E dr))(hbase:attributeBase o name X.env (eval o X.env)=eval o X.env:=by rfl)(hfew:((backTo cpos (starEach (e::es) X.env)).all (fun x=>!x.1)&&(backToKw cpos (keywordEach [] X.env)).all (fun x=>x.1.isSome)
   && decide ((e::es).length+([]:List Keyword).length+(if ([]:List Keyword).isEmpty then 0 else 1)<30))=true:=by rfl)(hline:(apos.endLine==cpos.line)=true:=by rfl)(hs:starEach (e::es) X.env=(false,eval e X.env)::starEach es X.env:=by rfl)(hplain:(backTo cpos (starEach es X.env)).any (·.1)=false:=by rfl) :
  PE X (.Call (.Attribute o name apos) (e::es) [] cpos) (zam G E (dMt fm do' dr)):=by
 refine PE.imp (zqX PySem.F.plainAttrs_list slot hty hm ho ha hbase hfew hline hs hplain) fun σ H Q zz_=>el6 zz_ fun F as sl ce S P=>(step S P).mono fun x H1 zz_=>el8 zz_ fun wx F1 as1 ce1 l1 S1 rx P1=>?_
 obtain⟨xs,hx,P2⟩:=zgo P1
 obtain⟨a,us,rfl,h,_⟩:=zb4 S1.st rx hx
 refine⟨.inl ⟨rfl,us,.inl h⟩,(step (RP:=Reps) S1 P2).mono fun vs H2 zz_=>el8 zz_ fun ws F2 as2 ce2 l2 S2 rs P3=>?_⟩
 exact hf F2 as2 H2 σ sl ce2 wx _ ws vs Q S2 (rx.le l2) rs P3
def zph(f:W->List W->M W)(o:Sl->M W):Sl->M W:=fun sl=>bnd (o sl) fun x=>bnd (look fun ce=>zkm ce x) fun _=>f x []
theorem zpi(slot:Slot "list" name id)(hty:typeOf (.builtin id)=pure (.type "method_descriptor"))(hm:MtR X id rm)(hf:Mt G E rm fm)(ho:PE X o (zam G E do'))(hbase:attributeBase o name X.env (eval o X.env)=eval o X.env:=by rfl)(hline:(apos.endLine==cpos.line)=true:=by rfl):PE X (.Call (.Attribute o name apos) [] [] cpos) (zam G E (zph fm do')):=by
 refine PE.imp (zoU PySem.F.plainAttrs_list slot hty hm ho hbase hline) fun σ H Q zz_=>el6 zz_ fun F as sl ce S P=>(step S P).mono fun x H1 zz_=>el8 zz_ fun wx F1 as1 ce1 l1 S1 rx P1=>?_
 obtain⟨xs,hx,P2⟩:=zgo P1
 obtain⟨a,us,rfl,h,_⟩:=zb4 S1.st rx hx
 exact⟨.inl ⟨rfl,us,.inl h⟩,hf F1 as1 H1 σ sl ce1 wx _ [] [] Q S1 rx Reps.nil P2⟩
open Classical in
def zgp:W->List W->M W:=fun w ws ce=>match zkW ce w,ws with
 | some (k,xs),[y]=>if xs.length<sizeLine then some (.ok .non (ce.set k (.lst (xs++[y])))) else none
 | _,_=>none
def zpj:W->List W->M W:=fun w ws ce=>match zkW ce w,ws with
 | some (k,xs),[]=>match xs[xs.length-1]? with
  | some y=>some (.ok y (ce.set k (.lst xs.dropLast)))
  | none=>none
 | _,_=>none
theorem zgq:Mt G E zi6 zgp:=by
 intro F as H σ sl ce w v ws vs Q S rw' rs P
 unfold zgp at P
 split at P
 ·rename_i k xs y hk
  split at P
  ·rename_i hl
   obtain⟨a,us,rfl,ha,hH,r⟩:=zdy S.st rw' hk
   obtain⟨u,rfl,ry⟩:=zb7 rs
   refine⟨a,us,u,rfl,rfl,hH,by rw[r.length];exact hl,?_⟩
   exact P .non _ F as .refl (S.slots (S.st.write (o:=.lst (us++[u])) (c:=.lst (xs++[y])) ha ⟨_,zat,r.append (.cons ry .nil)⟩) .refl) (by simp only[Rep])
  ·exact(show False from P).elim
 ·exact(show False from P).elim
theorem zri:Mt G E zrS zpj:=by
 intro F as H σ sl ce w v ws vs Q S rw' rs P
 unfold zpj at P
 split at P
 ·rename_i k xs hk
  split at P
  ·rename_i y hy
   obtain⟨a,us,rfl,ha,hH,r⟩:=zdy S.st rw' hk
   simp only[Reps] at rs
   obtain⟨u,hu,ru⟩:=r.get hy
   refine⟨a,us,u,rfl,rs,hH,by rw[r.length];exact hu,?_⟩
   exact P u _ F as .refl (S.slots (S.st.write (o:=.lst us.dropLast) (c:=.lst xs.dropLast) ha ⟨_,zat,r.dropLast⟩) .refl) ru
  ·exact(show False from P).elim
 ·exact(show False from P).elim
variable {a b:Expr} {da db:Sl->M W}
theorem zk3{i:Int}(hg:Gl X x)(hm:∃t,X.mg x=some (.int i t))(hd:(x==("__debug__" : Str))=false:=by decide):PE X (.Name x pos) (zam G E (dC (.int i))):=by
 obtain⟨t,hm⟩:=hm
 exact zn9 (zgK (v:=.int i) hg hm ⟨t,rfl⟩ hd) rfl
theorem zk4{n:String}(hg:Gl X x)(hm:X.mg x=none)(hv:bootBuiltins x=some (.type n))(hn:x ≠ "__name__" := by decide)(hd:(x==("__debug__" : Str))=false:=by decide):PE X (.Name x pos) (zam G E (dC (.ty n))):=zn9 (ziQ (v:=.ty n) hg hm hv rfl hn hd) rfl
end
end
end VS
namespace VS
open PySem PySem.Spec PyProof.Rows L2
section
section
variable {X:Cx} {G:Ga} {E:XK} {a b:Expr} {da db:Sl->M W} {pos:Pos}
def zdz:W->W->Option W:=i2 fun i j=>.bl (decide (i=j))
def zod:W->W->Option W:=i2 fun i j=>.bl (!decide (i=j))
theorem zpk:Sc2 rEq zdz:=by
 intro x y w e
 cases x<;>cases y<;>simp only[zdz,i2,Option.some.injEq,reduceCtorEq] at e
 subst e
 exact⟨_,_,_,rfl,rfl,rfl,fun H Q hq=>⟨rfl,by simpa using hq⟩⟩
theorem zpl:Sc2 rNe zod:=by
 intro x y w e
 cases x<;>cases y<;>simp only[zod,i2,Option.some.injEq,reduceCtorEq] at e
 subst e
 exact⟨_,_,_,rfl,rfl,rfl,fun H Q hq=>⟨rfl,by simpa using hq⟩⟩
theorem zbC(ha:PE X a (zam G E da))(hb:PE X b (zam G E db)):PT X (.Compare a [.Eq] [b] pos) (zcn G E (dB (dOp zdz da db))):=ze9 zqH ha hb (zcl _) (zbB (zdO zpk))
theorem zpm(ha:PE X a (zam G E da))(hb:PE X b (zam G E db)):PT X (.Compare a [.NotEq] [b] pos) (zcn G E (dB (dOp zod da db))):=ze9 zqI ha hb (zcl _) (zbB (zdO zpl))
def zgr(k v:Sl->M W):Sl->M W:=fun sl ce=>match bnd (k sl) (fun kw=>bnd (v sl) fun vw=>ret (kw,vw)) (ce++[.dct []]) with
 | some (.ok (kw,vw) ce2)=>match ziI kw,ce2[ce.length]? with
  | some key,some (.dct [])=>some (.ok (.cel ce.length) (ce2.set ce.length (.dct [(key,vw)])))
  | _,_=>none
 | some (.ex x ce2)=>some (.ex x ce2)
 | none=>none
theorem zk5{k v:Expr}{dk dv:Sl->M W}(hk:PE X k (zam G E dk))(hv:PE X v (zam G E dv)):PE X (.Dict [some k] [v] pos) (zam G E (zgr dk dv)):=by
 refine PE.imp (zm5 (zkO hk hv zm4) rfl rfl (by intro h;cases h) (by simp)) fun σ H Q zz_=>el6 zz_ fun F as sl ce S P=>?_
 intro p hp
 obtain⟨S1,l1⟩:=S.st.alloc (o:=.dK []) (c:=.dct []) hp (fun as' l=>⟨[],zat,.nil⟩)
 have hlen:as.length=ce.length:=S.st.len
 have P':Post G E (fun F as (a:W×W) (b:V×V)=>Rep F as a.1 b.1/\Rep F as a.2 b.2) F (as++[p]) σ sl (fun b H2=>H2 p=some (.dK [])/\∃kvs:List (Key×V),[b]=kvs.map (fun kv=>(kV kv.1,kv.2))/\kvs.length<=15/\Q (.ref p) (upd H2 p (.dK (zdL [] kvs))))
   (bnd (dk sl) (fun kw=>bnd (dv sl) fun vw=>ret (kw,vw)) (ce++[.dct []])):=by
  unfold zgr at P
  cases e:bnd (dk sl) (fun kw=>bnd (dv sl) fun vw=>ret (kw,vw)) (ce++[.dct []]) with
  | none=>rw[e] at P;exact P.elim
  | some r=>cases r with
   | ex x ce2=>rw[e] at P;exact fun H' F' as' cv od l=>P H' F' as' cv od (l1.trans l)
   | ok a ce2 =>
    obtain⟨kw,vw⟩:=a
    rw[e] at P
    dsimp only at P
    split at P
    ·rename_i key hkey hcell
     intro b H' F' as' l S' r
     obtain⟨kv,vv⟩:=b
     have hp':as'[ce.length]?=some p:=l.c _ _ (by rw[<- hlen];simp)
     obtain⟨_,ps,h2,rk⟩:=S'.st.cell _ _ _ hp' hcell
     cases rk
     have rput:RepKV F' as' [(key,vw)] [(key,vv)]:=.cons ⟨rfl,r.2⟩ .nil
     refine⟨h2,[(key,vv)],?_,by simp,?_⟩
     ·simp only[List.map_cons,List.map_nil];rw[show kv=kV key from zgT r.1 hkey]
     ·exact P (.ref p) _ F' as' (l1.trans l) (S'.slots (S'.st.write (o:=.dK (zdL [] [(key,vv)])) (c:=.dct [(key,vw)]) hp' ⟨_,zat,rput⟩) .refl) (by simp only[Rep];exact⟨p,rfl,hp'⟩)
    ·exact P.elim
 refine(step (S.slots S1 l1) P').mono fun x H1 zz_=>el8 zz_ fun wx F1 as1 ce1 l2 S2 rx P1=>(step S2 P1).mono fun y H2 zz_=>el8 zz_ fun wy F2 as2 ce2 l3 S3 ry P2=>?_
 exact Post.done (RP:=fun F as (a:W×W) (b:V×V)=>Rep F as a.1 b.1/\Rep F as a.2 b.2) (a:=(wx,wy)) (b:=(x,y)) S3 P2 ⟨rx.le l3,ry⟩
end
end
end VS
namespace VS
open PySem PySem.Spec PyProof.Rows L2
section
def noL(K:PySem.W.Frag):Bool:=K.all fun p=>match p.2.cls with
 | .type "list" => false
 | _=>true
theorem zpn{K:PySem.W.Frag}(h:noL K=true){a:Addr}{o:Obj}(e:K.lookup a=some o):o.cls≠.type "list" := by
 intro hc
 have hm:∀{l:PySem.W.Frag},l.lookup a=some o->(a,o)∈l:=by
  intro l
  induction l with
  | nil=>intro e;cases e
  | cons p r ih =>
   intro e
   obtain⟨b,q⟩:=p
   by_cases hb:a=b
   ·subst hb
    have:List.lookup a ((a,q)::r)=some q:=by simp[List.lookup]
    rw[this] at e;cases e;exact List.mem_cons_self
   ·have:List.lookup a ((b,q)::r)=List.lookup a r:=by
     have hb':(a==b)=false:=by simpa using hb
     simp[List.lookup,hb']
    rw[this] at e
    exact List.mem_cons_of_mem _ (ih e)
 have:=List.all_eq_true.mp h _ (hm e)
 simp only[hc] at this
 cases this
def spLaw(G:PySem.W.Frag->Ga)(d:List W->M W)(K:PySem.W.Frag):Sp:=fun vs H Q E=>noL K=true->spV (G K) (fun _=>E0) 1 d vs H Q E
theorem law_sp{G:PySem.W.Frag->Ga}{d:List W->M W}{n:Nat}(main:∀ns:List Int,ns.length<=n->∃ce',d [.lst (ns.map W.int)] []=some (.ok (.bl true) ce'))(K:PySem.W.Frag)(H:Hp)(a:Addr)(ns:List Int)(hl:ns.length<=n)(_hO:zoW H)(hS:SqL K H a (ns.map V.int)):spLaw G d K [.ref a] H (fun v _=>v=.bl true) fun _ _ _=>False:=by
 intro nl
 rcases hS with hS|⟨o,its,m,hk,hc,_⟩
 ·obtain⟨ce',e⟩:=main ns hl
  refine⟨rfl,H,[],[.lst (ns.map W.int)],[],⟨fun _ _ h=>h,by simp,rfl,fun k a c h _=>by simp at h⟩,.cons (by simp only[Rep];exact⟨a,_,rfl,hS,Reps.ints ns⟩) .nil,?_⟩
  rw[e]
  intro v H' F' as' _ _ r
  simpa only[Rep] using r
 ·exact absurd hc (zpn nl hk)
section
variable {α β:Type}
theorem zbR{m:M α}{f:α->M β}{ce ce':Ce}{a:α}(h:m ce=some (.ok a ce')):bnd m f ce=f a ce':=by simp only[bnd,h]
theorem zjz{a b:DS}{sl sl':Sl}{ce ce':Ce}(h:a sl ce=some (.go .nx sl' ce')):zav a b sl ce=b sl' ce':=by simp only[zav,h]
end
section
variable {ce l:Ce} {c:C} {n:Nat}
theorem zqo(ce l:Ce)(j:Nat):(ce++l)[ce.length+j]?=l[j]?:=by rw[List.getElem?_append_right (Nat.le_add_right _ _),Nat.add_sub_cancel_left]
theorem zpo(ce l:Ce):(ce++l)[ce.length]?=l[0]?:=zqo ce l 0
theorem zr0(ce l:Ce)(j:Nat)(c:C):(ce++l).set (ce.length+j) c=ce++l.set j c:=by rw[List.set_append_right _ _ (Nat.le_add_right _ _),Nat.add_sub_cancel_left]
theorem zrj(ce l:Ce)(c:C):(ce++l).set ce.length c=ce++l.set 0 c:=zr0 ce l 0 c
theorem cutOk_app(ce l:Ce):zfg ce (ce++l):=⟨by rw[List.length_append];omega,fun k c hk h=>.inl (by rwa [List.getElem?_append_left hk] at h)⟩
theorem zfl(ce l:Ce):(ce++l).take ce.length=ce:=List.take_left
theorem belInts(n:Nat):∀ns:List Int,zdr n (ns.map W.int)
 | []=>by simp only[List.map_nil,zdr]
 | a::r=>by simp only[List.map_cons,zdr,Bel];exact⟨trivial,belInts n r⟩
end
theorem zk6{ce l:Ce}{j:Nat}{c:C}(h:l[j]?=some c)(hb:zim ce.length c):finO ce (ce++l) (.cel (ce.length+j))=some (.ok (.cel ce.length) (ce++[c])):=by
 have e:(ce++l)[ce.length+j]?=some c:=by rw[zqo];exact h
 simp only[finO,e]
 rw[if_pos ⟨cutOk_app ce l,Nat.le_add_right _ _,hb⟩,zfl]
theorem zdA{ce l:Ce}{w:W}(hb:Bel ce.length w):finC ce (ce++l) w=some (.ok w ce):=by
 unfold finC
 rw[if_pos ⟨cutOk_app ce l,hb⟩,zfl]
theorem zaP{ce:Ce}{w:W}(hb:Bel ce.length w):finC ce ce w=some (.ok w ce):=by
 have:=zdA (l:=[]) hb
 rwa [List.append_nil] at this
theorem zdj{d:List W->M W}{ws:List W}{ce:Ce}{xs:List W}(h:d ws ce=some (.ok (.cel ce.length) (ce++[.lst xs])))(hb:zdr ce.length xs):zgU d ws ce=some (.ok (.lst xs) ce):=by
 have e:(ce++[C.lst xs])[ce.length]?=some (.lst xs):=by rw[zpo];rfl
 simp only[zgU,h,e]
 rw[if_pos ⟨cutOk_app ce _,rfl,hb⟩,zfl]
end
end VS
namespace VS
open PySem PySem.Spec PyProof.Rows L2
end VS
namespace VS
open L2
section
variable {α β:Type}
@[simp] theorem zk7(m:M α)(f:α->M β)(ce:Ce):bnd m f ce=match m ce with|some (.ok a ce')=>f a ce'|some (.ex x ce')=>some (.ex x ce')|none=>none:=rfl
@[simp] theorem zrk(m:Option (R α))(k:α->Ce->Option O):lft m k=match m with|some (.ok a ce')=>k a ce'|some (.ex x ce')=>some (.ex x ce')|none=>none:=rfl
@[simp] theorem zpp(a:α)(ce:Ce):ret a ce=some (.ok a ce):=rfl
@[simp] theorem zmd(f:Ce->Option α)(ce:Ce):look f ce=(f ce).map fun a=>R.ok a ce:=rfl
end
variable (a b c:Sl->M W) (ta tb:Sl->M Bool) (s t:DS) (sl:Sl) (ce:Ce) (i:Nat) (w:W)
@[simp] theorem zhH:zaf i sl ce=match sl[i]? with|some (some w)=>some (.ok w ce)|_=>none:=rfl
@[simp] theorem zs9:dC w sl ce=some (.ok w ce):=rfl
@[simp] theorem zsN(f:W->W->Option W):dOp f a b sl ce=bnd (a sl) (fun x=>bnd (b sl) fun y=>look fun _=>f x y) ce:=rfl
@[simp] theorem zpq(f:Ce->W->W->Option W):zaR f a b sl ce=bnd (a sl) (fun x=>bnd (b sl) fun y=>look fun ce=>f ce x y) ce:=rfl
@[simp] theorem zsO(f:W->Option W):dUn f a sl ce=bnd (a sl) (fun x=>look fun _=>f x) ce:=rfl
@[simp] theorem zta:dB a sl ce=bnd (a sl) (fun w=>look fun _=>match w with|.bl b=>some b|_=>none) ce:=rfl
@[simp] theorem zr1:zo5 a sl ce=bnd (a sl) (fun w=>look fun ce=>zhw ce w) ce:=rfl
@[simp] theorem zrl:zdP ta tb sl ce=bnd (ta sl) (fun x=>match x with|true=>tb sl|false=>ret false) ce:=rfl
@[simp] theorem zr2:zkk ta tb sl ce=bnd (ta sl) (fun x=>match x with|true=>ret true|false=>tb sl) ce:=rfl
@[simp] theorem zrm:zdQ ta sl ce=bnd (ta sl) (fun x=>ret (!x)) ce:=rfl
@[simp] theorem zr3:zav s t sl ce=match s sl ce with|some (.go .nx sl' ce')=>t sl' ce'|r=>r:=rfl
@[simp] theorem zrn:zbb sl ce=some (.go .nx sl ce):=rfl
@[simp] theorem zr4:zbj i a sl ce=lft (a sl ce) fun w ce'=>some (.go .nx (sl.set i (some w)) ce'):=rfl
@[simp] theorem zr5:zbO a sl ce=lft (a sl ce) fun w ce'=>some (.go (.rt w) sl ce'):=rfl
@[simp] theorem zro:dEx a sl ce=lft (a sl ce) fun _ ce'=>some (.go .nx sl ce'):=rfl
@[simp] theorem zsP:dIf ta s t sl ce=lft (ta sl ce) fun x ce'=>match x with|true=>s sl ce'|false=>t sl ce':=rfl
@[simp] theorem zme:zap sl ce=some (.ok [] ce):=rfl
@[simp] theorem zjA(r:Sl->M (List W)):zad a r sl ce=bnd (a sl) (fun x=>bnd (r sl) fun xs=>ret (x::xs)) ce:=rfl
@[simp] theorem zrp(f:List W->M W)(r:Sl->M (List W)):dBi f r sl ce=bnd (r sl) f ce:=rfl
@[simp] theorem zrq(n:Nat)(f:List W->M W)(r:Sl->M (List W)):zbo n f r sl ce=bnd (r sl) (fun ws=>if ws.length=n then f ws else zga) ce:=rfl
@[simp] theorem zr6(r:Sl->M (List W)):zem r sl ce=bnd (r sl) (fun xs=>mkF (.tup xs) xs.length) ce:=rfl
@[simp] theorem zr7(r:Sl->M (List W)):zeo r sl ce=bnd (r sl) (fun xs=>mkF (.lst xs) xs.length) ce:=rfl
@[simp] theorem zrr(r:Sl->M (List W)):zcy r sl ce=bnd (r sl) (fun xs=>mkC (.lst xs) xs.length) ce:=rfl
@[simp] theorem zrs:zep sl ce=mkC (.dct []) 0 ce:=rfl
@[simp] theorem zsQ{n:Nat}(h:n<=PySem.sizeLine):mkF w n ce=some (.ok w ce):=if_pos h
@[simp] theorem zsR(c:C){n:Nat}(h:n<=PySem.sizeLine):mkC c n ce=some (.ok (.cel ce.length) (ce++[c])):=if_pos h
@[simp] theorem zjB{xs:List W}(h:xs.length<=PySem.sizeLine):zbl xs ce=some (.ok (.lst xs) ce):=if_pos h
@[simp] theorem zr8{xs:List W}(h:xs.length<=PySem.sizeLine):zgG xs ce=some (.ok (.cel ce.length) (ce++[.lst xs])):=if_pos h
@[simp] theorem zpr{xs:List W}(h:xs.length<=PySem.sizeLine):zne xs ce=some (.ok (.tup xs) ce):=if_pos h
@[simp] theorem zrt(f:W->List W->M W)(r:Sl->M (List W)):dMt f a r sl ce=bnd (a sl) (fun x=>bnd (look fun ce=>zkm ce x) fun _=>bnd (r sl) fun ws=>f x ws) ce:=rfl
@[simp] theorem zr9(f:W->List W->M W):zph f a sl ce=bnd (a sl) (fun x=>bnd (look fun ce=>zkm ce x) fun _=>f x []) ce:=rfl
@[simp] theorem ztb:gN i w sl ce=some (sl.set i (some w),ce):=rfl
theorem zmf{o i v:Sl->M W}{sl:Sl}{ce ce1 ce2 ce3:Ce}{w ow iw:W}{key:Key}{k:Nat}{kvs:List (Key×W)}(h1:v sl ce=some (.ok w ce1))(h2:o sl ce1=some (.ok ow ce2))(h3:i sl ce2=some (.ok iw ce3))(h4:ziI iw=some key)(h5:zma ce3 ow=some (k,kvs))(h6:kvs.length<PySem.sizeLine) :
  ziK o i v sl ce=some (.go .nx sl (ce3.set k (.dct (zik kvs key w)))):=by
 simp only[ziK,lft,h1,h2,h3,h4,h5,if_pos h6]
theorem zk8{w y:W}{ce:Ce}{k:Nat}{xs:List W}(h:zkW ce w=some (k,xs))(hl:xs.length<PySem.sizeLine):zgp w [y] ce=some (.ok .non (ce.set k (.lst (xs++[y])))):=by simp only[zgp,h,if_pos hl]
@[simp] theorem zsa(x y:Int):zb3 (.int x) (.int y)=some (.int (x+y)):=rfl
@[simp] theorem zsb(x y:Int):zhv (.int x) (.int y)=some (.int (x-y)):=rfl
@[simp] theorem zsS(x y:Int):fLt (.int x) (.int y)=some (.bl (decide (x<y))):=rfl
@[simp] theorem zsT(x y:Int):fLe (.int x) (.int y)=some (.bl (decide (x<=y))):=rfl
@[simp] theorem zsU(x y:Int):fGt (.int x) (.int y)=some (.bl (decide (y<x))):=rfl
@[simp] theorem zsV(x y:Int):fGe (.int x) (.int y)=some (.bl (decide (y<=x))):=rfl
@[simp] theorem zsc(x y:Int):zdz (.int x) (.int y)=some (.bl (decide (x=y))):=rfl
@[simp] theorem zsd(x y:Int):zod (.int x) (.int y)=some (.bl (!decide (x=y))):=rfl
@[simp] theorem zse(x:Int):ziH (.int x)=some (.int (-x)):=rfl
theorem zgs{x y:Int}(h:CMul x y):ze8 (.int x) (.int y)=some (.int (x*y)):=by simp only[ze8,i2c,if_pos h]
theorem zmg{x y:Int}(h:0<y):zbA (.int x) (.int y)=some (.int (x % y)):=by simp only[zbA,i2c,if_pos h]
theorem zps{x y:Int}(h:0<y/\y<1073741824):zgR (.int x) (.int y)=some (.int (x / y)):=by
 have h':zqG x y:=h
 simp only[zgR,i2c,if_pos h']
@[simp] theorem zsf(xs:List W):zeN ce (.tup xs)=some xs:=rfl
@[simp] theorem zsg(xs:List W):zeN ce (.lst xs)=some xs:=rfl
@[simp] theorem zpt(xs:List W):zcQ ce (.lst xs)=some xs:=rfl
theorem zcT{ce:Ce}{k:Nat}{xs:List W}(h:ce[k]?=some (.lst xs)):zcQ ce (.cel k)=some xs:=by simp only[zcQ,h]
theorem zgt{ce:Ce}{k:Nat}{xs:List W}(h:ce[k]?=some (.lst xs)):zeN ce (.cel k)=some xs:=by simp only[zeN,zcQ,h]
theorem zmh{ce:Ce}{k:Nat}{xs:List (Key×W)}(h:ce[k]?=some (.dct xs)):zoa ce (.cel k)=some xs:=by simp only[zoa,h]
theorem zdX{ce:Ce}{k:Nat}{xs:List W}(h:ce[k]?=some (.lst xs)):zkW ce (.cel k)=some (k,xs):=by simp only[zkW,h]
theorem zdY{ce:Ce}{k:Nat}{xs:List (Key×W)}(h:ce[k]?=some (.dct xs)):zma ce (.cel k)=some (k,xs):=by simp only[zma,h]
@[simp] theorem zsh(j:Int):ziI (.int j)=some (.inl j):=rfl
theorem zk9{α:Type}{xs:List α}{j:Nat}:atI xs (j:Int)=xs[j]?:=by
 unfold atI ixN
 by_cases h:j<xs.length
 ·rw[if_pos (by omega),if_pos (by omega)];simp
 ·rw[if_pos (by omega),if_neg (by omega),List.getElem?_eq_none (by omega)];rfl
theorem znm{xs:List W}{x y:W}{ce:Ce}{j:Nat}(h:zeN ce x=some xs)(hy:y=.int j):ixW ce x y=xs[j]?:=by
 subst hy
 simp only[ixW,h]
 exact zk9
theorem zcD(c0:C):(ce++[c0])[ce.length]?=some c0:=by rw[zpo];rfl
end VS
namespace VS
open L2
def nW(n:Nat):W:=.int (n:Int)
def wT(l:List Nat):W:=.tup (l.map nW)
def wB(b:List (List Nat)):W:=.tup (b.map wT)
def kvs(F:List Nat):List (Key×W):=F.map fun(x:Nat)=>((Sum.inl (x:Int):Key),W.bl true)
def toI(F:List Nat):List Int:=F.map fun(x:Nat)=>(x:Int)
theorem znn(F:List Nat)(y:Nat):(zij (kvs F) (.inl (y:Int))).isSome=decide (y∈F):=by
 induction F with
 | nil=>rfl
 | cons x F ih =>
  by_cases h:x=y
  ·subst h;simp[kvs,zij]
  ·have h':¬((x:Int)=(y:Int)):=by omega
   have e:zij (kvs (x::F)) (.inl (y:Int))=zij (kvs F) (.inl (y:Int)):=by simp[kvs,zij,List.find?_cons,h']
   have hm:(y∈x::F)↔y∈F:=by simp[Ne.symm h]
   rw[e,ih]
   simp[hm]
theorem zgV(F:List Nat)(y:Nat)(h:y∉F):zik (kvs F) (.inl (y:Int)) (.bl true)=kvs (F++[y]):=by
 have e:((kvs F).any fun kv=>decide (kv.1=(.inl (y:Int):Key)))=false:=by
  rw[Bool.eq_false_iff]
  intro q
  obtain⟨p,hp,e⟩:=List.any_eq_true.mp q
  obtain⟨x,hx,rfl⟩:=List.mem_map.mp hp
  have e:=of_decide_eq_true e
  have:(x:Int)=y:=Sum.inl.inj e
  exact h (by rw[<- Int.ofNat_inj.mp this];exact hx)
 unfold zik
 rw[e]
 simp[kvs]
theorem zbd(F:List Nat):(kvs F).length=F.length:=by simp[kvs]
theorem zfm(F:List Nat):zgl (kvs F)=some (toI F):=by
 induction F with
 | nil=>rfl
 | cons x F ih=>simp only[kvs,toI,List.map_cons,zgl] at ih ⊢;rw[ih];rfl
theorem zbZ(F:List Nat):(toI F).length=F.length:=by simp[toI]
theorem zjC(F:List Nat):F.map nW=(toI F).map W.int:=by simp[toI,nW]
theorem zfn(F:List Nat):zfh (F.map nW)=some (toI F):=by rw[zjC,zgm]
theorem zjD{F F':List Nat}(h:F.Perm F'):srt (toI F)=srt (toI F') :=
 zb6 ((zbt _).trans ((show(toI F).Perm (toI F') from h.map _).trans (zbt _).symm)) (zcv _) (zcv _)
theorem zfo{F F':List Nat}(h:F.Nodup)(h':F'.Nodup)(e:∀x,x∈F↔x∈F'):F.Perm F':=by
 rw[List.perm_iff_count]
 intro x
 rw[h.count,h'.count]
 simp[e x]
theorem zaw:∀{n:Nat} {F:List Nat},F.Nodup->(∀x∈F,x<n)->F.length<=n
 | 0,F,_,hl=>by
  cases F with
  | nil=>simp
  | cons a r=>exact absurd (hl a List.mem_cons_self) (Nat.not_lt_zero _)
 | n+1,F,h,hl=>by
  by_cases hn:n∈F
  ·have h1:=zaw (n:=n) (h.erase n) fun x hx=>by
    have hx':=(List.Nodup.mem_erase_iff h).mp hx
    have:=hl x hx'.2
    have:=hx'.1
    omega
   rw[List.length_erase_of_mem hn] at h1
   have:=List.length_pos_of_mem hn
   omega
  ·have h1:=zaw (n:=n) h fun x hx=>by
    have:=hl x hx
    have:x≠n:=fun e=>hn (e▸hx)
    omega
   omega
inductive Reach (b:List (List Nat)) (ok:Nat->Prop) (s:Nat):Nat->Prop where
 | refl:Reach b ok s s
 | step {x y:Nat} (h:Reach b ok s x) (hy:y∈b.getD x []) (o:ok y):Reach b ok s y
structure Comp (b:List (List Nat)) (ok:Nat->Prop) (s:Nat) (F:List Nat):Prop where
 nd:F.Nodup
 st:s∈F
 lt:∀x∈F,x<b.length
 cl:∀x∈F,∀y∈b.getD x [],ok y->y∈F
 re:∀x∈F,Reach b ok s x
theorem Comp.mem{b:List (List Nat)}{ok:Nat->Prop}{s:Nat}{F:List Nat}(h:Comp b ok s F)(x:Nat):x∈F↔Reach b ok s x:=by
 refine⟨h.re x,fun r=>?_⟩
 induction r with
 | refl=>exact h.st
 | step _ hy o ih=>exact h.cl _ ih _ hy o
def Bd(b:List (List Nat)):Prop:=∀r∈b,∀x∈r,x<b.length
theorem Bd.get{b:List (List Nat)}(h:Bd b){x y:Nat}(hy:y∈b.getD x []):y<b.length:=by
 rw[List.getD_eq_getElem?_getD] at hy
 cases e:b[x]? with
 | none=>rw[e] at hy;simp at hy
 | some r=>rw[e] at hy;exact h r (List.mem_of_getElem? e) y (by simpa using hy)
structure Row (row:List Nat) (ok:Nat->Prop) (F F':List Nat) (r new:List Nat):Prop where
 app:F'=F++new
 nd:F'.Nodup
 mem:∀y∈new,y∈row/\ok y
 done:∃d,row=d++r/\∀y∈d,ok y->y∈F'
theorem zfp{ce:Ce}{x:W}{xs:List W}{j:Nat}(h:zeN ce x=some xs):ixW ce x (nW j)=xs[j]?:=znm h rfl
theorem zpu(T:List Nat)(y:Nat):(T.map nW).any (fun z=>peq z (nW y))=decide (y∈T):=by
 induction T with
 | nil=>rfl
 | cons x T ih =>
  rw[List.map_cons,List.any_cons,ih]
  by_cases h:x=y
  ·subst h;simp[nW,peq]
  ·have h':¬((x:Int)=(y:Int)):=by omega
   simp[nW,peq,h',Ne.symm h]
theorem zpv(T:List Nat):(T.map nW).all (cln 8)=true:=by
 rw[List.all_eq_true]
 intro w hw
 obtain⟨x,_,rfl⟩:=List.mem_map.mp hw
 rfl
theorem zcU(T:List Int)(n:Nat):(T.map W.int).all (cln n)=true:=by
 rw[List.all_eq_true]
 intro w hw
 obtain⟨x,_,rfl⟩:=List.mem_map.mp hw
 cases n<;>rfl
theorem zpw{ce:Ce}{x:W}{T:List Nat}{y:Nat}(h:zeN ce x=some (T.map nW))(ng:Bool):inW ng ce (nW y) x=some (.bl (if ng then !decide (y∈T) else decide (y∈T))):=by
 have c:cln 8 (nW y)=true:=rfl
 have e:drf ce (nW y)=nW y:=rfl
 simp only[inW,h,e,c,zpv,Bool.and_self,if_true,zpu]
theorem zjE(a b:Int):peq (.int a) (.int b)=decide (a=b):=by simp[peq];rfl
theorem zgu:∀(l m:List Int),peqs (l.map W.int) (m.map W.int)=decide (l=m)
 | [],[]=>by simp[peqs]
 | [],_::_=>by simp[peqs]
 | _::_,[]=>by simp[peqs]
 | a::l,b::m=>by
  simp only[List.map_cons,peqs,zjE,zgu l m]
  by_cases h1:a=b<;>by_cases h2:l=m<;>simp[h1,h2]
theorem zla(l m:List Int):peq (.lst (l.map W.int)) (.lst (m.map W.int))=decide (l=m):=by simp only[peq,zgu]
theorem zgW:(36:Nat)<PySem.sizeLine:=by decide
end VS
namespace VS
open L2
theorem zmi{s:Src}{cs:Sl}{e:Sl->M W}{ce:Ce}(hst:s.Stays ce)(P:W->W->Prop):∀(l ys:List W),(∀x∈l,∃y,P x y/\e (some x::cs) ce=some (.ok y ce))->ys.length+l.length<=PySem.sizeLine ->
  ∃zs,lcL s cs zdf e l ys ce=some (.ok (ys++zs) ce)/\PySem.Paired P l zs
 | [],ys,_,_=>⟨[],by simp only[lcL,if_pos hst,List.append_nil],.nil⟩
 | x::r,ys,h,hz=>by
  have hl:ys.length<PySem.sizeLine:=by simp only[List.length_cons] at hz;omega
  obtain⟨y,py,ey⟩:=h x List.mem_cons_self
  obtain⟨zs,ez,pz⟩:=zmi hst P r (ys++[y]) (fun z hz=>h z (List.mem_cons_of_mem _ hz)) (by simp only[List.length_append,List.length_cons,List.length_nil] at hz ⊢;omega)
  refine⟨y::zs,?_,.cons py pz⟩
  rw[zff ⟨hst,hl⟩]
  show bnd (ret true) _ ce=_
  rw[zbR (m:=ret true) rfl]
  show bnd (e (some x::cs)) (fun y=>lcL s cs zdf e r (ys++[y])) ce=_
  rw[zbR ey,ez,List.append_assoc]
  rfl
theorem zpx{mk:List W->M W}{js:List Nat}{di:Sl->M Src}{e:Sl->M W}{sl:Sl}{ce ce0:Ce}{s:Src}(hi:di sl ce0=some (.ok s ce))(hst:s.Stays ce)(P:W->W->Prop)(h:∀x∈s.items,∃y,P x y/\e (some x::zcR js sl) ce=some (.ok y ce))(hz:s.items.length<=PySem.sizeLine) :
  ∃zs,dLC mk js di zdf e sl ce0=mk zs ce/\PySem.Paired P s.items zs:=by
 obtain⟨zs,e1,p⟩:=zmi hst P s.items [] h (by simpa using hz)
 refine⟨zs,?_,p⟩
 show bnd (di sl) (fun s=>bnd (lcL s (zcR js sl) zdf e s.items []) mk) ce0=_
 rw[zbR hi,zbR e1,List.nil_append]
theorem zgv{s:Src}{cs:Sl}(hst:∀ce,s.Stays ce):∀(l ys:List W) (ce:Ce),ys.length+l.length<=PySem.sizeLine ->
  lcL s cs zdf (zcy zap) l ys ce=some (.ok (ys++(List.range l.length).map fun i=>W.cel (ce.length+i)) (ce++List.replicate l.length (C.lst [])))
 | [],ys,ce,_=>by simp[lcL,if_pos (hst ce)]
 | x::r,ys,ce,hz=>by
  have hl:ys.length<PySem.sizeLine:=by simp only[List.length_cons] at hz;omega
  have ih:=zgv (s:=s) (cs:=cs) hst r (ys++[W.cel ce.length]) (ce++[C.lst []]) (by simp only[List.length_append,List.length_cons,List.length_nil] at hz ⊢;omega)
  rw[zff ⟨hst ce,hl⟩]
  show bnd (ret true) _ ce=_
  rw[zbR (m:=ret true) rfl]
  have ex:zcy zap (some x::cs) ce=some (.ok (W.cel ce.length) (ce++[C.lst []])):=by simp
  show bnd (zcy zap (some x::cs)) (fun y=>lcL s cs zdf (zcy zap) r (ys++[y])) ce=_
  rw[zbR ex,ih]
  have e1:(List.range (r.length+1)).map (fun i=>W.cel (ce.length+i))=W.cel ce.length::(List.range r.length).map fun i=>W.cel ((ce++[C.lst []]).length+i):=by
   rw[List.range_succ_eq_map,List.map_cons,List.map_map]
   congr 1
   apply List.map_congr_left
   intro i _
   simp only[Function.comp,List.length_append,List.length_cons,List.length_nil]
   congr 1
   omega
  have e2:ce++List.replicate (r.length+1) (C.lst [])=ce++[C.lst []]++List.replicate r.length (C.lst []):=by
   rw[List.replicate_succ,List.append_assoc];rfl
  rw[List.length_cons,e1,e2,List.append_assoc]
  rfl
theorem zpy{n:Nat}(h:n<=1000):zng [nW n]=some (.rng 0 n):=by
 have h1:(-4611686018427387904:Int)<=(n:Int)/\(n:Int)<4611686018427387904:=by omega
 simp only[zng,nW,if_pos h1,Int.toNat_natCast]
theorem zpz{d:Sl->M (List W)}{sl:Sl}{ce ce':Ce}{n:Nat}(hd:d sl ce=some (.ok [nW n] ce'))(h:n<=1000):zgH d sl ce=some (.ok (.rng 0 n) ce'):=by
 show bnd (d sl) (fun ws=>look (fun _=>zng ws)) ce=_
 rw[zbR hd]
 show(zng [nW n]).map _=_
 rw[zpy h]
 rfl
theorem zdk(k:Int){n:Nat}(h:0<n):∃j:Nat,j<n/\k % (n:Int)=j:=by
 have h1:=Int.emod_nonneg k (b:=(n:Int)) (by omega)
 have h2:=Int.emod_lt_of_pos k (b:=(n:Int)) (by omega)
 exact⟨(k % (n:Int)).toNat,by omega,by omega⟩
theorem zeS{k:Int}{n j:Nat}(h:0<n)(e:k % (n:Int)=j):zbA (.int k) (.int (n:Int))=some (nW j):=by rw[zmg (by omega),e];rfl
theorem zmj{fin:Ce->Ce->W->Option (R W)}{n:Nat}{body:DS}{ws:List W}{ce ce':Ce}{sl:Sl}{w:W}{r:Option (R W)}(h:body (ws.map some++List.replicate (n-ws.length) none) ce=some (.go (.rt w) sl ce'))(hf:fin ce ce' w=r):dFn fin n body ws ce=r:=by
 unfold dFn
 rw[h]
 exact hf
theorem zlb{s:Src}{g:DG}{body:DS}{sl:Sl}{ce:Ce}(hst:s.Stays ce):zhF s g body [] sl ce=some (.go .nx sl ce):=by
 simp only[zhF,if_pos hst]
theorem zjF{di:Sl->M Src}{g:DG}{body:DS}{sl:Sl}{ce ce0:Ce}{src:Src}(hi:di sl ce=some (.ok src ce0)):zcN di g body sl ce=zhF src g body src.items sl ce0:=by simp only[zcN,lft,hi]
theorem zjG{i:Nat}{d:Sl->M W}{sl:Sl}{ce ce':Ce}{w:W}(h:d sl ce=some (.ok w ce')):zbj i d sl ce=some (.go .nx (sl.set i (some w)) ce'):=by simp only[zbj,lft,h]
theorem zpA{c:Sl->M Bool}{a b:DS}{sl:Sl}{ce ce':Ce}(h:c sl ce=some (.ok true ce')):dIf c a b sl ce=a sl ce':=by simp only[dIf,lft,h]
theorem zpB{c:Sl->M Bool}{a b:DS}{sl:Sl}{ce ce':Ce}(h:c sl ce=some (.ok false ce')):dIf c a b sl ce=b sl ce':=by simp only[dIf,lft,h]
theorem zdZ(n:Nat):(Src.rng 0 n).items=(List.range n).map nW:=by
 simp only[Src.items,Int.zero_add]
 rfl
theorem bels_nW(n:Nat):∀l:List Nat,zdr n (l.map nW)
 | []=>by simp only[List.map_nil,zdr]
 | a::r=>by simp only[List.map_cons,zdr,nW,Bel];exact⟨trivial,bels_nW n r⟩
theorem zpC(n:Nat)(b:List (List Nat)):Bel n (wB b):=by
 simp only[wB,Bel]
 induction b with
 | nil=>simp only[List.map_nil,zdr]
 | cons r b ih=>simp only[List.map_cons,zdr,wT,Bel];exact⟨bels_nW n r,ih⟩
def zcw(r:List Nat):List Nat:=(srt (toI r)).map Int.toNat
theorem zdB(r:List Nat):(srt (toI r)).map W.int=(zcw r).map nW:=by
 unfold zcw
 rw[List.map_map]
 apply List.map_congr_left
 intro x hx
 have hx':=(zbt (toI r)).subset hx
 obtain⟨y,_,rfl⟩:=List.mem_map.mp hx'
 show W.int (y:Int)=W.int (((y:Int).toNat:Nat):Int)
 simp
theorem zdC(r:List Nat)(x:Nat):x∈zcw r↔x∈r:=by
 unfold zcw
 constructor
 ·intro h
  obtain⟨z,hz,rfl⟩:=List.mem_map.mp h
  obtain⟨y,hy,rfl⟩:=List.mem_map.mp ((zbt (toI r)).subset hz)
  simpa using hy
 ·intro h
  refine List.mem_map.mpr ⟨(x:Int),(zbt (toI r)).symm.subset (List.mem_map.mpr ⟨x,h,rfl⟩),by simp⟩
theorem Reach.trans{b:List (List Nat)}{ok:Nat->Prop}{s x y:Nat}(h:Reach b ok s x)(h':Reach b ok x y):Reach b ok s y:=by
 induction h' with
 | refl=>exact h
 | step _ hy o ih=>exact .step ih hy o
theorem Reach.okOf{b:List (List Nat)}{ok:Nat->Prop}{s x:Nat}(hs:ok s)(h:Reach b ok s x):ok x:=by
 cases h with
 | refl=>exact hs
 | step _ _ o=>exact o
theorem Reach.symm{b:List (List Nat)}{ok:Nat->Prop}{s x:Nat}(sym:∀i j,j∈b.getD i []->i∈b.getD j [])(hs:ok s)(h:Reach b ok s x):Reach b ok x s:=by
 induction h with
 | refl=>exact .refl
 | step h hy o ih=>exact Reach.trans (.step .refl (sym _ _ hy) (h.okOf hs)) ih
theorem Paired.nth{α β:Type}{P:α->β->Prop}{l:List α}{m:List β}(h:PySem.Paired P l m):l.length=m.length/\∀(i:Nat) (a:α) (b:β),l[i]?=some a->m[i]?=some b->P a b:=by
 refine⟨PySem.Paired.length h,fun i a b h1 h2=>?_⟩
 obtain⟨b',e,p⟩:=L2.Paired.at2 h i a h1
 rw[h2] at e;cases e;exact p
end VS
namespace VS
open L2
def Run(s:DS)(sl:Sl)(ce:Ce)(Q:O->Prop):Prop:=∃o,s sl ce=some o/\Q o
def Nx(P:Sl->Ce->Prop):O->Prop
 | .go .nx sl ce=>P sl ce
 | .go .ct sl ce=>P sl ce
 | _=>False
def Rt(P:W->Ce->Prop):O->Prop
 | .go (.rt w) _ ce=>P w ce
 | _=>False
def NR(P:Sl->Ce->Prop)(T:W->Ce->Prop):O->Prop
 | .go .nx sl ce=>P sl ce
 | .go .ct sl ce=>P sl ce
 | .go (.rt w) _ ce=>T w ce
 | _=>False
section
variable {s a b:DS} {sl sl':Sl} {ce ce' c1 c2 c3:Ce} {Q Q':O->Prop} {d e:Sl->M W} {w x y:W} {i:Nat} {p q:Bool} {ta tb:Sl->M Bool}
theorem Run.mono(h:Run s sl ce Q)(m:∀o,Q o->Q' o):Run s sl ce Q':=by
 obtain⟨o,e,q⟩:=h;exact⟨o,e,m o q⟩
theorem zpD{o:O}(h:s sl ce=some o)(q:Q o):Run s sl ce Q:=⟨o,h,q⟩
theorem zbu(q:Q (.go .nx sl ce)):Run zbb sl ce Q:=⟨_,rfl,q⟩
theorem zgX(h:e sl ce=some (.ok w ce'))(q:Q (.go .nx (sl.set i (some w)) ce')):Run (zbj i e) sl ce Q:=⟨_,zjG h,q⟩
theorem zaB(h:e sl ce=some (.ok w ce'))(q:Q (.go (.rt w) sl ce')):Run (zbO e) sl ce Q:=⟨_,by simp only[zbO,lft,h],q⟩
theorem zmk(h:e sl ce=some (.ok w ce'))(q:Q (.go .nx sl ce')):Run (dEx e) sl ce Q:=⟨_,by simp only[dEx,lft,h],q⟩
theorem zbS(h:ta sl ce=some (.ok p ce'))(ht:p=true->Run a sl ce' Q)(hf:p=false->Run b sl ce' Q):Run (dIf ta a b) sl ce Q:=by
 cases p with
 | true=>obtain⟨o,e,q⟩:=ht rfl;exact⟨o,by rw[zpA h];exact e,q⟩
 | false=>obtain⟨o,e,q⟩:=hf rfl;exact⟨o,by rw[zpB h];exact e,q⟩
theorem zcE(h:a sl ce=some (.go .nx sl' ce'))(q:Run b sl' ce' Q):Run (zav a b) sl ce Q:=by
 obtain⟨o,e,q⟩:=q;exact⟨o,by rw[zjz h];exact e,q⟩
theorem zan(h:e sl ce=some (.ok w ce'))(q:Run b (sl.set i (some w)) ce' Q):Run (zav (zbj i e) b) sl ce Q:=zcE (zjG h) q
theorem zjH(h:e sl ce=some (.ok w ce'))(q:Run b sl ce' Q):Run (zav (dEx e) b) sl ce Q:=zcE (by simp only[dEx,lft,h]) q
theorem ziq{c:DS}:zav (zav a b) c=zav a (zav b c):=by
 funext sl ce
 simp only[zav]
 cases a sl ce with
 | none=>rfl
 | some o=>cases o with
  | ex x c=>rfl
  | go f sl' ce'=>cases f<;>rfl
theorem zb8{c:DS}(h:Run (zav a (zav b c)) sl ce Q):Run (zav (zav a b) c) sl ce Q:=by rw[ziq];exact h
theorem zaF{c:DS}(h:Run c sl ce Q):Run (zav zbb c) sl ce Q:=h
theorem zcp{c:DS}(h:Run (zbO e) sl ce Q):Run (zav (zbO e) c) sl ce Q:=by
 obtain⟨o,e',q⟩:=h
 refine⟨o,?_,q⟩
 simp only[zav]
 simp only[zbO,lft] at e' ⊢
 cases h:e sl ce with
 | none=>rw[h] at e';cases e'
 | some r=>rw[h] at e';cases r<;>exact e'
theorem za1{c:DS}(h:ta sl ce=some (.ok p ce'))(ht:p=true->Run (zav a c) sl ce' Q)(hf:p=false->Run (zav b c) sl ce' Q):Run (zav (dIf ta a b) c) sl ce Q:=by
 cases p with
 | true=>obtain⟨o,e,q⟩:=ht rfl;exact⟨o,by rw[<- e];simp only[zav,zpA h],q⟩
 | false=>obtain⟨o,e,q⟩:=hf rfl;exact⟨o,by rw[<- e];simp only[zav,zpB h],q⟩
end
section
variable {α:Type} {en:α->W} {src:Src} {g:DG} {body b:DS} {Q:O->Prop}
theorem zfq(xs:List α)(R:List α->Sl->Ce->Prop)(T:W->Ce->Prop)(step:∀d x r sl ce,d++x::r=xs->R d sl ce->src.Stays ce/\∃sl1,g (en x) sl ce=some (sl1,ce)/\Run body sl1 ce (NR (R (d++[x])) T))(hst:∀sl ce,R xs sl ce->src.Stays ce) :
  ∀(r d:List α) (sl:Sl) (ce:Ce),d++r=xs->R d sl ce->Run (zhF src g body (r.map en)) sl ce fun o=>(∃sl' ce',o=.go .nx sl' ce'/\R xs sl' ce')\/∃w sl' ce',o=.go (.rt w) sl' ce'/\T w ce'
 | [],d,sl,ce,e,h=>by
  rw[List.append_nil] at e
  subst e
  exact⟨_,zlb (hst _ _ h),.inl ⟨_,_,rfl,h⟩⟩
 | x::r,d,sl,ce,e,h=>by
  obtain⟨hs,sl1,e1,o,e2,q⟩:=step d x r sl ce e h
  have go:∀sl2 ce2,R (d++[x]) sl2 ce2->Run (zhF src g body (r.map en)) sl2 ce2 fun o=>(∃sl' ce',o=.go .nx sl' ce'/\R xs sl' ce')\/∃w sl' ce',o=.go (.rt w) sl' ce'/\T w ce':=fun sl2 ce2 h2=>zfq xs R T step hst r (d++[x]) sl2 ce2 (by rw[List.append_assoc];exact e) h2
  cases o with
  | ex x c=>exact q.elim
  | go f sl2 ce2 =>
   cases f with
   | nx =>
    obtain⟨o,e3,q3⟩:=go sl2 ce2 q
    exact⟨o,by simp only[List.map_cons,zhF,if_pos hs,e1,e2];exact e3,q3⟩
   | ct =>
    obtain⟨o,e3,q3⟩:=go sl2 ce2 q
    exact⟨o,by simp only[List.map_cons,zhF,if_pos hs,e1,e2];exact e3,q3⟩
   | bk=>exact q.elim
   | rt w=>exact⟨.go (.rt w) sl2 ce2,by simp only[List.map_cons,zhF,if_pos hs,e1,e2],.inr ⟨w,sl2,ce2,rfl,q⟩⟩
theorem zgY{di:Sl->M Src}{sl:Sl}{ce ce0:Ce}{i:Nat}{xs:List α}(hi:di sl ce=some (.ok src ce0))(hx:src.items=xs.map en)(R:List α->Sl->Ce->Prop)(h0:R [] sl ce0)(step:∀d x r sl ce,d++x::r=xs->x∈xs->R d sl ce->src.Stays ce/\Run body (sl.set i (some (en x))) ce (Nx (R (d++[x]))))(hst:∀sl ce,R xs sl ce->src.Stays ce)(fin:∀sl ce,R xs sl ce->Q (.go .nx sl ce)):Run (zcN di (gN i) body) sl ce Q:=by
 obtain⟨o,e,q⟩:=zfq (g:=gN i) (body:=body) (en:=en) (src:=src) xs R (fun _ _=>False) (fun d x r sl ce e h=>by
  obtain⟨h1,h2⟩:=step d x r sl ce e (by rw[<- e];simp) h
  exact⟨h1,_,rfl,h2.mono fun o q=>by
   cases o with
   | ex x c=>exact q.elim
   | go f sl2 ce2=>cases f<;>first|exact q|exact q.elim⟩) hst xs [] sl ce0 rfl h0
 rcases q with ⟨sl',ce',rfl,h⟩|⟨w,sl',ce',rfl,h⟩
 ·exact⟨_,by rw[zjF hi,hx];exact e,fin _ _ h⟩
 ·exact h.elim
theorem zjI{di:Sl->M Src}{sl:Sl}{ce ce0:Ce}{i:Nat}{xs:List α}(hi:di sl ce=some (.ok src ce0))(hx:src.items=xs.map en)(R:List α->Sl->Ce->Prop)(h0:R [] sl ce0)(step:∀d x r sl ce,d++x::r=xs->x∈xs->R d sl ce->src.Stays ce/\Run body (sl.set i (some (en x))) ce (Nx (R (d++[x]))))(hst:∀sl ce,R xs sl ce->src.Stays ce)(fin:∀sl ce,R xs sl ce->Run b sl ce Q):Run (zav (zcN di (gN i) body) b) sl ce Q:=by
 obtain⟨o,e,q⟩:=zgY (Q:=fun o=>∃sl' ce',o=.go .nx sl' ce'/\Run b sl' ce' Q) (body:=body) (i:=i) hi hx R h0 step hst fun sl ce h=>⟨sl,ce,rfl,fin sl ce h⟩
 obtain⟨sl',ce',rfl,h⟩:=q
 exact zcE e h
theorem zjJ{σ:Type}{c:Sl->M Bool}{sl:Sl}{ce:Ce}{fu:Nat}(R:σ->Sl->Ce->Prop)(m:σ->Nat)(s0:σ)(h0:R s0 sl ce)(hm:m s0<fu)(step:∀s sl ce,R s sl ce->∃p,c sl ce=some (.ok p ce)/\(p=true->Run body sl ce (Nx fun sl2 ce2=>∃s2,m s2<m s/\R s2 sl2 ce2))/\(p=false->Q (.go .nx sl ce))):Run (zce c body fu) sl ce Q:=by
 induction fu generalizing s0 sl ce with
 | zero=>exact absurd hm (Nat.not_lt_zero _)
 | succ fu ih =>
  obtain⟨p,e,ht,hf⟩:=step s0 sl ce h0
  cases p with
  | false=>exact⟨_,by simp only[zce,lft,e],hf rfl⟩
  | true =>
   obtain⟨o,e2,q⟩:=ht rfl
   cases o with
   | ex x c=>exact q.elim
   | go f sl2 ce2 =>
    cases f with
    | nx =>
     obtain⟨s2,hs,r⟩:=q
     obtain⟨o,e3,q3⟩:=ih s2 r (by omega)
     exact⟨o,by simp only[zce,lft,e,e2];exact e3,q3⟩
    | ct =>
     obtain⟨s2,hs,r⟩:=q
     obtain⟨o,e3,q3⟩:=ih s2 r (by omega)
     exact⟨o,by simp only[zce,lft,e,e2];exact e3,q3⟩
    | bk=>exact q.elim
    | rt w=>exact q.elim
theorem zno{a b:DS}{sl:Sl}{ce:Ce}(h:Run a sl ce fun o=>∃sl' ce',o=.go .nx sl' ce'/\Run b sl' ce' Q):Run (zav a b) sl ce Q:=by
 obtain⟨o,e,sl',ce',rfl,q⟩:=h
 exact zcE e q
end
section
variable {sl:Sl} {ce c1 c2 c3:Ce} {a b:Sl->M W} {w x y:W} {i:Nat} {p q:Bool} {ta tb:Sl->M Bool} {ra:Sl->M (List W)} {xs ws:List W} {src:Src}
theorem zal(h:sl[i]?=some (some w)):zaf i sl ce=some (.ok w ce):=by simp only[zaf,h]
theorem zbP:dC w sl ce=some (.ok w ce):=rfl
theorem zb9{f:W->W->Option W}(ha:a sl ce=some (.ok x c1))(hb:b sl c1=some (.ok y c2))(h:f x y=some w):dOp f a b sl ce=some (.ok w c2):=by simp only[dOp,bnd,look,ha,hb,h,Option.map_some]
theorem zbL{f:Ce->W->W->Option W}(ha:a sl ce=some (.ok x c1))(hb:b sl c1=some (.ok y c2))(h:f c2 x y=some w):zaR f a b sl ce=some (.ok w c2):=by simp only[zaR,bnd,look,ha,hb,h,Option.map_some]
theorem zgZ{f:W->Option W}(ha:a sl ce=some (.ok x c1))(h:f x=some w):dUn f a sl ce=some (.ok w c1):=by simp only[dUn,bnd,look,ha,h,Option.map_some]
theorem zeT(ha:a sl ce=some (.ok (.bl p) c1)):dB a sl ce=some (.ok p c1):=by simp only[dB,bnd,look,ha,Option.map_some]
theorem zpE(ha:a sl ce=some (.ok x c1))(h:zhw c1 x=some p):zo5 a sl ce=some (.ok p c1):=by simp only[zo5,bnd,look,ha,h,Option.map_some]
theorem zjK(ha:ta sl ce=some (.ok p c1))(hb:p=true->tb sl c1=some (.ok q c1)):zdP ta tb sl ce=some (.ok (p&&q) c1):=by
 cases p with
 | true=>simp only[zdP,bnd,ha,hb rfl,Bool.true_and]
 | false=>simp only[zdP,bnd,ha,Bool.false_and];rfl
theorem zhI(ha:ta sl ce=some (.ok p c1))(hb:p=false->tb sl c1=some (.ok q c1)):zkk ta tb sl ce=some (.ok (p||q) c1):=by
 cases p with
 | true=>simp only[zkk,bnd,ha,Bool.true_or];rfl
 | false=>simp only[zkk,bnd,ha,hb rfl,Bool.false_or]
theorem zbV(ha:ta sl ce=some (.ok p c1)):zdQ ta sl ce=some (.ok (!p) c1):=by simp only[zdQ,bnd,ha];rfl
theorem zar:zap sl ce=some (.ok [] ce):=rfl
theorem zak(ha:a sl ce=some (.ok x c1))(hr:ra sl c1=some (.ok xs c2)):zad a ra sl ce=some (.ok (x::xs) c2):=by simp only[zad,bnd,ha,hr];rfl
theorem zby{f:List W->M W}(hr:ra sl ce=some (.ok ws c1))(h:f ws c1=some (.ok w c2)):dBi f ra sl ce=some (.ok w c2):=by simp only[dBi,bnd,hr,h]
theorem zaO{f:List W->M W}{n:Nat}(hr:ra sl ce=some (.ok ws c1))(hl:ws.length=n)(h:f ws c1=some (.ok w c2)):zbo n f ra sl ce=some (.ok w c2):=by simp only[zbo,bnd,hr,if_pos hl,h]
theorem zcf(hr:ra sl ce=some (.ok ws c1))(hl:ws.length<=PySem.sizeLine):zem ra sl ce=some (.ok (.tup ws) c1):=by simp only[zem,bnd,hr,mkF,if_pos hl]
theorem zbM(hr:ra sl ce=some (.ok ws c1))(hl:ws.length<=PySem.sizeLine):zeo ra sl ce=some (.ok (.lst ws) c1):=by simp only[zeo,bnd,hr,mkF,if_pos hl]
theorem zfr(hr:ra sl ce=some (.ok ws c1))(hl:ws.length<=PySem.sizeLine):zcy ra sl ce=some (.ok (.cel c1.length) (c1++[.lst ws])):=by simp only[zcy,bnd,hr,mkC,if_pos hl]
theorem zd0:zep sl ce=some (.ok (.cel ce.length) (ce++[.dct []])):=by simp[zep,mkC]
theorem zlc{f:W->List W->M W}{ys:List W}(ha:a sl ce=some (.ok x c1))(hl:zcQ c1 x=some ys)(hr:ra sl c1=some (.ok ws c2))(h:f x ws c2=some (.ok w c3)):dMt f a ra sl ce=some (.ok w c3):=by simp only[dMt,bnd,ha,look,zkm,hl,hr,h,Option.map_some]
theorem zpF{f:W->List W->M W}{ys:List W}(ha:a sl ce=some (.ok x c1))(hl:zcQ c1 x=some ys)(h:f x [] c1=some (.ok w c3)):zph f a sl ce=some (.ok w c3):=by simp only[zph,bnd,ha,look,zkm,hl,h,Option.map_some]
theorem zld(ha:a sl ce=some (.ok x c1))(h:zil c1 x=some src):dIL a sl ce=some (.ok src c1):=by simp only[dIL,bnd,ha,look,h,Option.map_some]
theorem zpG(ha:a sl ce=some (.ok x c1))(h:zrh x=some src):dIT a sl ce=some (.ok src c1):=by simp only[dIT,bnd,ha,look,h,Option.map_some]
theorem zjL{n:Nat}(ha:ra sl ce=some (.ok [nW n] c1))(h:n<=1000):zgH ra sl ce=some (.ok (.rng 0 n) c1):=zpz ha h
theorem zpH{α:Type}{mk:List W->M W}{js:List Nat}{di:Sl->M Src}{c:Sl->M Bool}{e:Sl->M W}{en:α->W}{zs:List α}{t:α->Bool}{g:α->W}(hi:di sl ce=some (.ok src c1))(hx:src.items=zs.map en)(hst:src.Stays c1)(hc:∀x∈zs,c (some (en x)::zcR js sl) c1=some (.ok (t x) c1))(he:∀x∈zs,t x=true->e (some (en x)::zcR js sl) c1=some (.ok (g x) c1))(hz:zs.length<=PySem.sizeLine)(hm:mk ((zs.filter t).map g) c1=some (.ok w c2)):dLC mk js di c e sl ce=some (.ok w c2):=by
 have key:∀(l:List α) (ys:List W),(∀x∈l,x∈zs)->ys.length+l.length<=PySem.sizeLine->lcL src (zcR js sl) c e (l.map en) ys c1=some (.ok (ys++(l.filter t).map g) c1):=by
  intro l
  induction l with
  | nil=>intro ys _ _;simp only[List.map_nil,lcL,if_pos hst,List.filter_nil,List.append_nil]
  | cons x r ih =>
   intro ys hl hz
   simp only[List.length_cons] at hz
   rw[List.map_cons,zff ⟨hst,by omega⟩,zbR (hc x (hl x List.mem_cons_self))]
   cases ht:t x with
   | true =>
    show bnd (e (some (en x)::zcR js sl)) (fun y=>lcL src (zcR js sl) c e (r.map en) (ys++[y])) c1=_
    rw[zbR (he x (hl x List.mem_cons_self) ht),ih _ (fun y hy=>hl y (List.mem_cons_of_mem _ hy)) (by simp only[List.length_append,List.length_cons,List.length_nil];omega),List.filter_cons_of_pos ht,List.map_cons,List.append_assoc]
    rfl
   | false =>
    show lcL src (zcR js sl) c e (r.map en) ys c1=_
    rw[ih _ (fun y hy=>hl y (List.mem_cons_of_mem _ hy)) (by omega),List.filter_cons_of_neg (by simp[ht])]
 show bnd (di sl) (fun s=>bnd (lcL s (zcR js sl) c e s.items []) mk) ce=_
 rw[zbR hi,hx,zbR (key zs [] (fun _ h=>h) (by simpa using hz)),List.nil_append]
 exact hm
theorem zbW(h:xs.length<=PySem.sizeLine):zbl xs ce=some (.ok (.lst xs) ce):=if_pos h
theorem zdl(h:xs.length<=PySem.sizeLine):zgG xs ce=some (.ok (.cel ce.length) (ce++[.lst xs])):=if_pos h
theorem zpI{o i v:Sl->M W}{ow iw:W}{key:Key}{k:Nat}{kvs:List (Key×W)}{Q:O->Prop}(h1:v sl ce=some (.ok w c1))(h2:o sl c1=some (.ok ow c2))(h3:i sl c2=some (.ok iw c3))(h4:ziI iw=some key)(h5:zma c3 ow=some (k,kvs))(h6:kvs.length<PySem.sizeLine)(q:Q (.go .nx sl (c3.set k (.dct (zik kvs key w))))):Run (ziK o i v) sl ce Q:=⟨_,zmf h1 h2 h3 h4 h5 h6,q⟩
theorem znp{o i v:Sl->M W}{s:DS}{ow iw:W}{key:Key}{k:Nat}{kvs:List (Key×W)}{Q:O->Prop}(h1:v sl ce=some (.ok w c1))(h2:o sl c1=some (.ok ow c2))(h3:i sl c2=some (.ok iw c3))(h4:ziI iw=some key)(h5:zma c3 ow=some (k,kvs))(h6:kvs.length<PySem.sizeLine)(q:Run s sl (c3.set k (.dct (zik kvs key w))) Q):Run (zav (ziK o i v) s) sl ce Q:=zcE (zmf h1 h2 h3 h4 h5 h6) q
end
structure Own (b ce:Ce) (l:List (Nat×C)):Prop where
 cut:∃t,ce=b++t
 get:∀p∈l,ce[p.1]?=some p.2
 ge:∀p∈l,b.length<=p.1
 nd:(l.map Prod.fst).Nodup
namespace Own
variable {b ce:Ce} {l:List (Nat×C)} {k k1 k2 k3:Nat} {c c' q1 q2 q3:C}
theorem start(b:Ce):Own b b []:=⟨⟨[],by simp⟩,by simp,by simp,by simp⟩
theorem alloc(h:Own b ce l)(c:C):Own b (ce++[c]) ((ce.length,c)::l):=by
 obtain⟨⟨t,e⟩,h2,h3,h4⟩:=h
 have lt:∀p∈l,p.1<ce.length:=fun p hp=>by
  have:=h2 p hp
  exact(List.getElem?_eq_some_iff.mp this).1
 refine⟨⟨t++[c],by rw[e,List.append_assoc]⟩,fun p hp=>?_,fun p hp=>?_,?_⟩
 ·rcases List.mem_cons.mp hp with rfl|hp
  ·exact zcD _ _
  ·rw[List.getElem?_append_left (lt p hp)];exact h2 p hp
 ·rcases List.mem_cons.mp hp with rfl|hp
  ·simp[e]
  ·exact h3 p hp
 ·simp only[List.map_cons,List.nodup_cons]
  exact⟨fun q=>by obtain⟨p,hp,e⟩:=List.mem_map.mp q;have:=lt p hp;omega,h4⟩
theorem perm{l':List (Nat×C)}(h:Own b ce l)(p:l.Perm l'):Own b ce l' :=
 ⟨h.cut,fun q hq=>h.get q (p.symm.subset hq),fun q hq=>h.ge q (p.symm.subset hq),(p.map _).nodup h.nd⟩
theorem g0(h:Own b ce ((k,c)::l)):ce[k]?=some c:=h.get _ List.mem_cons_self
theorem g1(h:Own b ce ((k1,q1)::(k,c)::l)):ce[k]?=some c:=h.get (k,c) (by simp)
theorem g2(h:Own b ce ((k1,q1)::(k2,q2)::(k,c)::l)):ce[k]?=some c:=h.get (k,c) (by simp)
theorem drop(h:Own b ce ((k,c)::l)):Own b ce l:=⟨h.cut,fun p hp=>h.get p (List.mem_cons_of_mem _ hp),fun p hp=>h.ge p (List.mem_cons_of_mem _ hp),(List.nodup_cons.mp h.nd).2⟩
theorem set0(h:Own b ce ((k,c)::l))(c':C):Own b (ce.set k c') ((k,c')::l):=by
 have hk:k<ce.length:=(List.getElem?_eq_some_iff.mp h.g0).1
 obtain⟨⟨t,e⟩,h2,h3,h4⟩:=h
 have hb:=h3 (k,c) List.mem_cons_self
 have hn:∀p∈l,p.1≠k:=fun p hp q=>(List.nodup_cons.mp h4).1 (List.mem_map.mpr ⟨p,hp,q⟩)
 refine⟨⟨t.set (k-b.length) c',?_⟩,fun p hp=>?_,fun p hp=>?_,h4⟩
 ·rw[e,List.set_append_right _ _ hb]
 ·rcases List.mem_cons.mp hp with rfl|hp
  ·simp[hk]
  ·rw[List.getElem?_set_ne (Ne.symm (hn p hp))];exact h2 p (List.mem_cons_of_mem _ hp)
 ·rcases List.mem_cons.mp hp with rfl|hp
  ·exact hb
  ·exact h3 p (List.mem_cons_of_mem _ hp)
theorem set1(h:Own b ce ((k1,q1)::(k,c)::l))(c':C):Own b (ce.set k c') ((k1,q1)::(k,c')::l):=((h.perm (.swap _ _ _)).set0 c').perm (.swap _ _ _)
theorem set2(h:Own b ce ((k1,q1)::(k2,q2)::(k,c)::l))(c':C):Own b (ce.set k c') ((k1,q1)::(k2,q2)::(k,c')::l) :=
 ((h.perm (.trans (.cons _ (.swap _ _ _)) (.swap _ _ _))).set0 c').perm (.trans (.swap _ _ _) (.cons _ (.swap _ _ _)))
theorem finC(h:Own b ce l){w:W}(hb:Bel b.length w):finC b ce w=some (.ok w b):=by
 obtain⟨t,rfl⟩:=h.cut
 exact zdA hb
theorem finO(h:Own b ce ((k,c)::l))(hb:zim b.length c):finO b ce (.cel k)=some (.ok (.cel b.length) (b++[c])):=by
 have g:=h.g0
 have ge:=h.ge _ List.mem_cons_self
 obtain⟨t,rfl⟩:=h.cut
 obtain⟨j,hj⟩:=Nat.exists_eq_add_of_le ge
 have hj':k=b.length+j:=hj
 subst hj'
 exact zk6 (by rw[<- zqo b t j];exact g) hb
end Own
theorem zfZ{fin:Ce->Ce->W->Option (R W)}{n:Nat}{body:DS}{ws:List W}{ce:Ce}{r:Option (R W)}(h:Run body (ws.map some++List.replicate (n-ws.length) none) ce (Rt fun w ce'=>fin ce ce' w=r)):dFn fin n body ws ce=r:=by
 obtain⟨o,e,q⟩:=h
 cases o with
 | ex x c=>exact q.elim
 | go f sl c=>cases f with
  | rt w=>exact zmj e q
  | nx=>exact q.elim
  | bk=>exact q.elim
  | ct=>exact q.elim
section
variable {ce:Ce} {k n p j:Nat} {b:List (List Nat)} {is:List Int} {l:List Nat} {xs:List W}
abbrev wS(is:List Int):W:=.tup (is.map W.int)
abbrev wL(l:List Nat):W:=.lst (l.map nW)
abbrev sW(ns:List Int):W:=.lst (ns.map W.int)
theorem zpJ(h:p<b.length):ixW ce (wB b) (nW p)=some (wT (b.getD p [])):=by
 rw[zfp (xs:=b.map wT) rfl,List.getElem?_map,List.getD_eq_getElem?_getD,List.getElem?_eq_getElem h];rfl
theorem zml(h:p<l.length):ixW ce (wL l) (nW p)=some (nW (l.getD p 0)):=by
 rw[zfp (xs:=l.map nW) rfl,List.getElem?_map,List.getD_eq_getElem?_getD,List.getElem?_eq_getElem h];rfl
theorem zcg(h:p<is.length):ixW ce (wS is) (nW p)=some (.int (is.getD p 0)):=by
 rw[zfp (xs:=is.map W.int) rfl,List.getElem?_map,List.getD_eq_getElem?_getD,List.getElem?_eq_getElem h];rfl
theorem zmm(g:ce[k]?=some (.lst (l.map nW)))(h:p<l.length):ixW ce (.cel k) (nW p)=some (nW (l.getD p 0)):=by
 rw[zfp (zgt g),List.getElem?_map,List.getD_eq_getElem?_getD,List.getElem?_eq_getElem h];rfl
theorem znq(g:ce[k]?=some (.lst (l.map nW))):zcJ [.cel k] ce=some (.ok (nW l.length) ce):=by simp only[zcJ,zgt g,List.length_map];rfl
theorem znr:zcJ [wL l] ce=some (.ok (nW l.length) ce):=by simp[zcJ];rfl
theorem zns:zcJ [wB b] ce=some (.ok (nW b.length) ce):=by simp[zcJ,wB];rfl
theorem zfs:zcJ [wS is] ce=some (.ok (nW is.length) ce):=by simp[zcJ];rfl
theorem zpK(g:ce[k]?=some (.lst (l.map nW))){ng:Bool}:inW ng ce (nW p) (.cel k)=some (.bl (if ng then !decide (p∈l) else decide (p∈l))):=zpw (zgt g) ng
theorem znt{F:List Nat}(g:ce[k]?=some (.dct (kvs F))){ng:Bool}:zl7 ng ce (nW p) (.cel k)=some (.bl (if ng then !decide (p∈F) else decide (p∈F))):=by
 have ky:ziI (nW p)=some (.inl (p:Int)):=rfl
 simp only[zl7,ky,zmh g,znn]
theorem zpL{y:W}(g:ce[k]?=some (.lst xs))(h:xs.length<PySem.sizeLine):zgp (.cel k) [y] ce=some (.ok .non (ce.set k (.lst (xs++[y])))):=zk8 (zdX g) h
end
end VS
namespace VS
open L2
def ins(F:List Nat)(y:Nat):List Nat:=if y∈F then F else F++[y]
theorem ins_mem{F:List Nat}{y x:Nat}:x∈ins F y↔x∈F\/x=y:=by
 unfold ins
 split
 ·rename_i h
  exact⟨.inl,fun q=>q.elim id fun e=>e▸h⟩
 ·simp
theorem zeU{F:List Nat}{y:Nat}(h:F.Nodup):(ins F y).Nodup:=by
 unfold ins
 split
 ·exact h
 ·rename_i hn
  rw[List.nodup_append]
  exact⟨h,by simp,fun a ha b hb=>by rw[List.mem_singleton] at hb;subst hb;intro q;subst q;exact hn ha⟩
theorem zdm(F:List Nat)(y:Nat):zik (kvs F) (.inl (y:Int)) (.bl true)=kvs (ins F y):=by
 unfold ins
 split
 ·rename_i h
  have e:((kvs F).any fun kv=>decide (kv.1=(.inl (y:Int):Key)))=true:=List.any_eq_true.mpr ⟨(.inl (y:Int),.bl true),List.mem_map.mpr ⟨y,h,rfl⟩,by simp⟩
  unfold zik
  rw[e]
  simp only[if_true]
  conv=>rhs;rw[<- List.map_id (kvs F)]
  apply List.map_congr_left
  intro p hp
  obtain⟨x,hx,rfl⟩:=List.mem_map.mp hp
  simp only[id]
  split
  ·rename_i q;simp at q;rw[q]
  ·rfl
 ·rename_i h;exact zgV F y h
theorem zdD{F:List Nat}{n:Nat}(nd:F.Nodup)(lt:∀x∈F,x<n):zcw F=(List.range n).filter fun x=>decide (x∈F):=by
 have h:srt (toI F)=toI ((List.range n).filter fun x=>decide (x∈F)):=by
  refine zb6 ((zbt _).trans ?_) (zcv _) ?_
  ·refine List.Perm.map _ (zfo nd (List.Pairwise.filter _ List.nodup_range) fun x=>?_)
   simp only[List.mem_filter,List.mem_range,decide_eq_true_eq]
   exact⟨fun h=>⟨lt x h,h⟩,fun h=>h.2⟩
  ·unfold toI
   rw[List.pairwise_map]
   exact(List.Pairwise.filter _ List.pairwise_lt_range).imp fun h=>by omega
 unfold zcw
 rw[h]
 unfold toI
 rw[List.map_map]
 conv=>rhs;rw[<- List.map_id (List.filter _ _)]
 apply List.map_congr_left
 intro x _
 simp
theorem zhJ{ce:Ce}{k:Nat}{F:List Nat}{mk:List W->M W}(g:ce[k]?=some (.dct (kvs F)))(h:F.length<64):za0 mk [.cel k] ce=mk ((zcw F).map nW) ce:=by
 have l:zcQ ce (.cel k)=none:=by simp only[zcQ,g]
 have g':zkj ce (.cel k)=some (kvs F):=by simp only[zkj,g]
 simp only[za0,l,g',zfm,zbZ,if_pos h,zdB]
inductive DctOf (ce:Ce):W->List Nat->Prop where
 | cl {k:Nat} {F:List Nat} (g:ce[k]?=some (.dct (kvs F))):DctOf ce (.cel k) F
 | fz {k:Nat} {F:List Nat} (g:ce[k]?=some (.fzd (kvs F))):DctOf ce (.cel k) F
theorem zhK{ce:Ce}{w:W}{F:List Nat}{mk:List W->M W}(h:DctOf ce w F):zcS mk [w] ce=mk (F.map nW) ce:=by
 have e:(toI F).map W.int=F.map nW:=by unfold toI;rw[List.map_map];rfl
 cases h with
 | cl g =>
  rename_i k
  have l:zeN ce (.cel k)=none:=by simp only[zeN,zcQ,g]
  have g':zkj ce (.cel k)=some (kvs F):=by simp only[zkj,g]
  simp only[zcS,l,g',zfm,e]
 | fz g =>
  rename_i k
  have l:zeN ce (.cel k)=none:=by simp only[zeN,zcQ,g]
  have g':zkj ce (.cel k)=some (kvs F):=by simp only[zkj,g]
  simp only[zcS,l,g',zfm,e]
inductive LstOf (ce:Ce):W->List W->Prop where
 | fr (xs:List W):LstOf ce (.lst xs) xs
 | cl {k:Nat} {xs:List W} (h:ce[k]?=some (.lst xs)):LstOf ce (.cel k) xs
namespace LstOf
variable {ce:Ce} {w:W} {xs:List W}
theorem drf(h:LstOf ce w xs):drf ce w=.lst xs:=by
 cases h with
 | fr=>rfl
 | cl h=>simp only[VS.drf,h]
theorem src(h:LstOf ce w xs):∃s,zil ce w=some s/\s.items=xs/\s.Stays ce:=by
 cases h with
 | fr=>exact⟨.lst xs,rfl,rfl,trivial⟩
 | cl h=>exact⟨.cell _ xs,by simp only[zil,h],rfl,h⟩
theorem eqI{w':W}{l m:List Int}(h:LstOf ce w (l.map W.int))(h':LstOf ce w' (m.map W.int))(ng:Bool):eqW ng ce w w'=some (.bl (if ng then !decide (l=m) else decide (l=m))):=by
 have c1:cln 8 (.lst (l.map W.int))=true:=zcU l 7
 have c2:cln 8 (.lst (m.map W.int))=true:=zcU m 7
 simp only[eqW,h.drf,h'.drf,c1,c2,zla,Bool.and_self,if_true]
theorem eqN{w':W}{l m:List Nat}(h:LstOf ce w (l.map nW))(h':LstOf ce w' (m.map nW))(ng:Bool):eqW ng ce w w'=some (.bl (if ng then !decide (l=m) else decide (l=m))):=by
 rw[zjC] at h h'
 rw[h.eqI h' ng]
 have inj:(toI l=toI m)↔l=m:=by
  unfold toI
  exact⟨fun h=>by simpa using List.map_inj_right (f:=fun(x:Nat)=>(x:Int)) (fun x y h=>by have h:(x:Int)=(y:Int):=h;omega) |>.mp h,fun h=>by rw[h]⟩
 simp only[inj]
end LstOf
theorem zft{ce:Ce}{w:W}{xs:List W}(h:LstOf ce w xs)(hz:xs.length<=PySem.sizeLine):zbx [w] ce=some (.ok (.tup xs) ce):=by
 cases h with
 | fr=>exact if_pos hz
 | cl h=>simp only[zbx,zcT h];exact if_pos hz
theorem zd1{ce:Ce}{w:W}{xs:List W}{mk:List W->M W}(h:zeN ce w=some xs):zcS mk [w] ce=mk xs ce:=by simp only[zcS,h]
def zes(di:Sl->M Src)(sl:Sl)(ce c1:Ce)(xs:List W):Prop:=∃s,di sl ce=some (.ok s c1)/\s.items=xs/\s.Stays c1
def SrcFix(di:Sl->M Src)(sl:Sl)(ce c1:Ce)(xs:List W):Prop:=∃s,di sl ce=some (.ok s c1)/\s.items=xs/\∀c,s.Stays c
section
variable {di:Sl->M Src} {sl:Sl} {ce c1 c2:Ce} {xs:List W} {a:Sl->M W} {ra:Sl->M (List W)} {w:W}
theorem SrcFix.is(h:SrcFix di sl ce c1 xs):zes di sl ce c1 xs:=by obtain⟨s,h1,h2,h3⟩:=h;exact⟨s,h1,h2,h3 _⟩
theorem zgw(h:a sl ce=some (.ok (.lst xs) c1)):SrcFix (dIL a) sl ce c1 xs:=⟨.lst xs,zld h rfl,rfl,fun _=>trivial⟩
theorem zle(h:a sl ce=some (.ok (.tup xs) c1)):SrcFix (dIT a) sl ce c1 xs:=⟨.tup xs,zpG h rfl,rfl,fun _=>trivial⟩
theorem zeV{l:List Nat}(h:a sl ce=some (.ok (wT l) c1)):SrcFix (dIT a) sl ce c1 (l.map nW):=zle h
theorem zet{n:Nat}(h:ra sl ce=some (.ok [nW n] c1))(hn:n<=1000):SrcFix (zgH ra) sl ce c1 ((List.range n).map nW):=⟨.rng 0 n,zjL h hn,zdZ n,fun _=>trivial⟩
theorem znu(h:a sl ce=some (.ok w c1))(hw:LstOf c1 w xs):zes (dIL a) sl ce c1 xs:=by
 obtain⟨s,h1,h2,h3⟩:=hw.src
 exact⟨s,zld h h1,h2,h3⟩
variable {α:Type} {en:α->W} {zs:List α} {t:α->Bool} {g:α->W} {js:List Nat} {c:Sl->M Bool} {e:Sl->M W}
theorem lcF(hi:zes di sl ce c1 (zs.map en))(hz:zs.length<=PySem.sizeLine)(hc:∀x∈zs,c (some (en x)::zcR js sl) c1=some (.ok (t x) c1))(he:∀x∈zs,t x=true->e (some (en x)::zcR js sl) c1=some (.ok (g x) c1)) :
  dLC zbl js di c e sl ce=some (.ok (.lst ((zs.filter t).map g)) c1):=by
 obtain⟨s,h1,h2,h3⟩:=hi
 exact zpH h1 h2 h3 hc he hz (zbW (by rw[List.length_map];exact Nat.le_trans (List.length_filter_le _ _) hz))
theorem lcC(hi:zes di sl ce c1 (zs.map en))(hz:zs.length<=PySem.sizeLine)(hc:∀x∈zs,c (some (en x)::zcR js sl) c1=some (.ok (t x) c1))(he:∀x∈zs,t x=true->e (some (en x)::zcR js sl) c1=some (.ok (g x) c1)) :
  dLC zgG js di c e sl ce=some (.ok (.cel c1.length) (c1++[.lst ((zs.filter t).map g)])):=by
 obtain⟨s,h1,h2,h3⟩:=hi
 exact zpH h1 h2 h3 hc he hz (zdl (by rw[List.length_map];exact Nat.le_trans (List.length_filter_le _ _) hz))
theorem zhL(zs:List α):zs.filter (fun _=>true)=zs:=List.filter_eq_self.mpr fun _ _=>rfl
theorem zqp(hi:zes di sl ce c1 (zs.map en))(hz:zs.length<=PySem.sizeLine)(he:∀x∈zs,e (some (en x)::zcR js sl) c1=some (.ok (g x) c1)) :
  dLC zbl js di zdf e sl ce=some (.ok (.lst (zs.map g)) c1):=by
 have h:=lcF (t:=fun _=>true) (js:=js) hi hz (c:=zdf) (fun _ _=>rfl) (fun x hx _=>he x hx)
 rwa [zhL] at h
theorem zru(hi:zes di sl ce c1 (zs.map en))(hz:zs.length<=PySem.sizeLine)(he:∀x∈zs,e (some (en x)::zcR js sl) c1=some (.ok (g x) c1)) :
  dLC zgG js di zdf e sl ce=some (.ok (.cel c1.length) (c1++[.lst (zs.map g)])):=by
 have h:=lcC (t:=fun _=>true) (js:=js) hi hz (c:=zdf) (fun _ _=>rfl) (fun x hx _=>he x hx)
 rwa [zhL] at h
theorem znv{f:α->Int}(hi:zes di sl ce c1 (zs.map en))(hz:zs.length<=PySem.sizeLine)(he:∀x∈zs,e (some (en x)::zcR js sl) c1=some (.ok (.int (f x)) c1)):dLC zbl js di zdf e sl ce=some (.ok (sW (zs.map f)) c1):=by
 rw[zqp hi hz he,sW,List.map_map];rfl
theorem zrv(hi:zes di sl ce c1 (zs.map en))(hz:zs.length<=PySem.sizeLine)(hc:∀x∈zs,c (some (en x)::zcR js sl) c1=some (.ok (t x) c1)):dLC zbl js di c (zaf 0) sl ce=some (.ok (.lst ((zs.filter t).map en)) c1) :=
 lcF hi hz hc fun _ _ _=>rfl
theorem zsi(hi:zes di sl ce c1 (zs.map en))(hz:zs.length<=PySem.sizeLine)(hc:∀x∈zs,c (some (en x)::zcR js sl) c1=some (.ok (t x) c1)):dLC zgG js di c (zaf 0) sl ce=some (.ok (.cel c1.length) (c1++[.lst ((zs.filter t).map en)])) :=
 lcC hi hz hc fun _ _ _=>rfl
theorem zca{body:DS}{i:Nat}{Q:O->Prop}(hi:SrcFix di sl ce c1 (zs.map en))(R:List α->Sl->Ce->Prop)(h0:R [] sl c1)(step:∀d x r sl ce,d++x::r=zs->x∈zs->R d sl ce->Run body (sl.set i (some (en x))) ce (Nx (R (d++[x]))))(fin:∀sl ce,R zs sl ce->Q (.go .nx sl ce)):Run (zcN di (gN i) body) sl ce Q:=by
 obtain⟨s,h1,h2,h3⟩:=hi
 exact zgY h1 h2 R h0 (fun d x r sl ce e m h=>⟨h3 _,step d x r sl ce e m h⟩) (fun _ _ _=>h3 _) fin
theorem zbn{body b:DS}{i:Nat}{Q:O->Prop}(hi:SrcFix di sl ce c1 (zs.map en))(R:List α->Sl->Ce->Prop)(h0:R [] sl c1)(step:∀d x r sl ce,d++x::r=zs->x∈zs->R d sl ce->Run body (sl.set i (some (en x))) ce (Nx (R (d++[x]))))(fin:∀sl ce,R zs sl ce->Run b sl ce Q):Run (zav (zcN di (gN i) body) b) sl ce Q:=by
 obtain⟨s,h1,h2,h3⟩:=hi
 exact zjI h1 h2 R h0 (fun d x r sl ce e m h=>⟨h3 _,step d x r sl ce e m h⟩) (fun _ _ _=>h3 _) fin
end
theorem zjM(ce:Ce)(x y:Int)(ng:Bool):eqW ng ce (.int x) (.int y)=some (.bl (if ng then !decide (x=y) else decide (x=y))):=by
 have d1:drf ce (.int x)=.int x:=rfl
 have d2:drf ce (.int y)=.int y:=rfl
 have c:∀i:Int,cln 8 (.int i)=true:=fun _=>rfl
 simp only[eqW,d1,d2,c,Bool.and_self,if_true,zjE]
theorem zcq{fin:Ce->Ce->W->Option (R W)}{n:Nat}{body:DS}{ws:List W}{ce:Ce}{w:W}{c':Ce}(sl:Sl)(e:ws.map some++List.replicate (n-ws.length) none=sl)(h:Run body sl ce (Rt fun v ce'=>fin ce ce' v=some (.ok w c'))):dFn fin n body ws ce=some (.ok w c'):=by
 subst e
 exact zfZ h
section
variable {ce:Ce} {k p:Nat} {l:List Nat} {m:List Int} {i j:Int} {w w':W}
theorem eqI0:eqW false ce (.int i) (.int j)=some (.bl (decide (i=j))):=zjM _ _ _ _
theorem zsj:eqW true ce (.int i) (.int j)=some (.bl (!decide (i=j))):=zjM _ _ _ _
theorem zsW(g:ce[k]?=some (.lst (l.map nW))):inW true ce (nW p) (.cel k)=some (.bl (!decide (p∈l))):=zpK g
theorem zrw(g:ce[k]?=some (.dct (kvs l))):zl7 true ce (nW p) (.cel k)=some (.bl (!decide (p∈l))):=znt g
end
section
variable {x y:W} {i j:Int} {n k:Nat} {ce:Ce}
theorem zcb(hx:x=.int i)(hy:y=.int j):zb3 x y=some (.int (i+j)):=by subst hx;subst hy;rfl
theorem zfu(hx:x=.int i)(hy:y=.int j):zhv x y=some (.int (i-j)):=by subst hx;subst hy;rfl
theorem zjN(hx:x=.int i)(hy:y=.int j):fLt x y=some (.bl (decide (i<j))):=by subst hx;subst hy;rfl
theorem zjO(hx:x=.int i)(hy:y=.int j):fGt x y=some (.bl (decide (j<i))):=by subst hx;subst hy;rfl
theorem zfv(hx:x=.int i)(hy:y=.int j):zdz x y=some (.bl (decide (i=j))):=by subst hx;subst hy;rfl
theorem znw(hx:x=.int i)(hy:y=.int j):zod x y=some (.bl (!decide (i=j))):=by subst hx;subst hy;rfl
theorem zcK(hx:x=.int i)(hy:y=.int j)(h:0<j):zbA x y=some (.int (i % j)):=by subst hx;subst hy;exact zmg h
theorem zd2(hx:x=.int i)(hy:y=.int j)(h:0<j/\j<1073741824):zgR x y=some (.int (i / j)):=by subst hx;subst hy;exact zps h
theorem znx(hx:x=.int i)(hy:y=.int j)(h:CMul i j):ze8 x y=some (.int (i*j)):=by subst hx;subst hy;exact zgs h
theorem zpM(hx:x=.int i):ziI x=some (.inl i):=by subst hx;rfl
theorem zhM{mk:List W->M W}{l:List Nat}(h:l.length<64):za0 mk [wL l] ce=mk ((zcw l).map nW) ce:=by
 simp only[za0,zpt,zfn,zbZ,if_pos h,zdB]
end
section
variable {ce:Ce} {l:List Nat} {m:List Int} {w:W}
theorem zcL{P:W->Ce->Prop}{sl:Sl}(h:P w ce):Rt P (.go (.rt w) sl ce):=h
end
section
variable {ce c1:Ce} {l:List Nat} {k:Nat} {sl:Sl} {a:Sl->M W} {α:Type} {en:α->W} {zs:List α}
theorem zcV(l:List Nat):(zcw l).length=l.length:=by rw[zcw,List.length_map,(zbt _).length_eq,zbZ]
theorem zlf{body:DS}{i:Nat}{Q:O->Prop}(hi:a sl ce=some (.ok (.cel k) c1))(g:c1[k]?=some (.lst (zs.map en)))(R:List α->Sl->Ce->Prop)(h0:R [] sl c1)(hst:∀d sl ce,R d sl ce->ce[k]?=some (.lst (zs.map en)))(step:∀d x r sl ce,d++x::r=zs->x∈zs->R d sl ce->Run body (sl.set i (some (en x))) ce (Nx (R (d++[x]))))(fin:∀sl ce,R zs sl ce->Q (.go .nx sl ce)):Run (zcN (dIL a) (gN i) body) sl ce Q :=
 zgY (src:=.cell k (zs.map en)) (zld hi (by simp only[zil,g])) rfl R h0 (fun d x r sl ce e m h=>⟨hst _ _ _ h,step d x r sl ce e m h⟩) (fun _ _ h=>hst _ _ _ h) fin
theorem zgx{σ:Type}{c:Sl->M Bool}{body b:DS}{fu:Nat}{Q:O->Prop}(R:σ->Sl->Ce->Prop)(m:σ->Nat)(s0:σ)(h0:R s0 sl ce)(hm:m s0<fu)(step:∀s sl ce,R s sl ce->∃p,c sl ce=some (.ok p ce)/\(p=true->Run body sl ce (Nx fun sl2 ce2=>∃s2,m s2<m s/\R s2 sl2 ce2))/\(p=false->Run b sl ce Q)):Run (zav (zce c body fu) b) sl ce Q :=
 zno (zjJ R m s0 h0 hm fun s sl ce h=>by
  obtain⟨p,e,ht,hf⟩:=step s sl ce h
  exact⟨p,e,ht,fun q=>⟨sl,ce,rfl,hf q⟩⟩)
end
theorem zfw(n:Nat):∀cs:List (List Nat),zdr n (cs.map wL)
 | []=>by simp only[List.map_nil,zdr]
 | a::r=>by simp only[List.map_cons,zdr,wL,Bel];exact⟨bels_nW n a,zfw n r⟩
section
variable {ce:Ce} {k:Nat} {l:List Nat} {b:List (List Nat)} {m:List Int}
theorem zlg(g:ce[k]?=some (.lst (m.map W.int)))(h:m.length<=PySem.sizeLine):zbx [.cel k] ce=some (.ok (wS m) ce):=zft (.cl g) (by rw[List.length_map];exact h)
theorem zpN(h:b.length<=PySem.sizeLine):zbx [.lst (b.map wT)] ce=some (.ok (wB b) ce):=zft (.fr _) (by rw[List.length_map];exact h)
theorem zny(h:m.length<=PySem.sizeLine):zbx [sW m] ce=some (.ok (wS m) ce):=zft (.fr _) (by rw[List.length_map];exact h)
end
section
variable {ce:Ce} {k:Nat} {l l':List Nat} {m:List Int}
end
end VS
namespace VS
open PySem PySem.Spec PyProof.Rows L2
section
variable {X:Cx}
def zpO(K:PySem.W.Frag):R2:=fun x y H Q=>∃a b xs ys,x=.ref a/\y=.ref b/\SqT K H a xs/\SqT K H b ys/\xs.length+ys.length<=sizeLine /\
 (xs=[]->Q (.ref b) H)/\(ys=[]->Q (.ref a) H)/\(∀p,H p=none->Q (.ref p) (upd H p (.tup (xs++ys))))
theorem zlh:OpR X (binaryOp .Add) (zpO X.K):=by
 intro pins s σ H x y v u Q I rx ry h
 obtain⟨a,b,xs,ys,rfl,rfl,ha,hb,hz,q0,q1,q2⟩:=h
 by_cases hx:xs=[]
 ·cases rx
  cases ry
  obtain⟨its,r1,p1,_⟩:=I.tuple ha
  obtain⟨its2,r2,p2,_⟩:=I.tuple hb
  obtain⟨⟨cls,dd,data,sl⟩,ho,hc,n,hd⟩:=id p1
  obtain⟨⟨cls2,dd2,data2,sl2⟩,ho2,hc2,n2,hd2⟩:=id p2
  simp only at hc hd hc2 hd2
  subst hc hd hc2 hd2
  have he:its=[]:=r1.nil_iff.mpr hx
  exact concat_meets ⟨_,ho,rfl⟩ ⟨_,ho2,rfl⟩ noFill_tuple_add seq_tuple_add PySem.F.slot_tuple_add PySem.F.entry_tuple_add (PySem.F.args_tuple_add_2 _ _)
   (tuple_addW0 a b its.toArray its2.toArray n n2 dd dd2 sl sl2 (by simp[he])) ⟨ho,ho2,⟨.ref b,H,I,rfl,q0 hx⟩⟩
 ·exact zmV pins s σ H _ _ v u Q I rx ry ⟨a,b,xs,ys,rfl,rfl,ha,hb,hx,hz,q1,fun _=>q2⟩
end
section
variable {X:Cx} {G:Ga} {E:XK} {a b:Expr} {da db:Sl->M W} {pos:Pos}
def znz(x y:W):M W:=fun ce=>match x,y with
 | .tup xs,.tup ys=>if xs.length+ys.length<=sizeLine then some (.ok (.tup (xs++ys)) ce) else none
 | _,_=>none
def zir(a b:Sl->M W):Sl->M W:=fun sl=>bnd (a sl) fun x=>bnd (b sl) fun y=>znz x y
theorem zg0(ha:PE X a (zam G E da))(hb:PE X b (zam G E db)):PE X (.BinOp a .Add b pos) (zam G E (zir da db)):=by
 refine PE.imp (zmJ zlh ha hb) fun σ H Q h=>zgb h fun F as sl ce H2 x y wx wy S rx ry P=>?_
 revert P
 unfold znz
 cases wx<;>first|exact fun P=>P.elim|skip
 rename_i xs
 cases wy<;>first|exact fun P=>P.elim|skip
 rename_i ys
 dsimp only
 split
 ·rename_i hl
  intro P
  simp only[Rep] at rx ry
  obtain⟨p,vs,rfl,h1,r1⟩:=rx
  obtain⟨p',us,rfl,h2,r2⟩:=ry
  have P':Post G E Rep F as σ sl Q (mkF (.tup (xs++ys)) (xs++ys).length ce):=by
   have:mkF (.tup (xs++ys)) (xs++ys).length ce=some (.ok (.tup (xs++ys)) ce):=if_pos (by rw[List.length_append];exact hl)
   rw[this];exact P
  refine⟨p,p',vs,us,rfl,rfl,.inl (.inl (S.st.sub _ _ h1)),.inl (.inl (S.st.sub _ _ h2)),by rw[r1.length,r2.length];exact hl,fun e=>?_,fun e=>?_,(zfc S (r1.append r2) P').2⟩
  ·have hx:xs=[]:=List.length_eq_zero_iff.mp (by rw[<- r1.length,e];rfl)
   subst hx
   exact P.done S (by simp only[Rep,List.nil_append];exact⟨p',us,rfl,h2,r2⟩)
  ·have hx:ys=[]:=List.length_eq_zero_iff.mp (by rw[<- r2.length,e];rfl)
   subst hx
   exact P.done S (by simp only[Rep,List.append_nil];exact⟨p,vs,rfl,h1,r1⟩)
 ·exact fun P=>P.elim
def ztc(ng:Bool):W->W->Option W
 | .bl c,.bl d=>some (.bl (if ng then c != d else c==d))
 | _,_=>none
end
end VS
namespace VS
open L2
section
variable {sl:Sl} {ce c1 c2:Ce} {a b:Sl->M W} {w x y:W} {xs ys:List W} {k n:Nat} {i:Int} {p q:Bool}
theorem zli{key:Key}(ha:a sl (ce++[.dct []])=some (.ok x (ce++[.dct []])))(hb:b sl (ce++[.dct []])=some (.ok y (ce++[.dct []])))(hk:ziI x=some key):zgr a b sl ce=some (.ok (.cel ce.length) (ce++[.dct [(key,y)]])):=by
 have g:(ce++[C.dct []])[ce.length]?=some (.dct []):=zcD _ _
 have s:(ce++[C.dct []]).set ce.length (.dct [(key,y)])=ce++[.dct [(key,y)]]:=by rw[zrj];rfl
 simp only[zgr,bnd,ha,hb,ret,hk,g,s]
theorem zpP(g:ce[k]?=some (.lst xs))(e:xs=ys++[y]):zpj (.cel k) [] ce=some (.ok y (ce.set k (.lst ys))):=by
 subst e
 simp[zpj,zdX g]
theorem znA(g:ce[k]?=some (.lst xs)):zhw ce (.cel k)=some (!xs.isEmpty):=by simp only[zhw,g]
theorem zg1(ha:a sl ce=some (.ok (.tup xs) c1))(hb:b sl c1=some (.ok (.tup ys) c2))(hz:xs.length+ys.length<=PySem.sizeLine):zir a b sl ce=some (.ok (.tup (xs++ys)) c2):=by
 simp only[zir,bnd,ha,hb,znz,if_pos hz]
theorem znB(h:xs.length<=PySem.sizeLine):zne xs ce=some (.ok (.tup xs) ce):=if_pos h
theorem zbX(ha:a sl ce=some (.ok (.int i) c1)):zba a sl ce=some (.ok (some i) c1):=by simp only[zba,bnd,ha];rfl
theorem zjP{bs:List Bool}:zoc [.lst (bs.map W.bl)] ce=some (.ok (.bl (bs.all id)) ce):=by simp only[zoc,zcQ,zeR]
variable {α:Type} {en:α->W} {zs:List α} {di:Sl->M Src} {e:Sl->M W} {js:List Nat}
theorem zpQ{f:α->Bool}(hi:zes di sl ce c1 (zs.map en))(hz:zs.length<=PySem.sizeLine)(he:∀x∈zs,e (some (en x)::zcR js sl) c1=some (.ok (.bl (f x)) c1)):dLC zbl js di zdf e sl ce=some (.ok (.lst ((zs.map f).map W.bl)) c1):=by
 rw[zqp hi hz he,List.map_map];rfl
end
inductive SetAt:Sl->Nat->Option W->Sl->Prop where
 | zero {x w:Option W} {r:Sl}:SetAt (x::r) 0 w (w::r)
 | succ {x w:Option W} {r r':Sl} {i:Nat} (h:SetAt r i w r'):SetAt (x::r) (i+1) w (x::r')
theorem SetAt.eq{sl sl':Sl}{i:Nat}{w:Option W}(h:SetAt sl i w sl'):sl.set i w=sl':=by
 induction h with
 | zero=>rfl
 | succ _ ih=>rw[List.set_cons_succ,ih]
theorem zaj{b:DS}{sl sl':Sl}{i:Nat}{w:Option W}{ce:Ce}{Q:O->Prop}(hs:SetAt sl i w sl')(h:Run b sl' ce Q):Run b (sl.set i w) ce Q:=by rw[hs.eq];exact h
section
variable {b:List (List Nat)} {vl:Nat->Int} {s x y:Nat}
abbrev okV(vl:Nat->Int)(s y:Nat):Prop:=vl y=vl s
abbrev Sym(b:List (List Nat)):Prop:=∀i j,j∈b.getD i []->i∈b.getD j []
open Classical in
def cpt(b:List (List Nat))(vl:Nat->Int)(s:Nat):List Nat:=(List.range b.length).filter fun y=>decide (Reach b (okV vl s) s y)
def zbE(b:List (List Nat))(vl:Nat->Int)(s:Nat):Bool:=(cpt b vl s).all fun y=>decide (s<=y)
def ptc(b:List (List Nat))(vl:Nat->Int):List (List Nat):=((List.range b.length).filter (zbE b vl)).map (cpt b vl)
theorem Reach.lt(hb:Bd b)(hs:s<b.length){ok:Nat->Prop}(h:Reach b ok s x):x<b.length:=by
 cases h with
 | refl=>exact hs
 | step _ hy _=>exact hb.get hy
open Classical in
theorem za6(hb:Bd b)(hs:s<b.length):x∈cpt b vl s↔Reach b (okV vl s) s x:=by
 unfold cpt
 rw[List.mem_filter,List.mem_range,decide_eq_true_eq]
 exact⟨fun h=>h.2,fun h=>⟨h.lt hb hs,h⟩⟩
theorem cpt_lt(h:x∈cpt b vl s):x<b.length:=List.mem_range.mp (List.mem_filter.mp h).1
theorem znC:(cpt b vl s).length<=b.length:=by
 have:=List.length_filter_le (fun y=>@decide (Reach b (okV vl s) s y) (Classical.propDecidable _)) (List.range b.length)
 rw[List.length_range] at this
 exact this
theorem zbF(hb:Bd b)(hs:s<b.length):s∈cpt b vl s:=(za6 hb hs).mpr .refl
theorem cpt_val(hb:Bd b)(hs:s<b.length)(h:x∈cpt b vl s):vl x=vl s:=Reach.okOf (ok:=okV vl s) rfl ((za6 hb hs).mp h)
open Classical in
theorem znD{F:List Nat}(c:Comp b (okV vl s) s F):zcw F=cpt b vl s:=by
 rw[zdD c.nd c.lt]
 unfold cpt
 apply List.filter_congr
 intro x _
 rw[Bool.eq_iff_iff,decide_eq_true_eq,decide_eq_true_eq]
 exact c.mem x
theorem zmn(h:vl x=vl s):okV vl x=okV vl s:=by funext y;unfold okV;rw[h]
open Classical in
theorem zd3(hb:Bd b)(sym:Sym b)(hs:s<b.length)(h:x∈cpt b vl s):cpt b vl x=cpt b vl s:=by
 have v:=cpt_val hb hs h
 have r:=(za6 hb hs).mp h
 unfold cpt
 apply List.filter_congr
 intro y _
 rw[Bool.eq_iff_iff,decide_eq_true_eq,decide_eq_true_eq,zmn v]
 exact⟨fun q=>r.trans q,fun q=>(Reach.symm (ok:=okV vl s) sym rfl r).trans q⟩
theorem zhN(hb:Bd b)(sym:Sym b)(hs:s<b.length)(h:x∈cpt b vl s):s∈cpt b vl x:=by rw[zd3 hb sym hs h];exact zbF hb hs
theorem zgy(hb:Bd b)(sym:Sym b)(hs:s<b.length):∃m,m∈cpt b vl s/\zbE b vl m=true/\cpt b vl m=cpt b vl s:=by
 have key:∀(k:Nat) (s:Nat),s<=k->s<b.length->∃m,m∈cpt b vl s/\zbE b vl m=true/\cpt b vl m=cpt b vl s:=by
  intro k
  induction k with
  | zero =>
   intro s hk hs
   refine⟨s,zbF hb hs,?_,rfl⟩
   unfold zbE
   rw[List.all_eq_true]
   intro y _
   exact decide_eq_true (by omega)
  | succ k ih =>
   intro s hk hs
   by_cases h:zbE b vl s=true
   ·exact⟨s,zbF hb hs,h,rfl⟩
   ·unfold zbE at h
    rw[List.all_eq_true] at h
    obtain⟨y,hy⟩:=Classical.not_forall.mp h
    obtain⟨hy,hn⟩:=Classical.not_imp.mp hy
    have hn':¬s<=y:=fun q=>hn (decide_eq_true q)
    obtain⟨m,h1,h2,h3⟩:=ih y (by omega) (cpt_lt hy)
    have e:=zd3 hb sym hs hy
    exact⟨m,by rw[<- e];exact h1,h2,by rw[h3,e]⟩
 exact key s s (Nat.le_refl _) hs
theorem zg2(hb:Bd b){c:List Nat}:c∈ptc b vl↔∃s,s<b.length/\zbE b vl s=true/\c=cpt b vl s:=by
 unfold ptc
 rw[List.mem_map]
 constructor
 ·rintro⟨s,hs,rfl⟩
  obtain⟨h1,h2⟩:=List.mem_filter.mp hs
  exact⟨s,List.mem_range.mp h1,h2,rfl⟩
 ·rintro⟨s,h1,h2,rfl⟩
  exact⟨s,List.mem_filter.mpr ⟨List.mem_range.mpr h1,h2⟩,rfl⟩
theorem zjQ:(ptc b vl).length<=b.length:=by
 unfold ptc
 rw[List.length_map]
 have:=List.length_filter_le (zbE b vl) (List.range b.length)
 rw[List.length_range] at this
 exact this
theorem zhO(hb:Bd b)(hs:s<b.length)(h:zbE b vl s=true):(cpt b vl s).getD 0 0=s:=by
 have hmem:=zbF (vl:=vl) hb hs
 unfold zbE at h
 rw[List.all_eq_true] at h
 have srt:(cpt b vl s).Pairwise (·<·):=List.Pairwise.filter _ List.pairwise_lt_range
 cases e:cpt b vl s with
 | nil=>rw[e] at hmem;simp at hmem
 | cons a r =>
  rw[e] at hmem h srt
  have h1:s<=a:=of_decide_eq_true (h a (by simp))
  rcases List.mem_cons.mp hmem with h2|h2
  ·simp[h2]
  ·have:=(List.pairwise_cons.mp srt).1 s h2
   omega
end
end VS
namespace VS
open PySem PySem.Spec PyProof.Rows L2
mutual
def zeu(n:Nat)(ce:Ce):Nat->W->Option W
 | 0,.cel k=>if k<n then some (.cel k) else none
 | 0,.lst _=>none
 | 0,.tup _=>none
 | d+1,.cel k=>if k<n then some (.cel k) else match ce[k]? with
  | some (.lst xs)=>(zck n ce d xs).map .lst
  | _=>none
 | d+1,.lst xs=>(zck n ce d xs).map .lst
 | d+1,.tup xs=>(zck n ce d xs).map .tup
 | _,w=>some w
def zck(n:Nat)(ce:Ce):Nat->List W->Option (List W)
 | _,[]=>some []
 | d,x::xs=>match zeu n ce d x,zck n ce d xs with
  | some y,some ys=>some (y::ys)
  | _,_=>none
end
section
variable {G:Ga} {F F2:Hp} {as as2:List Addr} {H:Hp} {ce:Ce} {n:Nat}
theorem zhP(h:∀{w w2:W} {v:V},zeu n ce d w=some w2->Rep F as w v->Rep F2 as2 w2 v):∀{ws ws2:List W} {vs:List V},zck n ce d ws=some ws2->Reps F as ws vs->Reps F2 as2 ws2 vs
 | [],ws2,vs,e,r=>by
  simp only[zck,Option.some.injEq] at e
  subst e
  simp only[Reps] at r
  subst r
  exact .nil
 | x::xs,ws2,vs,e,r=>by
  simp only[zck] at e
  simp only[Reps] at r
  obtain⟨v,r',rfl,q,s⟩:=r
  split at e
  ·rename_i y ys e1 e2
   cases e
   exact .cons (h e1 q) (zhP h e2 s)
  ·cases e
theorem zhQ(S:Store G F as H ce)(hF:∀a o,F a=some o->F2 a=some o)(hc:∀(k:Nat) (a:Addr) (xs:List W) (vs:List V),n<=k->as[k]?=some a->ce[k]?=some (.lst xs)->H a=some (.lst vs)->F2 a=some (.lst vs))(ha:∀(k:Nat) (a:Addr),k<n->as[k]?=some a->as2[k]?=some a):∀(d:Nat) {w w2:W} {v:V},zeu n ce d w=some w2->Rep F as w v->Rep F2 as2 w2 v:=by
 have rd:∀{a:Addr} {o:HO},Rd F a o->Rd F2 a o:=fun r=>by
  rcases r with r|⟨u,r⟩
  ·exact .inl (hF _ _ r)
  ·exact .inr ⟨u,hF _ _ r⟩
 have low:∀{k:Nat} {v:V},k<n->Rep F as (.cel k) v->Rep F2 as2 (.cel k) v:=fun hk r=>by
  simp only[Rep] at r ⊢
  obtain⟨a,rfl,q⟩:=r
  exact⟨a,rfl,ha _ _ hk q⟩
 intro d
 induction d with
 | zero =>
  intro w w2 v e r
  cases w<;>simp only[zeu,Option.some.injEq,reduceCtorEq] at e
  case cel k =>
   split at e
   ·rename_i hk
    cases e
    exact low hk r
   ·cases e
  all_goals (subst e;simp only[Rep] at r ⊢;exact r)
 | succ d ih =>
  have ihs:∀{ws ws2:List W} {vs:List V},zck n ce d ws=some ws2->Reps F as ws vs->Reps F2 as2 ws2 vs:=fun e r=>zhP ih e r
  intro w w2 v e r
  cases w<;>simp only[zeu,Option.some.injEq] at e
  case cel k =>
   split at e
   ·rename_i hk
    cases e
    exact low hk r
   ·rename_i hk
    split at e
    ·rename_i xs hx
     obtain⟨ys,e1,rfl⟩:=Option.map_eq_some_iff.mp e
     simp only[Rep] at r
     obtain⟨a,rfl,q⟩:=r
     obtain⟨_,vs,h2,rs⟩:=S.cell _ _ _ q hx
     simp only[Rep]
     exact⟨a,vs,rfl,.inl (hc k a xs vs (by omega) q hx h2),ihs e1 rs⟩
    ·cases e
  case lst xs =>
   obtain⟨ys,e1,rfl⟩:=Option.map_eq_some_iff.mp e
   simp only[Rep] at r ⊢
   obtain⟨a,vs,rfl,h2,rs⟩:=r
   exact⟨a,vs,rfl,rd h2,ihs e1 rs⟩
  case tup xs =>
   obtain⟨ys,e1,rfl⟩:=Option.map_eq_some_iff.mp e
   simp only[Rep] at r ⊢
   obtain⟨a,vs,rfl,h2,rs⟩:=r
   exact⟨a,vs,rfl,hF _ _ h2,ihs e1 rs⟩
  all_goals (subst e;simp only[Rep] at r ⊢;exact r)
end
open Classical in
def zoe(d:List W->M W):List W->M W:=fun ws ce=>match d ws ce with
 | some (.ok w ce')=>if zfg ce ce' then match zeu ce.length ce' 6 w with
  | some w2=>some (.ok w2 (ce'.take ce.length))
  | none=>none
  else none
 | r=>r
open Classical in
theorem znE{P:Program}{w:World}{K:PySem.W.Frag}{mg:Str->Option Value}{base:Heap}{CX:CXT}{k n:Nat}{f:Addr}{fd:FuncData}{ps:List Str}{G:Ga}{fe:XK->XK}{d:List W->M W}(h:FnOk P w K mg base CX k f fd ps (spV G fe n d)):FnOk P w K mg base CX k f fd ps (spV G fe n (zoe d)):=by
 refine h.imp fun vs H Q E ⟨hl,F,as,ws,ce,S,rs,Pf⟩=>⟨hl,F,as,ws,ce,S,rs,?_⟩
 revert Pf
 unfold zoe
 cases d ws ce with
 | none=>exact fun P=>P
 | some r=>cases r with
  | ex x ce'=>exact fun P=>P
  | ok w ce' =>
   dsimp only
   intro Pf v H' F' as' l S' rv
   split at Pf
   ·rename_i h1
    split at Pf
    ·rename_i w2 e2
     obtain⟨S2,l2⟩:=S.cut S' l h1
     let isC:Addr->Prop:=fun a=>∃(k:Nat) (xs:List W),ce.length<=k/\as'[k]?=some a/\ce'[k]?=some (.lst xs)
     let F2:Hp:=fun a=>if isC a then H' a else F' a
     have sub:∀a o,F' a=some o->F2 a=some o:=fun a o e=>by
      have:¬isC a:=by
       rintro⟨k,xs,_,e1,e3⟩
       have:=(S'.cell k a _ e1 e3).1 rfl
       rw[this] at e
       cases e
      show(if isC a then H' a else F' a)=_
      rw[if_neg this];exact e
     have l3:Le F' (as'.take ce.length) F2 (as'.take ce.length):=⟨sub,fun _ _ h=>h⟩
     refine Pf v H' F2 (as'.take ce.length) (l2.trans l3) ⟨fun b o e=>?_,S2.nd,S2.len,fun i b c e1 e3=>?_⟩ ?_
     ·have e:(if isC b then H' b else F' b)=some o:=e
      split at e
      ·exact e
      ·exact S'.sub _ _ e
     ·obtain⟨p1,p2⟩:=S2.cell i b c e1 e3
      refine⟨fun hn=>?_,p2.le l3 rfl⟩
      show(if isC b then H' b else F' b)=none
      rw[if_neg]
      ·exact p1 hn
      ·rintro⟨k,xs,hk,e4,_⟩
       have hi:i<ce.length:=by have:=zao e3;rw[List.length_take] at this;omega
       rw[zbs hi] at e1
       have a1:=zao e4
       have a2:=zao e1
       rw[List.getElem?_eq_getElem a1] at e4
       rw[List.getElem?_eq_getElem a2] at e1
       have:=zf9 S'.nd a1 a2 ((Option.some.inj e4).trans (Option.some.inj e1).symm)
       omega
     ·refine zhQ S' sub (fun k a xs vs hk e1 e3 e4=>?_) (fun k a hk e1=>by rw[zbs hk];exact e1) 6 e2 rv
      show(if isC a then H' a else F' a)=_
      rw[if_pos ⟨k,xs,hk,e1,e3⟩]
      exact e4
    ·exact Pf.elim
   ·exact Pf.elim
def zlj(ce:Ce)(w:W):Option W:=zeu 0 ce 6 w
theorem zhR{G:Ga}{F:Hp}{as:List Addr}{H:Hp}{ce:Ce}{w w2:W}{v:V}(S:Store G F as H ce)(r:Rep F as w v)(e:zlj ce w=some w2):Rep H as w2 v :=
 zhQ S S.sub (fun k a xs vs _ _ _ h=>h) (fun k a hk _=>absurd hk (Nat.not_lt_zero _)) 6 e r
def eqD(ng:Bool)(ce:Ce)(x y:W):Option W:=match zlj ce x,zlj ce y with
 | some x',some y'=>if (cln 8 x'&&cln 8 y')=true then some (.bl (if ng then !peq x' y' else peq x' y')) else none
 | _,_=>none
theorem zjR(ng:Bool):OpC (zqm ng) (eqD ng):=by
 intro G F as H ce x y wx wy w S rx ry e Q q
 unfold eqD at e
 split at e
 ·rename_i x' y' e1 e2
  split at e
  ·rename_i hc
   rw[Bool.and_eq_true] at hc
   cases e
   exact⟨as,_,_,zhR S rx e1,zhR S ry e2,hc.1,hc.2,q _ (by simp only[Rep])⟩
  ·cases e
 ·cases e
section
variable {X:Cx} {G:Ga} {E:XK} {a b:Expr} {da db:Sl->M W} {pos:Pos}
theorem zpR(hu:X.A.units+8<cLine)(ha:PE X a (zam G E da))(hb:PE X b (zam G E db)):PE X (.Compare a [.Eq] [b] pos) (zam G E (zaR (eqD false) da db)):=PE.imp (zgM (zjm hu) ha hb (zcl _)) (zbB (zjR false))
theorem zmo(hu:X.A.units+8<cLine)(ha:PE X a (zam G E da))(hb:PE X b (zam G E db)):PT X (.Compare a [.NotEq] [b] pos) (zcn G E (dB (zaR (eqD true) da db))):=ze9 (zl4 hu) ha hb (zcl _) (zbB (zjR true))
end
end VS
namespace VS
open L2
section
variable {sl:Sl} {ce c1 c2 c3:Ce} {e o i:Sl->M W} {w x y:W} {xs:List W} {k j:Nat} {b:DS} {Q:O->Prop} {p q:Nat} {ij:Int}
theorem zfx{n j:Nat}(h:j<n):ixN n (j:Int)=some j:=by
 unfold ixN
 rw[if_pos (by omega),if_pos (by omega)]
 simp
theorem zsk(he:e sl ce=some (.ok w c1))(ho:o sl c1=some (.ok (.cel k) c2))(hi:i sl c2=some (.ok (.int ij) c3))(g:c3[k]?=some (.lst xs))(hj:ixN xs.length ij=some j) :
  ziJ e (zeq o i) sl ce=some (.go .nx sl (c3.set k (.lst (xs.set j w)))):=by
 simp only[ziJ,lft,he,zeq,ho,hi,zdX g,hj]
theorem zfy(he:e sl ce=some (.ok w c1))(ho:o sl c1=some (.ok (.cel k) c2))(hi:i sl c2=some (.ok (.int ij) c3))(g:c3[k]?=some (.lst xs))(hj:ixN xs.length ij=some j)(q:Q (.go .nx sl (c3.set k (.lst (xs.set j w))))) :
  Run (ziJ e (zeq o i)) sl ce Q:=⟨_,zsk he ho hi g hj,q⟩
theorem zlk(he:e sl ce=some (.ok w c1))(ho:o sl c1=some (.ok (.cel k) c2))(hi:i sl c2=some (.ok (.int ij) c3))(g:c3[k]?=some (.lst xs))(hj:ixN xs.length ij=some j)(q:Run b sl (c3.set k (.lst (xs.set j w))) Q) :
  Run (zav (ziJ e (zeq o i)) b) sl ce Q:=zcE (zsk he ho hi g hj) q
abbrev g2(p q:Nat):DG:=gT 2 (zdq (gN p) (zdq (gN q) zkV))
theorem zpS:g2 p q (.tup [x,y]) sl ce=some ((sl.set p (some x)).set q (some y),ce):=rfl
theorem zll(he:e sl ce=some (.ok (.tup [x,y]) c1))(q':Run b ((sl.set p (some x)).set q (some y)) c1 Q):Run (zav (ziJ e (g2 p q)) b) sl ce Q :=
 zcE (sl':=(sl.set p (some x)).set q (some y)) (ce':=c1) (by simp only[ziJ,lft,he,zpS]) q'
variable {α:Type} {fa fb:α->W} {zs:List α} {di:Sl->M Src} {body:DS}
theorem zlm(hi:SrcFix di sl ce c1 (zs.map fun z=>.tup [fa z,fb z]))(R:List α->Sl->Ce->Prop)(h0:R [] sl c1)(step:∀d x r sl ce,d++x::r=zs->x∈zs->R d sl ce->Run body ((sl.set p (some (fa x))).set q (some (fb x))) ce (Nx (R (d++[x]))))(fin:∀sl ce,R zs sl ce->Run b sl ce Q):Run (zav (zcN di (g2 p q) body) b) sl ce Q:=by
 obtain⟨s,h1,h2,h3⟩:=hi
 obtain⟨o,e,q'⟩:=zfq (g:=g2 p q) (body:=body) (en:=fun z=>W.tup [fa z,fb z]) (src:=s) zs R (fun _ _=>False) (fun d x r sl ce e h=>⟨h3 _,_,zpS,(step d x r sl ce e (by rw[<- e];simp) h).mono fun o q=>by
   cases o with
   | ex x c=>exact q.elim
   | go f sl2 ce2=>cases f<;>first|exact q|exact q.elim⟩) (fun _ _ _=>h3 _) zs [] sl c1 rfl h0
 rcases q' with ⟨sl',ce',rfl,h⟩|⟨w,sl',ce',rfl,h⟩
 ·exact zcE (by rw[zjF h1,h2];exact e) (fin _ _ h)
 ·exact h.elim
end
structure Chg (ce b:Ce):Prop where
 len:b.length=ce.length
 cell:∀(k:Nat) (c:C),b[k]?=some c->ce[k]?=some c\/zim ce.length c
theorem Chg.refl(ce:Ce):Chg ce ce:=⟨rfl,fun _ _ h=>.inl h⟩
theorem Chg.cut{ce b t:Ce}(h:Chg ce b):zfg ce (b++t):=⟨by rw[List.length_append,h.len];omega,fun k c hk e=>h.cell k c (by rwa [List.getElem?_append_left (by rw[h.len];exact hk)] at e)⟩
theorem Chg.take{ce b t:Ce}(h:Chg ce b):(b++t).take ce.length=b:=by rw[<- h.len];exact List.take_left
namespace Own
variable {b ce c:Ce} {l:List (Nat×C)} {k:Nat} {x:C} {w:W}
theorem frzD'{d:List W->M W}{ws:List W}{w2:W}(e:d ws ce=some (.ok w c))(h:Own b c l)(g:Chg ce b)(ht:zeu ce.length c 6 w=some w2):zoe d ws ce=some (.ok w2 b):=by
 obtain⟨⟨t,rfl⟩,_⟩:=h
 simp only[zoe,e,ht,g.take]
 exact if_pos g.cut
end Own
def pW(p:Nat×Nat):W:=.tup [nW p.1,nW p.2]
section
variable {ce:Ce} {n:Nat}
theorem zg3(d:Nat)(k:Nat):zeu n ce d (nW k)=some (nW k):=by cases d<;>simp only[nW,zeu]
theorem zfz(d:Nat):∀l:List (Nat×Nat),zck n ce (d+1) (l.map pW)=some (l.map pW)
 | []=>by simp only[List.map_nil,zck]
 | a::r=>by simp only[List.map_cons,zck,pW,zeu,zg3,zfz d r,Option.map_some]
end
end VS
namespace VS
open L2
section
variable {ce:Ce} {n:Nat}
def Cls(ce:Ce)(ks:List Nat)(cs:List (List Nat)):Prop:=PySem.Paired (fun k c=>ce[k]?=some (.lst (c.map nW))) ks cs
end
end VS
namespace VS
open PySem PySem.Spec PyProof.Rows L2
open MeetsSeq (EqGives)
section
variable {X:Cx} {G:Ga} {E:XK} {o e:Expr} {es:List Expr} {name:Str} {apos cpos:Pos} {do':Sl->M W} {dr:Sl->M (List W)} {id:String} {rm:V->List V->Hp->VK->Prop} {fm:W->List W->M W}
def ztd:W->Option Unit
 | .tup _=>some ()
 | _=>none
end
section
variable {X:Cx} {G:Ga} {E:XK} {tg a:Expr} {da:Sl->M W}
theorem zrx{l:Expr}{tl:TE}(hl:PE X l tl):PI X tg l (fun σ H R=>tl σ H fun x H1=>(∃a,x=.ref a/\(∃xs,SqL X.K H1 a xs)/\R (Itl X.K a) H1)\/∃a,x=.ref a/\(∃xs,SqT X.K H1 a xs)/\R (Itt X.K a) H1):=by
 intro pins s σ H R I h
 refine thn (hl pins s σ H _ I h) fun v s1 ⟨x,H1,I1,r1,q1⟩=>?_
 have hfp:∀b,b∈[s1.heap.objs.size]->b=s1.heap.objs.size:=fun b hb=>by simpa using hb
 rcases q1 with ⟨a,rfl,⟨xs,hq⟩,q⟩|⟨a,rfl,⟨xs,hq⟩,q⟩
 ·cases r1
  obtain⟨its,rv,p,hz⟩:=I1.list hq
  refine wpAny_pyIter_list p.isList ⟨s1.heap.objs.size,[s1.heap.objs.size],_,_,H1,rfl,I1.kept (t':=s1.toks) fun b o e=>Heap.get?_push_of_some _ e,zfX a _,⟨_,Heap.get?_push_size _ rfl,rfl,rfl⟩,fun b hb=>?_,q⟩
  rw[hfp b hb]
  exact I1.fpOk (Nat.le_refl _) (I1.hok.fresh (Nat.le_refl _))
 ·cases r1
  obtain⟨its,rv,p,hz⟩:=I1.tuple hq
  refine wpAny_pyIter_tuple (show s1.heap.IsTuple a its.toArray from p) ⟨s1.heap.objs.size,[s1.heap.objs.size],_,_,H1,rfl,I1.kept (t':=s1.toks) fun b o e=>Heap.get?_push_of_some _ e,zeA a _,⟨_,Heap.get?_push_size _ rfl,rfl,rfl⟩,fun b hb=>?_,q⟩
  rw[hfp b hb]
  exact I1.fpOk (Nat.le_refl _) (I1.hok.fresh (Nat.le_refl _))
def zry(ce:Ce):W->Option Src
 | .tup xs=>some (.tup xs)
 | w=>zil ce w
def dIS(d:Sl->M W):Sl->M Src:=fun sl=>bnd (d sl) fun w=>look fun ce=>zry ce w
theorem zsX(hl:PE X a (zam G E da)):PI X tg a (zkY G E X.K (dIS da)):=by
 refine PI.imp (zrx hl) fun σ H R zz_=>el6 zz_ fun F as sl ce S P=>(step S P).mono fun x H1 zz_=>el8 zz_ fun wx F1 as1 ce1 l1 S1 rx P1=>?_
 obtain⟨src,e,P2⟩:=za8 P1
 cases wx<;>simp only[zry,zil,reduceCtorEq,Option.some.injEq] at e
 ·subst e
  simp only[Rep] at rx
  obtain⟨a,vs,rfl,h,rs⟩:=rx
  exact .inl ⟨a,rfl,⟨vs,.inl (Rd.sub S1.st h)⟩,Post.done (RP:=IRep X.K) S1 P2 ⟨a,vs,rfl,h,rs⟩⟩
 ·subst e
  simp only[Rep] at rx
  obtain⟨a,vs,rfl,h,rs⟩:=rx
  exact .inr ⟨a,rfl,⟨vs,.inl (.inl (S1.st.sub _ _ h))⟩,Post.done (RP:=IRep X.K) S1 P2 ⟨a,vs,rfl,.inl h,rs⟩⟩
 ·split at e
  ·rename_i hc
   cases e
   simp only[Rep] at rx
   obtain⟨a,rfl,h⟩:=rx
   obtain⟨_,vs,h2,rs⟩:=S1.st.cell _ _ _ h hc
   exact .inl ⟨a,rfl,⟨vs,.inl (.inl h2)⟩,Post.done (RP:=IRep X.K) S1 P2 ⟨a,rfl,h⟩⟩
  ·cases e
end
end VS
namespace VS
open L2
section
variable {sl:Sl} {ce c1 c2 c3:Ce} {a b:Sl->M W} {w x y:W} {xs ws:List W} {n:Nat} {ra:Sl->M (List W)}
theorem zpT(h:a sl ce=some (.ok (.tup xs) c1)):SrcFix (dIS a) sl ce c1 xs:=⟨.tup xs,by simp only[dIS,bnd,h,look,zry,Option.map_some],rfl,fun _=>trivial⟩
theorem zjS(ha:a sl ce=some (.ok (.bl true) c1))(hb:b sl c1=some (.ok w c2)):zl5 a b sl ce=some (.ok w c2):=by simp only[zl5,bnd,ha,hb]
end
section
variable {ce:Ce} {k:Nat} {xs:List W}
end
end VS
namespace VS
open PySem PySem.Spec PyProof.Rows L2
section
variable {X:Cx} {G:Ga} {E:XK} {a b:Expr} {da db:Sl->M W} {pos:Pos}
def zpU:W->W->Option W:=i2c zrM fun i j=>.int (i ^ j.toNat)
theorem zpV(ha:PE X a (zam G E da))(hb:PE X b (zam G E db)):PE X (.BinOp a .Pow b pos) (zam G E (dOp zpU da db)):=zgQ zoK (zhu fun _ _=>rfl) ha hb
theorem znF{i:Int}{n:Nat}(h:n<=1000)(hi:i.natAbs<2 ^ 64):zpU (.int i) (.int (n:Int))=some (.int (i ^ n)):=by
 simp only[zpU,i2c]
 rw[if_pos ⟨by omega,by omega,hi⟩,Int.toNat_natCast]
theorem znG:OpR X (binaryOp .Mult) (fun x y H Q=>∃i j,x=.str i/\y=.int j/\MulOk i j/\Q (.str (Txt.mul i j)) H):=by
 intro pins s σ H x y v u Q I rx ry h
 obtain⟨i,j,rfl,rfl,hok,q⟩:=h
 obtain⟨t,rfl⟩:=rx
 obtain⟨t',rfl⟩:=ry
 exact SB.mul hok fun t' k=>⟨.str (Txt.mul i j),H,I.tok _,⟨_,rfl⟩,q⟩
open Classical in
def zjT:W->W->Option W
 | .str i,.int j=>if MulOk i j then some (.str (Txt.mul i j)) else none
 | _,_=>none
theorem znH:Sc2 (fun x y H Q=>∃i j,x=.str i/\y=.int j/\MulOk i j/\Q (.str (Txt.mul i j)) H) zjT:=by
 intro x y w e
 cases x<;>cases y<;>simp only[zjT,reduceCtorEq] at e
 split at e
 ·rename_i hc
  cases e
  exact⟨_,_,_,rfl,rfl,rfl,fun H Q hq=>⟨_,_,rfl,rfl,hc,hq⟩⟩
 ·cases e
theorem znI(ha:PE X a (zam G E da))(hb:PE X b (zam G E db)):PE X (.BinOp a .Mult b pos) (zam G E (dOp zjT da db)):=zgQ znG znH ha hb
end
end VS
namespace VS
open PySem PySem.Spec PyProof.Rows L2 HT
section
variable {prog:Program} {w:World} {A:Around} {E:Value->Shared->Prop} {s:Shared}
theorem zdn{t sl:Addr}{items:Array Value}{vl vu:Value}{lo hi:Option Int}{Q:Value->Shared->Prop}(ht:IsTup s.heap t items)(hs:s.heap.IsSliceOf sl vl vu .none)(pl:IsPart vl lo)(pu:IsPart vu hi)(hw:sIx items.size 0 lo=0/\sIx items.size items.size hi=items.size)(h:Q (.ref t) s):wpAny (model prog w) A (getItem (.ref t) (.ref sl)) Q E s:=by
 obtain⟨os,hos,hcs,hds⟩:=id hs
 have hTs:s.TypeIs (.ref sl) "slice" := ⟨os,hos,hcs⟩
 unfold getItem
 try with_reducible refine wpAny_holding ?_
 first|refine wpAny_bind (wpAny_pure ?_)|skip
 refine wpAny_bind (wpAny_sequenceKey ht.typeIs (by decide) ?_)
 refine wpAny_bind (wpAny_callSpecial?_slot (name:=Str.ofString "__getitem__") ht.typeIs PyProof.Rows.slot_tuple_getitem
  (wpAny_call_entry PyProof.Rows.slot_tuple_getitem ht.typeIs entry_tuple_getitem ?_ (args_tuple_getitem _ _)))
 show wpAny _ _ (Builtin.Tuple.tupleItemsOf (.ref t) >>= _) _ _ s
 refine wpAny_bind (tupleItemsOf_ ht ?_)
 refine wpAny_bind (wpAny_typeOf hTs ?_)
 rw[if_pos (by decide)]
 refine wpAny_bind (zcc hs pl pu ?_)
 have hyes:(((sIx items.size 0 lo:Nat):Int)==0&&(1:Int)==1&&(sIx items.size items.size hi-sIx items.size 0 lo)==items.size)=true:=by
  rw[hw.1,hw.2];simp
 show wpAny _ _ (if (((sIx items.size 0 lo:Nat):Int)==0&&(1:Int)==1&&(sIx items.size items.size hi-sIx items.size 0 lo)==items.size)=true then _ else _) _ _ s
 rw[if_pos hyes]
 have f2:=AutoSeq1.sub_tuple_tuple
 refine wpAny_bind (m:=Builtin.Tuple.tupleIsExact _) ?_
 unfold Builtin.Tuple.tupleIsExact
 refine wpAny_bind (wpAny_typeOf ht.typeIs ?_)
 refine wpAny_pure ?_
 rw[if_pos (by decide)]
 exact wpAny_bind (wpAny_rule (wpAny_pure ⟨_,rfl,wpAny_pure h⟩))
end
section
variable {X:Cx} {G:Ga} {E:XK} {a:Expr} {da:Sl->M W} {pos:Pos}
def zsY(K:PySem.W.Frag):V->Option Int->Option Int->Hp->VK->Prop:=fun x lo hi H Q=>∃a xs,x=.ref a/\SqT K H a xs /\
 (HT.sIx xs.length 0 lo=0/\HT.sIx xs.length xs.length hi=xs.length)/\Q (.ref a) H
theorem znJ:SlR X (zsY X.K):=by
 intro pins s σ H x v vl vu lo hi sl Q I rx hs pl pu h
 obtain⟨a,xs,rfl,hx,hw,q⟩:=h
 cases rx
 obtain⟨its,r,ht,hz⟩:=I.tuple hx
 have hlen:its.toArray.size=xs.length:=by rw[List.size_toArray];exact r.length.symm
 refine⟨"tuple",_,PyProof.Rows.slot_tuple_getitem.lookup,ht.typeIs,?_⟩
 exact zdn ht hs pl pu (by rw[hlen];exact hw) ⟨.ref a,H,I,rfl,q⟩
def slA(x:W)(lo hi:Option Int):M W:=fun ce=>match x with
 | .tup xs=>zne (zeQ xs lo hi) ce
 | _=>none
def znK(d:Sl->M W)(l h:Sl->M (Option Int)):Sl->M W:=fun sl=>bnd (d sl) fun x=>bnd (l sl) fun lo=>bnd (h sl) fun hi=>slA x lo hi
theorem zjU{lo hi:Option Expr}{dl dh:Sl->M (Option Int)}{p2:Pos}(he:PE X a (zam G E da))(hl:PO X lo (zob G E dl))(hu:PO X hi (zob G E dh)):PE X (.Subscript a (.Slice lo hi none p2) pos) (zam G E (znK da dl dh)):=by
 refine PE.imp (zhq ((L2.slT X.K).or znJ) he hl hu) fun σ H Q zz_=>el6 zz_ fun F as sl ce S P=>(step S P).mono fun x H1 zz_=>el8 zz_ fun wx F1 as1 ce1 l1 S1 rx P1=>(step (RP:=rO) S1 P1).mono fun y H2 zz_=>el8 zz_ fun wy F2 as2 ce2 l2 S2 ry P2=>(step (RP:=rO) S2 P2).mono fun z H3 zz_=>el8 zz_ fun wz F3 as3 ce3 l3 S3 rz P3=>?_
 have ry:wy=y:=ry
 have rz:wz=z:=rz
 subst ry rz
 unfold slA at P3
 cases wx<;>first|exact(show False from P3).elim|skip
 have rx:=(rx.le l2).le l3
 have rx0:=rx
 simp only[Rep] at rx
 obtain⟨p,vs,rfl,h,rs⟩:=rx
 dsimp only at P3
 by_cases hw:HT.sIx vs.length 0 wy=0/\HT.sIx vs.length vs.length wz=vs.length
 ·refine .inr ⟨p,vs,rfl,.inl (.inl (S3.st.sub _ _ h)),hw,?_⟩
  have e:∀xs:List W,xs.length=vs.length->zeQ xs wy wz=xs:=fun xs hx=>by
   unfold zeQ
   rw[hx,hw.1,hw.2,<- hx]
   simp
  rw[e _ rs.length.symm] at P3
  unfold zne mkF at P3
  split at P3
  ·exact P3.done S3 rx0
  ·exact(show False from P3).elim
 ·exact .inl ⟨p,vs,rfl,.inl (.inl (S3.st.sub _ _ h)),hw,(zfc S3 (rs.cut wy wz) P3).2⟩
end
end VS
namespace VS
open PySem PySem.Spec PyProof.Rows L2
end VS
namespace L2
open PySem PySem.Spec PyProof.Rows
theorem ObjOk.there{P:Program}{w:World}{H:Hp}{h:Heap}{a:Addr}{o:HO}(x:ObjOk P w H h a o):∃u,h.get? a=some u:=by
 cases o with
 | lst xs=>obtain⟨_,_,_,_,e⟩:=x;exact⟨_,e⟩
 | tup xs=>obtain⟨_,_,_,u,e,_⟩:=x;exact⟨_,e⟩
 | dK kvs=>obtain⟨_,_,_,_,o,_,_,e,_⟩:=x;exact⟨_,e⟩
 | dT kvs=>obtain⟨_,_,_,_,o,_,_,e,_⟩:=x;exact⟨_,e⟩
 | set S n=>obtain⟨o,_,_,_,e,_⟩:=x;exact⟨_,e⟩
 | ins C dx fs=>obtain⟨_,_,_,e,_⟩:=x;exact⟨_,e⟩
 | own y=>exact x
 | xd fs=>obtain⟨_,⟨_,_,_,e,_⟩,_⟩:=x;exact⟨_,e⟩
 | rng lo hi=>obtain⟨_,_,_,e⟩:=x;exact⟨_,e⟩
 | frz ob u=>obtain⟨e,_⟩:=x;exact⟨_,e⟩
 | tbl ps=>exact⟨_,x⟩
 | met f y=>exact⟨_,x⟩
 | ext φ=>exact x.2.1
def Fl(N:Addr->Prop)(a:Addr)(cls:Value)(H:Hp)(h:Heap):Prop :=
 ∃oe vs a0,N a/\H a=none/\h.get? a=some oe/\oe.cls=cls/\oe.data=.fields vs/\vs[0]?=some a0 /\
  (vs[1]?=some .none\/∃T oT ts,vs[1]?=some (.ref T)/\N T/\H T=none/\T≠a/\h.get? T=some oT/\oT.data=.fields ts/\ts[3]?=some .none)
theorem Fl.mono{N N':Addr->Prop}{a:Addr}{cls:Value}{H:Hp}{h:Heap}(f:Fl N a cls H h)(k:∀b,N b->N' b):Fl N' a cls H h:=by
 obtain⟨oe,vs,a0,n,h1,h2,h3,h4,h5,h6⟩:=f
 refine⟨oe,vs,a0,k _ n,h1,h2,h3,h4,h5,h6.imp id fun⟨T,oT,ts,e1,e2,e⟩=>⟨T,oT,ts,e1,k _ e2,e⟩⟩
theorem zln{M:Model}{A:Around}{E:Value->Shared->Prop}{s:Shared}{B:Heap}{env:Env}{outer:List Env}{L a:Addr}{oe:Obj}{vs:Array Value}{a0:Value}{Q:Unit->Shared->Prop}(hfr:A.frames=some (env::outer))(hl:s.heap.FunFrames B (env::outer))(hf:env.frame=some L)(he:s.heap.get? a=some oe)(hkb:B.StaysIn s.heap)(hen:B.get? a=none)(hd:oe.data=.fields vs)(h0:vs[0]?=some a0)(h1:vs[1]?=some .none\/∃T oT ts,vs[1]?=some (.ref T)/\B.get? T=none/\T≠a/\s.heap.get? T=some oT/\oT.data=.fields ts/\ts[3]?=some .none)(hQ:∀h',Heap.NotedW B (env::outer) a oe.cls a0 (rawInt L) s.heap h'->Q () { s with heap:=h' }):wpAny M A (noteFrame (.ref a) env) Q E s:=by
 rcases h1 with h1|⟨T,oT,ts,h1,hnT,hTe,hT,hdT,h3⟩
 ·unfold noteFrame
  simp only[hf]
  refine wpAny_bind (wpAny_field he hd h1 ?_)
  rw[if_neg (by decide)]
  exact wpAny_entryW hfr hl hf he hkb hen hd (Array.getElem?_eq_some_iff.mp h1).1 h0 hQ
 ·exact wpAny_noteFrame_onW hfr hl hf ⟨oe,vs,T,oT,ts,he,⟨rfl,h0⟩,hd,h1,hnT,hTe,hT,hdT,h3⟩ hkb hen hQ
structure Flown (stk:List Addr) (N:Addr->Prop) (H:Hp) (a:Addr) (cls:Value) (h h':Heap):Prop where
 keep:∀b o,h.get? b=some o->b∉stk->(H b≠none\/¬N b\/∀vs,o.data≠.fields vs)->h'.get? b=some o
 slot:∀b o,h.get? b=some o->b∈stk->∃sl,h'.get? b=some { o with slots:=sl }
 fl:Fl (fun b=>N b\/h.get? b=none) a cls H h'
theorem flown{X:Cx}{M:Model}{A':Around}{E:Value->Shared->Prop}{pins:List (Addr×Obj)}{σ:St}{H:Hp}{s:Shared}{N:Addr->Prop}{a:Addr}{cls:Value}{Q:Unit->Shared->Prop}(I:Inv X pins σ H s)(hst:X.stack=X.env::X.outer)(hf:X.env.frame=some X.env.locals)(f:Fl N a cls H s.heap)(hQ:∀h',Flown (frs X.stack) N H a cls s.heap h'->Q () { s with heap:=h' }) :
  wpAny M X.A (noteFrame (.ref a) X.env) (fun _ s₂=>wpAny M A' (setFlight (.ref a) none) Q E s₂) E s:=by
 obtain⟨oe,vs,a0,na,ha,he,rfl,hd,h0,h1⟩:=f
 have hstk:=I.stack
 have hfree:=I.stkFree
 have hfr:=I.ok.frames
 obtain⟨hid,hh1,hh2,hh3,hh4⟩:∃hid:List Addr,(∀b∈frs X.stack,b∈hid)/\a∈hid/\(∀b∈hid,b∈frs X.stack\/(N b/\H b=none/\∃o vs,s.heap.get? b=some o/\o.data=.fields vs)) /\
   (vs[1]?=some .none\/∃T oT ts,vs[1]?=some (.ref T)/\T∈hid/\T≠a/\s.heap.get? T=some oT/\oT.data=.fields ts/\ts[3]?=some .none):=by
  rcases h1 with h1|⟨T,oT,ts,h1,nT,hT,hTa,r⟩
  ·refine⟨frs X.stack++[a],fun b hb=>List.mem_append_left _ hb,List.mem_append_right _ (by simp),fun b hb=>?_,.inl h1⟩
   rcases List.mem_append.mp hb with hb|hb
   ·exact .inl hb
   ·rw[List.mem_singleton] at hb;subst hb;exact .inr ⟨na,ha,_,_,he,hd⟩
  ·obtain⟨hT1,hT2,hT3⟩:=r
   refine⟨frs X.stack++[a,T],fun b hb=>List.mem_append_left _ hb,List.mem_append_right _ (by simp),fun b hb=>?_,.inr ⟨T,oT,ts,h1,List.mem_append_right _ (by simp),hTa,hT1,hT2,hT3⟩⟩
   rcases List.mem_append.mp hb with hb|hb
   ·exact .inl hb
   ·rcases List.mem_cons.mp hb with rfl|hb
    ·exact .inr ⟨na,ha,_,_,he,hd⟩
    ·rw[List.mem_singleton] at hb;subst hb;exact .inr ⟨nT,hT,_,_,hT1,hT2⟩
 have hin:∀env∈X.env::X.outer,∀b,env.frame=some b->b∈hid:=fun env he b hb=>hh1 b (List.mem_filterMap.mpr ⟨env,by rw[hst];exact he,hb⟩)
 have hl:s.heap.FunFrames (PySem.W.hideAll s.heap hid) (X.env::X.outer):=PySem.W.funFrames_hide (by rw[<- hst];exact hstk) hin
 refine zln (by rw[hfr,hst]) hl hf he (fun b o q=>PySem.W.of_hideAll _ q) (PySem.W.hideAll_none _ hh2) hd h0 (hh4.imp id fun⟨T,oT,ts,e1,e2,e3,e4⟩=>⟨T,oT,ts,e1,PySem.W.hideAll_none _ e2,e3,e4⟩) fun h1 z=>?_
 obtain⟨z1,z2,z3,z4⟩:=z
 refine wpAny_landsW (base:=PySem.W.hideAll s.heap hid) (l:=X.env::X.outer) (cls:=oe.cls) (a0:=a0) ⟨z1,PySem.W.hideAll_none _ hh2,z2,z3⟩ fun h2 y1 y2=>hQ h2 ?_
 have up:∀b o,s.heap.get? b=some o->(∀vs,o.data≠.fields vs)->∃sl,h2.get? b=some { o with slots:=sl }:=fun b o e n=>by
  obtain⟨s1,e1⟩:=z4 b o e n
  obtain⟨s2,e2⟩:=y2 b _ e1 n
  exact⟨s2,e2⟩
 have sl:∀b o,s.heap.get? b=some o->b∈frs X.stack->∃sl,h2.get? b=some { o with slots:=sl }:=fun b o e hb=>by
  obtain⟨_,o',e',n⟩:=hstk.mem hb
  rw[e] at e';cases e'
  exact up b o e n
 obtain⟨y1,y3,y4,oe',vs',T',oT',ts',t1,⟨t2,t3⟩,t4,t5,t6,t7,t8,t9,t10⟩:=y1
 refine⟨fun b o e hb hc=>?_,sl,oe',vs',a0,.inl na,ha,t1,t2,t4,t3,.inr ⟨T',oT',ts',t5,?_,?_,t7,t8,t9,t10⟩⟩
 ·refine y1 b o (PySem.W.hideAll_get _ e fun hm=>?_)
  rcases hh3 b hm with q|⟨q1,q2,o',vs',q3,q4⟩
  ·exact hb q
  ·rcases hc with hc|hc|hc
   ·exact hc q2
   ·exact hc q1
   ·rw[e] at q3;cases q3;exact hc _ q4
 all_goals
  cases q:s.heap.get? T' with
  | none =>
   first
    | exact .inr q
    | (cases q2:H T' with
       | none=>rfl
       | some u=>obtain⟨u',e'⟩:=(I.hok T' u q2).there;rw[q] at e';cases e')
  | some o =>
   have hm:T'∈hid:=by
    apply Classical.byContradiction
    intro hm
    have:=PySem.W.hideAll_get _ q hm
    rw[t6] at this;cases this
   rcases hh3 T' hm with hs|⟨q1,q2,_⟩
   ·exfalso
    obtain⟨_,o',e',n⟩:=hstk.mem hs
    rw[q] at e';cases e'
    obtain⟨s2,e2⟩:=up T' o q n
    rw[t8] at e2;cases e2
    exact n _ t9
   ·first|exact .inl q1|exact q2
def CXx(P:Program)(w:World):CXT:=fun outer H s E e s'=>∃a cls H',e=.ref a/\s'.os=s.os/\AllBare s'.gens/\Un (frs outer) [] H H' s.heap s'.heap/\HOk P w H' s'.heap/\Fl (fun b=>s.heap.get? b=none) a cls H' s'.heap/\E cls none H'
def Nw(X:Cx)(pins:List (Addr×Obj))(b:Addr):Prop:=X.s₀.heap.get? b=none/\∀p∈X.pn++pins,p.1≠b
def Flies(X:Cx)(E:XK):Prop:=∀(pins:List (Addr×Obj)) (σ:St) (H:Hp) (s:Shared) (a:Addr) (cls:Value),Inv X pins σ H s->Fl (Nw X pins) a cls H s.heap->E cls none H->X.xe (.ref a) s
theorem zis{X:Cx}{pins:List (Addr×Obj)}{σ:St}{H:Hp}{s:Shared}{b:Addr}(hx:X.ex=[])(I:Inv X pins σ H s)(h:s.heap.get? b=none):Nw X pins b:=by
 refine⟨?_,fun p hp e=>?_⟩
 ·cases q:X.s₀.heap.get? b with
  | none=>rfl
  | some o =>
   obtain⟨o',e⟩:=I.base.there b o q (by rw[hx];simp)
   rw[h] at e;cases e
 ·obtain⟨e1,_⟩:=I.pin p hp
  rw[e,h] at e1;cases e1
theorem Flies.passes{X:Cx}{E:XK}(h:Flies X E)(hx:X.ex=[]):zcA (CXx X.prog X.w) X E:=fun pins σ H s e s' I z=>by
 obtain⟨a,cls,H',rfl,ho,hg,u,hok,f,q⟩:=z
 exact h pins σ H' s' a cls (I.call' ho u hok hg (fun b z=>absurd z (by simp))) (f.mono fun b hb=>zis hx I hb) q
theorem zjV{X:Cx}:zcA (CXx X.prog X.w) X E0:=fun _ _ _ _ _ _ _ z=>by
 obtain⟨_,_,_,_,_,_,_,_,_,q⟩:=z
 exact q.elim
theorem flies_cxOf{P:Program}{w:World}{K:PySem.W.Frag}{mg:Str->Option Value}{base:Heap}{N:List Str}{qual:Str}{scope:Scope}{f:Addr}{cd:Value}{A:Around}{outer:List Env}{s:Shared}{H:Hp}{E:XK} :
  Flies (ziG (CXx P w) P w K mg base N qual scope f cd A outer s H E) E:=by
 intro pins σ H1 s1 a cls I fl q
 show wpAny (model P w) _ (leaving _ _) _ _ s1
 unfold leaving
 refine wpAny_bind (flown I rfl rfl fl fun h' F=>?_)
 have hb:=I.base
 have hstk:=I.stack
 have hlt:∀b o,s.heap.get? b=some o->b≠(ziG (CXx P w) P w K mg base N qual scope f cd A outer s H E).env.locals:=fun b o e q=>absurd (Heap.lt_size e) (by rw[q];exact Nat.not_lt.mpr I.ok.above)
 have hfs:∀b,b∈frs (ziG (CXx P w) P w K mg base N qual scope f cd A outer s H E).stack->b=(ziG (CXx P w) P w K mg base N qual scope f cd A outer s H E).env.locals\/b∈frs outer:=fun b hb=>List.mem_cons.mp (I.stkSub b hb)
 have hout:∀b,b∈frs outer->b∈frs (ziG (CXx P w) P w K mg base N qual scope f cd A outer s H E).stack:=fun b hb=>by
  obtain⟨env,h1,h2⟩:=List.mem_filterMap.mp hb
  exact List.mem_filterMap.mpr ⟨env,List.mem_cons_of_mem _ h1,h2⟩
 refine⟨a,cls,H1,rfl,I.os,I.bare,⟨fun b o e n h1 h2=>?_,fun b o e n h1 h2=>?_,fun b o e n h2=>hb.free b o e n h2,fun b o e h2=>?_,hb.tups,hb.frzs,hb.tbls⟩,fun b o e=>?_,F.fl.mono fun b hb'=>?_,q⟩
 ·have e1:=hb.keep b o e n h1 h2
  refine F.keep b o e1 (fun hm=>?_) (.inr<|.inl fun hn=>by have z:s.heap.get? b=none:=hn.1;rw[z] at e;cases e)
  rcases hfs b hm with z|z
  ·exact hlt b o e z
  ·exact h1 z
 ·obtain⟨sl,e1⟩:=hb.slot b o e n h1 h2
  obtain⟨s2,e2⟩:=F.slot b _ e1 (hout b h1)
  exact⟨s2,e2⟩
 ·obtain⟨o',e1⟩:=hb.there b o e h2
  by_cases hm:b∈frs (ziG (CXx P w) P w K mg base N qual scope f cd A outer s H E).stack
  ·obtain⟨s2,e2⟩:=F.slot b o' e1 hm
   exact⟨_,e2⟩
  ·exact⟨o',F.keep b o' e1 hm (.inr<|.inl fun hn=>by have z:s.heap.get? b=none:=hn.1;rw[z] at e;cases e)⟩
 ·refine(I.hok b o e).stay (fun c u hc r=>?_) (fun _ q=>q) fun _ _ q=>q
  have hH:H1 c≠none:=by
   rcases hc with rfl|hc
   ·rw[e];simp
   ·rw[hc];simp
  exact F.keep c u r (fun hm=>hH (I.stkFree c hm)) (.inl hH)
 ·rcases hb' with hb'|hb'
  ·exact hb'.1
  ·exact(zis (pins:=pins) rfl I hb').1
theorem Fun.okX{P:Program}{w:World}{K:PySem.W.Frag}{mg:Str->Option Value}{base:Heap}{x qual:Str}{st:Stmt}{f:Addr}{fd:FuncData}{N ps:List Str}{k:Nat}{sp:Sp}(F:Fun K x qual st f fd)(S:FnScope N ps (zah st))(len:∀vs H Q E,sp vs H Q E->vs.length=ps.length)(hbody:∀(cdv:Value) (A:Around) (outer:List Env) (s:Shared) (H:Hp) (vs:List V) (Q:VK) (E:XK),Room k (A.deeper (envOfC qual (zah st) s.heap.objs.size f cdv))->sp vs H Q E ->
   ∃t,PSs (ziG (CXx P w) P w K mg base N qual (zah st) f cdv A outer s H E) (zay st) t/\t { nx:=fun _ H'=>Q .non H',rt:=Q } (start N vs) H):FnOk P w K mg base (CXx P w) (k+1) f fd ps sp:=by
 obtain⟨oc,od,kV,doc,pm,an,cdv,ct,osl,rfl,lk,hcd⟩:=F.ex
 refine zqQ lk hcd S len fun A outer s H vs Q E hr hsp=>?_
 obtain⟨t,h,q⟩:=hbody cdv A outer s H vs Q E hr hsp
 exact⟨t,h,q⟩
end L2
namespace L2
open PySem PySem.Spec PyProof.Rows
def bmV:List Value:=[.type "ValueError",.type "Exception",.type "BaseException",.type "object"]
def XC(K:PySem.W.Frag)(C:Addr):Prop:=PySem.W.excIn K C bmV "ValueError.__new__" = true
theorem XC.obj{K:PySem.W.Frag}{h:Heap}{C:Addr}(q:XC K C)(X:K.In h):∃bm N nm qn bs hdct sn sub ab col dd k0 k1 k2 k3 k5 mN,
  h.get? C=some (excClassObj nm qn C N bs bm hdct sn sub ab col dd k0 k1 k2 k3 k5 "ValueError.__new__")/\h.Ns N mN/\mN "__init__" = none/\OwnTail h bmV bm:=by
 unfold XC PySem.W.excIn at q
 split at q
 case h_2=>cases q
 rename_i dd cd sl ho
 split at q
 case h_2=>cases q
 rename_i C' bm k0 k1 k2 k3 n k5 hm hs
 simp only[Bool.and_eq_true,beq_iff_eq,Bool.not_eq_true'] at q
 obtain⟨⟨⟨⟨⟨rfl,rfl⟩,hdel⟩,ht⟩,hok⟩,hni⟩:=q
 obtain⟨nm,bs,mro,ns,qn,hd,sn,sub,ab,col,del⟩:=cd
 dsimp only at hm hdel hok hni
 subst hm hdel
 have hsl:sl=#[k0,k1,k2,k3,some (.builtin "ValueError.__new__"),k5]:=by
  obtain⟨l⟩:=sl
  simp only at hs
  rw[hs]
 subst hsl
 exact⟨bm,ns,nm,qn,bs,hd,sn,sub,ab,col,dd,k0,k1,k2,k3,k5,_,X _ _ ho,.of_isNs (PySem.W.isNs_of_in X hok),PySem.W.nsMap_none_of_in X hok hni,PySem.W.tail_of_in X ht⟩
section
variable {X:Cx}
def PX(X:Cx)(e:Expr)(t:St->Prop):Prop:=∀(pins:List (Addr×Obj)) (s:Shared) (σ:St) (H:Hp),Inv X pins σ H s->t σ->wpAny (model X.prog X.w) X.A (eval e X.env) (fun u s'=>Inv X pins σ H s') X.xe s
theorem zmp{x:Str}{j:Nat}{pos:Pos}:PX X (.Constant (.str x) j pos) (fun _=>True):=fun pins s σ H I _=>Calls.Constant_str (I.tok _)
theorem zlo{E:XK}{C:Addr}{x:Str}{np cpos pos:Pos}{e:Expr}{t:St->Prop}(hx:Flies X E)(hex:X.ex=[])(xc:XC X.K C)(hg:Gl X x)(hm:X.mg x=some (.ref C))(hh:X.A.handled=none)(ha:PX X e t)(he:starEach [e] X.env=[(false,eval e X.env)]:=by rfl)(hd:(x==("__debug__" : Str))=false:=by decide) :
  PS X (.Raise (some (.Call (.Name x np) [e] [] cpos)) none pos) (fun _ σ H=>t σ/\E (.ref C) none H):=by
 intro pins s σ H D I hq
 obtain⟨bm,N,nm,qn,bs,hdct,sn,sub,ab,col,dd,k0,k1,k2,k3,k5,mN,hC,hN,hni,T⟩:=xc.obj I.ok.mod.kin
 refine wpAny_Raise_call_subU (C:=C) (nm:=nm) (q:=qn) (N:=N) (bs:=bs) (bm:=bm) (hdct:=hdct) (sn:=sn) (sub:=sub) (ab:=ab) (col:=col) (dd:=dd) (k0:=k0) (k1:=k1) (k2:=k2) (k3:=k3) (k5:=k5)
  PySem.F.excBase_ValueError (by decide) PySem.F.excBase_ValueError (mN:=mN) (T.hasType PySem.F.excBase_ValueError.hasBase) hh (by rw[he];rfl) hni (zda I hg hm ⟨rfl,?_⟩ hd)
 rw[he]
 refine Calls.evalArgs_plain (Calls.spliced_cons (thn (ha pins s σ H I hq.1) fun u s1 I1=>Calls.spliced_nil ?_))
 refine⟨rfl,(by show 1<=sizeLine;decide),I1.bk _ _ hC,hN.keeps I1.bk,T.keeps I1.bk,fun h' b hm=>?_⟩
 obtain⟨tt,e1,e2,e3⟩:=hm.there
 refine hx pins σ H { s1 with heap:=h' } b (.ref C) (I1.kept (t':=s1.toks) hm.keeps) ⟨_,_,_,zis hex I1 hm.new,?_,e1,rfl,rfl,rfl,.inl rfl⟩ hq.2
 cases q:H b with
 | none=>rfl
 | some o=>obtain⟨u,e⟩:=(I1.hok b o q).there;rw[hm.new] at e;cases e
end
end L2
namespace L2
open PySem PySem.Spec PyProof.Rows
section
variable {X:Cx} {pins:List (Addr×Obj)} {σ:St} {H:Hp} {s:Shared} {a:Addr} {cls:Value}
theorem Inv.flown{h':Heap}(I:Inv X pins σ H s)(hex:X.ex=[])(F:Flown (frs X.stack) (Nw X pins) H a cls s.heap h'):Inv X pins σ H { s with heap:=h' }:=by
 have neL:∀b o,X.s₀.heap.get? b=some o->b≠X.env.locals:=fun b o e=>Nat.ne_of_lt (Nat.lt_of_lt_of_le (Heap.lt_size e) I.ok.above)
 have hs0:∀b o,X.s₀.heap.get? b=some o->¬Nw X pins b:=fun b o e n=>by rw[n.1] at e;cases e
 have stk:∀b,b≠X.env.locals->b∉X.fs->b∉frs X.stack:=fun b h1 h2=>I.stkNe h1 h2
 have anyK:∀b o,s.heap.get? b=some o->(¬Nw X pins b\/∀vs,o.data≠.fields vs)->∃sl,h'.get? b=some { o with slots:=sl }:=fun b o e hn=>by
  by_cases hm:b∈frs X.stack
  ·exact F.slot b o e hm
  ·exact⟨o.slots,F.keep b o e hm (.inr hn)⟩
 have cellK:∀x c,X.env.cells.lookup x=some c->∀v,s.heap.IsCell c v->h'.IsCell c v:=fun x c e v ⟨o,ho,hd⟩=>by
  obtain⟨sl,q⟩:=anyK c o ho (.inr fun vs q=>by rw[hd] at q;cases q)
  exact⟨_,q,hd⟩
 refine⟨I.ok,I.os,I.bare,⟨fun b o e n hb hx=>?_,fun b o e n hb hx=>?_,I.base.free,fun b o e hx=>?_,I.base.tups,I.base.frzs,I.base.tbls⟩,?_,fun x c e=>?_,I.free,I.freeC,fun p hp=>?_,fun b o e=>?_,I.len⟩
 ·exact F.keep b o (I.base.keep b o e n hb hx) (stk b (neL b o e) hb) (.inr (.inl (hs0 b o e)))
 ·obtain⟨sl,e1⟩:=I.base.slot b o e n hb hx
  obtain⟨sl',e2⟩:=anyK b _ e1 (.inl (hs0 b o e))
  exact⟨sl',e2⟩
 ·obtain⟨o',e1⟩:=I.base.there b o e hx
  obtain⟨sl',e2⟩:=anyK b _ e1 (.inl (hs0 b o e))
  exact⟨_,e2⟩
 ·obtain⟨m,hn,hl⟩:=I.loc
  obtain⟨oL,es,ep,hoL,hdL,r⟩:=id hn
  obtain⟨sl,q⟩:=anyK _ oL hoL (.inr fun vs q=>by rw[hdL] at q;cases q)
  refine⟨m,⟨_,es,ep,q,hdL,r⟩,fun i x v e1 e2 e3=>?_⟩
  obtain⟨u,r,l⟩:=hl i x v e1 e2 e3
  refine⟨u,r,?_⟩
  rcases l with l|⟨k,c,e,z⟩
  ·exact .inl l
  ·exact .inr ⟨k,c,e,cellK x c e _ z⟩
 ·obtain⟨v,z⟩:=I.cell x c e
  exact⟨v,cellK x c e v z⟩
 ·obtain⟨e,n,ne,nf,d⟩:=I.pin p hp
  exact⟨F.keep p.1 p.2 e (stk _ ne nf) (.inr (.inl fun hn=>hn.2 p hp rfl)),n,ne,nf,d⟩
 ·refine(I.hok b o e).stay (fun c u hc r=>?_) (fun _ q=>q) fun _ _ q=>q
  have hH:H c≠none:=by
   rcases hc with rfl|hc
   ·rw[e];simp
   ·rw[hc];simp
  exact F.keep c u r (fun hm=>hH (I.stkFree c hm)) (.inl hH)
theorem Fl.nw{h':Heap}(I:Inv X pins σ H s)(hex:X.ex=[])(F:Flown (frs X.stack) (Nw X pins) H a cls s.heap h'):Fl (Nw X pins) a cls H h':=F.fl.mono fun b hb=>hb.elim id fun hb=>zis hex I hb
theorem zd4{N:Addr->Prop}{M:Model}{A:Around}{E:Value->Shared->Prop}{Q:Unit->Shared->Prop}(f:Fl N a cls H s.heap)(h:Q () s):wpAny M A (setFlight (.ref a) none) Q E s:=by
 obtain⟨oe,vs,a0,_,_,he,_,hd,h0,h1⟩:=f
 unfold setFlight
 rcases h1 with h1|⟨T,oT,ts,h1,_,_,_,hT,hdT,h3⟩
 ·refine wpAny_bind (wpAny_field he hd h1 ?_)
  rw[if_neg (by decide)]
  exact wpAny_pure h
 ·refine wpAny_bind (wpAny_field he hd h1 ?_)
  rw[if_pos (show(Value.ref T != Value.none)=true from by simp)]
  refine wpAny_setField hT hdT (Array.getElem?_eq_some_iff.mp h3).1 ?_
  show Q () { s with heap:=s.heap.update T (Obj.mapFields (·.setIfInBounds 3 Value.none)) }
  rw[Heap.update_setField_same s.heap T oT ts 3 Value.none hT hdT h3]
  exact h
theorem Inv.trackX{N:Addr->Prop}(I:Inv X pins σ H s)(hN:∀b,N b->Nw X pins b)(f:Fl N a cls H s.heap):Inv X pins σ (upd H a (.ext (VS.XPhi a cls))) s:=by
 obtain⟨oe,vs,a0,na,ha,he,hc,hd,_⟩:=f
 obtain⟨n1,n2⟩:=hN a na
 obtain⟨m,hn,hl⟩:=id I.loc
 obtain⟨oL,es,ep,hoL,hdL,r⟩:=id hn
 have hne:a≠X.env.locals:=by rintro rfl;rw[he] at hoL;cases hoL;rw[hd] at hdL;cases hdL
 have up:∀b,b≠a->∀{o:Option HO},H b=o->upd H a (.ext (VS.XPhi a cls)) b=o:=fun b hb o e=>by rw[zau hb];exact e
 refine⟨I.ok,I.os,I.bare,⟨I.base.keep,I.base.slot,fun b o e n hx=>?_,I.base.there,fun b xs e=>?_,fun b o u e=>?_,fun b ps e=>?_⟩,I.loc,I.cell,?_,fun x c e=>?_,fun p hp=>?_,I.hok.track ha ⟨⟨oe,vs,he,hc,hd⟩,⟨oe,he⟩,fun h1 h2 ⟨o,vs,e1,e2,e3⟩ k=>⟨o,vs,k _ e1,e2,e3⟩⟩,I.len⟩
 ·refine up b ?_ (I.base.free b o e n hx)
  rintro rfl;rw[n1] at e;cases e
 ·have:=I.base.tups b xs e
  exact up b (zaq this ha) this
 ·have:=I.base.frzs b o u e
  exact up b (zaq this ha) this
 ·obtain⟨m,this⟩:=I.base.tbls b ps e
  exact⟨m,up b (zaq this ha) this⟩
 ·exact up _ (Ne.symm hne) I.free
 ·refine up c ?_ (I.freeC x c e)
  rintro rfl
  obtain⟨v,o,ho,hd'⟩:=I.cell x c e
  rw[he] at ho;cases ho;rw[hd] at hd';cases hd'
 ·obtain⟨e,n,r⟩:=I.pin p hp
  exact⟨e,up _ (n2 p hp) n,r⟩
theorem zcW{M:Model}{A:Around}{E:Value->Shared->Prop}{i:Nat}{n:Str}{pos:Pos}{Q:Unit->Shared->Prop}(I:Inv X pins σ H s)(hN:X.N.Nodup)(hi:X.N[i]?=some n)(hk:X.env.scope.names.lookup n=some .local)(h:∀s',Inv X pins (σ.set i none) H s'->Q () s'):wpAny M A (do bindName X.env n .none;unbindBehindTheSuite X.env n pos) Q E s:=by
 obtain⟨m,hn,hl⟩:=id I.loc
 have hcls:(X.env.scope.kind==.class||(X.env.scope.kind==.module&&X.env.locals != X.env.globals))=false:=by rw[I.ok.kind];rfl
 refine wpAny_nameGoes_keeps hk hn hcls fun h' v hn' hs=>h _ ?_
 refine⟨I.ok,I.os,I.bare,⟨fun b o e n hb hx=>?_,fun b o e n hb hx=>?_,I.base.free,fun b o e hx=>?_,I.base.tups,I.base.frzs,I.base.tbls⟩,⟨_,hn',fun j y v' e1 e2 e3=>?_⟩,fun y c e=>?_,I.free,I.freeC,fun p hp=>?_,fun b ob e=>?_,by simpa using I.len⟩
 ·exact(hs.2 b (Nat.ne_of_lt (Nat.lt_of_lt_of_le (Heap.lt_size e) I.ok.above))).trans (I.base.keep b o e n hb hx)
 ·obtain⟨sl,e1⟩:=I.base.slot b o e n hb hx
  exact⟨sl,(hs.2 b (Nat.ne_of_lt (Nat.lt_of_lt_of_le (Heap.lt_size e) I.ok.above))).trans e1⟩
 ·obtain⟨o',e1⟩:=I.base.there b o e hx
  exact⟨o',(hs.2 b (Nat.ne_of_lt (Nat.lt_of_lt_of_le (Heap.lt_size e) I.ok.above))).trans e1⟩
 ·by_cases hj:j=i
  ·subst hj
   by_cases hjl:j<σ.length
   ·rw[List.getElem?_set_self hjl] at e2;cases e2
   ·rw[List.getElem?_eq_none (by simpa using hjl)] at e2;cases e2
  ·rw[List.getElem?_set_ne (Ne.symm hj)] at e2
   obtain⟨u',r',q⟩:=hl j y v' e1 e2 e3
   refine⟨u',r',?_⟩
   rcases q with ⟨k,e⟩|⟨k,c,e,z⟩
   ·refine .inl ⟨k,?_⟩
    have:y≠n:=fun e=>hj (ze0 hN e1 (e▸hi))
    simp[this,e]
   ·exact .inr ⟨k,c,e,z.sameBut hs (I.cne y c e)⟩
 ·obtain⟨w',z⟩:=I.cell y c e
  exact⟨w',z.sameBut hs (I.cne y c e)⟩
 ·obtain⟨e,n,ne,nf,d⟩:=I.pin p hp
  exact⟨(hs.2 p.1 ne).trans e,n,ne,nf,d⟩
 ·refine(I.hok b ob e).stay (fun c w' hc q=>(hs.2 c ?_).trans q) (fun _ q=>q) fun _ _ q=>q
  rintro rfl
  rcases hc with rfl|hc
  ·rw[I.free] at e;cases e
  ·rw[I.free] at hc;cases hc
end
abbrev Cx.hnd(X:Cx)(a:Addr):Cx:={ X with A:=X.A.mark (some (.ref a)),calm:=false,xe:=fun _ _=>False }
section
variable {X:Cx} {pins:List (Addr×Obj)} {σ:St} {H:Hp} {s:Shared} {a:Addr}
theorem Cx.Ok.hnd(ok:X.Ok)(a:Addr):(X.hnd a).Ok :=
 ⟨ok.mod,ok.kind,ok.glob,ok.blt,ok.above,ok.inj,ok.has,ok.cab,fun h=>absurd (show false=true from h) Bool.false_ne_true,ok.frames,ok.stk,ok.exf,ok.bs,ok.bsz,ok.noex,ok.exfs,ok.funs,ok.frf⟩
theorem Inv.hnd(I:Inv X pins σ H s)(a:Addr):Inv (X.hnd a) pins σ H s:=⟨I.ok.hnd a,I.os,I.bare,I.base,I.loc,I.cell,I.free,I.freeC,I.pin,I.hok,I.len⟩
theorem Inv.unhnd(ok:X.Ok)(I:Inv (X.hnd a) pins σ H s):Inv X pins σ H s:=⟨ok,I.os,I.bare,I.base,I.loc,I.cell,I.free,I.freeC,I.pin,I.hok,I.len⟩
theorem SP.unhnd{D:Ends}{f:Flow}{s':Shared}(ok:X.Ok)(h:SP (X.hnd a) pins D f s'):SP X pins D f s':=by
 cases f with
 | next=>obtain⟨σ',H',I,q⟩:=h;exact⟨σ',H',I.unhnd ok,q⟩
 | brk=>obtain⟨σ',H',I,q⟩:=h;exact⟨σ',H',I.unhnd ok,q⟩
 | cont=>obtain⟨σ',H',I,q⟩:=h;exact⟨σ',H',I.unhnd ok,q⟩
 | ret u=>obtain⟨v,σ',H',I,r,q⟩:=h;exact⟨v,σ',H',I.unhnd ok,r,q⟩
end
end L2
namespace L2
open PySem PySem.Spec PyProof.Rows
theorem zev{K:PySem.W.Frag}{M:Model}{A:Around}{E:Value->Shared->Prop}{s:Shared}{Q:Bool->Shared->Prop}{a C S:Addr}{oe:Obj}{b:Bool}(X:K.In s.heap)(he:s.heap.get? a=some oe)(hcls:oe.cls=.ref C)(xs:XC K S)(hm:PySem.W.mroIn K C (.ref S)=some b)(h:Q b s):wpAny M A (excMatches (.ref a) (.ref S)) Q E s:=by
 obtain⟨bm,N,nm,qn,bs,hdct,sn,sub,ab,col,dd,k0,k1,k2,k3,k5,mN,hC,hN,hni,T⟩:=xs.obj X
 have hL:=PySem.W.looks_mroIn (M:=M) X hm
 obtain⟨hp,g,d,tk,os⟩:=s
 have hcB:(Value.ref S::bm).contains (.type "BaseException")=true:=by rw[List.contains_cons,T.hasType PySem.F.excBase_ValueError.hasBase,Bool.or_true]
 have f:=tc_notTuple
 unfold excMatches
 repeat (first|with_reducible refine hL.at ?_|(with_reducible refine wpAny_loadPart_at he ?_;rw[hcls])|with_reducible refine wpAny_loadPart_at hC ?_|(with_reducible refine wpAny_isSubtype_exc hC ?_;rw[hcB])|wp_step)
 cases b<;>(wp_walk;exact h)
section
variable {X:Cx}
def PH(X:Cx)(h:ExceptHandler)(th:Value->TS):Prop:=∀(pins:List (Addr×Obj)) (s:Shared) (σ:St) (H:Hp) (D:Ends) (a:Addr) (cls:Value),Inv X pins σ H s->Fl (Nw X pins) a cls H s.heap->th cls D σ H ->
 wpAny (model X.prog X.w) X.A (handleBy (.ref a) X.env [h]) (SP X pins D) X.xe s
def zmq(D:Ends)(i:Nat):Ends:={ nx:=fun σ' H'=>D.nx (σ'.set i none) H',rt:=D.rt,bk:=fun σ' H'=>D.bk (σ'.set i none) H',ct:=fun σ' H'=>D.ct (σ'.set i none) H' }
theorem zrz{S:Addr}{cn n:Str}{i:Nat}{np hpos:Pos}{b0:Stmt}{suite:List Stmt}{ts:TS}(hN:X.N.Nodup)(hi:X.N[i]?=some n)(hk:X.env.scope.names.lookup n=some .local)(hg:Gl X cn)(hm:X.mg cn=some (.ref S))(xs:XC X.K S)(hs:∀a,PSs (X.hnd a) (b0::suite) ts)(hd:(cn==("__debug__" : Str))=false:=by decide) :
  PH X (.ExceptHandler (some (.Name cn np)) (some n) (b0::suite) hpos) (fun cls D σ H=>(∃C,cls=.ref C/\PySem.W.mroIn X.K C (.ref S)=some true)/\∀a,H a=none->ts (zmq D i) (σ.set i (some (.ref a))) (upd H a (.ext (VS.XPhi a cls)))):=by
 intro pins s σ H D a cls I fl ⟨⟨C,hC,hmr⟩,hq⟩
 subst hC
 refine wpAny_handleBy_cons (codeAny_handlers_test (zda (X:=X.hnd a) (I.hnd a) hg hm ?_ hd)) (by intro q;cases q)
 obtain⟨oe,vs,a0,_,ha,he,hc,_⟩:=id fl
 refine zev I.kIn he hc xs hmr ?_
 refine codeAny_handlers_suite_as (zd4 fl (ze1 (I.trackX (fun _ z=>z) fl) hN hi (.inl hk) (show RelV (.ref a) (.ref a) from rfl) (fun s2 I2=>?_) (.inr hk)))
 refine wpAny_mono (hs a pins s2 _ _ (zmq D i) (I2.hnd a) (hq a ha)) (fun f s3 z=>?_) fun _ _ z=>z.elim
 have z':=SP.unhnd I.ok z
 cases f with
 | next=>obtain⟨σ',H',I3,q⟩:=z';exact zcW I3 hN hi hk fun s4 I4=>⟨_,H',I4,q⟩
 | brk=>obtain⟨σ',H',I3,q⟩:=z';exact zcW I3 hN hi hk fun s4 I4=>⟨_,H',I4,q⟩
 | cont=>obtain⟨σ',H',I3,q⟩:=z';exact zcW I3 hN hi hk fun s4 I4=>⟨_,H',I4,q⟩
 | ret u=>obtain⟨v,σ',H',I3,r,q⟩:=z';exact zcW I3 hN hi hk fun s4 I4=>⟨v,_,H',I4,r,q⟩
def XP(X:Cx)(pins:List (Addr×Obj))(σ:St)(E:XK)(e:Value)(s':Shared):Prop:=∃a cls H',e=.ref a/\Inv X pins σ H' s'/\Fl (Nw X pins) a cls H' s'.heap/\E cls none H'
def PCx(X:Cx)(e:Expr)(t:XK->TE):Prop:=∀(pins:List (Addr×Obj)) (s:Shared) (σ:St) (H:Hp) (Q:VK) (E:XK),Inv X pins σ H s->t E σ H Q->wpAny (model X.prog X.w) X.A (eval e X.env) (EP X pins σ Q) (XP X pins σ E) s
def PB(X:Cx)(b:List Stmt)(t:XK->TS):Prop:=∀(pins:List (Addr×Obj)) (s:Shared) (σ:St) (H:Hp) (D:Ends) (E:XK),Inv X pins σ H s->t E D σ H->wpAny (model X.prog X.w) X.A (execs b X.env) (SP X pins D) (XP X pins σ E) s
theorem zpW{b:List Stmt}{h:ExceptHandler}{t:XK->TS}{th:Value->TS}{pos:Pos}(hst:X.stack=X.env::X.outer)(hf:X.env.frame=some X.env.locals)(hex:X.ex=[])(hb:PB X b t)(hh:PH X h th) :
  PS X (.Try b [h] [] [] pos) (fun D σ H=>t (fun cls _ H'=>th cls D σ H') D σ H):=by
 intro pins s σ H D I q
 refine wpAny_Try_except (wpAny_mono (hb pins s σ H D _ I q) (fun f s1 z=>?_) fun e s1 ⟨a,cls,H',e1,I1,fl,z⟩=>?_)
 ·cases f with
  | next=>exact wpAny_execs_nil z
  | brk=>exact z
  | cont=>exact z
  | ret u=>exact z
 ·subst e1
  exact flown I1 hst hf fl fun h' F=>hh pins _ σ H' D a cls (I1.flown hex F) (Fl.nw I1 hex F) z
variable {k:Nat} {f:Addr} {fd:FuncData} {ps:List Str} {sp:Sp} {x:Str} {p pos:Pos} {e:Expr} {es:List Expr} {t:TA}
variable {te:XK->TE}
theorem znL(he:PCx X e te)(hs:swapsWith e none pos.line X.env=pure false:=by rfl):PB X [.Expr e pos] (fun E D σ H=>te E σ H fun _ H1=>D.nx σ H1):=by
 intro pins s σ H D E I h
 exact wpAny_execs_cons (wpAny_Expr_any (wpAny_mono (he pins s σ H _ E I h) (fun v s1 ⟨x,H1,I1,r1,q1⟩=>wpAny_execs_nil ⟨σ,H1,I1,q1⟩) fun _ _ z=>z) I.quiet hs)
end
end L2
namespace L2
open PySem PySem.Spec PyProof.Rows PySem.W PySem.Builtin PySem.Builtin.ObjectAttr PySem.Builtin.Getset_descriptor
section
variable {prog:Program} {w:World} {A:Around} {E:Value->Shared->Prop} {K:PySem.W.Frag} {h:Heap} {g:Array GenState} {d:Drawn} {t:Nat} {os:OsState} {a C:Addr} {o:Obj}
theorem zpX{tp:Value}{R:Result->Shared->Prop}(X:K.In h)(hx:h.get? a=some o)(hc:o.cls=.ref C)(hm:mroIn K C (.type "object")=some true)(hq:R (.ok (.ret (.ref C))) ⟨h,g,d,t,os⟩) :
  codeAny (model prog w) A (.call (.builtin "getset_descriptor.__get__") ⟨[.builtin "object.__class__",.ref a,tp],[]⟩) R ⟨h,g,d,t,os⟩:=by
 have L0:Looks (model prog w) h (typeOf (.ref a)) (.ref C):=hc▸(Looks.ld hx).andThen .now
 have L1:=looks_mroIn (M:=model prog w) X hm
 refine codeAny_call_builtin KF.slot_gs.plain KF.entry_gs (KF.slot_gs.check _ _ _ _ _ _ _ _ KF.type_class (KF.args_gs _ _ _) ?_)
 unfold Builtin.«getset_descriptor.__get__» descrGet
 rw[dga_obj]
 refine wpAny_bind (wpAny_pure ?_)
 unfold descrGetter descrCheckInstance descrNameAndClass isInstance
 simp only[KF.owner_class]
 repeat lk
 refine⟨Code.quiet_builtin _ (by decide +kernel),codeAny_builtin KF.entry_class ?_⟩
 unfold Builtin.«object.__class__» shownTypeOf
 repeat lk
 exact hq
theorem zlp{tk:Tok}{Q:Fin->Shared->Prop}(X:K.In h)(hx:h.get? a=some o)(hc:o.cls=.ref C)(hcl:findIn K (.ref C) "__class__" = some (some (.builtin "object.__class__")))(hm:mroIn K C (.type "object")=some true)(hq:Q (.done (.ret (.ref C))) ⟨h,g,d,t,os⟩) :
  wpAny (model prog w) A (Builtin.«object.__getattribute__» ⟨[.ref a,.str "__class__" tk],[]⟩) Q E ⟨h,g,d,t,os⟩:=by
 have hT5:(⟨h,g,d,t,os⟩:Shared).TypeIs (.builtin "object.__class__") "getset_descriptor" := PySem.F.typeOf_object_class
 have f5:=PySem.F.typeOf_object_class
 have f6:=PySem.F.slot_gs_get.lookup
 have f7:=PySem.F.slot_gs_set.lookup
 have L2:=looks_findIn (M:=model prog w) X hcl
 repeat (any_goals (first|assumption|(with_reducible refine wpAny_loadPart_at hx ?_;rw[hc])|with_reducible refine L2.at ?_|wp_step))
 refine zpX X hx hc hm ?_
 repeat (any_goals (first|assumption|wp_step))
theorem zlq{M:Model}{nameV:Value}{Q:Unit->Shared->Prop}(X:K.In h)(hx:h.get? a=some o)(hc:o.cls=.ref C)(hb:mroIn K C (.type "BaseException")=some true)(hq:Q () ⟨h,g,d,t,os⟩) :
  wpAny M A (checkBuiltinCall "BaseException.__getattribute__" ⟨[.ref a,nameV],[]⟩) Q E ⟨h,g,d,t,os⟩:=by
 have hk:builtinKind "BaseException.__getattribute__" = some .slot:=by decide +kernel
 have hsplit:splitId "BaseException.__getattribute__" = some ("BaseException", "__getattribute__"):=by decide +kernel
 have ha:=PySem.F.args_bexc_ga (.ref a) nameV
 have L1:=looks_mroIn (M:=M) X hb
 simp only[checkBuiltinCall,hk,hsplit]
 refine wpAny_bind ?_
 ·unfold isInstance
  repeat (first|(with_reducible refine wpAny_loadPart_at hx ?_;rw[hc])|with_reducible refine L1.at ?_|wp_step)
  exact hq
theorem zrA{tk:Tok}{Q:Value->Shared->Prop}(X:K.In h)(hx:h.get? a=some o)(hc:o.cls=.ref C)(hga:findIn K (.ref C) "__getattribute__" = some (some (.builtin "BaseException.__getattribute__")))(hgh:findIn K (.ref C) "__getattr__" = some none)(hcl:findIn K (.ref C) "__class__" = some (some (.builtin "object.__class__")))(hm:mroIn K C (.type "object")=some true)(hb:mroIn K C (.type "BaseException")=some true)(hq:Q (.ref C) ⟨h,g,d,t,os⟩) :
  wpAny (model prog w) A (getAttrBy (.ref a) (.str "__class__" tk) false) Q E ⟨h,g,d,t,os⟩:=by
 have f3:=PySem.F.attr_ValueError.ga.bind (.ref a)
 have hx2:(Value.builtin "BaseException.__getattribute__" == Value.builtin "object.__getattribute__")=false:=by decide +kernel
 have hx1:(onTheHeap (Value.ref C)&&Value.builtin "BaseException.__getattribute__" == Value.builtin "object.__getattribute__")=false:=by rw[hx2];rfl
 have L1:=looks_findIn (M:=model prog w) X hga
 have L2:=looks_findIn (M:=model prog w) X hgh
 repeat (any_goals (first|assumption|(with_reducible refine wpAny_loadPart_at hx ?_;rw[hc])|with_reducible refine L1.at ?_|with_reducible refine L2.at ?_|wp_step))
 refine codeAny_call_builtin PySem.F.attr_ValueError.ga.plain PySem.F.entry_bexc_ga (zlq X hx hc hb (zlp X hx hc hcl hm ?_))
 repeat (any_goals (first|assumption|wp_step))
theorem znM{Q:Option Value->Shared->Prop}(X:K.In h)(hx:h.get? a=some o)(hc:o.cls=.ref C)(hga:findIn K (.ref C) "__getattribute__" = some (some (.builtin "BaseException.__getattribute__")))(hgh:findIn K (.ref C) "__getattr__" = some none)(hcl:findIn K (.ref C) "__class__" = some (some (.builtin "object.__class__")))(hm:mroIn K C (.type "object")=some true)(hb:mroIn K C (.type "BaseException")=some true)(hq:Q (some (.ref C)) ⟨h,g,d,t+1,os⟩) :
  wpAny (model prog w) A (getAttr? (.ref a) "__class__") Q E ⟨h,g,d,t,os⟩:=by
 unfold getAttr? getAttrBy?
 refine wpAny_bind (wpAny_mkText (wpAny_bind (wpAny_attempt (zrA X hx hc hga hgh hcl hm hb (wpAny_pure hq)))))
def zof(K:PySem.W.Frag)(C:Addr):Bool:=excIn K C bmV "ValueError.__new__" && findIn K (.ref C) "__getattribute__" == some (some (.builtin "BaseException.__getattribute__"))&&findIn K (.ref C) "__getattr__" == some none &&
 findIn K (.ref C) "__class__" == some (some (.builtin "object.__class__"))&&mroIn K C (.type "object")==some true&&mroIn K C (.type "BaseException")==some true&&(clsIn K C).isSome
theorem zg4{C:Addr}(q:zof K C=true):XC K C/\findIn K (.ref C) "__getattribute__" = some (some (.builtin "BaseException.__getattribute__"))/\findIn K (.ref C) "__getattr__" = some none /\
  findIn K (.ref C) "__class__" = some (some (.builtin "object.__class__"))/\mroIn K C (.type "object")=some true/\mroIn K C (.type "BaseException")=some true/\(clsIn K C).isSome=true:=by
 unfold zof at q
 simp only[Bool.and_eq_true,beq_iff_eq] at q
 obtain⟨⟨⟨⟨⟨⟨q1,q2⟩,q3⟩,q4⟩,q5⟩,q6⟩,q7⟩:=q
 exact⟨q1,q2,q3,q4,q5,q6,q7⟩
theorem zfA(q:zof K C=true):KitX K (.ref a) (.ref C) (VS.XPhi a (.ref C)):=by
 obtain⟨q1,q2,q3,q4,q5,q6,q7⟩:=zg4 q
 obtain⟨cdD,hcD⟩:=Option.isSome_iff_exists.mp q7
 refine⟨fun M h X p=>?_,fun M h X p=>?_,fun h tp dd its n sl X htp=>?_,fun {prog w A E Q s} X p k=>?_⟩
 ·obtain⟨o,vs,e1,e2,_⟩:=p
  exact e2▸(Looks.ld e1).andThen .now
 ·unfold clsIn at hcD
  split at hcD
  ·rename_i c' d' cd' sl' ho
   intro A' Q' E' s' k q
   unfold isType loadHead
   exact wpAny_bind (wpAny_loadPart (k _ _ (X _ _ ho)) (wpAny_pure q))
  ·cases hcD
 ·refine Bool.eq_false_iff.mpr fun q=>?_
  have e:C=tp:=Value.ref.inj (beq_iff_eq.mp q)
  subst e
  unfold clsIn at hcD
  split at hcD
  ·rename_i c' d' cd' sl' ho
   have z:=(X _ _ ho).symm.trans htp
   cases z
  ·cases hcD
 ·obtain⟨o,vs,e1,e2,_⟩:=p
  obtain⟨hh,gg,dd,tt,oss⟩:=s
  exact znM X e1 e2 q2 q3 q4 q5 q6 k
end
end L2
namespace L2
open PySem PySem.Spec PyProof.Rows
section
variable {X:Cx}
def zrB(K:PySem.W.Frag):List V->Hp->VK->Prop:=fun xs H Q=>∃a C,PySem.W.keepIn K (.ref C)=PySem.W.keepIn K (.ref C)/\zof K C=true/\H a=some (.ext (VS.XPhi a (.ref C))) /\
 ((∃S b,xs=[.ref a,.ref S]/\PySem.W.kitOne K (.ref C) (.ref S)=some b/\Q (.bl b) H)\/(∃T b,xs=[.ref a,.ty T]/\PySem.W.kitOne K (.ref C) (.type T)=some b/\Q (.bl b) H) \/
   (∃(tp:Addr) (Ss:List Addr) (b:Bool),xs=[.ref a,.ref tp]/\H tp=some (.tup (Ss.map V.ref))/\PySem.W.kitAny K (.ref C) (Ss.map Value.ref)=some b/\Q (.bl b) H))
theorem zgz:∀{Ss:List Addr} {us:List Value},Vals (Ss.map V.ref) us->us=Ss.map Value.ref
 | [],us,h=>by cases h;rfl
 | S::r,us,h=>by
  cases h with
  | cons h1 h2 =>
   rw[zgz h2]
   exact congrArg (·::_) h1
theorem zlr:CallR X (.builtin "isinstance") (zrB X.K):=by
 intro pins s σ H xs us Q I r h
 obtain⟨a,C,_,xc,hH,h⟩:=h
 have hp:VS.XPhi a (.ref C) s.heap:=(I.hok a _ hH).1
 have fin:∀b tk,Q (.bl b) H->EP X pins σ Q (.bool b) { s with toks:=tk }:=fun b tk q=>⟨.bl b,H,I.tok tk,rfl,q⟩
 rcases h with ⟨S,b,rfl,e,q⟩|⟨T,b,rfl,e,q⟩|⟨tp,Ss,b,rfl,hT,e,q⟩
 ·obtain⟨u,w',rfl,rx,ry⟩:=zkA r
  cases rx;cases ry
  exact PySem.W.kia_one (zfA xc) I.kIn hp e (by intro z;cases z) fun tk=>fin b tk q
 ·obtain⟨u,w',rfl,rx,ry⟩:=zkA r
  cases rx;cases ry
  exact PySem.W.kia_one (zfA xc) I.kIn hp e (by intro z;cases z) fun tk=>fin b tk q
 ·obtain⟨u,w',rfl,rx,ry⟩:=zkA r
  cases rx;cases ry
  obtain⟨_,its,rv,⟨oc,od,odt,osl⟩,e1,e2,⟨n,e3⟩,_⟩:=I.hok tp _ hT
  dsimp only at e2 e3
  subst e2;subst e3
  rw[zgz rv] at e1
  exact PySem.W.kia_tup (zfA xc) I.kIn hp e1 e (by intro z;cases z) fun tk=>fin b tk q
end
end L2
namespace VS
open PySem PySem.Spec PyProof.Rows L2
section
def clOf(K:PySem.W.Frag)(nm:Str):Addr:=match PySem.W.nsIn K mainGlobals nm with
 | some (some (.ref C))=>C
 | _=>0
abbrev Gy(K:PySem.W.Frag):Ga:=⟨K,clOf K,fun x cv od _=>cv=.ref (clOf K x.nm)/\od=none⟩
abbrev XTb:=List (Str×Bool×List Str)
def zrC(K:PySem.W.Frag)(tb:XTb):Bool:=tb.all fun p=>PySem.W.nsIn K mainGlobals p.1==some (some (.ref (clOf K p.1)))&&(!p.2.1||(zof K (clOf K p.1)&&PySem.W.kitOne K (.ref (clOf K p.1)) (.type "ValueError")==some true &&
 tb.all fun q=>PySem.W.kitOne K (.ref (clOf K p.1)) (.ref (clOf K q.1))==some (p.2.2.contains q.1)&&PySem.W.mroIn K (clOf K p.1) (.ref (clOf K q.1))==some (p.2.2.contains q.1)))
structure XT (K:PySem.W.Frag) (mg:Str->Option Value) (tb:XTb):Prop where
 ok:zrC K tb=true
 mg:∀p∈tb,mg p.1=some (.ref (clOf K p.1))
theorem zrD{K:PySem.W.Frag}{h:Heap}{mg:Str->Option Value}{tb:XTb}(X:K.In h)(G:h.Ns mainGlobals mg)(ok:zrC K tb=true):XT K mg tb:=by
 refine⟨ok,fun p hp=>?_⟩
 have:=List.all_eq_true.mp ok p hp
 simp only[Bool.and_eq_true,beq_iff_eq] at this
 exact PySem.W.mg_of X G this.1
section
variable {K:PySem.W.Frag} {mg:Str->Option Value} {tb:XTb}
theorem XT.x(T:XT K mg tb){nm:Str}{anc:List Str}(h:(nm,true,anc)∈tb):zof K (clOf K nm)=true/\PySem.W.kitOne K (.ref (clOf K nm)) (.type "ValueError")=some true /\
  ∀q∈tb,PySem.W.kitOne K (.ref (clOf K nm)) (.ref (clOf K q.1))=some (anc.contains q.1)/\PySem.W.mroIn K (clOf K nm) (.ref (clOf K q.1))=some (anc.contains q.1):=by
 have:=List.all_eq_true.mp T.ok _ h
 simp only[Bool.not_true,Bool.false_or,Bool.and_eq_true,beq_iff_eq,List.all_eq_true] at this
 exact⟨this.2.1.1,this.2.1.2,fun q hq=>this.2.2 q hq⟩
end
def zfB(tb:XTb)(nm:Str):Option (List Str):=match tb.find? (fun p=>p.1==nm&&p.2.1) with
 | some p=>some p.2.2
 | none=>none
theorem zb0{tb:XTb}{nm:Str}{anc:List Str}(h:zfB tb nm=some anc):(nm,true,anc)∈tb:=by
 unfold zfB at h
 split at h
 ·rename_i p e
  cases h
  have h1:=List.mem_of_find?_eq_some e
  have h2:=List.find?_some e
  simp only[Bool.and_eq_true,beq_iff_eq] at h2
  obtain⟨a,b,c⟩:=p
  dsimp only at h2
  obtain⟨rfl,rfl⟩:=h2
  exact h1
 ·cases h
def noX{α:Type}(m:M α):M α:=fun ce=>match m ce with
 | some (.ok a ce')=>some (.ok a ce')
 | _=>none
section
variable {α β:Type} {X:Cx} {G:Ga} {E E':XK} {RP:Hp->List Addr->α->β->Prop}
theorem toT.noX{d:Sl->M α}{σ:VS.St}{H:Hp}{Q:β->Hp->Prop}(h:toT G E RP (fun sl=>VS.noX (d sl)) σ H Q):toT G E' RP d σ H Q:=by
 obtain⟨F,as,sl,ce,S,P⟩:=h
 refine⟨F,as,sl,ce,S,?_⟩
 unfold VS.noX at P
 dsimp only at P
 split at P
 ·rename_i a ce' e
  rw[e];exact P
 ·exact(show False from P).elim
def zkn{α:Type}(d:Sl->M α):Sl->M α:=fun sl=>noX (d sl)
theorem zmr{e:Expr}{d:Sl->M W}(h:PE X e (zam G E0 d)):PE X e (zam G E (zkn d)):=PE.imp h fun _ _ _ z=>z.noX
end
def sml(sl:Sl)(i:Nat):Bool:=match sl[i]? with
 | some (some (.int n))=>decide (n.natAbs<1000)
 | _=>false
def zd5(nm:Str)(l:List Nat):DS:=fun sl ce=>if l.all (sml sl)=true then some (.ex ⟨nm,none⟩ ce) else none
section
variable {X:Cx} {K:PySem.W.Frag} {E:XK} {tb:XTb} {x:Str} {np cpos pos:Pos} {e:Expr} {t:L2.St->Prop}
theorem zhS{l:List Nat}{anc:List Str}(hx:Flies X E)(hK:X.K=K)(T:XT K X.mg tb)(hm:zfB tb x=some anc)(hex:X.ex=[])(hg:Gl X x)(hh:X.A.handled=none)(ha:PX X e t)(ht:∀σ:L2.St,(∀i∈l,∃n:Int,σ[i]?=some (some (.int n))/\n.natAbs<1000)->t σ)(he:starEach [e] X.env=[(false,eval e X.env)]:=by rfl)(hd:(x==("__debug__" : Str))=false:=by decide) :
  PS X (.Raise (some (.Call (.Name x np) [e] [] cpos)) none pos) (toTS (Gy K) E (zd5 x l)):=by
 have hmem:=zb0 hm
 have hx':=(zg4 (T.x hmem).1).1
 refine PS.imp (zlo (E:=E) (C:=clOf K x) hx hex (by rw[hK];exact hx') hg (T.mg _ hmem) hh ha he hd) fun D σ H zz_=>el6 zz_ fun F as sl ce S P=>?_
 unfold zd5 at P
 split at P
 ·rename_i h
  refine⟨ht σ fun i hi=>?_,P H F as (.ref (clOf K x)) none .refl S.st ⟨rfl,rfl⟩⟩
  have:=List.all_eq_true.mp h i hi
  unfold sml at this
  split at this
  ·rename_i n e
   obtain⟨v,e1,e2⟩:=S.slot i _ e
   simp only[Rep] at e2
   subst e2
   exact⟨n,e1,of_decide_eq_true this⟩
  ·cases this
 ·exact(show False from P).elim
end
def zte(d:DS):DS:=fun sl ce=>match d sl ce with
 | some (.go f sl' ce')=>some (.go f sl' ce')
 | _=>none
def zsZ(put:Option Nat)(sl:Sl)(w:W):Sl:=match put with
 | some i=>sl.set i (some w)
 | none=>sl
def zsl(put:Option Nat)(σ:VS.St)(v:V):VS.St:=match put with
 | some i=>σ.set i (some v)
 | none=>σ
def znN(c:Sl->M W)(put:Option Nat)(ok:Exn->Bool)(hd:Exn->DS):DS:=fun sl ce=>match c sl ce with
 | some (.ok w ce')=>some (.go .nx (zsZ put sl w) ce')
 | some (.ex x ce')=>if ok x=true then hd x sl ce' else none
 | none=>none
def zrE(i:Nat):Option O->Option O
 | some (.go f sl ce)=>some (.go f (sl.set i none) ce)
 | _=>none
def dAs(i:Nat)(d:DS):Exn->DS:=fun x sl ce=>zrE i (d (sl.set i (some (.cel ce.length))) (ce++[.exn x.nm]))
def zd6(tb:XTb)(cn:Str)(x:Exn):Bool:=match zfB tb x.nm with
 | some anc=>anc.contains cn&&tb.any (fun p=>p.1==cn)
 | none=>false
theorem zit{K:PySem.W.Frag}{mg:Str->Option Value}{tb:XTb}(T:XT K mg tb){cn:Str}{x:Exn}(h:zd6 tb cn x=true):PySem.W.mroIn K (clOf K x.nm) (.ref (clOf K cn))=some true:=by
 unfold zd6 at h
 split at h
 ·rename_i anc e
  simp only[Bool.and_eq_true,List.any_eq_true,beq_iff_eq] at h
  obtain⟨h1,p,hp,rfl⟩:=h
  have:=((T.x (zb0 e)).2.2 p hp).2
  rw[h1] at this
  exact this
 ·cases h
theorem SR.unset{G:Ga}{F:Hp}{as:List Addr}{H:Hp}{σ:VS.St}{sl:Sl}{ce:Ce}(S:SR G F as H σ sl ce)(i:Nat):SR G F as H (σ.set i none) (sl.set i none) ce:=by
 refine⟨S.st,by rw[List.length_set,List.length_set];exact S.len,fun j u e=>?_⟩
 by_cases hj:i=j
 ·subst hj
  have hi:i<sl.length:=by have:=zao e;rwa [List.length_set] at this
  rw[List.getElem?_set_self hi] at e
  cases e
 ·rw[List.getElem?_set_ne hj] at e
  obtain⟨v,h1,h2⟩:=S.slot j u e
  exact⟨v,by rw[List.getElem?_set_ne hj];exact h1,h2⟩
section
variable {X:Cx} {K:PySem.W.Frag} {E:XK} {tb:XTb} {k n:Nat} {f:Addr} {fd:FuncData} {ps:List Str} {df:List W->M W} {x cn:Str} {p pos hpos np cpos epos:Pos} {e:Expr} {es:List Expr} {dr:Sl->M (List W)} {h:ExceptHandler} {hd:Exn->DS} {ok:Exn->Bool} {b0:Stmt} {suite:List Stmt} {ds:DS}
def PHv(K:PySem.W.Frag)(E:XK)(X:Cx)(h:ExceptHandler)(ok:Exn->Bool)(hd:Exn->DS):Prop:=∃th:Value->TS,PH X h th/\∀D σ H F as sl ce (x:Exn),SR (Gy K) F as H σ sl ce->ok x=true->PostS (Gy K) E D F as (hd x sl ce)->th (.ref (clOf K x.nm)) D σ H
theorem zrF{i:Nat}{nm:Str}{anc:List Str}(hK:X.K=K)(T:XT K X.mg tb)(hm:zfB tb cn=some anc)(hN:X.N.Nodup)(hi:X.N[i]?=some nm)(hk:X.env.scope.names.lookup nm=some .local)(hg:Gl X cn)(hs:∀a,PSs (X.hnd a) (b0::suite) (toTS (Gy K) E0 ds))(hd:(cn==("__debug__" : Str))=false:=by decide):PHv K E X (.ExceptHandler (some (.Name cn np)) (some nm) (b0::suite) hpos) (zd6 tb cn) (dAs i ds):=by
 have hmem:=zb0 hm
 refine⟨_,zrz hN hi hk hg (T.mg _ hmem) (by rw[hK];exact(zg4 (T.x hmem).1).1) hs hd,fun D σ H F as sl ce x S hx P=>⟨⟨_,rfl,by rw[hK];exact zit T hx⟩,fun a ha=>?_⟩⟩
 obtain⟨S2,l2⟩:=S.st.alloc (G:=Gy K) (o:=.ext (XPhi a (.ref (clOf K x.nm)))) ha (c:=.exn x.nm) (fun as' _=>zat)
 have S3:SR (Gy K) F (as++[a]) (upd H a (.ext (XPhi a (.ref (clOf K x.nm))))) σ sl (ce++[.exn x.nm]):=S.slots S2 l2
 have hr:Rep F (as++[a]) (.cel ce.length) (.ref a):=by
  simp only[Rep]
  exact⟨a,rfl,by rw[<- S.st.len];simp⟩
 refine⟨F,as++[a],_,_,S3.put hr i,?_⟩
 unfold dAs at P
 revert P
 cases ds (sl.set i (some (.cel ce.length))) (ce++[.exn x.nm]) with
 | none=>exact fun P=>P
 | some o=>cases o with
  | ex y ce'=>exact fun P=>(show False from P).elim
  | go f sl' ce' =>
   intro P σ' H' F' as' l S'
   have q:=P (σ'.set i none) H' F' as' (l2.trans l) (S'.unset i)
   cases f with
   | nx=>exact q
   | bk=>exact q
   | ct=>exact q
   | rt w=>exact q
end
def zg5(ce:Ce):W->Option Str
 | .cel k=>match ce[k]? with
  | some (.exn nm)=>some nm
  | _=>none
 | _=>none
def zpY(tb:XTb)(ce:Ce)(w:W)(cn:Str):Option W:=(zg5 ce w).bind fun nm=>(zfB tb nm).bind fun anc=>if tb.any (fun p=>p.1==cn)=true then some (.bl (anc.contains cn)) else none
def zpZ(tb:XTb)(ce:Ce)(w:W):Option W:=(zg5 ce w).bind fun nm=>(zfB tb nm).bind fun _=>some (.bl true)
def zms(tb:XTb)(ce:Ce)(w:W)(cns:List Str):Option W:=(zg5 ce w).bind fun nm=>(zfB tb nm).bind fun anc=>if (cns.all fun cn=>tb.any fun p=>p.1==cn)=true then some (.bl (cns.any anc.contains)) else none
def zko(f:Ce->W->Option W)(d:Sl->M W):Sl->M W:=fun sl=>bnd (d sl) fun w=>look fun ce=>f ce w
section
variable {X:Cx} {K:PySem.W.Frag} {E:XK} {tb:XTb} {cn:Str} {p pos p2:Pos} {e:Expr} {d:Sl->M W} {F:Hp} {as:List Addr} {H:Hp} {ce:Ce} {w:W} {v:V}
theorem zfC{nm:Str}{σ:VS.St}{sl:Sl}(S:SR (Gy K) F as H σ sl ce)(r:Rep F as w v)(h:zg5 ce w=some nm):∃a,v=.ref a/\H a=some (.ext (XPhi a (.ref (clOf K nm)))):=by
 unfold zg5 at h
 split at h
 ·rename_i k
  split at h
  ·rename_i nm' e
   cases h
   simp only[Rep] at r
   obtain⟨a,rfl,ha⟩:=r
   obtain⟨_,q⟩:=S.st.cell k a _ ha e
   exact⟨a,rfl,q⟩
  ·cases h
 ·cases h
theorem zjW{f:Ce->W->Option W}{x2:Expr}{t2:TE}(hK:X.K=K)(hx:PE X e (zam (Gy K) E d))(h2:PE X x2 t2)(hg:Gl X "isinstance")(hm:X.mg "isinstance" = none)(hf:∀F as H σ sl ce w w' v (Q:VK),SR (Gy K) F as H σ sl ce->Rep F as w v->f ce w=some w'->(∀H' v',(∀b o,H b=some o->H' b=some o)->SR (Gy K) F as H' σ sl ce->Rep F as w' v'->Q v' H')->t2 σ H fun u H2=>zrB K [v,u] H2 Q)(he:starEach [e,x2] X.env=(false,eval e X.env)::starEach [x2] X.env:=by rfl)(he2:starEach [x2] X.env=(false,eval x2 X.env)::starEach [] X.env:=by rfl)(hpl:(backTo pos (starEach [x2] X.env)).any (·.1)=false:=by rfl) :
  PE X (.Call (.Name "isinstance" p) [e,x2] [] pos) (zam (Gy K) E (zko f d)):=by
 refine PE.imp (zhp (r:=zrB K) (hK▸zlr) hg hm PyProof.Rows.boot_isinstance (ze5 hx (ze5 h2 ziZ he2) he) (he:=he) (hpl:=hpl)) fun σ H Q zz_=>el6 zz_ fun F as sl ce S P=>?_
 refine(step S P).mono fun v H1 zz_=>el8 zz_ fun w F1 as1 ce1 l1 S1 r1 P1=>?_
 obtain⟨w',e1,P2⟩:=za8 P1
 exact hf F1 as1 H1 σ sl ce1 w w' v Q S1 r1 e1 fun H' v' _ S' r'=>P2 v' H' F1 as1 .refl S' r'
theorem znO(hK:X.K=K)(T:XT K X.mg tb)(hin:tb.any (fun p=>p.1==cn)=true)(hx:PE X e (zam (Gy K) E d))(hg:Gl X "isinstance")(hm:X.mg "isinstance" = none)(hgc:Gl X cn)(hd:(cn==("__debug__" : Str))=false:=by decide)(he:starEach [e,.Name cn p2] X.env=(false,eval e X.env)::starEach [.Name cn p2] X.env:=by rfl)(he2:starEach [.Name cn p2] X.env=(false,eval (.Name cn p2) X.env)::starEach [] X.env:=by rfl)(hpl:(backTo pos (starEach [.Name cn p2] X.env)).any (·.1)=false:=by rfl) :
  PE X (.Call (.Name "isinstance" p) [e,.Name cn p2] [] pos) (zam (Gy K) E (zko (fun ce w=>zpY tb ce w cn) d)):=by
 obtain⟨q,hq,hqn⟩:=List.any_eq_true.mp hin
 have hqn:=beq_iff_eq.mp hqn
 have hmg:X.mg cn=some (.ref (clOf K cn)):=hqn▸T.mg q hq
 refine zjW hK hx (zgK (v:=.ref (clOf K cn)) hgc hmg rfl hd) hg hm (fun F as H σ sl ce w w' v Q S r e1 k=>?_) he he2 hpl
 unfold zpY at e1
 obtain⟨nm,h1,e1⟩:=Option.bind_eq_some_iff.mp e1
 obtain⟨anc,h2,e1⟩:=Option.bind_eq_some_iff.mp e1
 rw[if_pos hin] at e1
 cases e1
 obtain⟨a,rfl,ha⟩:=zfC S r h1
 obtain⟨t1,t2,t3⟩:=T.x (zb0 h2)
 exact⟨a,_,rfl,t1,ha,.inl ⟨_,_,rfl,hqn▸(t3 q hq).1,k H _ (fun _ _ z=>z) S (by simp only[Rep])⟩⟩
theorem znP(hK:X.K=K)(T:XT K X.mg tb)(hx:PE X e (zam (Gy K) E d))(hg:Gl X "isinstance")(hm:X.mg "isinstance" = none)(hgc:Gl X "ValueError")(hmv:X.mg "ValueError" = none)(he:starEach [e,.Name "ValueError" p2] X.env=(false,eval e X.env)::starEach [.Name "ValueError" p2] X.env:=by rfl)(he2:starEach [.Name "ValueError" p2] X.env=(false,eval (.Name "ValueError" p2) X.env)::starEach [] X.env:=by rfl)(hpl:(backTo pos (starEach [.Name "ValueError" p2] X.env)).any (·.1)=false:=by rfl) :
  PE X (.Call (.Name "isinstance" p) [e,.Name "ValueError" p2] [] pos) (zam (Gy K) E (zko (fun ce w=>zpZ tb ce w) d)):=by
 refine zjW hK hx (ziQ (v:=.ty "ValueError") hgc hmv (by decide +kernel) rfl) hg hm (fun F as H σ sl ce w w' v Q S r e1 k=>?_) he he2 hpl
 unfold zpZ at e1
 obtain⟨nm,h1,e1⟩:=Option.bind_eq_some_iff.mp e1
 obtain⟨anc,h2,e1⟩:=Option.bind_eq_some_iff.mp e1
 cases e1
 obtain⟨a,rfl,ha⟩:=zfC S r h1
 obtain⟨t1,t2,t3⟩:=T.x (zb0 h2)
 exact⟨a,_,rfl,t1,ha,.inr (.inl ⟨_,_,rfl,t2,k H _ (fun _ _ z=>z) S (by simp only[Rep])⟩)⟩
def PCl(X:Cx)(K:PySem.W.Frag)(es:List Expr)(cns:List Str):Prop:=PA X es (fun _ H Q=>Q (cns.map fun c=>V.ref (clOf K c)) H)
theorem zjX:PCl X K [] []:=ziZ
theorem zbv{es:List Expr}{cns:List Str}(hm:X.mg cn=some (.ref (clOf K cn)))(hg:Gl X cn)(h:PCl X K es cns)(hs:starEach (.Name cn p::es) X.env=(false,eval (.Name cn p) X.env)::starEach es X.env:=by rfl)(hd:(cn==("__debug__" : Str))=false:=by decide):PCl X K (.Name cn p::es) (cn::cns) :=
 PA.imp (ze5 (zgK (v:=.ref (clOf K cn)) hg hm rfl hd) h hs) fun σ H Q z=>z
theorem zjY{C:Value}{cns:List Str}{f:Str->Bool}(h:∀c∈cns,PySem.W.kitOne K C (.ref (clOf K c))=some (f c)):PySem.W.kitAny K C (cns.map fun c=>Value.ref (clOf K c))=some (cns.any f):=by
 induction cns with
 | nil=>rfl
 | cons c r ih =>
  simp only[List.map_cons,PySem.W.kitAny,h c List.mem_cons_self,List.any_cons]
  cases f c with
  | true=>rfl
  | false=>simpa using ih fun c hc=>h c (List.mem_cons_of_mem _ hc)
theorem zjZ{es:List Expr}{cns:List Str}{x1}(hK:X.K=K)(T:XT K X.mg tb)(hin:(cns.all fun cn=>tb.any fun p=>p.1==cn)=true)(hl:cns.length<=sizeLine)(hx:PE X e (zam (Gy K) E d))(hcs:PCl X K es cns)(hg:Gl X "isinstance")(hm:X.mg "isinstance" = none)(he:starEach [e,.Tuple es x1 p2] X.env=(false,eval e X.env)::starEach [.Tuple es x1 p2] X.env:=by rfl)(he2:starEach [.Tuple es x1 p2] X.env=(false,eval (.Tuple es x1 p2) X.env)::starEach [] X.env:=by rfl)(hpl:(backTo pos (starEach [.Tuple es x1 p2] X.env)).any (·.1)=false:=by rfl) :
  PE X (.Call (.Name "isinstance" p) [e,.Tuple es x1 p2] [] pos) (zam (Gy K) E (zko (fun ce w=>zms tb ce w cns) d)):=by
 refine zjW hK hx (zlX hcs) hg hm (fun F as H σ sl ce w w' v Q S r e1 k=>?_) he he2 hpl
 unfold zms at e1
 obtain⟨nm,h1,e1⟩:=Option.bind_eq_some_iff.mp e1
 obtain⟨anc,h2,e1⟩:=Option.bind_eq_some_iff.mp e1
 rw[if_pos hin] at e1
 cases e1
 obtain⟨a,rfl,ha⟩:=zfC S r h1
 obtain⟨t1,t2,t3⟩:=T.x (zb0 h2)
 refine⟨by rw[List.length_map];exact hl,fun tp htp=>?_⟩
 have keep:∀b o,H b=some o->upd H tp (.tup (cns.map fun c=>V.ref (clOf K c))) b=some o:=fun b o q=>by rw[zau (zaq q htp)];exact q
 obtain⟨S2,l2⟩:Store (Gy K) F as (upd H tp (.tup (cns.map fun c=>V.ref (clOf K c)))) ce/\True:=by
  refine⟨⟨fun b o q=>keep b o (S.st.sub b o q),S.st.nd,S.st.len,fun j b c q1 q2=>?_⟩,trivial⟩
  obtain⟨z1,z2⟩:=S.st.cell j b c q1 q2
  obtain⟨o,ho⟩:=z2.tracked
  exact⟨z1,z2.le .refl (by rw[ho];exact keep b o ho)⟩
 have hS:SR (Gy K) F as (upd H tp (.tup (cns.map fun c=>V.ref (clOf K c)))) σ sl ce:=⟨S2,S.len,S.slot⟩
 have hka:∀c∈cns,PySem.W.kitOne K (.ref (clOf K nm)) (.ref (clOf K c))=some (anc.contains c):=fun c hc=>by
  obtain⟨q,hq,hqn⟩:=List.any_eq_true.mp (List.all_eq_true.mp hin c hc)
  have hqn:=beq_iff_eq.mp hqn
  exact hqn▸(t3 q hq).1
 exact⟨a,_,rfl,t1,keep a _ ha,.inr (.inr ⟨tp,cns.map (clOf K),_,rfl,by rw[zat,List.map_map];rfl,by rw[List.map_map];exact zjY (f:=anc.contains) hka,k _ _ keep hS (by simp only[Rep])⟩)⟩
end
end
end VS
namespace VS
open PySem PySem.Spec PyProof.Rows L2
section
theorem XT.at{K:PySem.W.Frag}{mg:Str->Option Value}{tb:XTb}(T:XT K mg tb){cn:Str}(h:tb.any (fun p=>p.1==cn)=true):mg cn=some (.ref (clOf K cn)):=by
 obtain⟨q,hq,hqn⟩:=List.any_eq_true.mp h
 exact beq_iff_eq.mp hqn▸T.mg q hq
section
variable {P:Program} {w:World} {K:PySem.W.Frag} {mg:Str->Option Value} {base:Heap} {k:Nat} {f:Addr} {fd:FuncData} {ps:List Str}
theorem zp0{sp:Sp}(F:FnOk P w K mg base (CXx P w) k f fd ps sp):FnOk P w K mg base CX0 k f fd ps (fun vs H Q _=>sp vs H Q E0):=by
 refine⟨fun vs H Q E h=>F.len vs H Q E0 h,fun A outer s H args us vs Q E hr he hb hv hs=>codeAny_mono (F.run A outer s H args us vs Q E0 hr he hb hv hs) fun r s' h=>?_⟩
 cases r with
 | error e=>obtain⟨_,_,_,_,_,_,_,_,_,z⟩:=h;exact z
 | ok fl=>cases fl<;>exact h
theorem znQ{G:PySem.W.Frag->Ga}{d:List W->M W}(nl:noL K=true)(h:FnOk P w K mg base (CXx P w) k f fd ps (spV (G K) (fun E=>E) 1 d)):FnOk P w K mg base CX0 k f fd ps (spLaw G d K):=(zp0 h).imp fun _ _ _ _ q=>q nl
end
end
end VS
namespace VS
open PySem PySem.Spec PyProof.Rows L2
section
def Xt(T:Exn->Ce->Prop):O->Prop
 | .ex x ce=>T x ce
 | _=>False
section
variable {sl:Sl} {ce c1:Ce} {a b:DS} {Q:O->Prop} {x:Exn} {nm:Str} {l:List Nat}
theorem zj0(h:l.all (sml sl)=true)(q:Q (.ex ⟨nm,none⟩ ce)):Run (zd5 nm l) sl ce Q:=⟨_,by unfold zd5;rw[if_pos h],q⟩
theorem znR(h:Run a sl ce (Xt fun x c=>Q (.ex x c))):Run (zav a b) sl ce Q:=by
 obtain⟨o,e,q⟩:=h
 cases o with
 | ex x c=>exact⟨_,by simp only[zav,e],q⟩
 | go f sl' c=>exact(show False from q).elim
theorem zgA(h:l.all (sml sl)=true)(q:Q (.ex ⟨nm,none⟩ ce)):Run (zav (zd5 nm l) b) sl ce Q:=znR (zj0 h q)
variable {f:List W->M W} {n:Nat} {ra:Sl->M (List W)} {ws:List W} {e:Sl->M W} {i:Nat}
theorem zj1{α:Type}{d:Sl->M α}{v:α}(h:d sl ce=some (.ok v c1)):zkn d sl ce=some (.ok v c1):=by simp only[zkn,noX,h]
theorem zhT{fin:Ce->Ce->W->Option (R W)}{body:DS}(sl:Sl)(e:ws.map some++List.replicate (n-ws.length) none=sl)(h:Run body sl ce (Xt fun y c'=>y=x/\∃t,c'=ce++t)):dFn fin n body ws ce=some (.ex x ce):=by
 subst e
 obtain⟨o,e,q⟩:=h
 cases o with
 | go f sl' c=>exact(show False from q).elim
 | ex y c =>
  obtain⟨rfl,t,rfl⟩:=q
  have hc:zfg ce (ce++t):=⟨by simp,fun k c hk e=>.inl (by rw[List.getElem?_append_left hk] at e;exact e)⟩
  simp only[dFn,e]
  rw[if_pos hc]
  simp
theorem zls{c:Sl->M W}{put:Option Nat}{ok:Exn->Bool}{hd:Exn->DS}{sl':Sl}{c2:Ce}(h:c sl ce=some (.ex x c1))(hok:ok x=true)(e:hd x sl c1=some (.go .nx sl' c2))(q:Run b sl' c2 Q):Run (zav (znN c put ok hd) b) sl ce Q :=
 zcE (by simp only[znN,h];rw[if_pos hok];exact e) q
variable {α:Type} {en:α->W} {src:Src} {g:DG} {body:DS} {zs:List α} {di:Sl->M Src}
end
end
end VS
namespace L2
open PySem PySem.Spec PyProof.Rows
section
variable {X:Cx}
end
end L2
namespace VS
open PySem PySem.Spec PyProof.Rows L2
section
section
variable {G:Ga} {E:XK}
end
end
end VS
namespace VS
open PySem PySem.Spec PyProof.Rows L2
section
end
end VS
namespace L2
open PySem PySem.Spec PyProof.Rows
section
variable {X:Cx}
def zsm:V->List V->Hp->VK->Prop:=fun x vs H Q=>∃(l:Addr) (ns:List Int) (i:Int),x=.ref l/\vs=[.int i]/\H l=some (.lst (ns.map V.int))/\i∈ns/\Q .non (upd H l (.lst ((ns.erase i).map V.int)))
theorem zp1:MtM X "list.remove" zsm:=by
 intro pins s σ H x vs v us Q I rx rv h
 obtain⟨l,ns,i,rfl,rfl,hH,hi,q⟩:=h
 cases rx
 obtain⟨u,rfl,ru⟩:=ze2 rv
 obtain⟨t,rfl⟩:=ru
 obtain⟨z,its,n,r,hl,e⟩:=I.lstM hH
 have hI:IntsAre its ns:=zeE r
 have hlen:=hI.length
 have hj:ns.idxOf i<ns.length:=List.idxOf_lt_length_iff.mpr hi
 have hsz:its.toArray.size<=sizeLine:=by rw[List.size_toArray];omega
 refine call_meets PySem.F.slot_list_remove ⟨_,e,rfl⟩ PySem.F.entry_list_remove (PySem.F.args_list_remove_2 _ _)
  (MeetsSeq.list_remove l its.toArray n (.int i t) (isInt i) (fun y hy=>eq_isInt i t hI y (by simpa using hy)) (ns.idxOf i) (by simpa[hlen] using hj) ?_ ?_ hsz) ⟨e,?_⟩
 ·show isInt i its[ns.idxOf i]=true
  rw[isInt_at i hI _ (by omega) hj]
  simpa using List.getElem_idxOf hj
 ·intro m hm hlt
  show isInt i its[m]=false
  rw[isInt_at i hI m (by simpa using hm) (by omega)]
  exact ne_of_lt_idxOf hlt _
 ·refine⟨.non,_,I.lset (its':=its.eraseIdx (ns.idxOf i)) hH e ?_ ?_ ?_,rfl,q⟩
  ·apply Array.toList_inj.mp
   simp[Array.toList_eraseIdxIfInBounds]
  ·rw[List.erase_eq_eraseIdx_of_idxOf rfl,List.eraseIdx_eq_take_drop_succ,List.eraseIdx_eq_take_drop_succ,List.map_append,List.map_take,List.map_drop]
   exact(r.take _).append (r.drop _)
  ·rw[List.length_map] at z ⊢;exact Nat.le_trans (List.length_erase_le ..) z
end
end L2
namespace VS
open PySem PySem.Spec PyProof.Rows L2
section
open Classical in
def zp2:W->List W->M W:=fun w ws ce=>match zkW ce w,ws with
 | some (k,xs),[.int i]=>match zfh xs with
  | some ns=>if i∈ns then some (.ok .non (ce.set k (.lst ((ns.erase i).map W.int)))) else none
  | none=>none
 | _,_=>none
section
variable {G:Ga} {E:XK}
theorem zrG:Mt G E zsm zp2:=by
 intro F as H σ sl ce w v ws vs Q S rw' rs P
 revert P
 unfold zp2
 split
 ·rename_i k xs i hc
  intro P
  split at P
  ·rename_i ns hn
   split at P
   ·rename_i hi
    have hx:=zfi hn
    subst hx
    obtain⟨a,us,rfl,ha,hH,r⟩:=zdy S.st rw' hc
    obtain⟨v1,rfl,rv⟩:=zb7 rs
    simp only[Rep] at rv
    subst rv
    have:=r.of_ints
    subst this
    refine⟨a,ns,i,rfl,rfl,hH,hi,P .non _ F as .refl (S.slots (S.st.write (o:=.lst ((ns.erase i).map V.int)) (c:=.lst ((ns.erase i).map W.int)) ha ⟨_,zat,Reps.ints _⟩) .refl) (by simp only[Rep])⟩
   ·exact(show False from P).elim
  ·exact(show False from P).elim
 ·exact fun P=>(show False from P).elim
theorem zgB:∀(l:List Nat) (p:Nat),(toI l).erase (p:Int)=toI (l.erase p)
 | [],_=>rfl
 | a::l,p=>by
  unfold toI
  rw[List.map_cons,List.erase_cons,List.erase_cons]
  by_cases h:a=p
  ·subst h;simp
  ·have h':¬((a:Int)=(p:Int)):=by omega
   have h1:((a:Int)==(p:Int))=false:=by simpa using h'
   have h2:(a==p)=false:=by simpa using h
   have ih:=zgB l p
   unfold toI at ih
   rw[h1,h2]
   simp only[Bool.false_eq_true,if_false,List.map_cons,ih]
theorem zp3{ce:Ce}{k p:Nat}{l:List Nat}(g:ce[k]?=some (.lst (l.map nW)))(hp:p∈l):zp2 (.cel k) [nW p] ce=some (.ok .non (ce.set k (.lst ((l.erase p).map nW)))):=by
 have hi:(p:Int)∈toI l:=List.mem_map.mpr ⟨p,hp,rfl⟩
 simp only[zp2,zdX g,nW,zfn]
 rw[zjC,if_pos hi,zgB]
end
end
end VS
namespace HT
open PySem PySem.Spec PyProof.Rows
section
variable {prog:Program} {w:World} {A:Around} {E:Value->Shared->Prop} {s:Shared}
end
end HT
namespace L2
open PySem PySem.Spec PyProof.Rows
section
variable {X:Cx} {e:Expr} {te:TE} {st:Expr} {ts:TO} {pos p2:Pos}
end
end L2
namespace VS
open PySem PySem.Spec PyProof.Rows L2
section
section
variable {X:Cx} {G:Ga} {E:XK} {a:Expr} {da:Sl->M W} {pos p2:Pos}
end
end
end VS
namespace VS
open PySem PySem.Spec PyProof.Rows L2
theorem us1{fd:FuncData}{ps:List Str}(h:∀a,bindArgs fd { pos:=[a] }=pure (ps.zip [a])):∀us:List Value,us.length=1->bindArgs fd { pos:=us }=pure (ps.zip us)
 | [a],_=>h a
theorem us2{fd:FuncData}{ps:List Str}(h:∀a b,bindArgs fd { pos:=[a,b] }=pure (ps.zip [a,b])):∀us:List Value,us.length=2->bindArgs fd { pos:=us }=pure (ps.zip us)
 | [a,b],_=>h a b
theorem us3{fd:FuncData}{ps:List Str}(h:∀a b c,bindArgs fd { pos:=[a,b,c] }=pure (ps.zip [a,b,c])):∀us:List Value,us.length=3->bindArgs fd { pos:=us }=pure (ps.zip us)
 | [a,b,c],_=>h a b c
theorem us4{fd:FuncData}{ps:List Str}(h:∀a b c d,bindArgs fd { pos:=[a,b,c,d] }=pure (ps.zip [a,b,c,d])):∀us:List Value,us.length=4->bindArgs fd { pos:=us }=pure (ps.zip us)
 | [a,b,c,d],_=>h a b c d
theorem us5{fd:FuncData}{ps:List Str}(h:∀a b c d e,bindArgs fd { pos:=[a,b,c,d,e] }=pure (ps.zip [a,b,c,d,e])):∀us:List Value,us.length=5->bindArgs fd { pos:=us }=pure (ps.zip us)
 | [a,b,c,d,e],_=>h a b c d e
end VS
namespace VS
open PySem PySem.Spec PyProof.Rows L2
section
section
variable {κ:Type} [DecidableEq κ] {F:Hp} {as:List Addr} {kvs:List (κ×W)} {ps:List (κ×V)}
end
section
variable {G:Ga} {F:Hp} {as:List Addr} {H:Hp} {ce:Ce} {w:W} {v:V}
end
section
variable {X:Cx} {G:Ga} {E:XK} {a b c:Expr} {da db dc:Sl->M W} {pos:Pos}
end
section
variable {sl:Sl} {ce c1 c2 c3:Ce} {k:Nat} {a b o i v:Sl->M W} {x y w:W}
end
end
end VS
namespace L2
open PySem PySem.Spec PyProof.Rows PySem.MeetsSeq
open PySem.AutoSeq1 (wpAny_loadPart')
end L2
namespace VS
open PySem PySem.Spec PyProof.Rows L2
section
section
variable {X:Cx}
end
section
variable {G:Ga} {E:XK}
end
end
end VS
namespace L2
open PySem PySem.Spec PyProof.Rows
section
variable {X:Cx} {e:Expr} {te:TE} {st:Expr} {ts:TO} {pos p2:Pos}
end
end L2
namespace VS
open PySem PySem.Spec PyProof.Rows L2
section
section
variable {X:Cx} {G:Ga} {E:XK} {a:Expr} {da:Sl->M W} {pos p2:Pos}
end
end
end VS
namespace L2
open PySem
def Ris(xs:Array Nat):Prop:=xs.toList.Pairwise (·<·)
structure TOk (t:SetTable):Prop where
 dum:t.dummies=#[]
 ris:t.plain=true->Ris t.place
end L2
namespace L2
open PySem PySem.Spec PyProof.Rows
def iv:Value->Int
 | .int k _=>k
 | _=>0
section
variable {prog:Program} {w:World} {A:Around} {E:Value->Shared->Prop} {s:Shared} {a:Addr} {ds:List Int} {led:Bool}
def ztf(prog:Program)(w:World)(h:Heap)(a:Addr)(ds:List Int)(led:Bool):Prop :=
 ∃o es ep t,h.get? a=some o/\o.ExactSet/\o.data=.set es ep t/\ElemsOf (intKind prog w) es.toList/\es.size<scanBound/\t.fits es.size=true/\TOk t/\t.led=led/\(∀e∈es.toList,∃k tk,e.2=.int k tk)/\(es.toList.map fun e=>iv e.2).Perm ds
end
section
variable {prog:Program} {w:World} {A:Around} {R:Result->Shared->Prop} {I:Addr} {fp wr:List Addr} {G:Array GenState->Array GenState->Prop} {n:Nat} {P:Nat->Value->Prop} {St:Nat->Shared->Prop}
end
end L2
namespace L2
open PySem PySem.Spec PyProof.Rows
section
variable {prog:Program} {w:World} {A:Around} {E:Value->Shared->Prop} {s:Shared}
end
end L2
namespace L2
open PySem PySem.Spec PyProof.Rows
section
variable {prog:Program} {w:World} {A:Around} {E:Value->Shared->Prop} {s:Shared} {a:Addr} {o:Obj} {es:Array (Int×Value)} {ep:Nat} {t:SetTable}
end
end L2
namespace L2
open PySem PySem.Spec PyProof.Rows
section
variable {prog:Program} {w:World} {A:Around} {E:Value->Shared->Prop} {s:Shared} {a I T:Addr} {o:Obj} {es:Array (Int×Value)} {ep:Nat} {t:SetTable} {i sl sl':Nat} {x:Value} {Q:Option Value->Shared->Prop}
end
end L2
namespace L2
open PySem PySem.Spec PyProof.Rows
section
variable {prog:Program} {w:World} {A:Around} {E:Value->Shared->Prop} {s:Shared} {a I T:Addr} {o:Obj} {es:Array (Int×Value)} {ep:Nat} {t:SetTable} {ds:List Int}
end
end L2
namespace L2
open PySem PySem.Spec PyProof.Rows
section
variable {prog:Program} {w:World} {A:Around} {E:Value->Shared->Prop} {s:Shared} {a:Addr} {ds:List Int}
end
end L2
namespace L2
open PySem PySem.Spec PyProof.Rows
section
variable {X:Cx} {e:Expr} {t:TA} {p pos p2 pos2:Pos}
end
end L2
namespace VS
open PySem PySem.Spec PyProof.Rows L2
section
section
variable {X:Cx} {G:Ga} {E:XK} {e:Expr} {dr:Sl->M (List W)} {p pos p2 pos2:Pos}
end
end
end VS
namespace L2
open PySem PySem.Spec PyProof.Rows
open PySem.AutoSeq1 (wpAny_loadPart')
section
variable {prog:Program} {w:World} {A:Around} {E:Value->Shared->Prop} {s:Shared}
end
end L2
namespace L2
open PySem PySem.Spec PyProof.Rows PySem.MeetsSeq PySem.MeetsSeq3
open PySem.AutoSeq1 (wpAny_loadPart')
section
variable {prog:Program} {w:World} {A:Around} {E:Value->Shared->Prop} {s:Shared}
end
end L2
namespace L2
open PySem PySem.Spec PyProof.Rows
section
variable {prog:Program} {w:World} {A:Around} {E:Value->Shared->Prop} {s:Shared}
end
end L2
namespace L2
open PySem PySem.Spec PyProof.Rows
section
variable {X:Cx}
end
end L2
namespace VS
open PySem PySem.Spec PyProof.Rows L2
section
section
variable {X:Cx} {G:Ga} {E:XK}
end
end
end VS
namespace VS
open PySem PySem.Spec PyProof.Rows L2
section
variable {X:Cx} {G:Ga} {E:XK} {a b c:Expr} {da db dc:Sl->M W} {pos:Pos}
end
end VS
namespace VS
open PySem PySem.Spec PyProof.Rows L2
section
variable {G:Ga} {E:XK}
end
end VS
namespace L2
open PySem PySem.Spec PyProof.Rows
section
variable {X:Cx}
end
end L2
namespace VS
open PySem PySem.Spec PyProof.Rows L2
section
variable {X:Cx} {K:PySem.W.Frag} {E:XK} {tb:XTb} {c1 c2:Str} {p1 p2 tpos hpos:Pos} {b0:Stmt} {suite:List Stmt} {ds:DS}
end
end VS
namespace L2
open PySem PySem.Spec PyProof.Rows
section
variable {X:Cx} {k:Nat} {f C:Addr} {fd:FuncData} {ps:List Str} {sp:Sp} {x m:Str} {p pos apos:Pos} {e o:Expr} {es:List Expr} {t:TA} {ta:TE}
theorem znS{pins:List (Addr×Obj)}{σ:St}{H:Hp}{s:Shared}{Q:VK}{E:XK}{us:List Value}{vs:List V}(F:FnOk X.prog X.w X.K X.mg X.base (CXx X.prog X.w) k f fd ps sp)(hr:Room k X.A)(hex:X.ex=[])(hb:Binds X.K fd ps [])(I:Inv X pins σ H s)(r:Vals vs us)(q:sp vs H Q E):wpAny (model X.prog X.w) X.A (call (.ref f) us) (EP X pins σ Q) (XP X pins σ E) s:=by
 have hl:(us++[]).length=ps.length:=by rw[List.append_nil,<- r.length];exact F.len _ _ _ _ q
 have hb':=hb s us I.kIn hl
 rw[List.append_nil] at hb'
 refine wpAny_call (codeAny_mono (F.run X.A X.stack s H ⟨us,[]⟩ us vs Q E hr I.env0 hb' r q) fun r s' hq=>?_)
 cases r with
 | error e =>
  obtain⟨a,cls,H',rfl,ho,hgn,u,hok,fl,z⟩:=hq
  exact⟨a,cls,H',rfl,I.call' ho u hok hgn (fun b z=>absurd z (by simp)),fl.mono fun b hb=>zis hex I hb,z⟩
 | ok fl =>
  cases fl with
  | ret u=>exact I.after hq
  | next=>exact False.elim hq
  | brk=>exact False.elim hq
  | cont=>exact False.elim hq
theorem zqq{pl:Sem Bool}(he:PE X.nox o ta)(c:Cls X.K C)(hm:Meth X.K C m f)(F:FnOk X.prog X.w X.K X.mg X.base (CXx X.prog X.w) k f fd ps sp)(hr:Room k X.A)(hex:X.ex=[])(hb:Binds X.K fd ps [])(ha:PA X.nox (e::es) t)(hst:starEach (e::es) X.env=(false,eval e X.env)::starEach es X.env:=by rfl)(hpl:(backTo pos (starEach es X.env)).any (·.1)=false:=by rfl)(ht:eval (.Call (.Attribute o m apos) (e::es) [] pos) X.env=(do
   let ov <- eval o X.env
   standAt apos.atName
   let (f,first) <- holding [ov] (getMethod ov m pl)
   callWith pos f first (backTo pos (starEach (e::es) X.env)) (backToKw pos (keywordEach [] X.env))):=by rfl) :
  PCx X (.Call (.Attribute o m apos) (e::es) [] pos) (fun E=>fun σ H Q=>ta σ H fun x H1=>∃a dx fs,x=.ref a/\H1 a=some (.ins C dx fs)/\fs.lookup m=none/\t σ H1 fun vs H2=>sp (x::vs) H2 Q E):=by
 intro pins s σ H Q E I h
 refine PySem.W.methodCall_KW (pl:=pl) (wpAny_mono (he pins s σ H _ (I.wish _) h) (fun u s1 ⟨x,H1,I1,rx,a,dx,fs,ex,ea,l,q⟩=>?_) fun _ _ z=>z.elim) ht
 subst ex
 obtain rfl:u=Value.ref a:=rx
 have I1:=I1.unwish
 refine zdb I1 ea c hm l ?_
 refine PySem.W.callWith_K (first:=[.ref a]) (h₀:=X.base) I.ok.mod.kin hm.kp (wpAny_mono (ha pos pins s1 σ H1 _ (I1.wish _) q) (fun us s2 ⟨vs,H2,I2,r,q2⟩=>⟨I2.unwish.kIn,?_⟩) fun _ _ z=>z.elim) hst hpl
 exact znS (us:=.ref a::us) (vs:=.ref a::vs) F hr hex hb I2.unwish (.cons rfl r) q2
theorem zj2{pins:List (Addr×Obj)}{σ:St}{H:Hp}{s:Shared}{Q:VK}{E:XK}{us:List Value}{vs:List V}(M:Mk X.K C f)(F:FnOk X.prog X.w X.K X.mg X.base (CXx X.prog X.w) k f fd ps sp)(hr:Room (k+1) X.A)(hex:X.ex=[])(hb:Binds X.K fd ps [])(I:Inv X pins σ H s)(r:Vals vs us)(h:∀x dx,H x=none->H dx=none->dx≠x->sp (.ref x::vs) (upd (upd H dx (.own x)) x (.ins C dx [])) (fun v H2=>v=.non/\Q (.ref x) H2) E) :
  wpAny (model X.prog X.w) X.A (call (.ref C) us) (EP X pins σ Q) (XP X pins σ E) s:=by
 have hq:=h (s.heap.objs.size+1) s.heap.objs.size (I.hok.fresh (Nat.le_succ _)) (I.hok.fresh (Nat.le_refl _)) (Nat.ne_of_lt (Nat.lt_succ_self _))
 have I2:=Inv.made (C:=C) I
 have r2:Vals (V.ref (s.heap.objs.size+1)::vs) (Value.ref (s.heap.objs.size+1)::us):=.cons rfl r
 have hl:(Value.ref (s.heap.objs.size+1)::us++[]).length=ps.length:=by
  have e:=r2.length
  rw[F.len _ _ _ _ hq] at e
  rw[List.append_nil]
  exact e.symm
 have hb':=hb _ (Value.ref (s.heap.objs.size+1)::us) I2.kIn hl
 rw[List.append_nil] at hb'
 refine wpAny_call (zhn (f:=f) I.kIn M.makes M.init (beq_iff_eq.mp M.fn) (codeAny_mono (F.run _ X.stack _ _ ⟨Value.ref (s.heap.objs.size+1)::us,[]⟩ (Value.ref (s.heap.objs.size+1)::us) _ _ E (hr.make C us [])
  (I2.env0.make C us []) hb' r2 hq) fun r s' hq'=>?_))
 cases r with
 | error e =>
  obtain⟨a,cls,H',rfl,ho,hgn,u,hok,fl,z⟩:=hq'
  exact⟨a,cls,H',rfl,I2.call' ho u hok hgn (fun b z=>absurd z (by simp)),fl.mono fun b hb=>zis hex I2 hb,z⟩
 | ok fl =>
  cases fl with
  | ret u =>
   obtain⟨v,H',I3,rv,ev,q3⟩:=I2.after hq'
   subst ev
   exact⟨rv,⟨V.ref (s.heap.objs.size+1),H',I3,rfl,q3⟩⟩
  | next=>exact False.elim hq'
  | brk=>exact False.elim hq'
  | cont=>exact False.elim hq'
theorem zlt(M:Mk X.K C f)(F:FnOk X.prog X.w X.K X.mg X.base (CXx X.prog X.w) k f fd ps sp)(hr:Room (k+1) X.A)(hex:X.ex=[])(hg:Gl X x)(hm:X.mg x=some (.ref C))(hb:Binds X.K fd ps [])(ha:PA X.nox (e::es) t)(hdb:(x==("__debug__" : Str))=false:=by decide)(he:starEach (e::es) X.env=(false,eval e X.env)::starEach es X.env:=by rfl)(hpl:(backTo pos (starEach es X.env)).any (·.1)=false:=by rfl) :
  PCx X (.Call (.Name x p) (e::es) [] pos) (fun E σ H Q=>t σ H fun vs H1=>∀x dx,H1 x=none->H1 dx=none->dx≠x->sp (.ref x::vs) (upd (upd H1 dx (.own x)) x (.ins C dx [])) (fun v H2=>v=.non/\Q (.ref x) H2) E):=by
 intro pins s σ H Q E I h
 refine wpAny_Call_Name_kw (zda I hg hm ?_ hdb)
 refine PySem.W.callWith_K (h₀:=X.base) I.ok.mod.kin M.kp (wpAny_mono (ha pos pins s σ H _ (I.wish _) h) (fun us s1 ⟨vs,H1,I1,r,q⟩=>⟨I1.unwish.kIn,?_⟩) fun _ _ z=>z.elim) he hpl
 exact zj2 M F hr hex hb I1.unwish r q
end
end L2
namespace VS
open PySem PySem.Spec PyProof.Rows L2
section
def putA(f:Str)(v:W):List (Str×W)->List (Str×W)
 | []=>[(f,v)]
 | (g,x)::r=>if g=f then (g,v)::r else (g,x)::putA f v r
section
variable {F:Hp} {as:List Addr} {fs:List (Str×W)} {ps:List (Str×V)}
theorem RepKV.look{w:W}{f:Str}(r:RepKV F as fs ps)(e:fs.lookup f=some w):∃v,ps.lookup f=some v/\Rep F as w v:=by
 induction r with
 | nil=>cases e
 | @cons p q l1 l2 h t ih =>
  obtain⟨a,x⟩:=p
  obtain⟨b,y⟩:=q
  obtain⟨e1,rv⟩:=h
  dsimp only at e1 rv
  subst e1
  rw[List.lookup_cons] at e ⊢
  split at e
  ·rename_i h;cases e;exact⟨y,rfl,rv⟩
  ·rename_i h;exact ih e
theorem RepKV.lookN{f:Str}(r:RepKV F as fs ps)(e:fs.lookup f=none):ps.lookup f=none:=by
 induction r with
 | nil=>rfl
 | @cons p q l1 l2 h t ih =>
  obtain⟨a,x⟩:=p
  obtain⟨b,y⟩:=q
  obtain⟨e1,rv⟩:=h
  dsimp only at e1 rv
  subst e1
  rw[List.lookup_cons] at e ⊢
  split at e
  ·cases e
  ·exact ih e
theorem RepKV.putA{w:W}{v:V}(r:RepKV F as fs ps)(f:Str)(rv:Rep F as w v):RepKV F as (VS.putA f w fs) (ze3 f v ps):=by
 induction r with
 | nil=>exact .cons ⟨rfl,rv⟩ .nil
 | @cons p q l1 l2 h t ih =>
  obtain⟨a,x⟩:=p
  obtain⟨b,y⟩:=q
  obtain⟨e1,rx⟩:=h
  dsimp only at e1 rx
  subst e1
  simp only[VS.putA,ze3]
  split
  ·exact .cons ⟨rfl,rv⟩ t
  ·exact .cons ⟨rfl,rx⟩ ih
end
def zfD(ce:Ce)(c:Str):W->Option (Nat×List (Str×W))
 | .cel k=>match ce[k]? with
  | some (.ins c' fs)=>if c'=c then some (k,fs) else none
  | _=>none
 | _=>none
section
variable {G:Ga} {E:XK} {F:Hp} {as:List Addr} {H:Hp} {σ:VS.St} {sl:Sl} {ce:Ce} {w:W} {v:V} {c:Str} {k:Nat} {fs:List (Str×W)}
theorem zfE(S:Store G F as H ce)(r:Rep F as w v)(h:zfD ce c w=some (k,fs)):∃a dx ps,v=.ref a/\as[k]?=some a/\H a=some (.ins (G.cl c) dx ps)/\RepKV F as fs ps:=by
 unfold zfD at h
 split at h
 ·rename_i j
  split at h
  ·rename_i c' fs' e
   split at h
   ·rename_i hc
    cases h
    subst hc
    simp only[Rep] at r
    obtain⟨a,rfl,ha⟩:=r
    obtain⟨_,dx,ps,h1,h2⟩:=S.cell _ a _ ha e
    exact⟨a,dx,ps,rfl,ha,h1,h2⟩
   ·cases h
  ·cases h
 ·cases h
end
def ziL(c f:Str)(d:Sl->M W):Sl->M W:=fun sl=>bnd (d sl) fun x=>look fun ce=>match zfD ce c x with
 | some p=>p.2.lookup f
 | none=>none
def zd7(c f:Str)(d v:Sl->M W):DS:=fun sl ce=>lft (v sl ce) fun w ce1=>lft (d sl ce1) fun x ce2=>match zfD ce2 c x with
 | some (k,fs)=>if fs.length<1000 then some (.go .nx sl (ce2.set k (.ins c (putA f w fs)))) else none
 | none=>none
def zcM(c m:Str)(n:Nat)(df:List W->M W)(d:Sl->M W)(dr:Sl->M (List W)):Sl->M W:=fun sl=>bnd (d sl) fun x=>bnd (look fun ce=>match zfD ce c x with
 | some p=>if p.2.lookup m=none then some () else none
 | none=>none) fun _=>bnd (dr sl) fun ws=>if ws.length+1=n then df (x::ws) else zga
def zlu(k:Nat):Option (R W)->Option (R W)
 | some (.ok .non ce')=>some (.ok (.cel k) ce')
 | some (.ex x ce')=>some (.ex x ce')
 | _=>none
def zew(c:Str)(n:Nat)(df:List W->M W)(dr:Sl->M (List W)):Sl->M W:=fun sl=>bnd (dr sl) fun ws ce=>if ws.length+1=n then zlu ce.length (df (.cel ce.length::ws) (ce++[.ins c []])) else none
section
variable {X:Cx} {G:Ga} {E E1:XK} {CX:CXT} {k n:Nat} {f:Addr} {fd:FuncData} {ps:List Str} {df:List W->M W} {x c m:Str} {p pos pos' apos tpos:Pos} {e o value:Expr} {es:List Expr} {d dv:Sl->M W} {dr:Sl->M (List W)} {fe:XK->XK}
theorem zd8(hc:L2.Cls X.K (G.cl c))(hn:L2.NoAttr X.K (G.cl c) m)(he:PE X e (zam G E d))(hb:attributeBase e m X.env (eval e X.env)=eval e X.env:=by rfl):PE X (.Attribute e m pos) (zam G E (ziL c m d)):=by
 refine PE.imp (zoP he hb) fun σ H Q zz_=>el6 zz_ fun F as sl ce S P=>(step S P).mono fun x H1 zz_=>el8 zz_ fun wx F1 as1 ce1 l1 S1 rx P1=>?_
 obtain⟨w,e1,P2⟩:=za8 P1
 split at e1
 ·rename_i q hq
  obtain⟨j,fs⟩:=q
  obtain⟨a,dx,ps,rfl,ha,hH,rk⟩:=zfE S1.st rx hq
  obtain⟨v,e4,rv⟩:=rk.look e1
  exact⟨a,_,dx,ps,v,rfl,hH,hc,hn,e4,P2.done S1 rv⟩
 ·cases e1
theorem zeW(hc:L2.Cls X.K (G.cl c))(hn:L2.NoAttr X.K (G.cl c) m)(ho:PE X o (zam G E d))(hv:PE X value (zam G E dv))(hs:swapsWith value (some (.Attribute o m pos')) pos.line X.env=pure false:=by rfl) :
  PS X (.Assign [.Attribute o m pos'] value pos) (toTS G E (zd7 c m d dv)):=by
 refine PS.imp (zoQ ho hv hs) fun D σ H zz_=>el6 zz_ fun F as sl ce S P=>(zde S P).mono fun y H1 zz_=>el8 zz_ fun wy F1 as1 ce1 l1 S1 ry P1=>(zde S1 P1).mono fun x H2 zz_=>el8 zz_ fun wx F2 as2 ce2 l2 S2 rx P2=>?_
 split at P2
 ·rename_i j fs hq
  split at P2
  ·rename_i hl
   obtain⟨a,dx,ps,rfl,ha,hH,rk⟩:=zfE S2.st rx hq
   refine⟨a,_,dx,ps,rfl,hH,hc,hn,by rw[<- Paired.length rk];exact hl,?_⟩
   exact P2 _ _ _ _ .refl (S2.slots (S2.st.write (o:=.ins (G.cl c) dx (ze3 m y ps)) (c:=.ins c (putA m wy fs)) ha ⟨_,_,zat,rk.putA m (ry.le l2)⟩) .refl)
  ·exact(show False from P2).elim
 ·exact(show False from P2).elim
theorem zlv{F:Hp}{as:List Addr}{H:Hp}{σ:VS.St}{sl:Sl}{ce:Ce}{Q:VK}(S:SR G F as H σ sl ce)(P:Post G E Rep F as σ sl Q (zcM c m n df d dr sl ce)) :
  zam G E d σ H fun x H1=>∃a dx fs,x=.ref a/\H1 a=some (.ins (G.cl c) dx fs)/\fs.lookup m=none/\zgP G E dr σ H1 fun vs H2=>vs.length+1=n/\∃F2 as2 ws ce2,SR G F2 as2 H2 σ sl ce2/\Reps F2 as2 ws (x::vs)/\Post G E Rep F2 as2 σ sl Q (df ws ce2):=by
 refine(step S P).mono fun x H1 zz_=>el8 zz_ fun wx F1 as1 ce1 l1 S1 rx P1=>?_
 unfold bnd at P1
 unfold look at P1
 dsimp only at P1
 split at P1
 ·rename_i u ce' e1
  cases hq:zfD ce1 c wx with
  | none=>rw[hq] at e1;cases e1
  | some q =>
   obtain⟨j,fs⟩:=q
   rw[hq] at e1
   dsimp only at e1
   split at e1
   ·rename_i hl
    cases e1
    obtain⟨a,dx,ps,rfl,ha,hH,rk⟩:=zfE S1.st rx hq
    refine⟨a,dx,ps,rfl,hH,rk.lookN hl,?_⟩
    refine(step (RP:=Reps) S1 P1).mono fun vs H2 zz_=>el8 zz_ fun ws F2 as2 ce2 l2 S2 rs P2=>?_
    split at P2
    ·rename_i hn
     exact⟨by rw[rs.length];exact hn,F2,as2,wx::ws,ce2,S2,.cons (rx.le l2) rs,P2⟩
    ·exact(show False from P2).elim
   ·cases e1
 ·rename_i e1
  cases hq:zfD ce1 c wx with
  | none=>rw[hq] at e1;cases e1
  | some q=>rw[hq] at e1;dsimp only at e1;split at e1<;>cases e1
 ·exact P1.elim
theorem zcX{pl:Sem Bool}(hc:L2.Cls X.K (G.cl c))(hm:L2.Meth X.K (G.cl c) m f)(Fk:FnOk X.prog X.w X.K X.mg X.base CX k f fd ps (spV G fe n df))(hr:Room k X.A)(hb:Binds X.K fd ps [])(hx:zcA CX X E1)(he:PE X o (zam G E d))(hfe:fe E1=E:=by rfl)(ht:eval (.Call (.Attribute o m apos) [] [] pos) X.env=(do
   let ov <- eval o X.env
   standAt apos.atName
   let (f,first) <- holding [ov] (getMethod ov m pl)
   callWith pos f first (backTo pos (starEach [] X.env)) (backToKw pos (keywordEach [] X.env))):=by rfl) :
  PE X (.Call (.Attribute o m apos) [] [] pos) (zam G E (zcM c m n df d zap)):=by
 refine PE.imp (zkD he hc hm Fk hr hb .nil hx ht) fun σ H Q zz_=>el6 zz_ fun F as sl ce S P=>(zlv S P).mono fun x H1 h=>?_
 obtain⟨a,dx,fs,e1,e2,e3,h⟩:=h
 refine⟨a,dx,fs,e1,e2,e3,?_⟩
 obtain⟨F1,as1,sl1,ce1,S1,P1⟩:=h
 obtain⟨hn,F2,as2,ws,ce2,S2,rs,P2⟩:=P1 [] H1 F1 as1 .refl S1 .nil
 show spV G fe n df [x] H1 Q E1
 exact⟨hn,F2,as2,ws,ce2,S2.st,rs,by rw[hfe];exact PostF.of S2 P2⟩
theorem Store.other{F:Hp}{as:List Addr}{H:Hp}{ce:Ce}{q:Addr}{ho:HO}(S:Store G F as H ce)(hp:H q=none):Store G F as (upd H q ho) ce:=by
 refine⟨fun a u e=>?_,S.nd,S.len,fun k a c' h1 h2=>?_⟩
 ·rw[zau (zaq (S.sub _ _ e) hp)];exact S.sub _ _ e
 ·obtain⟨q1,q2⟩:=S.cell k a c' h1 h2
  obtain⟨u,hu⟩:=q2.tracked
  exact⟨q1,q2.le .refl (zau (zaq hu hp))⟩
theorem zhU{F:Hp}{as:List Addr}{H:Hp}{σ:VS.St}{sl:Sl}{ce:Ce}{Q:VK}{ws:List W}{vs:List V}{x dx:Addr}(S:SR G F as H σ sl ce)(rs:Reps F as ws vs)(hx:H x=none)(hdx:H dx=none)(hne:dx≠x)(hl:ws.length+1=n)(P:Post G E Rep F as σ sl Q (zlu ce.length (df (.cel ce.length::ws) (ce++[.ins c []])))):spV G (fun _=>E) n df (.ref x::vs) (upd (upd H dx (.own x)) x (.ins (G.cl c) dx [])) (fun v H2=>v=.non/\Q (.ref x) H2) E:=by
 have hx':upd H dx (.own x) x=none:=by rw[zau (fun z=>hne z.symm)];exact hx
 obtain⟨S2,l2⟩:=(S.st.other (ho:=.own x) hdx).alloc (o:=.ins (G.cl c) dx []) hx' (c:=.ins c []) (fun as' _=>⟨dx,[],zat,.nil⟩)
 have hr:Rep F (as++[x]) (.cel ce.length) (.ref x):=by
  simp only[Rep]
  exact⟨x,rfl,by rw[<- S.st.len];simp⟩
 refine⟨by rw[List.length_cons,rs.length];exact hl,F,as++[x],_,_,S2,.cons hr (rs.le l2),?_⟩
 revert P
 cases df (.cel ce.length::ws) (ce++[.ins c []]) with
 | none=>exact fun P=>P
 | some r=>cases r with
  | ex y ce'=>exact fun P H' F' as' cv od l S' hx=>P H' F' as' cv od (l2.trans l) S' hx
  | ok w ce' =>
   cases w<;>first|exact fun P=>(show False from P).elim|skip
   intro P v H' F' as' l S' rv
   simp only[Rep] at rv
   exact⟨rv,P (.ref x) H' F' as' (l2.trans l) (S.slots S' (l2.trans l)) (hr.le l)⟩
theorem znT(M:L2.Mk X.K (G.cl c) f)(Fk:FnOk X.prog X.w X.K X.mg X.base CX k f fd ps (spV G fe n df))(hr:Room (k+1) X.A)(hg:Gl X c)(hm:X.mg c=some (.ref (G.cl c)))(hb:Binds X.K fd ps [])(hx:zcA CX X E1)(ha:PA X (e::es) (zgP G E dr))(hfe:fe E1=E:=by rfl)(hdb:(c==("__debug__" : Str))=false:=by decide)(he:starEach (e::es) X.env=(false,eval e X.env)::starEach es X.env:=by rfl)(hpl:(backTo pos (starEach es X.env)).any (·.1)=false:=by rfl) :
  PE X (.Call (.Name c p) (e::es) [] pos) (zam G E (zew c n df dr)):=by
 refine PE.imp (zmR M Fk hr hg hm hb .nil hx ha hdb he hpl) fun σ H Q zz_=>el6 zz_ fun F as sl ce S P=>(step (RP:=Reps) S P).mono fun vs H1 zz_=>el8 zz_ fun ws F1 as1 ce1 l1 S1 rs P1=>?_
 intro y dy hy hdy hne
 split at P1
 ·rename_i hn
  rw[List.append_nil]
  have q:=zhU S1 rs hy hdy hne hn P1
  obtain⟨h1,F2,as2,ws2,ce2,S2,rs2,P2⟩:=q
  exact⟨h1,F2,as2,ws2,ce2,S2,rs2,by rw[hfe];exact P2⟩
 ·exact(show False from P1).elim
end
section
variable {X:Cx} {K:PySem.W.Frag} {E:XK} {k n:Nat} {f:Addr} {fd:FuncData} {ps:List Str} {df:List W->M W} {x c m:Str} {p pos apos cpos epos:Pos} {e o:Expr} {es:List Expr} {d:Sl->M W} {dr:Sl->M (List W)} {h:ExceptHandler} {hd:Exn->DS} {ok:Exn->Bool}
theorem zlw{D:Ends}{σ:VS.St}{H:Hp}{put:Option Nat}{th:Value->TS}{F:Hp}{as:List Addr}{sl:Sl}{ce:Ce}{g:Sl->M W}(hh:∀D σ H F as sl ce (x:Exn),SR (Gy K) F as H σ sl ce->ok x=true->PostS (Gy K) E D F as (hd x sl ce)->th (.ref (clOf K x.nm)) D σ H)(S:SR (Gy K) F as H σ sl ce)(P:PostS (Gy K) E D F as (znN g put ok hd sl ce)):Post (Gy K) (fun cls _ H'=>th cls D σ H') Rep F as σ sl (fun v H2=>D.nx (zsl put σ v) H2) (g sl ce):=by
 unfold znN at P
 cases e:g sl ce with
 | none=>rw[e] at P;exact P
 | some r=>cases r with
  | ok w ce' =>
   rw[e] at P
   intro b H' F' as' l S' rv
   cases put with
   | none=>exact P _ _ _ _ l S'
   | some i=>exact P _ _ _ _ l (S'.put rv i)
  | ex y ce' =>
   rw[e] at P
   dsimp only at P
   split at P
   ·rename_i hok
    intro H' F' as' cv od l S' hx
    obtain⟨rfl,rfl⟩:=hx
    exact hh D σ H' F' as' sl ce' y (S.slots S' l) hok (P.le l)
   ·exact(show False from P).elim
theorem zlx{D:Ends}{σ:VS.St}{H:Hp}{put:Option Nat}{th:Value->TS}{F:Hp}{as:List Addr}{sl:Sl}{ce:Ce}(hh:∀D σ H F as sl ce (x:Exn),SR (Gy K) F as H σ sl ce->ok x=true->PostS (Gy K) E D F as (hd x sl ce)->th (.ref (clOf K x.nm)) D σ H)(S:SR (Gy K) F as H σ sl ce)(P:PostS (Gy K) E D F as (znN (zew c n df (zkn dr)) put ok hd sl ce)) :
  zgP (Gy K) E0 dr σ H fun vs H1=>∀x dx,H1 x=none->H1 dx=none->dx≠x->spV (Gy K) (fun E=>E) n df (.ref x::vs) (upd (upd H1 dx (.own x)) x (.ins (clOf K c) dx [])) (fun v H2=>v=.non/\D.nx (zsl put σ (.ref x)) H2) (fun cls _ H'=>th cls D σ H'):=by
 refine(step (RP:=Reps) S (zlw hh S P)).noX.mono fun vs H1 zz_=>el8 zz_ fun ws F1 as1 ce1 l1 S1 rs P1=>?_
 intro y dy hy hdy hne
 split at P1
 ·rename_i hn
  exact zhU S1 rs hy hdy hne hn P1
 ·exact(show False from P1).elim
theorem zly(hst:X.stack=X.env::X.outer)(hf:X.env.frame=some X.env.locals)(hex:X.ex=[])(M:L2.Mk X.K (clOf K c) f)(Fk:FnOk X.prog X.w X.K X.mg X.base (CXx X.prog X.w) k f fd ps (spV (Gy K) (fun E=>E) n df))(hr:Room (k+1) X.A)(hg:Gl X c)(hm:X.mg c=some (.ref (clOf K c)))(hb:Binds X.K fd ps [])(ha:PA X.nox (e::es) (zgP (Gy K) E0 dr))(hh:PHv K E X h ok hd)(hdb:(c==("__debug__" : Str))=false:=by decide)(he:starEach (e::es) X.env=(false,eval e X.env)::starEach es X.env:=by rfl)(hpl:(backTo cpos (starEach es X.env)).any (·.1)=false:=by rfl)(hs:swapsWith (.Call (.Name c p) (e::es) [] cpos) none epos.line X.env=pure false:=by rfl) :
  PS X (.Try [.Expr (.Call (.Name c p) (e::es) [] cpos) epos] [h] [] [] pos) (toTS (Gy K) E (znN (zew c n df (zkn dr)) none ok hd)):=by
 obtain⟨th,hh1,hh2⟩:=hh
 exact PS.imp (zpW hst hf hex (znL (zlt M Fk hr hex hg hm hb ha hdb he hpl) hs) hh1) fun D σ H zz_=>el6 zz_ fun F as sl ce S P=>zlx hh2 S P
end
end
end VS
namespace VS
open PySem PySem.Spec PyProof.Rows L2
section
section
variable {sl:Sl} {ce c1 c2 c3:Ce} {a b:DS} {Q:O->Prop} {d v:Sl->M W} {dr:Sl->M (List W)} {w u:W} {ws:List W} {k n:Nat} {c f m:Str} {fs:List (Str×W)} {df:List W->M W} {x:Exn}
theorem zbc{p:List (Str×W)}{j:Nat}(h:p.length<=j):(putA f w p).length<=j+1:=by
 induction p generalizing j with
 | nil=>simp[putA]
 | cons a r ih =>
  obtain⟨g,y⟩:=a
  rw[List.length_cons] at h
  simp only[putA]
  split
  ·rw[List.length_cons];omega
  ·rw[List.length_cons]
   have:=ih (j:=j-1) (by omega)
   omega
theorem znU(g:ce[k]?=some (.ins c fs)):zfD ce c (.cel k)=some (k,fs):=by simp only[zfD,g,if_true]
theorem zd9(h:d sl ce=some (.ok (.cel k) c1))(g:c1[k]?=some (.ins c fs))(l:fs.lookup f=some w):ziL c f d sl ce=some (.ok w c1):=by
 simp only[ziL,bnd,h,look,znU g,l,Option.map_some]
theorem zmt(hv:v sl ce=some (.ok w c1))(h:d sl c1=some (.ok (.cel k) c2))(g:c2[k]?=some (.ins c fs))(hl:fs.length<1000):zd7 c f d v sl ce=some (.go .nx sl (c2.set k (.ins c (putA f w fs)))):=by
 simp only[zd7,lft,hv,h,znU g,if_pos hl]
theorem zlz(hv:v sl ce=some (.ok w c1))(h:d sl c1=some (.ok (.cel k) c2))(g:c2[k]?=some (.ins c fs))(hl:fs.length<1000)(q:Q (.go .nx sl (c2.set k (.ins c (putA f w fs))))):Run (zd7 c f d v) sl ce Q:=⟨_,zmt hv h g hl,q⟩
theorem zcY(hv:v sl ce=some (.ok w c1))(h:d sl c1=some (.ok (.cel k) c2))(g:c2[k]?=some (.ins c fs))(hl:fs.length<1000)(q:Run b sl (c2.set k (.ins c (putA f w fs))) Q):Run (zav (zd7 c f d v) b) sl ce Q:=zcE (zmt hv h g hl) q
theorem zp4(h:d sl ce=some (.ok (.cel k) c1))(g:c1[k]?=some (.ins c fs))(l:fs.lookup m=none)(hr:dr sl c1=some (.ok ws c2))(hn:ws.length+1=n):zcM c m n df d dr sl ce=df (.cel k::ws) c2:=by
 simp only[zcM,bnd,h,look,znU g,l,if_true,Option.map_some,hr,hn]
theorem zea{r:Option (R W)}(h:d sl ce=some (.ok (.cel k) c1))(g:c1[k]?=some (.ins c fs))(l:fs.lookup m=none)(hr:dr sl c1=some (.ok ws c2))(hn:ws.length+1=n)(hf:df (.cel k::ws) c2=r):zcM c m n df d dr sl ce=r:=(zp4 h g l hr hn).trans hf
theorem znV(hr:dr sl ce=some (.ok ws c1))(hn:ws.length+1=n)(hf:df (.cel c1.length::ws) (c1++[.ins c []])=some (.ok .non c2)):zew c n df dr sl ce=some (.ok (.cel c1.length) c2):=by
 simp only[zew,bnd,hr,if_pos hn,hf,zlu]
theorem zlA(hr:dr sl ce=some (.ok ws c1))(hn:ws.length+1=n)(hf:df (.cel c1.length::ws) (c1++[.ins c []])=some (.ex x c2)):zew c n df dr sl ce=some (.ex x c2):=by
 simp only[zew,bnd,hr,if_pos hn,hf,zlu]
theorem zp5{q:Bool}(h:d sl ce=some (.ok (.bl q) c1)):zo9 d sl ce=some (.ok (.bl (!q)) c1):=by simp only[zo9,bnd,h,ret]
theorem zrH{fin:Ce->Ce->W->Option (R W)}{body:DS}{r:R W}(sl:Sl)(e:ws.map some++List.replicate (n-ws.length) none=sl)(h:Run body sl ce fun o=>∃sl' c',o=.go .nx sl' c'/\fin ce c' .non=some r):dFn fin n body ws ce=some r:=by
 subst e
 obtain⟨o,e,sl',c',rfl,hf⟩:=h
 simp only[dFn,e,hf]
end
end
end VS
namespace K22
open PySem PySem.Spec PyProof.Rows L2 VS
def XTB:XTb:=[("StoneError",true,["StoneError"]),("NoBoard",true,["NoBoard", "StoneError"]),("NoStand",true,["NoStand", "StoneError"]),("NoLay",true,["NoLay", "StoneError"]),("NoBreath",true,["NoBreath", "StoneError"]),("Again",false,["Again", "StoneError"]),("Over",true,["Over", "StoneError"]),("NoBack",true,["NoBack", "StoneError"]),("TooMuch",true,["TooMuch", "StoneError"]),("NoText",false,["NoText", "StoneError"]),("NoRow",true,["NoRow", "StoneError"]),("NoPoint",true,["NoPoint", "StoneError"])]
def d_is_whole(fu:Nat):List W->M W:=dFn finC 1
 (zbO (zl5 (dBi zio (zad (zaf 0) (zad (dC (.ty "int")) zap))) (zo9 (dBi zio (zad (zaf 0) (zad (dC (.ty "bool")) zap))))))
def zeb(fu:Nat):DS :=
 (dIf (zdP (dB (zaR (zl7 true) (zaf 6) (zaf 3))) (dB (zaR (eqW false) (zaR ixW (zaf 1) (zaf 6)) (zaR ixW (zaf 1) (zaf 2))))) (zav (ziK (zaf 3) (zaf 6) (dC (.bl true)))
 (dEx (dMt zgp (zaf 4) (zad (zaf 6) zap)))) zbb)
def zec(fu:Nat):DS :=
 (zav (zbj 5 (zph zpj (zaf 4)))
 (zcN (dIT (zaR ixW (zaf 0) (zaf 5))) (gN 6) (zeb fu)))
def d_patch_of(fu:Nat):List W->M W:=dFn finO 7
 (zav (zbj 3 (zgr (zaf 2) (dC (.bl true))))
 (zav (zbj 4 (zcy (zad (zaf 2) zap)))
 (zav (zce (zo5 (zaf 4)) (zec fu) fu)
 (zbO (dBi (za0 zgG) (zad (zaf 3) zap))))))
def zeX(fu:Nat):DS :=
 (ziK (zaf 2) (zaf 6) (dC (.bl true)))
def zeY(fu:Nat):DS :=
 (dIf (dB (zaR (zl7 true) (zaf 4) (zaf 2))) (zav (zbj 5 (zbo 3 (zgU (d_patch_of fu)) (zad (zaf 0) (zad (zaf 1) (zad (zaf 4) zap)))))
 (zav (dEx (dMt zgp (zaf 3) (zad (zaf 5) zap)))
 (zcN (dIL (zaf 5)) (gN 6) (zeX fu)))) zbb)
def d_patches(fu:Nat):List W->M W:=dFn finO 7
 (zav (zbj 2 zep)
 (zav (zbj 3 (zcy zap))
 (zav (zcN (zgH (zad (dBi zcJ (zad (zaf 0) zap)) zap)) (gN 4) (zeY fu))
 (zbO (zaf 3)))))
def d_is_stand(fu:Nat):List W->M W:=dFn finC 2
 (zav (dIf (zkk (zdQ (dB (dBi zio (zad (zaf 1) (zad (dC (.ty "tuple")) zap))))) (dB (zaR (eqW true) (dBi zcJ (zad (zaf 1) zap)) (dBi zcJ (zad (zaf 0) zap))))) (zbO (dC (.bl false))) zbb)
 (zbO (dBi zoc (zad (dLC zbl [] (dIS (zaf 1)) zdf (zkn (zl5 (zbo 1 (d_is_whole fu) (zad (zaf 0) zap)) (zge (fun _=>fLe) (fun _=>fLe) (dC (.int 0)) (zaf 0) (dC (.int 2)))))) zap))))
def d_rows(fu:Nat):List W->M W:=dFn finC 2
 (zbO (dLC zbl [1] (dIL (zbo 2 (zgU (d_patches fu)) (zad (zaf 0) (zad (zaf 1) zap)))) (dB (zaR (eqW true) (zaR ixW (zaf 1) (zaR ixW (zaf 0) (dC (.int 0)))) (dC (.int 0)))) (zaf 0)))
def zch(fu:Nat):DS :=
 (ziK (zaf 2) (zaf 4) (dC (.bl true)))
def zci(fu:Nat):DS :=
 (zcN (dIT (zaR ixW (zaf 0) (zaf 3))) (gN 4) (zch fu))
def d_points_beside(fu:Nat):List W->M W:=dFn finO 5
 (zav (zbj 2 zep)
 (zav (zcN (dIL (zaf 1)) (gN 3) (zci fu))
 (zbO (dBi (za0 zgG) (zad (zaf 2) zap)))))
def d_breaths(fu:Nat):List W->M W:=dFn finO 3
 (zbO (dLC zgG [1] (dIL (zbo 2 (zgU (d_points_beside fu)) (zad (zaf 0) (zad (zaf 2) zap)))) (dB (zaR (eqW false) (zaR ixW (zaf 1) (zaf 0)) (dC (.int 0)))) (zaf 0)))
def d_is_sound(fu:Nat):List W->M W:=dFn finC 2
 (zbO (dBi zoc (zad (dLC zbl [0,1] (dIL (zbo 2 (d_rows fu) (zad (zaf 0) (zad (zaf 1) zap)))) zdf (zkn (dOp fGt (dBi zcJ (zad (zbo 3 (zgU (d_breaths fu)) (zad (zaf 1) (zad (zaf 2) (zad (zaf 0) zap)))) zap)) (dC (.int 0))))) zap)))
def zcF(fu:Nat):DS :=
 (zav (zbj 3 (dOp zbA (dOp zb3 (dOp zb3 (dOp ze8 (zaf 3) (zaf 3)) (dOp ze8 (dC (.int 48271)) (zaf 3))) (zaf 4)) (dC (.int 2147483647))))
 (dEx (dMt zgp (zaf 2) (zad (zaf 3) zap))))
def d__law_stream(fu:Nat):List W->M W:=dFn finC 5
 (zav (zbj 2 (zcy zap))
 (zav (zbj 3 (dOp zb3 (dOp zbA (zaf 0) (dC (.int 2147483647))) (dC (.int 48271))))
 (zav (zcN (zgH (zad (dOp zb3 (zaf 1) (dC (.int 1))) zap)) (gN 4) (zcF fu))
 (zbO (dSl zbl (zaf 2) (zba (dC (.int 1))) zaZ)))))
def zcG(fu:Nat):DS :=
 (zav (dEx (dMt zgp (zaR ixW (zaf 2) (zaf 3)) (zad (zaf 4) zap)))
 (dEx (dMt zgp (zaR ixW (zaf 2) (zaf 4)) (zad (zaf 3) zap))))
def d__law_joined(fu:Nat):List W->M W:=dFn finC 5
 (zav (zbj 2 (dLC zbl [] (zgH (zad (zaf 0) zap)) zdf (zcy zap)))
 (zav (zcN (dIL (zaf 1)) (gT 2 (zdq (gN 3) (zdq (gN 4) zkV))) (zcG fu))
 (zbO (dBi zbx (zad (dLC zbl [] (dIL (zaf 2)) zdf (dBi zbx (zad (dBi (za0 zbl) (zad (zaf 0) zap)) zap))) zap)))))
def zcZ(fu:Nat):DS :=
 (dIf (dB (dOp fLt (dOp zbA (zaR ixW (zaf 5) (dOp zb3 (dOp ze8 (zaf 6) (zaf 2)) (zaf 7))) (dC (.int 5))) (dOp zbA (zaR ixW (zaf 0) (dC (.int 1))) (dC (.int 4))))) (dEx (dMt zgp (zaf 3) (zad (zem (zad (zaf 7) (zad (zaf 6) zap))) zap))) zbb)
def zc0(fu:Nat):DS :=
 (zcN (zgH (zad (zaf 6) zap)) (gN 7) (zcZ fu))
def d__law_lines(fu:Nat):List W->M W:=dFn zni 8
 (zav (dIf (dB (dOp zdz (dOp zbA (zaR ixW (zaf 0) (dC (.int 1))) (dC (.int 4))) (dC (.int 0)))) (zav (zbj 1 (dOp zb3 (dC (.int 1)) (dOp zbA (zaR ixW (zaf 0) (dC (.int 0))) (dC (.int 4)))))
 (zav (zbj 2 (dOp ze8 (zaf 1) (dOp zb3 (dC (.int 1)) (dOp zbA (zaR ixW (zaf 0) (dC (.int 2))) (dC (.int 4))))))
 (zav (dIf (dB (dOp zdz (dOp zbA (dOp zgR (zaR ixW (zaf 0) (dC (.int 2))) (dC (.int 4))) (dC (.int 9))) (dC (.int 0)))) (zav (zbj 1 (dOp zb3 (dC (.int 3)) (dOp zbA (zaR ixW (zaf 0) (dC (.int 0))) (dC (.int 4)))))
 (zbj 2 (dOp ze8 (dC (.int 6)) (zaf 1)))) zbb)
 (zav (zbj 3 (dLC zgG [1] (zgH (zad (dOp zhv (zaf 2) (zaf 1)) zap)) zdf (zem (zad (zaf 0) (zad (dOp zb3 (zaf 0) (zaf 1)) zap)))))
 (zav (zbj 4 (dLC zbl [1] (zgH (zad (dOp zhv (zaf 2) (dC (.int 1))) zap)) (dB (dOp fGt (dOp zbA (dOp zb3 (zaf 0) (dC (.int 1))) (zaf 1)) (dC (.int 0)))) (zaf 0)))
 (zbO (zem (zad (zaf 2) (zad (zkl zbl (zaf 3) (dLC zbl [] (dIL (zaf 4)) zdf (zem (zad (zaf 0) (zad (dOp zb3 (zaf 0) (dC (.int 1))) zap))))) zap))))))))) zbb)
 (zav (zbj 2 (dOp zb3 (dC (.int 1)) (dOp zbA (zaR ixW (zaf 0) (dC (.int 0))) (zaR ixW (zeo (zad (dC (.int 0)) (zad (dC (.int 7)) (zad (dC (.int 9)) (zad (dC (.int 5)) zap))))) (dOp zbA (zaR ixW (zaf 0) (dC (.int 1))) (dC (.int 4)))))))
 (zav (zbj 3 (dLC zgG [] (zgH (zad (dOp zhv (zaf 2) (dC (.int 1))) zap)) zdf (zem (zad (zaf 0) (zad (dOp zb3 (zaf 0) (dC (.int 1))) zap)))))
 (zav (dIf (zdP (dB (dOp zdz (dOp zbA (zaR ixW (zaf 0) (dC (.int 1))) (dC (.int 4))) (dC (.int 1)))) (zdP (dB (dOp fGt (zaf 2) (dC (.int 2)))) (dB (dOp zdz (dOp zbA (zaR ixW (zaf 0) (dC (.int 2))) (dC (.int 2))) (dC (.int 0)))))) (dEx (dMt zgp (zaf 3) (zad (zem (zad (dC (.int 0)) (zad (dOp zhv (zaf 2) (dC (.int 1))) zap))) zap))) zbb)
 (zav (dIf (dB (dOp fGt (dOp zbA (zaR ixW (zaf 0) (dC (.int 1))) (dC (.int 4))) (dC (.int 1)))) (zav (zbj 5 (zbo 2 (d__law_stream fu) (zad (zaR ixW (zaf 0) (dC (.int 2))) (zad (dOp ze8 (zaf 2) (zaf 2)) zap))))
 (zav (zbj 3 (zcy zap))
 (zcN (zgH (zad (zaf 2) zap)) (gN 6) (zc0 fu)))) zbb)
 (zbO (zem (zad (zaf 2) (zad (zaf 3) zap)))))))))
def zed(fu:Nat):DS :=
 (dIf (zdP (dB (dOp zdz (zaR ixW (zaf 1) (zaf 5)) (zaR ixW (zaf 1) (zaf 2)))) (dB (zaR (inW true) (zaf 5) (zaf 3)))) (dEx (dMt zgp (zaf 3) (zad (zaf 5) zap))) zbb)
def zee(fu:Nat):DS :=
 (zav (zcN (dIT (zaR ixW (zaf 0) (zaR ixW (zaf 3) (zaf 4)))) (gN 5) (zed fu))
 (zbj 4 (dOp zb3 (zaf 4) (dC (.int 1)))))
def d__law_row(fu:Nat):List W->M W:=dFn finO 6
 (zav (zbj 3 (zcy (zad (zaf 2) zap)))
 (zav (zbj 4 (dC (.int 0)))
 (zav (zce (dB (dOp fLt (zaf 4) (dBi zcJ (zad (zaf 3) zap)))) (zee fu) fu)
 (zbO (zaf 3)))))
def zcr(fu:Nat):DS :=
 (dIf (dB (dOp zdz (zaR ixW (zaf 1) (zaf 5)) (dC (.int 0)))) (ziK (zaf 3) (zaf 5) (dC (.bl true))) zbb)
def zcs(fu:Nat):DS :=
 (zcN (dIT (zaR ixW (zaf 0) (zaf 4))) (gN 5) (zcr fu))
def d__law_breaths(fu:Nat):List W->M W:=dFn finO 6
 (zav (zbj 3 zep)
 (zav (zcN (dIL (zaf 2)) (gN 4) (zcs fu))
 (zbO (dBi (za0 zgG) (zad (dBi (zcS zbl) (zad (zaf 3) zap)) zap)))))
def zc1(fu:Nat):DS :=
 (ziJ (dC (.int 0)) (zeq (zaf 10) (zaf 9)))
def zc2(fu:Nat):DS :=
 (ziK (zaf 4) (zaf 9) (dC (.bl true)))
def zc3(fu:Nat):DS :=
 (ziK (zaf 5) (zaf 9) (dC (.bl true)))
def zc4(fu:Nat):DS :=
 (dIf (dB (dOp zdz (zaR ixW (zaf 1) (zaf 6)) (dC (.int 0)))) (ziK (zaf 5) (zaf 6) (dC (.bl true))) (zav (zbj 7 (zbo 3 (zgU (d__law_row fu)) (zad (zaf 0) (zad (zaf 1) (zad (zaf 6) zap)))))
 (zav (zbj 8 (zbo 3 (d__law_breaths fu) (zad (zaf 0) (zad (zaf 1) (zad (zaf 7) zap)))))
 (zav (dEx (dMt zp2 (zaf 8) (zad (zaf 3) zap)))
 (dIf (dB (dOp zdz (zaR ixW (zaf 1) (zaf 6)) (zaf 2))) (zcN (dIL (zaf 8)) (gN 9) (zc3 fu)) (dIf (dB (zaR (eqW false) (zaf 8) (zeo zap))) (zcN (dIL (zaf 7)) (gN 9) (zc2 fu)) zbb))))))
def d__law_tried(fu:Nat):List W->M W:=dFn finC 11
 (zav (dIf (dB (dOp zod (zaR ixW (zaf 1) (zaf 3)) (dC (.int 0)))) (zbO (dC (.str "lay"))) zbb)
 (zav (zbj 4 zep)
 (zav (zbj 5 zep)
 (zav (zcN (dIT (zaR ixW (zaf 0) (zaf 3))) (gN 6) (zc4 fu))
 (zav (dIf (zdP (dB (dOp zdz (dBi zcJ (zad (zaf 5) zap)) (dC (.int 0)))) (dB (dOp zdz (dBi zcJ (zad (zaf 4) zap)) (dC (.int 0))))) (zbO (dC (.str "breath"))) zbb)
 (zav (zbj 10 (dBi (zcS zgG) (zad (zaf 1) zap)))
 (zav (zcN (dID (zaf 4)) (gN 9) (zc1 fu))
 (zav (ziJ (zaf 2) (zeq (zaf 10) (zaf 3)))
 (zbO (zem (zad (dBi zbx (zad (zaf 10) zap)) (zad (dBi (za0 zbl) (zad (dBi (zcS zbl) (zad (zaf 4) zap)) zap)) zap))))))))))))
def zc5(fu:Nat):DS :=
 (zav (zbj 6 (dOp zbA (dOp zb3 (zaR ixW (zaf 4) (dC (.int 0))) (dOp ze8 (dC (.int 7)) (zaf 5))) (dBi zcJ (zad (zaf 0) zap))))
 (zav (zbj 7 (zbo 4 (d__law_tried fu) (zad (zaf 0) (zad (zaf 2) (zad (dOp zb3 (dC (.int 1)) (dOp zbA (dOp zb3 (zaR ixW (zaf 4) (dC (.int 1))) (zaf 5)) (dC (.int 2)))) (zad (zaf 6) zap))))))
 (dIf (dB (dBi zio (zad (zaf 7) (zad (dC (.ty "tuple")) zap)))) (zbj 2 (zaR ixW (zaf 7) (dC (.int 0)))) zbb)))
def zc6(fu:Nat):DS :=
 (zav (zbj 4 (zbo 2 (d__law_stream fu) (zad (zaf 3) (zad (dC (.int 3)) zap))))
 (zcN (zgH (zad (dOp zb3 (dC (.int 1)) (dOp zbA (zaR ixW (zaf 4) (dC (.int 2))) (dC (.int 3)))) zap)) (gN 5) (zc5 fu)))
def d__law_sound(fu:Nat):List W->M W:=dFn finC 8
 (zav (zbj 2 (dBi zbx (zad (dLC zbl [] (dIT (zaf 0)) zdf (dC (.int 0))) zap)))
 (zav (zcN (dIL (zaf 1)) (gN 3) (zc6 fu))
 (zbO (zaf 2))))
def d__law_spoiled(fu:Nat):List W->M W:=dFn zni 5
 (zav (zbj 2 (dOp zbA (dOp zgR (zaf 1) (dC (.int 12))) (dBi zcJ (zad (zaf 0) zap))))
 (zav (zbj 3 (zaR ixW (zeo (zad (dC (.int 3)) (zad (dUn ziH (dC (.int 1))) (zad (dOp zb3 (dOp zpU (dC (.int 10)) (dC (.int 59))) (zaf 1)) (zad (dC (.bl true)) (zad (dC (.bl false)) (zad (dC (.str "1")) (zad (dC .non) (zad (zem (zad (dC (.int 1)) zap)) (zad (zeo (zad (dC (.int 0)) zap)) (zad (dUn ziH (dC (.int 2))) zap))))))))))) (dOp zbA (dOp zgR (zaf 1) (dC (.int 432))) (dC (.int 10)))))
 (zav (zbj 4 (zeo (zad (znK (zaf 0) zaZ (zba (dUn ziH (dC (.int 1))))) (zad (zir (zaf 0) (zem (zad (dC (.int 0)) zap))) (zad (dBi (zcS zbl) (zad (zaf 0) zap)) (zad zep (zad (dC .non) (zad (dOp zjT (dC (.str "1")) (dBi zcJ (zad (zaf 0) zap))) (zad (dC (.int 7)) (zad (zem zap) (zad (zeo (zad (zaf 0) zap)) zap)))))))))))
 (zav (dIf (zdP (dB (dOp fLt (dOp zbA (zaf 1) (dC (.int 12))) (dC (.int 9)))) (dB (dOp zdz (dOp zbA (zaf 1) (dC (.int 3))) (dC (.int 0))))) (zbO (zaR ixW (zaf 4) (dOp zbA (dOp zgR (zaf 1) (dC (.int 12))) (dC (.int 9))))) zbb)
 (zbO (zir (zir (znK (zaf 0) zaZ (zba (zaf 2))) (zem (zad (zaf 3) zap))) (znK (zaf 0) (zba (dOp zb3 (zaf 2) (dC (.int 1)))) zaZ)))))))
def zbT(fu:Nat):DS :=
 (dIf (dB (dOp zdz (zaR ixW (zaf 4) (zaf 5)) (dC (.int 0)))) (ziJ (dOp zhv (dC (.int 3)) (zaR ixW (zaf 1) (zaf 3))) (zeq (zaf 4) (zaf 5))) zbb)
def zbU(fu:Nat):DS :=
 (ziJ (zaR ixW (zeo (zad (dOp zhv (dC (.int 3)) (zaR ixW (zaf 1) (zaf 3))) (zad (zaR ixW (zaf 1) (zaf 3)) zap))) (dOp zbA (dOp zgR (zaf 2) (dC (.int 108))) (dC (.int 2)))) (zeq (zaf 4) (zaf 5)))
def d__law_breathless(fu:Nat):List W->M W:=dFn finC 6
 (zav (zbj 3 (dOp zbA (zaf 2) (dBi zcJ (zad (zaf 1) zap))))
 (zav (dIf (zkk (dB (dOp zdz (dOp zbA (dOp zgR (zaf 2) (dC (.int 36))) (dC (.int 3))) (dC (.int 0)))) (dB (dOp zdz (zaR ixW (zaf 1) (zaf 3)) (dC (.int 0))))) (zbO (dBi zbx (zad (dLC zbl [2] (dIT (zaf 1)) zdf (dOp zb3 (dC (.int 1)) (dOp zbA (dOp zgR (zaf 1) (dC (.int 108))) (dC (.int 2))))) zap))) zbb)
 (zav (zbj 4 (dBi (zcS zgG) (zad (zaf 1) zap)))
 (zav (zcN (dIL (zbo 3 (zgU (d__law_breaths fu)) (zad (zaf 0) (zad (zaf 1) (zad (zbo 3 (zgU (d__law_row fu)) (zad (zaf 0) (zad (zaf 1) (zad (zaf 3) zap)))) zap))))) (gN 5) (zbU fu))
 (zav (dIf (dB (dOp zdz (dOp zbA (dOp zgR (zaf 2) (dC (.int 108))) (dC (.int 2))) (dC (.int 1)))) (zcN (zgH (zad (dBi zcJ (zad (zaf 4) zap)) zap)) (gN 5) (zbT fu)) zbb)
 (zbO (dBi zbx (zad (zaf 4) zap))))))))
def d_Game___init__(fu:Nat):List W->M W:=dFn zni 5
 (zav (dIf (zdQ (dB (zbo 2 (d_is_stand fu) (zad (zaf 1) (zad (zaf 3) zap))))) (zd5 "NoStand" []) zbb)
 (zav (dIf (zdQ (dB (zbo 2 (d_is_sound fu) (zad (zaf 1) (zad (zaf 3) zap))))) (zd5 "NoStand" []) zbb)
 (zav (zd7 "Game" "joined" (zaf 0) (zaf 1))
 (zav (zd7 "Game" "barring" (zaf 0) (zaf 2))
 (zav (zd7 "Game" "first" (zaf 0) (zaf 4))
 (zav (zd7 "Game" "past" (zaf 0) (zeo (zad (zaf 3) zap)))
 (zav (zd7 "Game" "done" (zaf 0) (zeo zap))
 (zd7 "Game" "takings" (zaf 0) (zeo zap)))))))))
def d__law_refused(fu:Nat):List W->M W:=dFn finC 6
 (zav (zbj 4 (dC .non))
 (zav (znN (zew "Game" 5 (d_Game___init__ fu) (zkn (zad (zaf 0) (zad (zaf 1) (zad (zaf 2) (zad (zaf 3) zap)))))) none (zd6 XTB "StoneError") (dAs 5 (zbj 4 (zaf 5))))
 (zav (dIf (zkk (zdQ (dB (zko (fun ce w=>zpY XTB ce w "NoStand") (zaf 4)))) (zdQ (dB (zko (fun ce w=>zpZ XTB ce w) (zaf 4))))) (zbO (dC (.bl false))) zbb)
 (zav (dIf (dB (zko (fun ce w=>zms XTB ce w ["Again", "NoBack", "NoBoard", "NoBreath", "NoLay", "NoPoint"]) (zaf 4))) (zbO (dC (.bl false))) zbb)
 (zbO (zo9 (zko (fun ce w=>zms XTB ce w ["NoRow", "NoText", "Over", "TooMuch"]) (zaf 4))))))))
def d_Game_stand(fu:Nat):List W->M W:=dFn finC 1
 (zbO (zaR ixW (ziL "Game" "past" (zaf 0)) (dUn ziH (dC (.int 1)))))
def d_Game_begin(fu:Nat):List W->M W:=dFn finC 1
 (zbO (zem (zad (zaR ixW (ziL "Game" "past" (zaf 0)) (dC (.int 0))) (zad (ziL "Game" "first" (zaf 0)) zap))))
def d_Game_stands(fu:Nat):List W->M W:=dFn finC 1
 (zbO (dBi (zcS zbl) (zad (ziL "Game" "past" (zaf 0)) zap)))
def d_Game_deeds(fu:Nat):List W->M W:=dFn finC 1
 (zbO (dBi (zcS zbl) (zad (ziL "Game" "done" (zaf 0)) zap)))
def d_Game_ended(fu:Nat):List W->M W:=dFn finC 1
 (zav (dIf (dB (zaR (eqW false) (dSl zbl (ziL "Game" "done" (zaf 0)) (zba (dUn ziH (dC (.int 2)))) zaZ) (zeo (zad (dC .non) (zad (dC .non) zap))))) (zbO (dC (.str "passed"))) zbb)
 (zav (dIf (dB (dOp fGe (dBi zcJ (zad (ziL "Game" "done" (zaf 0)) zap)) (dC (.int 300)))) (zbO (dC (.str "long"))) zbb)
 (zbO (dC .non))))
def zmu(fu:Nat):DS :=
 (zav (zbj 9 (zaR ixW (zbo 2 (d__law_stream fu) (zad (zaf 8) (zad (dC (.int 1)) zap))) (dC (.int 0))))
 (zav (zbj 10 (zbo 2 (d__law_spoiled fu) (zad (zaf 5) (zad (zaf 9) zap))))
 (zav (dIf (dB (dOp zdz (dOp zbA (dOp zgR (zaf 9) (dC (.int 4320))) (dC (.int 3))) (dC (.int 0)))) (zbj 10 (zbo 3 (d__law_breathless fu) (zad (zaf 4) (zad (zaf 5) (zad (dOp zgR (zaf 9) (dC (.int 5))) zap))))) zbb)
 (dIf (zdQ (dB (zbo 4 (d__law_refused fu) (zad (zaf 4) (zad (zaf 6) (zad (zaf 10) (zad (zaf 7) zap))))))) (zbO (dC (.bl false))) zbb))))
def d_law(fu:Nat):List W->M W:=dFn finC 12
 (zav (zbj 1 (zbo 2 (d__law_stream fu) (zad (zaR ixW (zkl zbl (zaf 0) (zeo (zad (dC (.int 0)) zap))) (dC (.int 0))) (zad (dC (.int 60)) zap))))
 (zav (ziJ (zbo 1 (zoe (d__law_lines fu)) (zad (zaf 1) zap)) (gT 2 (zdq (gN 2) (zdq (gN 3) zkV))))
 (zav (zbj 4 (zbo 2 (d__law_joined fu) (zad (zaf 2) (zad (zaf 3) zap))))
 (zav (zbj 5 (zbo 2 (d__law_sound fu) (zad (zaf 4) (zad (dSl zbl (zkl zbl (dSl zbl (zaf 0) (zba (dC (.int 11))) (zba (dC (.int 41)))) (dSl zbl (zaf 1) (zba (dC (.int 20))) zaZ)) zaZ (zba (dOp zbA (zaR ixW (zaf 1) (dC (.int 6))) (dC (.int 31))))) zap))))
 (zav (zbj 6 (zaR ixW (zeo (zad (dC (.str "stones")) (zad (dC (.str "turns")) zap))) (dOp zbA (zaR ixW (zaf 1) (dC (.int 3))) (dC (.int 2)))))
 (zav (zbj 7 (dOp zb3 (dC (.int 1)) (dOp zbA (zaR ixW (zaf 1) (dC (.int 5))) (dC (.int 2)))))
 (zav (zcN (dIL (dSl zbl (zkl zbl (dSl zbl (zaf 0) (zba (dC (.int 1))) (zba (dC (.int 11)))) (dSl zbl (zaf 1) (zba (dC (.int 8))) (zba (dC (.int 18))))) zaZ (zba (dOp zb3 (dC (.int 1)) (dOp zbA (zaR ixW (zaf 1) (dC (.int 4))) (dC (.int 10))))))) (gN 8) (zmu fu))
 (zav (zbj 11 (zew "Game" 5 (d_Game___init__ fu) (zad (zaf 4) (zad (zaf 6) (zad (zaf 5) (zad (zaf 7) zap))))))
 (zav (dIf (zkk (dB (zaR (eqD true) (zcM "Game" "stand" 1 (d_Game_stand fu) (zaf 11) zap) (zaf 5))) (dB (zaR (eqD true) (zcM "Game" "begin" 1 (d_Game_begin fu) (zaf 11) zap) (zem (zad (zaf 5) (zad (zaf 7) zap)))))) (zbO (dC (.bl false))) zbb)
 (zbO (zl5 (zaR (eqD false) (zcM "Game" "stands" 1 (d_Game_stands fu) (zaf 11) zap) (zeo (zad (zaf 5) zap))) (zl5 (zaR (eqW false) (zcM "Game" "deeds" 1 (d_Game_deeds fu) (zaf 11) zap) (zeo zap)) (dUn zrX (zcM "Game" "ended" 1 (d_Game_ended fu) (zaf 11) zap))))))))))))))
end K22
namespace K22
open PySem PySem.Spec PyProof.Rows L2 VS
def top(i:Nat):Stmt:=PySem.Challenge.pw_stonebreath_k22_games_that_do_not_begin.main.body.getD i (.Pass ⟨0,0,0,0⟩)
def ziu(s:Stmt)(j:Nat):Stmt:=match s with
 | .ClassDef _ _ _ b _ _ _ _ _ _ _=>b.getD j (.Pass ⟨0,0,0,0⟩)
 | _=>.Pass ⟨0,0,0,0⟩
abbrev zbH:Stmt:=top 2
abbrev zbI:Stmt:=top 4
abbrev zb1:Stmt:=top 5
abbrev zbp:Stmt:=top 20
abbrev zef:Stmt:=top 21
abbrev zbN:Stmt:=top 22
abbrev zaT:Stmt:=top 23
abbrev zbq:Stmt:=top 24
abbrev za4:Stmt:=top 29
abbrev zaQ:Stmt:=top 30
abbrev zaK:Stmt:=top 31
abbrev zbJ:Stmt:=top 32
abbrev zaW:Stmt:=top 33
abbrev zbe:Stmt:=top 34
abbrev za3:Stmt:=top 35
abbrev zaX:Stmt:=top 36
abbrev zaC:Stmt:=top 37
abbrev zaY:Stmt:=top 38
abbrev ziv:Stmt:=top 39
abbrev zaU:Stmt:=ziu (top 27) 0
abbrev zbf:Stmt:=ziu (top 27) 5
abbrev za5:Stmt:=ziu (top 27) 8
abbrev zbg:Stmt:=ziu (top 27) 9
abbrev zbh:Stmt:=ziu (top 27) 12
abbrev zbi:Stmt:=ziu (top 27) 15
theorem zg6:FnScope ["thing"] ["thing"] (zah zbH):=⟨rfl,rfl,rfl,by decide +kernel,rfl,by decide +kernel,by decide +kernel⟩
theorem sc_patch_of:FnScope ["board", "marks", "start", "found", "waiting", "point", "beside"] ["board", "marks", "start"] (zah zbI):=⟨rfl,rfl,rfl,by decide +kernel,rfl,by decide +kernel,by decide +kernel⟩
theorem sc_patches:FnScope ["board", "marks", "met", "found", "start", "points", "point"] ["board", "marks"] (zah zb1):=⟨rfl,rfl,rfl,by decide +kernel,rfl,by decide +kernel,by decide +kernel⟩
theorem zg7:FnScope ["board", "thing"] ["board", "thing"] (zah zbp):=⟨rfl,rfl,rfl,by decide +kernel,rfl,by decide +kernel,by decide +kernel⟩
theorem znW:FnScope ["board", "stand"] ["board", "stand"] (zah zef):=⟨rfl,rfl,rfl,by decide +kernel,rfl,by decide +kernel,by decide +kernel⟩
theorem sc_points_beside:FnScope ["board", "points", "found", "point", "beside"] ["board", "points"] (zah zaT):=⟨rfl,rfl,rfl,by decide +kernel,rfl,by decide +kernel,by decide +kernel⟩
theorem ziw:FnScope ["board", "stand", "row"] ["board", "stand", "row"] (zah zbN):=⟨rfl,rfl,rfl,by decide +kernel,rfl,by decide +kernel,by decide +kernel⟩
theorem zg8:FnScope ["board", "stand"] ["board", "stand"] (zah zbq):=⟨rfl,rfl,rfl,by decide +kernel,rfl,by decide +kernel,by decide +kernel⟩
theorem sc__law_stream:FnScope ["_law_cell", "_law_many", "_law_found", "_law_number", "_law_k"] ["_law_cell", "_law_many"] (zah za4):=⟨rfl,rfl,rfl,by decide +kernel,rfl,by decide +kernel,by decide +kernel⟩
theorem sc__law_joined:FnScope ["_law_many", "_law_lines_here", "_law_joined_here", "_law_one", "_law_other"] ["_law_many", "_law_lines_here"] (zah zaQ):=⟨rfl,rfl,rfl,by decide +kernel,rfl,by decide +kernel,by decide +kernel⟩
theorem sc__law_lines:FnScope ["_law_xs", "_law_wide", "_law_many", "_law_lines_here", "_law_beside", "_law_ys", "_law_one", "_law_other"] ["_law_xs"] (zah zaK):=⟨rfl,rfl,rfl,by decide +kernel,rfl,by decide +kernel,by decide +kernel⟩
theorem sc__law_row:FnScope ["_law_board", "_law_stand", "_law_point", "_law_found", "_law_at", "_law_other"] ["_law_board", "_law_stand", "_law_point"] (zah zbJ):=⟨rfl,rfl,rfl,by decide +kernel,rfl,by decide +kernel,by decide +kernel⟩
theorem sc__law_breaths:FnScope ["_law_board", "_law_stand", "_law_row_here", "_law_found", "_law_point", "_law_other"] ["_law_board", "_law_stand", "_law_row_here"] (zah zaW):=⟨rfl,rfl,rfl,by decide +kernel,rfl,by decide +kernel,by decide +kernel⟩
theorem sc__law_tried:FnScope ["_law_board", "_law_stand", "_law_hand", "_law_point", "_law_taken", "_law_breath", "_law_other", "_law_row_here", "_law_left", "_law_one", "_law_there"] ["_law_board", "_law_stand", "_law_hand", "_law_point"] (zah zbe):=⟨rfl,rfl,rfl,by decide +kernel,rfl,by decide +kernel,by decide +kernel⟩
theorem sc__law_sound:FnScope ["_law_board", "_law_cells", "_law_stand", "_law_cell", "_law_xs", "_law_k", "_law_point", "_law_found"] ["_law_board", "_law_cells"] (zah za3):=⟨rfl,rfl,rfl,by decide +kernel,rfl,by decide +kernel,by decide +kernel⟩
theorem sc__law_spoiled:FnScope ["_law_stand", "_law_x", "_law_at", "_law_odd", "_law_some"] ["_law_stand", "_law_x"] (zah zaX):=⟨rfl,rfl,rfl,by decide +kernel,rfl,by decide +kernel,by decide +kernel⟩
theorem sc__law_breathless:FnScope ["_law_board", "_law_stand", "_law_x", "_law_point", "_law_there", "_law_other"] ["_law_board", "_law_stand", "_law_x"] (zah zaC):=⟨rfl,rfl,rfl,by decide +kernel,rfl,by decide +kernel,by decide +kernel⟩
theorem zds:FnScope ["self", "board", "rule", "stand", "hand"] ["self", "board", "rule", "stand", "hand"] (zah zaU):=⟨rfl,rfl,rfl,by decide +kernel,rfl,by decide +kernel,by decide +kernel⟩
theorem sc__law_refused:FnScope ["_law_board", "_law_rule", "_law_thing", "_law_hand", "_law_caught", "error"] ["_law_board", "_law_rule", "_law_thing", "_law_hand"] (zah zaY):=⟨rfl,rfl,rfl,by decide +kernel,rfl,by decide +kernel,by decide +kernel⟩
theorem zfF:FnScope ["self"] ["self"] (zah zbf):=⟨rfl,rfl,rfl,by decide +kernel,rfl,by decide +kernel,by decide +kernel⟩
theorem zfG:FnScope ["self"] ["self"] (zah zbi):=⟨rfl,rfl,rfl,by decide +kernel,rfl,by decide +kernel,by decide +kernel⟩
theorem zex:FnScope ["self"] ["self"] (zah za5):=⟨rfl,rfl,rfl,by decide +kernel,rfl,by decide +kernel,by decide +kernel⟩
theorem zfH:FnScope ["self"] ["self"] (zah zbg):=⟨rfl,rfl,rfl,by decide +kernel,rfl,by decide +kernel,by decide +kernel⟩
theorem zfI:FnScope ["self"] ["self"] (zah zbh):=⟨rfl,rfl,rfl,by decide +kernel,rfl,by decide +kernel,by decide +kernel⟩
theorem sc_law:FnScope ["_law_script", "_law_xs", "_law_many", "_law_lines_here", "_law_board", "_law_stand", "_law_rule", "_law_hand", "_law_cell", "_law_x", "_law_thing", "_law_game"] ["_law_script"] (zah ziv):=⟨rfl,rfl,rfl,by decide +kernel,rfl,by decide +kernel,by decide +kernel⟩
set_option genInjectivity false in
set_option genSizeOfSpec false in
structure Adr where
 f_is_whole:Addr
 d_is_whole:FuncData
 f_patch_of:Addr
 d_patch_of:FuncData
 f_patches:Addr
 d_patches:FuncData
 f_is_stand:Addr
 d_is_stand:FuncData
 f_rows:Addr
 d_rows:FuncData
 f_breaths:Addr
 d_breaths:FuncData
 f_points_beside:Addr
 d_points_beside:FuncData
 f_is_sound:Addr
 d_is_sound:FuncData
 f__law_stream:Addr
 d__law_stream:FuncData
 f__law_joined:Addr
 d__law_joined:FuncData
 f__law_lines:Addr
 d__law_lines:FuncData
 f__law_row:Addr
 d__law_row:FuncData
 f__law_breaths:Addr
 d__law_breaths:FuncData
 f__law_tried:Addr
 d__law_tried:FuncData
 f__law_sound:Addr
 d__law_sound:FuncData
 f__law_spoiled:Addr
 d__law_spoiled:FuncData
 f__law_breathless:Addr
 d__law_breathless:FuncData
 f__law_refused:Addr
 d__law_refused:FuncData
 f_law:Addr
 d_law:FuncData
 f_Game___init__:Addr
 d_Game___init__:FuncData
 f_Game_stand:Addr
 d_Game_stand:FuncData
 f_Game_stands:Addr
 d_Game_stands:FuncData
 f_Game_deeds:Addr
 d_Game_deeds:FuncData
 f_Game_ended:Addr
 d_Game_ended:FuncData
 f_Game_begin:Addr
 d_Game_begin:FuncData
structure Txt (K:PySem.W.Frag) (mg:Str->Option Value) (A:Adr):Prop where
 g_is_whole:mg "is_whole" = some (.ref A.f_is_whole)
 F_is_whole:Fun K "is_whole" "is_whole" zbH A.f_is_whole A.d_is_whole
 b_is_whole:Binds K A.d_is_whole ["thing"] []
 g_patch_of:mg "patch_of" = some (.ref A.f_patch_of)
 F_patch_of:Fun K "patch_of" "patch_of" zbI A.f_patch_of A.d_patch_of
 b_patch_of:Binds K A.d_patch_of ["board", "marks", "start"] []
 g_patches:mg "patches" = some (.ref A.f_patches)
 F_patches:Fun K "patches" "patches" zb1 A.f_patches A.d_patches
 b_patches:Binds K A.d_patches ["board", "marks"] []
 g_is_stand:mg "is_stand" = some (.ref A.f_is_stand)
 F_is_stand:Fun K "is_stand" "is_stand" zbp A.f_is_stand A.d_is_stand
 b_is_stand:Binds K A.d_is_stand ["board", "thing"] []
 g_rows:mg "rows" = some (.ref A.f_rows)
 F_rows:Fun K "rows" "rows" zef A.f_rows A.d_rows
 b_rows:Binds K A.d_rows ["board", "stand"] []
 g_breaths:mg "breaths" = some (.ref A.f_breaths)
 F_breaths:Fun K "breaths" "breaths" zbN A.f_breaths A.d_breaths
 b_breaths:Binds K A.d_breaths ["board", "stand", "row"] []
 g_points_beside:mg "points_beside" = some (.ref A.f_points_beside)
 F_points_beside:Fun K "points_beside" "points_beside" zaT A.f_points_beside A.d_points_beside
 b_points_beside:Binds K A.d_points_beside ["board", "points"] []
 g_is_sound:mg "is_sound" = some (.ref A.f_is_sound)
 F_is_sound:Fun K "is_sound" "is_sound" zbq A.f_is_sound A.d_is_sound
 b_is_sound:Binds K A.d_is_sound ["board", "stand"] []
 g__law_stream:mg "_law_stream" = some (.ref A.f__law_stream)
 F__law_stream:Fun K "_law_stream" "_law_stream" za4 A.f__law_stream A.d__law_stream
 b__law_stream:Binds K A.d__law_stream ["_law_cell", "_law_many"] []
 g__law_joined:mg "_law_joined" = some (.ref A.f__law_joined)
 F__law_joined:Fun K "_law_joined" "_law_joined" zaQ A.f__law_joined A.d__law_joined
 b__law_joined:Binds K A.d__law_joined ["_law_many", "_law_lines_here"] []
 g__law_lines:mg "_law_lines" = some (.ref A.f__law_lines)
 F__law_lines:Fun K "_law_lines" "_law_lines" zaK A.f__law_lines A.d__law_lines
 b__law_lines:Binds K A.d__law_lines ["_law_xs"] []
 g__law_row:mg "_law_row" = some (.ref A.f__law_row)
 F__law_row:Fun K "_law_row" "_law_row" zbJ A.f__law_row A.d__law_row
 b__law_row:Binds K A.d__law_row ["_law_board", "_law_stand", "_law_point"] []
 g__law_breaths:mg "_law_breaths" = some (.ref A.f__law_breaths)
 F__law_breaths:Fun K "_law_breaths" "_law_breaths" zaW A.f__law_breaths A.d__law_breaths
 b__law_breaths:Binds K A.d__law_breaths ["_law_board", "_law_stand", "_law_row_here"] []
 g__law_tried:mg "_law_tried" = some (.ref A.f__law_tried)
 F__law_tried:Fun K "_law_tried" "_law_tried" zbe A.f__law_tried A.d__law_tried
 b__law_tried:Binds K A.d__law_tried ["_law_board", "_law_stand", "_law_hand", "_law_point"] []
 g__law_sound:mg "_law_sound" = some (.ref A.f__law_sound)
 F__law_sound:Fun K "_law_sound" "_law_sound" za3 A.f__law_sound A.d__law_sound
 b__law_sound:Binds K A.d__law_sound ["_law_board", "_law_cells"] []
 g__law_spoiled:mg "_law_spoiled" = some (.ref A.f__law_spoiled)
 F__law_spoiled:Fun K "_law_spoiled" "_law_spoiled" zaX A.f__law_spoiled A.d__law_spoiled
 b__law_spoiled:Binds K A.d__law_spoiled ["_law_stand", "_law_x"] []
 g__law_breathless:mg "_law_breathless" = some (.ref A.f__law_breathless)
 F__law_breathless:Fun K "_law_breathless" "_law_breathless" zaC A.f__law_breathless A.d__law_breathless
 b__law_breathless:Binds K A.d__law_breathless ["_law_board", "_law_stand", "_law_x"] []
 g__law_refused:mg "_law_refused" = some (.ref A.f__law_refused)
 F__law_refused:Fun K "_law_refused" "_law_refused" zaY A.f__law_refused A.d__law_refused
 b__law_refused:Binds K A.d__law_refused ["_law_board", "_law_rule", "_law_thing", "_law_hand"] []
 g_law:mg "law" = some (.ref A.f_law)
 F_law:Fun K "law" "law" ziv A.f_law A.d_law
 b_law:Binds K A.d_law ["_law_script"] []
 mt_Game___init__:L2.Meth K (clOf K "Game") "__init__" A.f_Game___init__
 F_Game___init__:Fun K "__init__" "Game.__init__" zaU A.f_Game___init__ A.d_Game___init__
 b_Game___init__:Binds K A.d_Game___init__ ["self", "board", "rule", "stand", "hand"] []
 mt_Game_stand:L2.Meth K (clOf K "Game") "stand" A.f_Game_stand
 F_Game_stand:Fun K "stand" "Game.stand" zbf A.f_Game_stand A.d_Game_stand
 b_Game_stand:Binds K A.d_Game_stand ["self"] []
 mt_Game_stands:L2.Meth K (clOf K "Game") "stands" A.f_Game_stands
 F_Game_stands:Fun K "stands" "Game.stands" za5 A.f_Game_stands A.d_Game_stands
 b_Game_stands:Binds K A.d_Game_stands ["self"] []
 mt_Game_deeds:L2.Meth K (clOf K "Game") "deeds" A.f_Game_deeds
 F_Game_deeds:Fun K "deeds" "Game.deeds" zbg A.f_Game_deeds A.d_Game_deeds
 b_Game_deeds:Binds K A.d_Game_deeds ["self"] []
 mt_Game_ended:L2.Meth K (clOf K "Game") "ended" A.f_Game_ended
 F_Game_ended:Fun K "ended" "Game.ended" zbh A.f_Game_ended A.d_Game_ended
 b_Game_ended:Binds K A.d_Game_ended ["self"] []
 mt_Game_begin:L2.Meth K (clOf K "Game") "begin" A.f_Game_begin
 F_Game_begin:Fun K "begin" "Game.begin" zbi A.f_Game_begin A.d_Game_begin
 b_Game_begin:Binds K A.d_Game_begin ["self"] []
 cls_Game:L2.Cls K (clOf K "Game")
 mk_Game:L2.Mk K (clOf K "Game") A.f_Game___init__
 gc_Game:mg "Game" = some (.ref (clOf K "Game"))
 na_Game_barring:L2.NoAttr K (clOf K "Game") "barring"
 na_Game_done:L2.NoAttr K (clOf K "Game") "done"
 na_Game_first:L2.NoAttr K (clOf K "Game") "first"
 na_Game_joined:L2.NoAttr K (clOf K "Game") "joined"
 na_Game_past:L2.NoAttr K (clOf K "Game") "past"
 na_Game_takings:L2.NoAttr K (clOf K "Game") "takings"
 c_MOST_DEEDS:∃t,mg "MOST_DEEDS" = some (.int 300 t)
 n_ValueError:mg "ValueError" = none
 n_all:mg "all" = none
 n_bool:mg "bool" = none
 n_int:mg "int" = none
 n_isinstance:mg "isinstance" = none
 n_len:mg "len" = none
 n_list:mg "list" = none
 n_range:mg "range" = none
 n_sorted:mg "sorted" = none
 n_tuple:mg "tuple" = none
 xt:XT K mg XTB
 nl:noL K=true
section
seal L2.PSs L2.PS L2.PE L2.PT L2.PW L2.PA L2.PI L2.PG L2.PGs L2.PO L2.PIfs
variable {P:Program} {w:World} {K:PySem.W.Frag} {mg:Str->Option Value} {base:Heap} {A:Adr}
abbrev Gx(K:PySem.W.Frag):Ga:=Gy K
abbrev spD(K:PySem.W.Frag)(n:Nat)(d:List W->M W):Sp:=spV (Gx K) (fun E=>E) n d
set_option maxHeartbeats 0 in
theorem zg9(fu:Nat)(T:Txt K mg A):FnOk P w K mg base (CXx P w) 1 A.f_is_whole A.d_is_whole ["thing"] (spD K 1 (d_is_whole fu)):=by
 refine T.F_is_whole.okX (k:=0) zg6 (fun vs H Q E h=>h.1) (fun cdv Ar outer s H vs Q E hr h=>?_)
 obtain⟨_,F,as,ws,ce,S,rs,Pf⟩:=h
 refine⟨toTS (Gx K) E _,(zai (zaD (zhB (zax (zql K) (zk2 K) rfl T.n_isinstance PyProof.Rows.boot_isinstance (zab (zaa 0) (zab (zk4 rfl T.n_int PyProof.Rows.boot_int) zag))) (zjp (zl6 (zax (zql K) (zk2 K) rfl T.n_isinstance PyProof.Rows.boot_isinstance (zab (zaa 0) (zab (zk4 rfl T.n_bool PyProof.Rows.boot_bool) zag)))))))),?_⟩
 exact zaG (G:=Gx K) (E:=E) zcz ["thing"] S rs Pf
set_option maxHeartbeats 0 in
theorem zha(fu:Nat)(T:Txt K mg A):FnOk P w K mg base (CXx P w) 1 A.f_patch_of A.d_patch_of ["board", "marks", "start"] (spD K 3 (d_patch_of fu)):=by
 refine T.F_patch_of.okX (k:=0) sc_patch_of (fun vs H Q E h=>h.1) (fun cdv Ar outer s H vs Q E hr h=>?_)
 obtain⟨_,F,as,ws,ce,S,rs,Pf⟩:=h
 refine⟨toTS (Gx K) E _,(zac (zas (i:=3) sc_patch_of.nd rfl (Or.inl rfl) (zk5 (zaa 2) zcI))
   (zac (zas (i:=4) sc_patch_of.nd rfl (Or.inl rfl) (zdc (zab (zaa 2) zag)))
   (zac (zhG fu PassesOwn.leaving (zo6 (zaa 4)) (zac (zas (i:=5) sc_patch_of.nd rfl (Or.inl rfl) (zpi PySem.F.slot_list_pop PySem.F.type_list_pop zoV zri (zaa 4)))
   (zai (za9 PassesOwn.leaving rfl (znh (zaE (zaa 0) (zaa 5) (fun _ _=>rfl))) (zaJ (i:=6) sc_patch_of.nd rfl (Or.inl rfl))
   (zai (zbm (PW.pt (zeO (zgf (hr.cmp 1) (zaa 6) (zaa 3) (by with_unfolding_all rfl)) (zdR (zkR (hr.cmp 8) (zaE (zaa 1) (zaa 6) (fun _ _=>rfl)) (zaE (zaa 1) (zaa 2) (fun _ _=>rfl)))))) (zac (zdS (hr.cmp 1) (zaa 3) (zaa 6) zcI)
   (zai (zb5 (zfk PySem.F.slot_list_append PySem.F.type_list_append zbw zgq (zaa 4) (zab (zaa 6) zag))))) zaA))))))
   (zai (zaD (zax (zjx rfl rfl) (zjy K zl8) rfl T.n_sorted PyProof.Rows.boot_sorted (zab (zaa 3) zag))))))),?_⟩
 exact zaG (G:=Gx K) (E:=E) zin ["board", "marks", "start", "found", "waiting", "point", "beside"] S rs Pf
set_option maxHeartbeats 0 in
theorem zix(fu:Nat)(T:Txt K mg A):FnOk P w K mg base (CXx P w) 2 A.f_patches A.d_patches ["board", "marks"] (spD K 2 (d_patches fu)):=by
 have G_patch_of:FnOk P w K mg base (CXx P w) 1 A.f_patch_of A.d_patch_of ["board", "marks", "start"] (spD K 3 (d_patch_of fu)):=zha fu T
 refine T.F_patches.okX (k:=1) sc_patches (fun vs H Q E h=>h.1) (fun cdv Ar outer s H vs Q E hr h=>?_)
 obtain⟨_,F,as,ws,ce,S,rs,Pf⟩:=h
 refine⟨toTS (Gx K) E _,(zac (zas (i:=2) sc_patches.nd rfl (Or.inl rfl) zdd)
   (zac (zas (i:=3) sc_patches.nd rfl (Or.inl rfl) (zdc zag))
   (zac (za9 PassesOwn.leaving rfl (zer rfl T.n_range (zab (zax (zdg rfl) (zdh K) rfl T.n_len PySem.boot_len (zab (zaa 0) zag)) zag)) (zaJ (i:=4) sc_patches.nd rfl (Or.inl rfl))
   (zai (zbm (zgf (hr.cmp 1) (zaa 4) (zaa 2) (by with_unfolding_all rfl)) (zac (zas (i:=5) sc_patches.nd rfl (Or.inl rfl) (zaM (zdT G_patch_of) (hr.mono (by decide)) rfl T.g_patch_of T.F_patch_of.kp T.b_patch_of (flies_cxOf.passes rfl) (zab (zaa 0) (zab (zaa 1) (zab (zaa 4) zag)))))
   (zac (zb5 (zfk PySem.F.slot_list_append PySem.F.type_list_append zbw zgq (zaa 3) (zab (zaa 5) zag)))
   (zai (za9 PassesOwn.leaving rfl (zhE (zaa 5)) (zaJ (i:=6) sc_patches.nd rfl (Or.inl rfl))
   (zai (zdS (hr.cmp 1) (zaa 2) (zaa 6) zcI)))))) zaA)))
   (zai (zaD (zaa 3)))))),?_⟩
 exact zaG (G:=Gx K) (E:=E) zin ["board", "marks", "met", "found", "start", "points", "point"] S rs Pf
set_option maxHeartbeats 0 in
theorem zhb(fu:Nat)(T:Txt K mg A):FnOk P w K mg base (CXx P w) 2 A.f_is_stand A.d_is_stand ["board", "thing"] (spD K 2 (d_is_stand fu)):=by
 have G_is_whole:FnOk P w K mg base (CXx P w) 1 A.f_is_whole A.d_is_whole ["thing"] (spD K 1 (d_is_whole fu)):=zg9 fu T
 refine T.F_is_stand.okX (k:=1) zg7 (fun vs H Q E h=>h.1) (fun cdv Ar outer s H vs Q E hr h=>?_)
 obtain⟨_,F,as,ws,ce,S,rs,Pf⟩:=h
 refine⟨toTS (Gx K) E _,(zac (zbm (PW.pt (zkT (zeP (zdp (zax (zql K) (zk2 K) rfl T.n_isinstance PyProof.Rows.boot_isinstance (zab (zaa 1) (zab (zk4 rfl T.n_tuple PyProof.Rows.boot_tuple) zag))))) (zhC (zo8 (hr.cmp 8) (zax (zdg rfl) (zdh K) rfl T.n_len PySem.boot_len (zab (zaa 1) zag)) (zax (zdg rfl) (zdh K) rfl T.n_len PySem.boot_len (zab (zaa 0) zag)))))) (zai (zaD zcI)) zaA)
   (zai (zaD (zax (zrW K) (zpf K) rfl T.n_all PyProof.Rows.boot_all (zab (zgk zc9 (zcd (N:=["board", "thing"]) (psc:=zah zbp) (js:=[]) (N':=["what"]) (by decide +kernel)) rfl rfl (zsX (zaa 1)) (fun _ _ _ _=>zbD) (fun _ _ _ _=>(zmr (zhB (zaM G_is_whole (hr.mono (by decide)) rfl T.g_is_whole T.F_is_whole.kp T.b_is_whole zjV (zab (zaa 0) zag)) (zjp (zkU zoM zoM (zdO (f:=fLe) (zgc fun _ _=>rfl)) (zdO (f:=fLe) (zgc fun _ _=>rfl)) zae (zaa 0) zae)))))) zag))))),?_⟩
 exact zaG (G:=Gx K) (E:=E) zcz ["board", "thing"] S rs Pf
set_option maxHeartbeats 0 in
theorem znX(fu:Nat)(T:Txt K mg A):FnOk P w K mg base (CXx P w) 3 A.f_rows A.d_rows ["board", "stand"] (spD K 2 (d_rows fu)):=by
 have G_patches:FnOk P w K mg base (CXx P w) 2 A.f_patches A.d_patches ["board", "marks"] (spD K 2 (d_patches fu)):=zix fu T
 refine T.F_rows.okX (k:=2) znW (fun vs H Q E h=>h.1) (fun cdv Ar outer s H vs Q E hr h=>?_)
 obtain⟨_,F,as,ws,ce,S,rs,Pf⟩:=h
 refine⟨toTS (Gx K) E _,(zai (zaD (zgk zc9 (zcd (N:=["board", "stand"]) (psc:=zah zef) (js:=[1]) (N':=["points", "stand"]) (by decide +kernel)) rfl rfl (zhE (zaM (zdT G_patches) (hr.mono (by decide)) rfl T.g_patches T.F_patches.kp T.b_patches (flies_cxOf.passes rfl) (zab (zaa 0) (zab (zaa 1) zag)))) (fun _ _ _ _=>(zfe (zo8 (hr.cmp 8) (zaE (zaa 1) (zaE (zaa 0) zae (fun _ _=>rfl)) (fun _ _=>rfl)) zae))) (fun _ _ _ _=>(zaa 0))))),?_⟩
 exact zaG (G:=Gx K) (E:=E) zcz ["board", "stand"] S rs Pf
set_option maxHeartbeats 0 in
theorem zdt(fu:Nat)(T:Txt K mg A):FnOk P w K mg base (CXx P w) 1 A.f_points_beside A.d_points_beside ["board", "points"] (spD K 2 (d_points_beside fu)):=by
 refine T.F_points_beside.okX (k:=0) sc_points_beside (fun vs H Q E h=>h.1) (fun cdv Ar outer s H vs Q E hr h=>?_)
 obtain⟨_,F,as,ws,ce,S,rs,Pf⟩:=h
 refine⟨toTS (Gx K) E _,(zac (zas (i:=2) sc_points_beside.nd rfl (Or.inl rfl) zdd)
   (zac (za9 PassesOwn.leaving rfl (zhE (zaa 1)) (zaJ (i:=3) sc_points_beside.nd rfl (Or.inl rfl))
   (zai (za9 PassesOwn.leaving rfl (znh (zaE (zaa 0) (zaa 3) (fun _ _=>rfl))) (zaJ (i:=4) sc_points_beside.nd rfl (Or.inl rfl))
   (zai (zdS (hr.cmp 1) (zaa 2) (zaa 4) zcI)))))
   (zai (zaD (zax (zjx rfl rfl) (zjy K zl8) rfl T.n_sorted PyProof.Rows.boot_sorted (zab (zaa 2) zag)))))),?_⟩
 exact zaG (G:=Gx K) (E:=E) zin ["board", "points", "found", "point", "beside"] S rs Pf
set_option maxHeartbeats 0 in
theorem ziy(fu:Nat)(T:Txt K mg A):FnOk P w K mg base (CXx P w) 2 A.f_breaths A.d_breaths ["board", "stand", "row"] (spD K 3 (d_breaths fu)):=by
 have G_points_beside:FnOk P w K mg base (CXx P w) 1 A.f_points_beside A.d_points_beside ["board", "points"] (spD K 2 (d_points_beside fu)):=zdt fu T
 refine T.F_breaths.okX (k:=1) ziw (fun vs H Q E h=>h.1) (fun cdv Ar outer s H vs Q E hr h=>?_)
 obtain⟨_,F,as,ws,ce,S,rs,Pf⟩:=h
 refine⟨toTS (Gx K) E _,(zai (zaD (zgk zl8 (zcd (N:=["board", "stand", "row"]) (psc:=zah zbN) (js:=[1]) (N':=["point", "stand"]) (by decide +kernel)) rfl rfl (zhE (zaM (zdT G_points_beside) (hr.mono (by decide)) rfl T.g_points_beside T.F_points_beside.kp T.b_points_beside (flies_cxOf.passes rfl) (zab (zaa 0) (zab (zaa 2) zag)))) (fun _ _ _ _=>(zfe (zkR (hr.cmp 8) (zaE (zaa 1) (zaa 0) (fun _ _=>rfl)) zae))) (fun _ _ _ _=>(zaa 0))))),?_⟩
 exact zaG (G:=Gx K) (E:=E) zin ["board", "stand", "row"] S rs Pf
set_option maxHeartbeats 0 in
theorem zhc(fu:Nat)(T:Txt K mg A):FnOk P w K mg base (CXx P w) 4 A.f_is_sound A.d_is_sound ["board", "stand"] (spD K 2 (d_is_sound fu)):=by
 have G_rows:FnOk P w K mg base (CXx P w) 3 A.f_rows A.d_rows ["board", "stand"] (spD K 2 (d_rows fu)):=znX fu T
 have G_breaths:FnOk P w K mg base (CXx P w) 2 A.f_breaths A.d_breaths ["board", "stand", "row"] (spD K 3 (d_breaths fu)):=ziy fu T
 refine T.F_is_sound.okX (k:=3) zg8 (fun vs H Q E h=>h.1) (fun cdv Ar outer s H vs Q E hr h=>?_)
 obtain⟨_,F,as,ws,ce,S,rs,Pf⟩:=h
 refine⟨toTS (Gx K) E _,(zai (zaD (zax (zrW K) (zpf K) rfl T.n_all PyProof.Rows.boot_all (zab (zgk zc9 (zcd (N:=["board", "stand"]) (psc:=zah zbq) (js:=[0,1]) (N':=["row", "board", "stand"]) (by decide +kernel)) rfl rfl (zhE (zaM G_rows (hr.mono (by decide)) rfl T.g_rows T.F_rows.kp T.b_rows (flies_cxOf.passes rfl) (zab (zaa 0) (zab (zaa 1) zag)))) (fun _ _ _ _=>zbD) (fun _ _ _ _=>(zmr (zq9 (zax (zdg rfl) (zdh K) rfl T.n_len PySem.boot_len (zab (zaM (zdT G_breaths) (hr.mono (by decide)) rfl T.g_breaths T.F_breaths.kp T.b_breaths zjV (zab (zaa 1) (zab (zaa 2) (zab (zaa 0) zag)))) zag)) zae)))) zag)))),?_⟩
 exact zaG (G:=Gx K) (E:=E) zcz ["board", "stand"] S rs Pf
set_option maxHeartbeats 0 in
theorem zbY(fu:Nat)(T:Txt K mg A):FnOk P w K mg base (CXx P w) 1 A.f__law_stream A.d__law_stream ["_law_cell", "_law_many"] (spD K 2 (d__law_stream fu)):=by
 refine T.F__law_stream.okX (k:=0) sc__law_stream (fun vs H Q E h=>h.1) (fun cdv Ar outer s H vs Q E hr h=>?_)
 obtain⟨_,F,as,ws,ce,S,rs,Pf⟩:=h
 refine⟨toTS (Gx K) E _,(zac (zas (i:=2) sc__law_stream.nd rfl (Or.inl rfl) (zdc zag))
   (zac (zas (i:=3) sc__law_stream.nd rfl (Or.inl rfl) (za2 (zaH (zaa 0) zae) zae))
   (zac (za9 PassesOwn.leaving rfl (zer rfl T.n_range (zab (za2 (zaa 1) zae) zag)) (zaJ (i:=4) sc__law_stream.nd rfl (Or.inl rfl))
   (zac (zas (i:=3) sc__law_stream.nd rfl (Or.inl rfl) (zaH (za2 (za2 (zdM (zaa 3) (zaa 3)) (zdM zae (zaa 3))) (zaa 4)) zae))
   (zai (zb5 (zfk PySem.F.slot_list_append PySem.F.type_list_append zbw zgq (zaa 2) (zab (zaa 3) zag))))))
   (zai (zaD (zgg zc9 (zaa 2) (zbk zae) zco)))))),?_⟩
 exact zaG (G:=Gx K) (E:=E) zcz ["_law_cell", "_law_many", "_law_found", "_law_number", "_law_k"] S rs Pf
set_option maxHeartbeats 0 in
theorem zey(fu:Nat)(T:Txt K mg A):FnOk P w K mg base (CXx P w) 1 A.f__law_joined A.d__law_joined ["_law_many", "_law_lines_here"] (spD K 2 (d__law_joined fu)):=by
 refine T.F__law_joined.okX (k:=0) sc__law_joined (fun vs H Q E h=>h.1) (fun cdv Ar outer s H vs Q E hr h=>?_)
 obtain⟨_,F,as,ws,ce,S,rs,Pf⟩:=h
 refine⟨toTS (Gx K) E _,(zac (zkZ (k:=2) zc9 (zcd (N:=["_law_many", "_law_lines_here", "_law_joined_here", "_law_one", "_law_other"]) (psc:=zah zaQ) (js:=[]) (N':=["_law_k"]) (by decide +kernel)) rfl rfl (zer rfl T.n_range (zab (zaa 0) zag)) (fun _ _ _ _=>zbD) (fun _ _ _ _=>(zdc zag)) sc__law_joined.nd rfl rfl (by with_unfolding_all rfl))
   (zac (za9 PassesOwn.leaving rfl (zhE (zaa 1)) (zl9 rfl (zdx (zaJ (i:=3) sc__law_joined.nd rfl (Or.inl rfl)) (zdx (zaJ (i:=4) sc__law_joined.nd rfl (Or.inl rfl)) zju)))
   (zac (zb5 (zfk PySem.F.slot_list_append PySem.F.type_list_append zbw zgq (zaE (zaa 2) (zaa 3) (fun _ _=>rfl)) (zab (zaa 4) zag)))
   (zai (zb5 (zfk PySem.F.slot_list_append PySem.F.type_list_append zbw zgq (zaE (zaa 2) (zaa 4) (fun _ _=>rfl)) (zab (zaa 3) zag))))))
   (zai (zaD (zaS (zeI K) (zdi K) rfl T.n_tuple PyProof.Rows.boot_tuple (zab (zgk zc9 (zcd (N:=["_law_many", "_law_lines_here", "_law_joined_here", "_law_one", "_law_other"]) (psc:=zah zaQ) (js:=[]) (N':=["_law_some"]) (by decide +kernel)) rfl rfl (zhE (zaa 2)) (fun _ _ _ _=>zbD) (fun _ _ _ _=>(zaS (zeI K) (zdi K) rfl T.n_tuple PyProof.Rows.boot_tuple (zab (zax (zjx rfl rfl) (zjy K zc9) rfl T.n_sorted PyProof.Rows.boot_sorted (zab (zaa 0) zag)) zag)))) zag)))))),?_⟩
 exact zaG (G:=Gx K) (E:=E) zcz ["_law_many", "_law_lines_here", "_law_joined_here", "_law_one", "_law_other"] S rs Pf
set_option maxHeartbeats 0 in
theorem zfJ(fu:Nat)(T:Txt K mg A):FnOk P w K mg base (CXx P w) 2 A.f__law_lines A.d__law_lines ["_law_xs"] (spD K 1 (d__law_lines fu)):=by
 have G__law_stream:FnOk P w K mg base (CXx P w) 1 A.f__law_stream A.d__law_stream ["_law_cell", "_law_many"] (spD K 2 (d__law_stream fu)):=zbY fu T
 refine T.F__law_lines.okX (k:=1) sc__law_lines (fun vs H Q E h=>h.1) (fun cdv Ar outer s H vs Q E hr h=>?_)
 obtain⟨_,F,as,ws,ce,S,rs,Pf⟩:=h
 refine⟨toTS (Gx K) E _,(zac (zbm (zbC (zaH (zaE (zaa 0) zae (fun _ _=>rfl)) zae) zae) (zac (zas (i:=1) sc__law_lines.nd rfl (Or.inr rfl) (za2 zae (zaH (zaE (zaa 0) zae (fun _ _=>rfl)) zae)))
   (zac (zas (i:=2) sc__law_lines.nd rfl (Or.inl rfl) (zdM (zaa 1) (za2 zae (zaH (zaE (zaa 0) zae (fun _ _=>rfl)) zae))))
   (zac (zbm (zbC (zaH (zcC (zaE (zaa 0) zae (fun _ _=>rfl)) zae) zae) zae) (zac (zas (i:=1) sc__law_lines.nd rfl (Or.inr rfl) (za2 zae (zaH (zaE (zaa 0) zae (fun _ _=>rfl)) zae)))
   (zai (zas (i:=2) sc__law_lines.nd rfl (Or.inl rfl) (zdM zae (zaa 1))))) zaA)
   (zac (zkZ (k:=3) zl8 (zcd (N:=["_law_xs", "_law_wide", "_law_many", "_law_lines_here", "_law_beside", "_law_ys", "_law_one", "_law_other"]) (psc:=zah zaK) (js:=[1]) (N':=["_law_k", "_law_wide"]) (by decide +kernel)) rfl rfl (zer rfl T.n_range (zab (zeM (zaa 2) (zaa 1)) zag)) (fun _ _ _ _=>zbD) (fun _ _ _ _=>(zbQ (zab (zaa 0) (zab (za2 (zaa 0) (zaa 1)) zag)))) sc__law_lines.nd rfl rfl (by with_unfolding_all rfl))
   (zac (zkZ (k:=4) zc9 (zcd (N:=["_law_xs", "_law_wide", "_law_many", "_law_lines_here", "_law_beside", "_law_ys", "_law_one", "_law_other"]) (psc:=zah zaK) (js:=[1]) (N':=["_law_k", "_law_wide"]) (by decide +kernel)) rfl rfl (zer rfl T.n_range (zab (zeM (zaa 2) zae) zag)) (fun _ _ _ _=>(zfe (znc (zaH (za2 (zaa 0) zae) (zaa 1)) zae))) (fun _ _ _ _=>(zaa 0)) sc__law_lines.nd rfl rfl (by with_unfolding_all rfl))
   (zai (zaD (zbQ (zab (zaa 2) (zab (zhD zc9 (zaa 3) (zgk zc9 (zcd (N:=["_law_xs", "_law_wide", "_law_many", "_law_lines_here", "_law_beside", "_law_ys", "_law_one", "_law_other"]) (psc:=zah zaK) (js:=[]) (N':=["_law_k"]) (by decide +kernel)) rfl rfl (zhE (zaa 4)) (fun _ _ _ _=>zbD) (fun _ _ _ _=>(zbQ (zab (zaa 0) (zab (za2 (zaa 0) zae) zag)))))) zag)))))))))) zaA)
   (zac (zas (i:=2) sc__law_lines.nd rfl (Or.inl rfl) (za2 zae (zaH (zaE (zaa 0) zae (fun _ _=>rfl)) (zaE (zbK (zab zae (zab zae (zab zae (zab zae zag))))) (zaH (zaE (zaa 0) zae (fun _ _=>rfl)) zae) (fun _ _=>rfl)))))
   (zac (zkZ (k:=3) zl8 (zcd (N:=["_law_xs", "_law_wide", "_law_many", "_law_lines_here", "_law_beside", "_law_ys", "_law_one", "_law_other"]) (psc:=zah zaK) (js:=[]) (N':=["_law_k"]) (by decide +kernel)) rfl rfl (zer rfl T.n_range (zab (zeM (zaa 2) zae) zag)) (fun _ _ _ _=>zbD) (fun _ _ _ _=>(zbQ (zab (zaa 0) (zab (za2 (zaa 0) zae) zag)))) sc__law_lines.nd rfl rfl (by with_unfolding_all rfl))
   (zac (zbm (PW.pt (zeO (zbC (zaH (zaE (zaa 0) zae (fun _ _=>rfl)) zae) zae) (zeO (znc (zaa 2) zae) (zdR (zbC (zaH (zaE (zaa 0) zae (fun _ _=>rfl)) zae) zae))))) (zai (zb5 (zfk PySem.F.slot_list_append PySem.F.type_list_append zbw zgq (zaa 3) (zab (zbQ (zab zae (zab (zeM (zaa 2) zae) zag))) zag)))) zaA)
   (zac (zbm (znc (zaH (zaE (zaa 0) zae (fun _ _=>rfl)) zae) zae) (zac (zas (i:=5) sc__law_lines.nd rfl (Or.inl rfl) (zaM G__law_stream (hr.mono (by decide)) rfl T.g__law_stream T.F__law_stream.kp T.b__law_stream (flies_cxOf.passes rfl) (zab (zaE (zaa 0) zae (fun _ _=>rfl)) (zab (zdM (zaa 2) (zaa 2)) zag))))
   (zac (zas (i:=3) sc__law_lines.nd rfl (Or.inl rfl) (zdc zag))
   (zai (za9 PassesOwn.leaving rfl (zer rfl T.n_range (zab (zaa 2) zag)) (zaJ (i:=6) sc__law_lines.nd rfl (Or.inl rfl))
   (zai (za9 PassesOwn.leaving rfl (zer rfl T.n_range (zab (zaa 6) zag)) (zaJ (i:=7) sc__law_lines.nd rfl (Or.inl rfl))
   (zai (zbm (znb (zaH (zaE (zaa 5) (za2 (zdM (zaa 6) (zaa 2)) (zaa 7)) (fun _ _=>rfl)) zae) (zaH (zaE (zaa 0) zae (fun _ _=>rfl)) zae)) (zai (zb5 (zfk PySem.F.slot_list_append PySem.F.type_list_append zbw zgq (zaa 3) (zab (zbQ (zab (zaa 7) (zab (zaa 6) zag))) zag)))) zaA)))))))) zaA)
   (zai (zaD (zbQ (zab (zaa 2) (zab (zaa 3) zag)))))))))),?_⟩
 exact zaG (G:=Gx K) (E:=E) znj ["_law_xs", "_law_wide", "_law_many", "_law_lines_here", "_law_beside", "_law_ys", "_law_one", "_law_other"] S rs Pf
set_option maxHeartbeats 0 in
theorem zeg(fu:Nat)(T:Txt K mg A):FnOk P w K mg base (CXx P w) 1 A.f__law_row A.d__law_row ["_law_board", "_law_stand", "_law_point"] (spD K 3 (d__law_row fu)):=by
 refine T.F__law_row.okX (k:=0) sc__law_row (fun vs H Q E h=>h.1) (fun cdv Ar outer s H vs Q E hr h=>?_)
 obtain⟨_,F,as,ws,ce,S,rs,Pf⟩:=h
 refine⟨toTS (Gx K) E _,(zac (zas (i:=3) sc__law_row.nd rfl (Or.inl rfl) (zdc (zab (zaa 2) zag)))
   (zac (zas (i:=4) sc__law_row.nd rfl (Or.inl rfl) zae)
   (zac (zhG fu PassesOwn.leaving (znb (zaa 4) (zax (zdg rfl) (zdh K) rfl T.n_len PySem.boot_len (zab (zaa 3) zag))) (zac (za9 PassesOwn.leaving rfl (znh (zaE (zaa 0) (zaE (zaa 3) (zaa 4) (fun _ _=>rfl)) (fun _ _=>rfl))) (zaJ (i:=5) sc__law_row.nd rfl (Or.inl rfl))
   (zai (zbm (PW.pt (zeO (zbC (zaE (zaa 1) (zaa 5) (fun _ _=>rfl)) (zaE (zaa 1) (zaa 2) (fun _ _=>rfl))) (zdR (zkS (hr.cmp 9) (zaa 5) (zaa 3) (by with_unfolding_all rfl))))) (zai (zb5 (zfk PySem.F.slot_list_append PySem.F.type_list_append zbw zgq (zaa 3) (zab (zaa 5) zag)))) zaA)))
   (zai (zas (i:=4) sc__law_row.nd rfl (Or.inl rfl) (za2 (zaa 4) zae)))))
   (zai (zaD (zaa 3)))))),?_⟩
 exact zaG (G:=Gx K) (E:=E) zin ["_law_board", "_law_stand", "_law_point", "_law_found", "_law_at", "_law_other"] S rs Pf
set_option maxHeartbeats 0 in
theorem zct(fu:Nat)(T:Txt K mg A):FnOk P w K mg base (CXx P w) 1 A.f__law_breaths A.d__law_breaths ["_law_board", "_law_stand", "_law_row_here"] (spD K 3 (d__law_breaths fu)):=by
 refine T.F__law_breaths.okX (k:=0) sc__law_breaths (fun vs H Q E h=>h.1) (fun cdv Ar outer s H vs Q E hr h=>?_)
 obtain⟨_,F,as,ws,ce,S,rs,Pf⟩:=h
 refine⟨toTS (Gx K) E _,(zac (zas (i:=3) sc__law_breaths.nd rfl (Or.inl rfl) zdd)
   (zac (za9 PassesOwn.leaving rfl (zhE (zaa 2)) (zaJ (i:=4) sc__law_breaths.nd rfl (Or.inl rfl))
   (zai (za9 PassesOwn.leaving rfl (znh (zaE (zaa 0) (zaa 4) (fun _ _=>rfl))) (zaJ (i:=5) sc__law_breaths.nd rfl (Or.inl rfl))
   (zai (zbm (zbC (zaE (zaa 1) (zaa 5) (fun _ _=>rfl)) zae) (zai (zdS (hr.cmp 1) (zaa 3) (zaa 5) zcI)) zaA)))))
   (zai (zaD (zax (zjx rfl rfl) (zjy K zl8) rfl T.n_sorted PyProof.Rows.boot_sorted (zab (zaS (zdV rfl rfl) (zdW K zc9) rfl T.n_list PyProof.Rows.boot_list (zab (zaa 3) zag)) zag)))))),?_⟩
 exact zaG (G:=Gx K) (E:=E) zin ["_law_board", "_law_stand", "_law_row_here", "_law_found", "_law_point", "_law_other"] S rs Pf
set_option maxHeartbeats 0 in
theorem zfK(fu:Nat)(T:Txt K mg A):FnOk P w K mg base (CXx P w) 2 A.f__law_tried A.d__law_tried ["_law_board", "_law_stand", "_law_hand", "_law_point"] (spD K 4 (d__law_tried fu)):=by
 have G__law_row:FnOk P w K mg base (CXx P w) 1 A.f__law_row A.d__law_row ["_law_board", "_law_stand", "_law_point"] (spD K 3 (d__law_row fu)):=zeg fu T
 have G__law_breaths:FnOk P w K mg base (CXx P w) 1 A.f__law_breaths A.d__law_breaths ["_law_board", "_law_stand", "_law_row_here"] (spD K 3 (d__law_breaths fu)):=zct fu T
 refine T.F__law_tried.okX (k:=1) sc__law_tried (fun vs H Q E h=>h.1) (fun cdv Ar outer s H vs Q E hr h=>?_)
 obtain⟨_,F,as,ws,ce,S,rs,Pf⟩:=h
 refine⟨toTS (Gx K) E _,(zac (zbm (zpm (zaE (zaa 1) (zaa 3) (fun _ _=>rfl)) zae) (zai (zaD zdo)) zaA)
   (zac (zas (i:=4) sc__law_tried.nd rfl (Or.inl rfl) zdd)
   (zac (zas (i:=5) sc__law_tried.nd rfl (Or.inl rfl) zdd)
   (zac (za9 PassesOwn.leaving rfl (znh (zaE (zaa 0) (zaa 3) (fun _ _=>rfl))) (zaJ (i:=6) sc__law_tried.nd rfl (Or.inl rfl))
   (zai (zbm (zbC (zaE (zaa 1) (zaa 6) (fun _ _=>rfl)) zae) (zai (zdS (hr.cmp 1) (zaa 5) (zaa 6) zcI)) (zac (zas (i:=7) sc__law_tried.nd rfl (Or.inl rfl) (zaM (zdT G__law_row) (hr.mono (by decide)) rfl T.g__law_row T.F__law_row.kp T.b__law_row (flies_cxOf.passes rfl) (zab (zaa 0) (zab (zaa 1) (zab (zaa 6) zag)))))
   (zac (zas (i:=8) sc__law_tried.nd rfl (Or.inl rfl) (zaM G__law_breaths (hr.mono (by decide)) rfl T.g__law_breaths T.F__law_breaths.kp T.b__law_breaths (flies_cxOf.passes rfl) (zab (zaa 0) (zab (zaa 1) (zab (zaa 7) zag)))))
   (zac (zb5 (zfk PySem.F.slot_list_remove PySem.F.type_list_remove zp1 zrG (zaa 8) (zab (zaa 3) zag)))
   (zai (zbm (zbC (zaE (zaa 1) (zaa 6) (fun _ _=>rfl)) (zaa 2)) (zai (za9 PassesOwn.leaving rfl (zhE (zaa 8)) (zaJ (i:=9) sc__law_tried.nd rfl (Or.inl rfl))
   (zai (zdS (hr.cmp 1) (zaa 5) (zaa 9) zcI)))) (zai (zbm (zkR (hr.cmp 8) (zaa 8) (zbK zag)) (zai (za9 PassesOwn.leaving rfl (zhE (zaa 7)) (zaJ (i:=9) sc__law_tried.nd rfl (Or.inl rfl))
   (zai (zdS (hr.cmp 1) (zaa 4) (zaa 9) zcI)))) zaA))))))))))
   (zac (zbm (PW.pt (zeO (zbC (zax (zdg rfl) (zdh K) rfl T.n_len PySem.boot_len (zab (zaa 5) zag)) zae) (zdR (zbC (zax (zdg rfl) (zdh K) rfl T.n_len PySem.boot_len (zab (zaa 4) zag)) zae)))) (zai (zaD zdo)) zaA)
   (zac (zas (i:=10) sc__law_tried.nd rfl (Or.inl rfl) (zaS (zdV rfl rfl) (zdW K zl8) rfl T.n_list PyProof.Rows.boot_list (zab (zaa 1) zag)))
   (zac (za9 PassesOwn.leaving rfl (zsL (zaa 4)) (zaJ (i:=9) sc__law_tried.nd rfl (Or.inl rfl))
   (zai (zgh zae (zfd (E:=E0) (zaa 10) (zaa 9)))))
   (zac (zgh (zaa 2) (zfd (E:=E0) (zaa 10) (zaa 3)))
   (zai (zaD (zbQ (zab (zaS (zeI K) (zdi K) rfl T.n_tuple PyProof.Rows.boot_tuple (zab (zaa 10) zag)) (zab (zax (zjx rfl rfl) (zjy K zc9) rfl T.n_sorted PyProof.Rows.boot_sorted (zab (zaS (zdV rfl rfl) (zdW K zc9) rfl T.n_list PyProof.Rows.boot_list (zab (zaa 4) zag)) zag)) zag))))))))))))),?_⟩
 exact zaG (G:=Gx K) (E:=E) zcz ["_law_board", "_law_stand", "_law_hand", "_law_point", "_law_taken", "_law_breath", "_law_other", "_law_row_here", "_law_left", "_law_one", "_law_there"] S rs Pf
set_option maxHeartbeats 0 in
theorem zfL(fu:Nat)(T:Txt K mg A):FnOk P w K mg base (CXx P w) 3 A.f__law_sound A.d__law_sound ["_law_board", "_law_cells"] (spD K 2 (d__law_sound fu)):=by
 have G__law_stream:FnOk P w K mg base (CXx P w) 1 A.f__law_stream A.d__law_stream ["_law_cell", "_law_many"] (spD K 2 (d__law_stream fu)):=zbY fu T
 have G__law_tried:FnOk P w K mg base (CXx P w) 2 A.f__law_tried A.d__law_tried ["_law_board", "_law_stand", "_law_hand", "_law_point"] (spD K 4 (d__law_tried fu)):=zfK fu T
 refine T.F__law_sound.okX (k:=2) sc__law_sound (fun vs H Q E h=>h.1) (fun cdv Ar outer s H vs Q E hr h=>?_)
 obtain⟨_,F,as,ws,ce,S,rs,Pf⟩:=h
 refine⟨toTS (Gx K) E _,(zac (zas (i:=2) sc__law_sound.nd rfl (Or.inl rfl) (zaS (zeI K) (zdi K) rfl T.n_tuple PyProof.Rows.boot_tuple (zab (zgk zc9 (zcd (N:=["_law_board", "_law_cells", "_law_stand", "_law_cell", "_law_xs", "_law_k", "_law_point", "_law_found"]) (psc:=zah za3) (js:=[]) (N':=["_law_point"]) (by decide +kernel)) rfl rfl (znh (zaa 0)) (fun _ _ _ _=>zbD) (fun _ _ _ _=>zae)) zag)))
   (zac (za9 PassesOwn.leaving rfl (zhE (zaa 1)) (zaJ (i:=3) sc__law_sound.nd rfl (Or.inl rfl))
   (zac (zas (i:=4) sc__law_sound.nd rfl (Or.inl rfl) (zaM G__law_stream (hr.mono (by decide)) rfl T.g__law_stream T.F__law_stream.kp T.b__law_stream (flies_cxOf.passes rfl) (zab (zaa 3) (zab zae zag))))
   (zai (za9 PassesOwn.leaving rfl (zer rfl T.n_range (zab (za2 zae (zaH (zaE (zaa 4) zae (fun _ _=>rfl)) zae)) zag)) (zaJ (i:=5) sc__law_sound.nd rfl (Or.inl rfl))
   (zac (zas (i:=6) sc__law_sound.nd rfl (Or.inl rfl) (zaH (za2 (zaE (zaa 4) zae (fun _ _=>rfl)) (zdM zae (zaa 5))) (zax (zdg rfl) (zdh K) rfl T.n_len PySem.boot_len (zab (zaa 0) zag))))
   (zac (zas (i:=7) sc__law_sound.nd rfl (Or.inl rfl) (zaM G__law_tried (hr.mono (by decide)) rfl T.g__law_tried T.F__law_tried.kp T.b__law_tried (flies_cxOf.passes rfl) (zab (zaa 0) (zab (zaa 2) (zab (za2 zae (zaH (za2 (zaE (zaa 4) zae (fun _ _=>rfl)) (zaa 5)) zae)) (zab (zaa 6) zag))))))
   (zai (zbm (zdp (zax (zql K) (zk2 K) rfl T.n_isinstance PyProof.Rows.boot_isinstance (zab (zaa 7) (zab (zk4 rfl T.n_tuple PyProof.Rows.boot_tuple) zag)))) (zai (zas (i:=2) sc__law_sound.nd rfl (Or.inl rfl) (zaE (zaa 7) zae (fun _ _=>rfl)))) zaA))))))))
   (zai (zaD (zaa 2))))),?_⟩
 exact zaG (G:=Gx K) (E:=E) zcz ["_law_board", "_law_cells", "_law_stand", "_law_cell", "_law_xs", "_law_k", "_law_point", "_law_found"] S rs Pf
set_option maxHeartbeats 0 in
theorem zeh(fu:Nat)(T:Txt K mg A):FnOk P w K mg base (CXx P w) 1 A.f__law_spoiled A.d__law_spoiled ["_law_stand", "_law_x"] (spD K 2 (d__law_spoiled fu)):=by
 refine T.F__law_spoiled.okX (k:=0) sc__law_spoiled (fun vs H Q E h=>h.1) (fun cdv Ar outer s H vs Q E hr h=>?_)
 obtain⟨_,F,as,ws,ce,S,rs,Pf⟩:=h
 refine⟨toTS (Gx K) E _,(zac (zas (i:=2) sc__law_spoiled.nd rfl (Or.inl rfl) (zaH (zcC (zaa 1) zae) (zax (zdg rfl) (zdh K) rfl T.n_len PySem.boot_len (zab (zaa 0) zag))))
   (zac (zas (i:=3) sc__law_spoiled.nd rfl (Or.inl rfl) (zaE (zbK (zab zae (zab (zgd zae) (zab (za2 (zpV zae zae) (zaa 1)) (zab zcI (zab zcI (zab zdo (zab zeL (zab (zbQ (zab zae zag)) (zab (zbK (zab zae zag)) (zab (zgd zae) zag))))))))))) (zaH (zcC (zaa 1) zae) zae) (fun _ _=>rfl)))
   (zac (zas (i:=4) sc__law_spoiled.nd rfl (Or.inl rfl) (zbK (zab (zjU (zaa 0) zco (zbk (zgd zae))) (zab (zg0 (zaa 0) (zbQ (zab zae zag))) (zab (zaS (zdV rfl rfl) (zdW K zc9) rfl T.n_list PyProof.Rows.boot_list (zab (zaa 0) zag)) (zab zdd (zab zeL (zab (znI zdo (zax (zdg rfl) (zdh K) rfl T.n_len PySem.boot_len (zab (zaa 0) zag))) (zab zae (zab (zbQ zag) (zab (zbK (zab (zaa 0) zag)) zag)))))))))))
   (zac (zbm (PW.pt (zeO (znb (zaH (zaa 1) zae) zae) (zdR (zbC (zaH (zaa 1) zae) zae)))) (zai (zaD (zaE (zaa 4) (zaH (zcC (zaa 1) zae) zae) (fun _ _=>rfl)))) zaA)
   (zai (zaD (zg0 (zg0 (zjU (zaa 0) zco (zbk (zaa 2))) (zbQ (zab (zaa 3) zag))) (zjU (zaa 0) (zbk (za2 (zaa 2) zae)) zco)))))))),?_⟩
 exact zaG (G:=Gx K) (E:=E) znj ["_law_stand", "_law_x", "_law_at", "_law_odd", "_law_some"] S rs Pf
set_option maxHeartbeats 0 in
theorem zc7(fu:Nat)(T:Txt K mg A):FnOk P w K mg base (CXx P w) 2 A.f__law_breathless A.d__law_breathless ["_law_board", "_law_stand", "_law_x"] (spD K 3 (d__law_breathless fu)):=by
 have G__law_breaths:FnOk P w K mg base (CXx P w) 1 A.f__law_breaths A.d__law_breaths ["_law_board", "_law_stand", "_law_row_here"] (spD K 3 (d__law_breaths fu)):=zct fu T
 have G__law_row:FnOk P w K mg base (CXx P w) 1 A.f__law_row A.d__law_row ["_law_board", "_law_stand", "_law_point"] (spD K 3 (d__law_row fu)):=zeg fu T
 refine T.F__law_breathless.okX (k:=1) sc__law_breathless (fun vs H Q E h=>h.1) (fun cdv Ar outer s H vs Q E hr h=>?_)
 obtain⟨_,F,as,ws,ce,S,rs,Pf⟩:=h
 refine⟨toTS (Gx K) E _,(zac (zas (i:=3) sc__law_breathless.nd rfl (Or.inl rfl) (zaH (zaa 2) (zax (zdg rfl) (zdh K) rfl T.n_len PySem.boot_len (zab (zaa 1) zag))))
   (zac (zbm (PW.pt (zkT (zbC (zaH (zcC (zaa 2) zae) zae) zae) (zhC (zbC (zaE (zaa 1) (zaa 3) (fun _ _=>rfl)) zae)))) (zai (zaD (zaS (zeI K) (zdi K) rfl T.n_tuple PyProof.Rows.boot_tuple (zab (zgk zc9 (zcd (N:=["_law_board", "_law_stand", "_law_x", "_law_point", "_law_there", "_law_other"]) (psc:=zah zaC) (js:=[2]) (N':=["_law_other", "_law_x"]) (by decide +kernel)) rfl rfl (znh (zaa 1)) (fun _ _ _ _=>zbD) (fun _ _ _ _=>(za2 zae (zaH (zcC (zaa 1) zae) zae)))) zag)))) zaA)
   (zac (zas (i:=4) sc__law_breathless.nd rfl (Or.inl rfl) (zaS (zdV rfl rfl) (zdW K zl8) rfl T.n_list PyProof.Rows.boot_list (zab (zaa 1) zag)))
   (zac (za9 PassesOwn.leaving rfl (zhE (zaM (zdT G__law_breaths) (hr.mono (by decide)) rfl T.g__law_breaths T.F__law_breaths.kp T.b__law_breaths (flies_cxOf.passes rfl) (zab (zaa 0) (zab (zaa 1) (zab (zaM (zdT G__law_row) (hr.mono (by decide)) rfl T.g__law_row T.F__law_row.kp T.b__law_row (flies_cxOf.passes rfl) (zab (zaa 0) (zab (zaa 1) (zab (zaa 3) zag)))) zag))))) (zaJ (i:=5) sc__law_breathless.nd rfl (Or.inl rfl))
   (zai (zgh (zaE (zbK (zab (zeM zae (zaE (zaa 1) (zaa 3) (fun _ _=>rfl))) (zab (zaE (zaa 1) (zaa 3) (fun _ _=>rfl)) zag))) (zaH (zcC (zaa 2) zae) zae) (fun _ _=>rfl)) (zfd (E:=E0) (zaa 4) (zaa 5)))))
   (zac (zbm (zbC (zaH (zcC (zaa 2) zae) zae) zae) (zai (za9 PassesOwn.leaving rfl (zer rfl T.n_range (zab (zax (zdg rfl) (zdh K) rfl T.n_len PySem.boot_len (zab (zaa 4) zag)) zag)) (zaJ (i:=5) sc__law_breathless.nd rfl (Or.inl rfl))
   (zai (zbm (zbC (zaE (zaa 4) (zaa 5) (fun _ _=>rfl)) zae) (zai (zgh (zeM zae (zaE (zaa 1) (zaa 3) (fun _ _=>rfl))) (zfd (E:=E0) (zaa 4) (zaa 5)))) zaA)))) zaA)
   (zai (zaD (zaS (zeI K) (zdi K) rfl T.n_tuple PyProof.Rows.boot_tuple (zab (zaa 4) zag))))))))),?_⟩
 exact zaG (G:=Gx K) (E:=E) zcz ["_law_board", "_law_stand", "_law_x", "_law_point", "_law_there", "_law_other"] S rs Pf
set_option maxHeartbeats 0 in
theorem zcj(fu:Nat)(T:Txt K mg A):FnOk P w K mg base (CXx P w) 5 A.f_Game___init__ A.d_Game___init__ ["self", "board", "rule", "stand", "hand"] (spD K 5 (d_Game___init__ fu)):=by
 have G_is_stand:FnOk P w K mg base (CXx P w) 2 A.f_is_stand A.d_is_stand ["board", "thing"] (spD K 2 (d_is_stand fu)):=zhb fu T
 have G_is_sound:FnOk P w K mg base (CXx P w) 4 A.f_is_sound A.d_is_sound ["board", "stand"] (spD K 2 (d_is_sound fu)):=zhc fu T
 refine T.F_Game___init__.okX (k:=4) zds (fun vs H Q E h=>h.1) (fun cdv Ar outer s H vs Q E hr h=>?_)
 obtain⟨_,F,as,ws,ce,S,rs,Pf⟩:=h
 refine⟨toTS (Gx K) E _,(zac (zbm (zeP (zdp (zaM G_is_stand (hr.mono (by decide)) rfl T.g_is_stand T.F_is_stand.kp T.b_is_stand (flies_cxOf.passes rfl) (zab (zaa 1) (zab (zaa 3) zag))))) (zai (zhS (l:=[]) flies_cxOf rfl T.xt rfl rfl rfl hr.hd zmp (fun _ _=>trivial))) zaA)
   (zac (zbm (zeP (zdp (zaM G_is_sound (hr.mono (by decide)) rfl T.g_is_sound T.F_is_sound.kp T.b_is_sound (flies_cxOf.passes rfl) (zab (zaa 1) (zab (zaa 3) zag))))) (zai (zhS (l:=[]) flies_cxOf rfl T.xt rfl rfl rfl hr.hd zmp (fun _ _=>trivial))) zaA)
   (zac (zeW T.cls_Game T.na_Game_joined (zaa 0) (zaa 1))
   (zac (zeW T.cls_Game T.na_Game_barring (zaa 0) (zaa 2))
   (zac (zeW T.cls_Game T.na_Game_first (zaa 0) (zaa 4))
   (zac (zeW T.cls_Game T.na_Game_past (zaa 0) (zbK (zab (zaa 3) zag)))
   (zac (zeW T.cls_Game T.na_Game_done (zaa 0) (zbK zag))
   (zai (zeW T.cls_Game T.na_Game_takings (zaa 0) (zbK zag)))))))))),?_⟩
 exact zaG (G:=Gx K) (E:=E) znj ["self", "board", "rule", "stand", "hand"] S rs Pf
set_option maxHeartbeats 0 in
theorem zei(fu:Nat)(T:Txt K mg A):FnOk P w K mg base (CXx P w) 7 A.f__law_refused A.d__law_refused ["_law_board", "_law_rule", "_law_thing", "_law_hand"] (spD K 4 (d__law_refused fu)):=by
 have G_Game___init__:FnOk P w K mg base (CXx P w) 5 A.f_Game___init__ A.d_Game___init__ ["self", "board", "rule", "stand", "hand"] (spD K 5 (d_Game___init__ fu)):=zcj fu T
 refine T.F__law_refused.okX (k:=6) sc__law_refused (fun vs H Q E h=>h.1) (fun cdv Ar outer s H vs Q E hr h=>?_)
 obtain⟨_,F,as,ws,ce,S,rs,Pf⟩:=h
 refine⟨toTS (Gx K) E _,(zac (zas (i:=4) sc__law_refused.nd rfl (Or.inl rfl) zeL)
   (zac (zly rfl rfl rfl T.mk_Game G_Game___init__ (hr.mono (by decide)) rfl T.gc_Game T.b_Game___init__ (zab (zaa 0) (zab (zaa 1) (zab (zaa 2) (zab (zaa 3) zag)))) (zrF (i:=5) rfl T.xt rfl sc__law_refused.nd rfl rfl rfl (fun _=>(zai (zas (i:=4) sc__law_refused.nd rfl (Or.inl rfl) (zaa 5))))))
   (zac (zbm (PW.pt (zkT (zeP (zdp (znO rfl T.xt rfl (zaa 4) rfl T.n_isinstance rfl))) (zhC (zeP (zdp (znP rfl T.xt (zaa 4) rfl T.n_isinstance rfl T.n_ValueError)))))) (zai (zaD zcI)) zaA)
   (zac (zbm (zdp (zjZ rfl T.xt rfl (by decide) (zaa 4) (zbv (T.xt.at rfl) rfl (zbv (T.xt.at rfl) rfl (zbv (T.xt.at rfl) rfl (zbv (T.xt.at rfl) rfl (zbv (T.xt.at rfl) rfl (zbv (T.xt.at rfl) rfl zjX)))))) rfl T.n_isinstance)) (zai (zaD zcI)) zaA)
   (zai (zaD (zl6 (zjZ rfl T.xt rfl (by decide) (zaa 4) (zbv (T.xt.at rfl) rfl (zbv (T.xt.at rfl) rfl (zbv (T.xt.at rfl) rfl (zbv (T.xt.at rfl) rfl zjX)))) rfl T.n_isinstance)))))))),?_⟩
 exact zaG (G:=Gx K) (E:=E) zcz ["_law_board", "_law_rule", "_law_thing", "_law_hand", "_law_caught", "error"] S rs Pf
set_option maxHeartbeats 0 in
theorem zfM(fu:Nat)(T:Txt K mg A):FnOk P w K mg base (CXx P w) 1 A.f_Game_stand A.d_Game_stand ["self"] (spD K 1 (d_Game_stand fu)):=by
 refine T.F_Game_stand.okX (k:=0) zfF (fun vs H Q E h=>h.1) (fun cdv Ar outer s H vs Q E hr h=>?_)
 obtain⟨_,F,as,ws,ce,S,rs,Pf⟩:=h
 refine⟨toTS (Gx K) E _,(zai (zaD (zaE (zd8 T.cls_Game T.na_Game_past (zaa 0)) (zgd zae) (fun _ _=>rfl)))),?_⟩
 exact zaG (G:=Gx K) (E:=E) zcz ["self"] S rs Pf
set_option maxHeartbeats 0 in
theorem zfN(fu:Nat)(T:Txt K mg A):FnOk P w K mg base (CXx P w) 1 A.f_Game_begin A.d_Game_begin ["self"] (spD K 1 (d_Game_begin fu)):=by
 refine T.F_Game_begin.okX (k:=0) zfG (fun vs H Q E h=>h.1) (fun cdv Ar outer s H vs Q E hr h=>?_)
 obtain⟨_,F,as,ws,ce,S,rs,Pf⟩:=h
 refine⟨toTS (Gx K) E _,(zai (zaD (zbQ (zab (zaE (zd8 T.cls_Game T.na_Game_past (zaa 0)) zae (fun _ _=>rfl)) (zab (zd8 T.cls_Game T.na_Game_first (zaa 0)) zag))))),?_⟩
 exact zaG (G:=Gx K) (E:=E) zcz ["self"] S rs Pf
set_option maxHeartbeats 0 in
theorem zez(fu:Nat)(T:Txt K mg A):FnOk P w K mg base (CXx P w) 1 A.f_Game_stands A.d_Game_stands ["self"] (spD K 1 (d_Game_stands fu)):=by
 refine T.F_Game_stands.okX (k:=0) zex (fun vs H Q E h=>h.1) (fun cdv Ar outer s H vs Q E hr h=>?_)
 obtain⟨_,F,as,ws,ce,S,rs,Pf⟩:=h
 refine⟨toTS (Gx K) E _,(zai (zaD (zaS (zdV rfl rfl) (zdW K zc9) rfl T.n_list PyProof.Rows.boot_list (zab (zd8 T.cls_Game T.na_Game_past (zaa 0)) zag)))),?_⟩
 exact zaG (G:=Gx K) (E:=E) zcz ["self"] S rs Pf
set_option maxHeartbeats 0 in
theorem zfO(fu:Nat)(T:Txt K mg A):FnOk P w K mg base (CXx P w) 1 A.f_Game_deeds A.d_Game_deeds ["self"] (spD K 1 (d_Game_deeds fu)):=by
 refine T.F_Game_deeds.okX (k:=0) zfH (fun vs H Q E h=>h.1) (fun cdv Ar outer s H vs Q E hr h=>?_)
 obtain⟨_,F,as,ws,ce,S,rs,Pf⟩:=h
 refine⟨toTS (Gx K) E _,(zai (zaD (zaS (zdV rfl rfl) (zdW K zc9) rfl T.n_list PyProof.Rows.boot_list (zab (zd8 T.cls_Game T.na_Game_done (zaa 0)) zag)))),?_⟩
 exact zaG (G:=Gx K) (E:=E) zcz ["self"] S rs Pf
set_option maxHeartbeats 0 in
theorem zfP(fu:Nat)(T:Txt K mg A):FnOk P w K mg base (CXx P w) 1 A.f_Game_ended A.d_Game_ended ["self"] (spD K 1 (d_Game_ended fu)):=by
 refine T.F_Game_ended.okX (k:=0) zfI (fun vs H Q E h=>h.1) (fun cdv Ar outer s H vs Q E hr h=>?_)
 obtain⟨_,F,as,ws,ce,S,rs,Pf⟩:=h
 refine⟨toTS (Gx K) E _,(zac (zbm (zkR (hr.cmp 8) (zgg zc9 (zd8 T.cls_Game T.na_Game_done (zaa 0)) (zbk (zgd zae)) zco) (zbK (zab zeL (zab zeL zag)))) (zai (zaD zdo)) zaA)
   (zac (zbm (zrd (zax (zdg rfl) (zdh K) rfl T.n_len PySem.boot_len (zab (zd8 T.cls_Game T.na_Game_done (zaa 0)) zag)) (zk3 rfl T.c_MOST_DEEDS)) (zai (zaD zdo)) zaA)
   (zai (zaD zeL)))),?_⟩
 exact zaG (G:=Gx K) (E:=E) zcz ["self"] S rs Pf
set_option maxHeartbeats 0 in
theorem zp6(fu:Nat)(T:Txt K mg A):FnOk P w K mg base (CXx P w) 8 A.f_law A.d_law ["_law_script"] (spD K 1 (d_law fu)):=by
 have G__law_stream:FnOk P w K mg base (CXx P w) 1 A.f__law_stream A.d__law_stream ["_law_cell", "_law_many"] (spD K 2 (d__law_stream fu)):=zbY fu T
 have G__law_lines:FnOk P w K mg base (CXx P w) 2 A.f__law_lines A.d__law_lines ["_law_xs"] (spD K 1 (d__law_lines fu)):=zfJ fu T
 have G__law_joined:FnOk P w K mg base (CXx P w) 1 A.f__law_joined A.d__law_joined ["_law_many", "_law_lines_here"] (spD K 2 (d__law_joined fu)):=zey fu T
 have G__law_sound:FnOk P w K mg base (CXx P w) 3 A.f__law_sound A.d__law_sound ["_law_board", "_law_cells"] (spD K 2 (d__law_sound fu)):=zfL fu T
 have G_Game___init__:FnOk P w K mg base (CXx P w) 5 A.f_Game___init__ A.d_Game___init__ ["self", "board", "rule", "stand", "hand"] (spD K 5 (d_Game___init__ fu)):=zcj fu T
 have G__law_spoiled:FnOk P w K mg base (CXx P w) 1 A.f__law_spoiled A.d__law_spoiled ["_law_stand", "_law_x"] (spD K 2 (d__law_spoiled fu)):=zeh fu T
 have G__law_breathless:FnOk P w K mg base (CXx P w) 2 A.f__law_breathless A.d__law_breathless ["_law_board", "_law_stand", "_law_x"] (spD K 3 (d__law_breathless fu)):=zc7 fu T
 have G__law_refused:FnOk P w K mg base (CXx P w) 7 A.f__law_refused A.d__law_refused ["_law_board", "_law_rule", "_law_thing", "_law_hand"] (spD K 4 (d__law_refused fu)):=zei fu T
 have G_Game_stand:FnOk P w K mg base (CXx P w) 1 A.f_Game_stand A.d_Game_stand ["self"] (spD K 1 (d_Game_stand fu)):=zfM fu T
 have G_Game_begin:FnOk P w K mg base (CXx P w) 1 A.f_Game_begin A.d_Game_begin ["self"] (spD K 1 (d_Game_begin fu)):=zfN fu T
 have G_Game_stands:FnOk P w K mg base (CXx P w) 1 A.f_Game_stands A.d_Game_stands ["self"] (spD K 1 (d_Game_stands fu)):=zez fu T
 have G_Game_deeds:FnOk P w K mg base (CXx P w) 1 A.f_Game_deeds A.d_Game_deeds ["self"] (spD K 1 (d_Game_deeds fu)):=zfO fu T
 have G_Game_ended:FnOk P w K mg base (CXx P w) 1 A.f_Game_ended A.d_Game_ended ["self"] (spD K 1 (d_Game_ended fu)):=zfP fu T
 refine T.F_law.okX (k:=7) sc_law (fun vs H Q E h=>h.1) (fun cdv Ar outer s H vs Q E hr h=>?_)
 obtain⟨_,F,as,ws,ce,S,rs,Pf⟩:=h
 refine⟨toTS (Gx K) E _,(zac (zas (i:=1) sc_law.nd rfl (Or.inl rfl) (zaM G__law_stream (hr.mono (by decide)) rfl T.g__law_stream T.F__law_stream.kp T.b__law_stream (flies_cxOf.passes rfl) (zab (zaE (zhD zc9 (zaa 0) (zbK (zab zae zag))) zae (fun _ _=>rfl)) (zab zae zag))))
   (zac (zgh (zaM (znE G__law_lines) (hr.mono (by decide)) rfl T.g__law_lines T.F__law_lines.kp T.b__law_lines (flies_cxOf.passes rfl) (zab (zaa 1) zag)) (zl9 rfl (zdx (zaJ (i:=2) sc_law.nd rfl (Or.inl rfl)) (zdx (zaJ (i:=3) sc_law.nd rfl (Or.inl rfl)) zju))))
   (zac (zas (i:=4) sc_law.nd rfl (Or.inl rfl) (zaM G__law_joined (hr.mono (by decide)) rfl T.g__law_joined T.F__law_joined.kp T.b__law_joined (flies_cxOf.passes rfl) (zab (zaa 2) (zab (zaa 3) zag))))
   (zac (zas (i:=5) sc_law.nd rfl (Or.inl rfl) (zaM G__law_sound (hr.mono (by decide)) rfl T.g__law_sound T.F__law_sound.kp T.b__law_sound (flies_cxOf.passes rfl) (zab (zaa 4) (zab (zgg zc9 (zhD zc9 (zgg zc9 (zaa 0) (zbk zae) (zbk zae)) (zgg zc9 (zaa 1) (zbk zae) zco)) zco (zbk (zaH (zaE (zaa 1) zae (fun _ _=>rfl)) zae))) zag))))
   (zac (zas (i:=6) sc_law.nd rfl (Or.inl rfl) (zaE (zbK (zab zdo (zab zdo zag))) (zaH (zaE (zaa 1) zae (fun _ _=>rfl)) zae) (fun _ _=>rfl)))
   (zac (zas (i:=7) sc_law.nd rfl (Or.inl rfl) (za2 zae (zaH (zaE (zaa 1) zae (fun _ _=>rfl)) zae)))
   (zac (za9 PassesOwn.leaving rfl (zhE (zgg zc9 (zhD zc9 (zgg zc9 (zaa 0) (zbk zae) (zbk zae)) (zgg zc9 (zaa 1) (zbk zae) (zbk zae))) zco (zbk (za2 zae (zaH (zaE (zaa 1) zae (fun _ _=>rfl)) zae))))) (zaJ (i:=8) sc_law.nd rfl (Or.inl rfl))
   (zac (zas (i:=9) sc_law.nd rfl (Or.inl rfl) (zaE (zaM G__law_stream (hr.mono (by decide)) rfl T.g__law_stream T.F__law_stream.kp T.b__law_stream (flies_cxOf.passes rfl) (zab (zaa 8) (zab zae zag))) zae (fun _ _=>rfl)))
   (zac (zas (i:=10) sc_law.nd rfl (Or.inl rfl) (zaM G__law_spoiled (hr.mono (by decide)) rfl T.g__law_spoiled T.F__law_spoiled.kp T.b__law_spoiled (flies_cxOf.passes rfl) (zab (zaa 5) (zab (zaa 9) zag))))
   (zac (zbm (zbC (zaH (zcC (zaa 9) zae) zae) zae) (zai (zas (i:=10) sc_law.nd rfl (Or.inl rfl) (zaM G__law_breathless (hr.mono (by decide)) rfl T.g__law_breathless T.F__law_breathless.kp T.b__law_breathless (flies_cxOf.passes rfl) (zab (zaa 4) (zab (zaa 5) (zab (zcC (zaa 9) zae) zag)))))) zaA)
   (zai (zbm (zeP (zdp (zaM G__law_refused (hr.mono (by decide)) rfl T.g__law_refused T.F__law_refused.kp T.b__law_refused (flies_cxOf.passes rfl) (zab (zaa 4) (zab (zaa 6) (zab (zaa 10) (zab (zaa 7) zag))))))) (zai (zaD zcI)) zaA))))))
   (zac (zas (i:=11) sc_law.nd rfl (Or.inl rfl) (znT T.mk_Game G_Game___init__ (hr.mono (by decide)) rfl T.gc_Game T.b_Game___init__ (flies_cxOf.passes rfl) (zab (zaa 4) (zab (zaa 6) (zab (zaa 5) (zab (zaa 7) zag))))))
   (zac (zbm (PW.pt (zkT (zmo (hr.cmp 8) (zcX T.cls_Game T.mt_Game_stand G_Game_stand (hr.mono (by decide)) T.b_Game_stand (flies_cxOf.passes rfl) (zaa 11)) (zaa 5)) (zhC (zmo (hr.cmp 8) (zcX T.cls_Game T.mt_Game_begin G_Game_begin (hr.mono (by decide)) T.b_Game_begin (flies_cxOf.passes rfl) (zaa 11)) (zbQ (zab (zaa 5) (zab (zaa 7) zag))))))) (zai (zaD zcI)) zaA)
   (zai (zaD (zhB (zpR (hr.cmp 8) (zcX T.cls_Game T.mt_Game_stands G_Game_stands (hr.mono (by decide)) T.b_Game_stands (flies_cxOf.passes rfl) (zaa 11)) (zbK (zab (zaa 5) zag))) (zhB (zrc (hr.cmp 8) (zcX T.cls_Game T.mt_Game_deeds G_Game_deeds (hr.mono (by decide)) T.b_Game_deeds (flies_cxOf.passes rfl) (zaa 11)) (zbK zag)) (zjp (zo4 (zcX T.cls_Game T.mt_Game_ended G_Game_ended (hr.mono (by decide)) T.b_Game_ended (flies_cxOf.passes rfl) (zaa 11))))))))))))))))),?_⟩
 exact zaG (G:=Gx K) (E:=E) zcz ["_law_script", "_law_xs", "_law_many", "_law_lines_here", "_law_board", "_law_stand", "_law_rule", "_law_hand", "_law_cell", "_law_x", "_law_thing", "_law_game"] S rs Pf
end
set_option maxHeartbeats 0 in
theorem all_mk{K:PySem.W.Frag}{h:Heap}{mg:Str->Option Value}{fa:Addr}(X:K.In h)(G:h.Ns mainGlobals mg)(hfa:mg "law" = some (.ref fa)){f0:Addr}{od0 an0:Option Addr}{sl0:Array (Option Value)}{oc0 kV0 dc0 pm0 cd0 ct0:Value}{f1:Addr}{od1 an1:Option Addr}{sl1:Array (Option Value)}{oc1 kV1 dc1 pm1 cd1 ct1:Value}{f2:Addr}{od2 an2:Option Addr}{sl2:Array (Option Value)}{oc2 kV2 dc2 pm2 cd2 ct2:Value}{f3:Addr}{od3 an3:Option Addr}{sl3:Array (Option Value)}{oc3 kV3 dc3 pm3 cd3 ct3:Value}{f4:Addr}{od4 an4:Option Addr}{sl4:Array (Option Value)}{oc4 kV4 dc4 pm4 cd4 ct4:Value}{f5:Addr}{od5 an5:Option Addr}{sl5:Array (Option Value)}{oc5 kV5 dc5 pm5 cd5 ct5:Value}{f6:Addr}{od6 an6:Option Addr}{sl6:Array (Option Value)}{oc6 kV6 dc6 pm6 cd6 ct6:Value}{f7:Addr}{od7 an7:Option Addr}{sl7:Array (Option Value)}{oc7 kV7 dc7 pm7 cd7 ct7:Value}{f8:Addr}{od8 an8:Option Addr}{sl8:Array (Option Value)}{oc8 kV8 dc8 pm8 cd8 ct8:Value}{f9:Addr}{od9 an9:Option Addr}{sl9:Array (Option Value)}{oc9 kV9 dc9 pm9 cd9 ct9:Value}{f10:Addr}{od10 an10:Option Addr}{sl10:Array (Option Value)}{oc10 kV10 dc10 pm10 cd10 ct10:Value}{f11:Addr}{od11 an11:Option Addr}{sl11:Array (Option Value)}{oc11 kV11 dc11 pm11 cd11 ct11:Value}{f12:Addr}{od12 an12:Option Addr}{sl12:Array (Option Value)}{oc12 kV12 dc12 pm12 cd12 ct12:Value}{f13:Addr}{od13 an13:Option Addr}{sl13:Array (Option Value)}{oc13 kV13 dc13 pm13 cd13 ct13:Value}{f14:Addr}{od14 an14:Option Addr}{sl14:Array (Option Value)}{oc14 kV14 dc14 pm14 cd14 ct14:Value}{f15:Addr}{od15 an15:Option Addr}{sl15:Array (Option Value)}{oc15 kV15 dc15 pm15 cd15 ct15:Value}{f16:Addr}{od16 an16:Option Addr}{sl16:Array (Option Value)}{oc16 kV16 dc16 pm16 cd16 ct16:Value}{f17:Addr}{od17 an17:Option Addr}{sl17:Array (Option Value)}{oc17 kV17 dc17 pm17 cd17 ct17:Value}{f18:Addr}{od18 an18:Option Addr}{sl18:Array (Option Value)}{oc18 kV18 dc18 pm18 cd18 ct18:Value}{f19:Addr}{od19 an19:Option Addr}{sl19:Array (Option Value)}{oc19 kV19 dc19 pm19 cd19 ct19:Value}{f20:Addr}{od20 an20:Option Addr}{sl20:Array (Option Value)}{oc20 kV20 dc20 pm20 cd20 ct20:Value}{f21:Addr}{od21 an21:Option Addr}{sl21:Array (Option Value)}{oc21 kV21 dc21 pm21 cd21 ct21:Value}{f22:Addr}{od22 an22:Option Addr}{sl22:Array (Option Value)}{oc22 kV22 dc22 pm22 cd22 ct22:Value}{f23:Addr}{od23 an23:Option Addr}{sl23:Array (Option Value)}{oc23 kV23 dc23 pm23 cd23 ct23:Value}{f24:Addr}{od24 an24:Option Addr}{sl24:Array (Option Value)}{oc24 kV24 dc24 pm24 cd24 ct24:Value}{C_Game:Addr}(ac_Game:PySem.W.nsIn K mainGlobals "Game" = some (some (.ref C_Game)))(pg_Game:PySem.W.plainGet K C_Game Str.empty=true)(hd_Game:PySem.W.hasDictIn K C_Game=true)(po_Game:PySem.W.plainOver K C_Game=true)(sa_Game:PySem.W.findIn K (.ref C_Game) "__setattr__" = some (some (.builtin "object.__setattr__")))(mi_Game:PySem.W.makesIn K C_Game=true)(kc_Game:PySem.W.keepIn K (.ref C_Game)=true)(na_Game_barring:PySem.W.findIn K (.ref C_Game) "barring" = some none)(na_Game_done:PySem.W.findIn K (.ref C_Game) "done" = some none)(na_Game_first:PySem.W.findIn K (.ref C_Game) "first" = some none)(na_Game_joined:PySem.W.findIn K (.ref C_Game) "joined" = some none)(na_Game_past:PySem.W.findIn K (.ref C_Game) "past" = some none)(na_Game_takings:PySem.W.findIn K (.ref C_Game) "takings" = some none)(a0:PySem.W.nsIn K mainGlobals "is_whole" = some (some (.ref f0)))(l0:K.lookup f0=some ⟨oc0,od0,.func (PySem.W.fnOf "is_whole" "is_whole" (zaz zbH) (zay zbH) (zah zbH) .none kV0 dc0 pm0 an0 cd0 ct0),sl0⟩)(c0:PySem.W.codeIn K cd0 "is_whole" = true)(k0:PySem.W.keepIn K (.ref f0)=true)(a1:PySem.W.nsIn K mainGlobals "patch_of" = some (some (.ref f1)))(l1:K.lookup f1=some ⟨oc1,od1,.func (PySem.W.fnOf "patch_of" "patch_of" (zaz zbI) (zay zbI) (zah zbI) .none kV1 dc1 pm1 an1 cd1 ct1),sl1⟩)(c1:PySem.W.codeIn K cd1 "patch_of" = true)(k1:PySem.W.keepIn K (.ref f1)=true)(a2:PySem.W.nsIn K mainGlobals "patches" = some (some (.ref f2)))(l2:K.lookup f2=some ⟨oc2,od2,.func (PySem.W.fnOf "patches" "patches" (zaz zb1) (zay zb1) (zah zb1) .none kV2 dc2 pm2 an2 cd2 ct2),sl2⟩)(c2:PySem.W.codeIn K cd2 "patches" = true)(k2:PySem.W.keepIn K (.ref f2)=true)(a3:PySem.W.nsIn K mainGlobals "is_stand" = some (some (.ref f3)))(l3:K.lookup f3=some ⟨oc3,od3,.func (PySem.W.fnOf "is_stand" "is_stand" (zaz zbp) (zay zbp) (zah zbp) .none kV3 dc3 pm3 an3 cd3 ct3),sl3⟩)(c3:PySem.W.codeIn K cd3 "is_stand" = true)(k3:PySem.W.keepIn K (.ref f3)=true)(a4:PySem.W.nsIn K mainGlobals "rows" = some (some (.ref f4)))(l4:K.lookup f4=some ⟨oc4,od4,.func (PySem.W.fnOf "rows" "rows" (zaz zef) (zay zef) (zah zef) .none kV4 dc4 pm4 an4 cd4 ct4),sl4⟩)(c4:PySem.W.codeIn K cd4 "rows" = true)(k4:PySem.W.keepIn K (.ref f4)=true)(a5:PySem.W.nsIn K mainGlobals "breaths" = some (some (.ref f5)))(l5:K.lookup f5=some ⟨oc5,od5,.func (PySem.W.fnOf "breaths" "breaths" (zaz zbN) (zay zbN) (zah zbN) .none kV5 dc5 pm5 an5 cd5 ct5),sl5⟩)(c5:PySem.W.codeIn K cd5 "breaths" = true)(k5:PySem.W.keepIn K (.ref f5)=true)(a6:PySem.W.nsIn K mainGlobals "points_beside" = some (some (.ref f6)))(l6:K.lookup f6=some ⟨oc6,od6,.func (PySem.W.fnOf "points_beside" "points_beside" (zaz zaT) (zay zaT) (zah zaT) .none kV6 dc6 pm6 an6 cd6 ct6),sl6⟩)(c6:PySem.W.codeIn K cd6 "points_beside" = true)(k6:PySem.W.keepIn K (.ref f6)=true)(a7:PySem.W.nsIn K mainGlobals "is_sound" = some (some (.ref f7)))(l7:K.lookup f7=some ⟨oc7,od7,.func (PySem.W.fnOf "is_sound" "is_sound" (zaz zbq) (zay zbq) (zah zbq) .none kV7 dc7 pm7 an7 cd7 ct7),sl7⟩)(c7:PySem.W.codeIn K cd7 "is_sound" = true)(k7:PySem.W.keepIn K (.ref f7)=true)(a8:PySem.W.nsIn K mainGlobals "_law_stream" = some (some (.ref f8)))(l8:K.lookup f8=some ⟨oc8,od8,.func (PySem.W.fnOf "_law_stream" "_law_stream" (zaz za4) (zay za4) (zah za4) .none kV8 dc8 pm8 an8 cd8 ct8),sl8⟩)(c8:PySem.W.codeIn K cd8 "_law_stream" = true)(k8:PySem.W.keepIn K (.ref f8)=true)(a9:PySem.W.nsIn K mainGlobals "_law_joined" = some (some (.ref f9)))(l9:K.lookup f9=some ⟨oc9,od9,.func (PySem.W.fnOf "_law_joined" "_law_joined" (zaz zaQ) (zay zaQ) (zah zaQ) .none kV9 dc9 pm9 an9 cd9 ct9),sl9⟩)(c9:PySem.W.codeIn K cd9 "_law_joined" = true)(k9:PySem.W.keepIn K (.ref f9)=true)(a10:PySem.W.nsIn K mainGlobals "_law_lines" = some (some (.ref f10)))(l10:K.lookup f10=some ⟨oc10,od10,.func (PySem.W.fnOf "_law_lines" "_law_lines" (zaz zaK) (zay zaK) (zah zaK) .none kV10 dc10 pm10 an10 cd10 ct10),sl10⟩)(c10:PySem.W.codeIn K cd10 "_law_lines" = true)(k10:PySem.W.keepIn K (.ref f10)=true)(a11:PySem.W.nsIn K mainGlobals "_law_row" = some (some (.ref f11)))(l11:K.lookup f11=some ⟨oc11,od11,.func (PySem.W.fnOf "_law_row" "_law_row" (zaz zbJ) (zay zbJ) (zah zbJ) .none kV11 dc11 pm11 an11 cd11 ct11),sl11⟩)(c11:PySem.W.codeIn K cd11 "_law_row" = true)(k11:PySem.W.keepIn K (.ref f11)=true)(a12:PySem.W.nsIn K mainGlobals "_law_breaths" = some (some (.ref f12)))(l12:K.lookup f12=some ⟨oc12,od12,.func (PySem.W.fnOf "_law_breaths" "_law_breaths" (zaz zaW) (zay zaW) (zah zaW) .none kV12 dc12 pm12 an12 cd12 ct12),sl12⟩)(c12:PySem.W.codeIn K cd12 "_law_breaths" = true)(k12:PySem.W.keepIn K (.ref f12)=true)(a13:PySem.W.nsIn K mainGlobals "_law_tried" = some (some (.ref f13)))(l13:K.lookup f13=some ⟨oc13,od13,.func (PySem.W.fnOf "_law_tried" "_law_tried" (zaz zbe) (zay zbe) (zah zbe) .none kV13 dc13 pm13 an13 cd13 ct13),sl13⟩)(c13:PySem.W.codeIn K cd13 "_law_tried" = true)(k13:PySem.W.keepIn K (.ref f13)=true)(a14:PySem.W.nsIn K mainGlobals "_law_sound" = some (some (.ref f14)))(l14:K.lookup f14=some ⟨oc14,od14,.func (PySem.W.fnOf "_law_sound" "_law_sound" (zaz za3) (zay za3) (zah za3) .none kV14 dc14 pm14 an14 cd14 ct14),sl14⟩)(c14:PySem.W.codeIn K cd14 "_law_sound" = true)(k14:PySem.W.keepIn K (.ref f14)=true)(a15:PySem.W.nsIn K mainGlobals "_law_spoiled" = some (some (.ref f15)))(l15:K.lookup f15=some ⟨oc15,od15,.func (PySem.W.fnOf "_law_spoiled" "_law_spoiled" (zaz zaX) (zay zaX) (zah zaX) .none kV15 dc15 pm15 an15 cd15 ct15),sl15⟩)(c15:PySem.W.codeIn K cd15 "_law_spoiled" = true)(k15:PySem.W.keepIn K (.ref f15)=true)(a16:PySem.W.nsIn K mainGlobals "_law_breathless" = some (some (.ref f16)))(l16:K.lookup f16=some ⟨oc16,od16,.func (PySem.W.fnOf "_law_breathless" "_law_breathless" (zaz zaC) (zay zaC) (zah zaC) .none kV16 dc16 pm16 an16 cd16 ct16),sl16⟩)(c16:PySem.W.codeIn K cd16 "_law_breathless" = true)(k16:PySem.W.keepIn K (.ref f16)=true)(a17:PySem.W.nsIn K mainGlobals "_law_refused" = some (some (.ref f17)))(l17:K.lookup f17=some ⟨oc17,od17,.func (PySem.W.fnOf "_law_refused" "_law_refused" (zaz zaY) (zay zaY) (zah zaY) .none kV17 dc17 pm17 an17 cd17 ct17),sl17⟩)(c17:PySem.W.codeIn K cd17 "_law_refused" = true)(k17:PySem.W.keepIn K (.ref f17)=true)(a18:PySem.W.nsIn K mainGlobals "law" = some (some (.ref f18)))(l18:K.lookup f18=some ⟨oc18,od18,.func (PySem.W.fnOf "law" "law" (zaz ziv) (zay ziv) (zah ziv) .none kV18 dc18 pm18 an18 cd18 ct18),sl18⟩)(c18:PySem.W.codeIn K cd18 "law" = true)(k18:PySem.W.keepIn K (.ref f18)=true)(a19:PySem.W.findIn K (.ref C_Game) "__init__" = some (some (.ref f19)))(fn19:PySem.W.isFn K (.ref f19)=true)(l19:K.lookup f19=some ⟨oc19,od19,.func (PySem.W.fnOf "__init__" "Game.__init__" (zaz zaU) (zay zaU) (zah zaU) .none kV19 dc19 pm19 an19 cd19 ct19),sl19⟩)(c19:PySem.W.codeIn K cd19 "Game.__init__" = true)(k19:PySem.W.keepIn K (.ref f19)=true)(a20:PySem.W.findIn K (.ref C_Game) "stand" = some (some (.ref f20)))(fn20:PySem.W.isFn K (.ref f20)=true)(l20:K.lookup f20=some ⟨oc20,od20,.func (PySem.W.fnOf "stand" "Game.stand" (zaz zbf) (zay zbf) (zah zbf) .none kV20 dc20 pm20 an20 cd20 ct20),sl20⟩)(c20:PySem.W.codeIn K cd20 "Game.stand" = true)(k20:PySem.W.keepIn K (.ref f20)=true)(a21:PySem.W.findIn K (.ref C_Game) "stands" = some (some (.ref f21)))(fn21:PySem.W.isFn K (.ref f21)=true)(l21:K.lookup f21=some ⟨oc21,od21,.func (PySem.W.fnOf "stands" "Game.stands" (zaz za5) (zay za5) (zah za5) .none kV21 dc21 pm21 an21 cd21 ct21),sl21⟩)(c21:PySem.W.codeIn K cd21 "Game.stands" = true)(k21:PySem.W.keepIn K (.ref f21)=true)(a22:PySem.W.findIn K (.ref C_Game) "deeds" = some (some (.ref f22)))(fn22:PySem.W.isFn K (.ref f22)=true)(l22:K.lookup f22=some ⟨oc22,od22,.func (PySem.W.fnOf "deeds" "Game.deeds" (zaz zbg) (zay zbg) (zah zbg) .none kV22 dc22 pm22 an22 cd22 ct22),sl22⟩)(c22:PySem.W.codeIn K cd22 "Game.deeds" = true)(k22:PySem.W.keepIn K (.ref f22)=true)(a23:PySem.W.findIn K (.ref C_Game) "ended" = some (some (.ref f23)))(fn23:PySem.W.isFn K (.ref f23)=true)(l23:K.lookup f23=some ⟨oc23,od23,.func (PySem.W.fnOf "ended" "Game.ended" (zaz zbh) (zay zbh) (zah zbh) .none kV23 dc23 pm23 an23 cd23 ct23),sl23⟩)(c23:PySem.W.codeIn K cd23 "Game.ended" = true)(k23:PySem.W.keepIn K (.ref f23)=true)(a24:PySem.W.findIn K (.ref C_Game) "begin" = some (some (.ref f24)))(fn24:PySem.W.isFn K (.ref f24)=true)(l24:K.lookup f24=some ⟨oc24,od24,.func (PySem.W.fnOf "begin" "Game.begin" (zaz zbi) (zay zbi) (zah zbi) .none kV24 dc24 pm24 an24 cd24 ct24),sl24⟩)(c24:PySem.W.codeIn K cd24 "Game.begin" = true)(k24:PySem.W.keepIn K (.ref f24)=true){t0:Tok}(q0:PySem.W.nsIn K mainGlobals "MOST_DEEDS" = some (some (.int 300 t0)))(z_ValueError:PySem.W.nsIn K mainGlobals "ValueError" = some none)(z_all:PySem.W.nsIn K mainGlobals "all" = some none)(z_bool:PySem.W.nsIn K mainGlobals "bool" = some none)(z_int:PySem.W.nsIn K mainGlobals "int" = some none)(z_isinstance:PySem.W.nsIn K mainGlobals "isinstance" = some none)(z_len:PySem.W.nsIn K mainGlobals "len" = some none)(z_list:PySem.W.nsIn K mainGlobals "list" = some none)(z_range:PySem.W.nsIn K mainGlobals "range" = some none)(z_sorted:PySem.W.nsIn K mainGlobals "sorted" = some none)(z_tuple:PySem.W.nsIn K mainGlobals "tuple" = some none)(xt:zrC K XTB=true)(nl:noL K=true)
  : ∃A:Adr,Txt K mg A/\fa=A.f_law/\∀(s:Shared) (v:Value),BindsTo s A.d_law ⟨[v],[]⟩ [("_law_script",v)]:=by
 have e:=hfa.symm.trans (PySem.W.mg_of X G a18)
 cases e
 have ec_Game:C_Game=clOf K "Game" := by unfold VS.clOf;rw[ac_Game]
 subst ec_Game
 have F0:=zaV (st:=zbH) l0 c0 k0
 have b0:=F0.binds (ps:=["thing"]) fun _ _ _ _ _ _ us hl=>VS.us1 (fun _=>rfl) us hl
 have F1:=zaV (st:=zbI) l1 c1 k1
 have b1:=F1.binds (ps:=["board", "marks", "start"]) fun _ _ _ _ _ _ us hl=>VS.us3 (fun _ _ _=>rfl) us hl
 have F2:=zaV (st:=zb1) l2 c2 k2
 have b2:=F2.binds (ps:=["board", "marks"]) fun _ _ _ _ _ _ us hl=>VS.us2 (fun _ _=>rfl) us hl
 have F3:=zaV (st:=zbp) l3 c3 k3
 have b3:=F3.binds (ps:=["board", "thing"]) fun _ _ _ _ _ _ us hl=>VS.us2 (fun _ _=>rfl) us hl
 have F4:=zaV (st:=zef) l4 c4 k4
 have b4:=F4.binds (ps:=["board", "stand"]) fun _ _ _ _ _ _ us hl=>VS.us2 (fun _ _=>rfl) us hl
 have F5:=zaV (st:=zbN) l5 c5 k5
 have b5:=F5.binds (ps:=["board", "stand", "row"]) fun _ _ _ _ _ _ us hl=>VS.us3 (fun _ _ _=>rfl) us hl
 have F6:=zaV (st:=zaT) l6 c6 k6
 have b6:=F6.binds (ps:=["board", "points"]) fun _ _ _ _ _ _ us hl=>VS.us2 (fun _ _=>rfl) us hl
 have F7:=zaV (st:=zbq) l7 c7 k7
 have b7:=F7.binds (ps:=["board", "stand"]) fun _ _ _ _ _ _ us hl=>VS.us2 (fun _ _=>rfl) us hl
 have F8:=zaV (st:=za4) l8 c8 k8
 have b8:=F8.binds (ps:=["_law_cell", "_law_many"]) fun _ _ _ _ _ _ us hl=>VS.us2 (fun _ _=>rfl) us hl
 have F9:=zaV (st:=zaQ) l9 c9 k9
 have b9:=F9.binds (ps:=["_law_many", "_law_lines_here"]) fun _ _ _ _ _ _ us hl=>VS.us2 (fun _ _=>rfl) us hl
 have F10:=zaV (st:=zaK) l10 c10 k10
 have b10:=F10.binds (ps:=["_law_xs"]) fun _ _ _ _ _ _ us hl=>VS.us1 (fun _=>rfl) us hl
 have F11:=zaV (st:=zbJ) l11 c11 k11
 have b11:=F11.binds (ps:=["_law_board", "_law_stand", "_law_point"]) fun _ _ _ _ _ _ us hl=>VS.us3 (fun _ _ _=>rfl) us hl
 have F12:=zaV (st:=zaW) l12 c12 k12
 have b12:=F12.binds (ps:=["_law_board", "_law_stand", "_law_row_here"]) fun _ _ _ _ _ _ us hl=>VS.us3 (fun _ _ _=>rfl) us hl
 have F13:=zaV (st:=zbe) l13 c13 k13
 have b13:=F13.binds (ps:=["_law_board", "_law_stand", "_law_hand", "_law_point"]) fun _ _ _ _ _ _ us hl=>VS.us4 (fun _ _ _ _=>rfl) us hl
 have F14:=zaV (st:=za3) l14 c14 k14
 have b14:=F14.binds (ps:=["_law_board", "_law_cells"]) fun _ _ _ _ _ _ us hl=>VS.us2 (fun _ _=>rfl) us hl
 have F15:=zaV (st:=zaX) l15 c15 k15
 have b15:=F15.binds (ps:=["_law_stand", "_law_x"]) fun _ _ _ _ _ _ us hl=>VS.us2 (fun _ _=>rfl) us hl
 have F16:=zaV (st:=zaC) l16 c16 k16
 have b16:=F16.binds (ps:=["_law_board", "_law_stand", "_law_x"]) fun _ _ _ _ _ _ us hl=>VS.us3 (fun _ _ _=>rfl) us hl
 have F17:=zaV (st:=zaY) l17 c17 k17
 have b17:=F17.binds (ps:=["_law_board", "_law_rule", "_law_thing", "_law_hand"]) fun _ _ _ _ _ _ us hl=>VS.us4 (fun _ _ _ _=>rfl) us hl
 have F18:=zaV (st:=ziv) l18 c18 k18
 have b18:=F18.binds (ps:=["_law_script"]) fun _ _ _ _ _ _ us hl=>VS.us1 (fun _=>rfl) us hl
 have F19:=zaV (st:=zaU) l19 c19 k19
 have b19:=F19.binds (ps:=["self", "board", "rule", "stand", "hand"]) fun _ _ _ _ _ _ us hl=>VS.us5 (fun _ _ _ _ _=>rfl) us hl
 have F20:=zaV (st:=zbf) l20 c20 k20
 have b20:=F20.binds (ps:=["self"]) fun _ _ _ _ _ _ us hl=>VS.us1 (fun _=>rfl) us hl
 have F21:=zaV (st:=za5) l21 c21 k21
 have b21:=F21.binds (ps:=["self"]) fun _ _ _ _ _ _ us hl=>VS.us1 (fun _=>rfl) us hl
 have F22:=zaV (st:=zbg) l22 c22 k22
 have b22:=F22.binds (ps:=["self"]) fun _ _ _ _ _ _ us hl=>VS.us1 (fun _=>rfl) us hl
 have F23:=zaV (st:=zbh) l23 c23 k23
 have b23:=F23.binds (ps:=["self"]) fun _ _ _ _ _ _ us hl=>VS.us1 (fun _=>rfl) us hl
 have F24:=zaV (st:=zbi) l24 c24 k24
 have b24:=F24.binds (ps:=["self"]) fun _ _ _ _ _ _ us hl=>VS.us1 (fun _=>rfl) us hl
 refine⟨⟨_,_,_,_,_,_,_,_,_,_,_,_,_,_,_,_,_,_,_,_,_,_,_,_,_,_,_,_,_,_,_,_,_,_,_,_,_,_,_,_,_,_,_,_,_,_,_,_,_,_⟩,⟨PySem.W.mg_of X G a0,F0,b0,PySem.W.mg_of X G a1,F1,b1,PySem.W.mg_of X G a2,F2,b2,PySem.W.mg_of X G a3,F3,b3,PySem.W.mg_of X G a4,F4,b4,PySem.W.mg_of X G a5,F5,b5,PySem.W.mg_of X G a6,F6,b6,PySem.W.mg_of X G a7,F7,b7,PySem.W.mg_of X G a8,F8,b8,PySem.W.mg_of X G a9,F9,b9,PySem.W.mg_of X G a10,F10,b10,PySem.W.mg_of X G a11,F11,b11,PySem.W.mg_of X G a12,F12,b12,PySem.W.mg_of X G a13,F13,b13,PySem.W.mg_of X G a14,F14,b14,PySem.W.mg_of X G a15,F15,b15,PySem.W.mg_of X G a16,F16,b16,PySem.W.mg_of X G a17,F17,b17,PySem.W.mg_of X G a18,F18,b18,⟨a19,fn19,k19⟩,F19,b19,⟨a20,fn20,k20⟩,F20,b20,⟨a21,fn21,k21⟩,F21,b21,⟨a22,fn22,k22⟩,F22,b22,⟨a23,fn23,k23⟩,F23,b23,⟨a24,fn24,k24⟩,F24,b24,⟨pg_Game,hd_Game,po_Game,sa_Game⟩,⟨mi_Game,a19,fn19,kc_Game⟩,PySem.W.mg_of X G ac_Game,na_Game_barring,na_Game_done,na_Game_first,na_Game_joined,na_Game_past,na_Game_takings,⟨_,PySem.W.mg_of X G q0⟩,PySem.W.mg_none_of X G z_ValueError,PySem.W.mg_none_of X G z_all,PySem.W.mg_none_of X G z_bool,PySem.W.mg_none_of X G z_int,PySem.W.mg_none_of X G z_isinstance,PySem.W.mg_none_of X G z_len,PySem.W.mg_none_of X G z_list,PySem.W.mg_none_of X G z_range,PySem.W.mg_none_of X G z_sorted,PySem.W.mg_none_of X G z_tuple,zrD X G xt,nl⟩,rfl,fun s v=>.of_eq rfl⟩
end K22
namespace K22
open L2 VS
def FU:Nat:=1000
local macro_rules|`(tactic| trivial)=>`(tactic| repeat' (first
 | with_reducible (refine zaj (by repeat (first|exact SetAt.zero|apply SetAt.succ)) ?_)
 | with_reducible (refine id (α:=_=some (R.ok _ _)) ?_;assumption)
 | (with_reducible apply zal);rfl
 | with_reducible exact zbP
 | with_reducible apply zbL
 | with_reducible apply zj1
 | with_reducible apply zb9
 | with_reducible apply zeT
 | with_reducible apply zaO
 | with_reducible apply zak
 | with_reducible exact zar
 | with_reducible apply zby
 | with_reducible apply zjK
 | with_reducible apply zhI
 | with_reducible apply zbV
 | with_reducible exact ev_yes
 | with_reducible apply zpG
 | with_reducible apply zld
 | with_reducible apply zjL
 | with_reducible exact eqI0
 | with_reducible exact eqE0
 | with_reducible exact eqE1
 | with_reducible exact eqEN0
 | with_reducible exact eqEN1
 | with_reducible exact zsj
 | with_reducible exact inS0
 | with_reducible exact inS1
 | with_reducible exact inSL0
 | with_reducible exact inSL1
 | with_reducible exact inL0
 | with_reducible exact inL1
 | with_reducible (apply inC0;assumption)
 | with_reducible (apply zsW;assumption)
 | with_reducible (apply dinC0;assumption)
 | with_reducible (apply zrw;assumption)
 | ((with_reducible apply znv);trivial;done)
 | with_reducible apply zrv
 | with_reducible apply zsi
 | with_reducible apply zqp
 | with_reducible apply lcF
 | with_reducible apply zru
 | with_reducible apply lcC
 | with_reducible apply zet
 | with_reducible apply zgw
 | with_reducible apply zeV
 | with_reducible apply zle
 | with_reducible apply znu
 | with_reducible apply SrcFix.is
 | with_reducible (refine id (α:=LstOf _ _ _) ?_;first|assumption|exact .fr _|exact .cl (by assumption))
 | with_reducible apply zlc
 | with_reducible apply zpF
 | with_reducible apply zfr
 | with_reducible apply zbM
 | with_reducible apply zcf
 | with_reducible apply zli
 | with_reducible exact lf_isB0
 | with_reducible exact lf_isB1
 | with_reducible exact eqB0
 | with_reducible exact eqB1
 | with_reducible exact isiB
 | with_reducible exact zjP
 | with_reducible (apply znA;assumption)
 | with_reducible exact zd0
 | with_reducible apply zgZ
 | with_reducible apply zpE
 | with_reducible apply ev_ifE
 | with_reducible apply zpI
 | with_reducible apply zgX
 | with_reducible apply zaB
 | with_reducible apply zmk
 | with_reducible apply zbu
 | with_reducible apply zbS
 | with_reducible apply zan
 | with_reducible apply zjH
 | with_reducible apply znp
 | with_reducible apply za1
 | with_reducible apply zb8
 | with_reducible apply zaF
 | with_reducible apply zcp
 | with_reducible (refine id (α:=_=_) ?_;assumption)
 | (refine id (α:=(_:Nat)<_) ?_;first|assumption|omega)
 | (refine id (α:=(_:Nat)<=_) ?_;first|assumption|omega|decide|(simp only[List.length_cons,List.length_nil];decide))
 | with_reducible (apply zpJ;first|assumption|omega)
 | with_reducible (apply zcg;first|assumption|omega)
 | with_reducible (apply zml;first|assumption|omega)
 | with_reducible (apply zmm;assumption;first|assumption|omega)
 | with_reducible (apply zcT;assumption)
 | with_reducible (apply zpL;assumption;first|assumption|omega)
 | with_reducible (apply lf_sortCF;assumption;first|assumption|omega)
 | with_reducible (apply tupCN;assumption;first|assumption|omega)
 | with_reducible (apply tupCB;assumption;first|assumption|omega)
 | with_reducible (apply zlg;assumption;first|assumption|omega)
 | with_reducible (apply tupLN;first|assumption|omega)
 | with_reducible (apply zpN;first|assumption|omega)
 | with_reducible (apply zny;first|assumption|omega)
 | ((with_reducible apply znx);rfl;rfl;first|assumption|exact mul_small (.inr (by omega))|exact mul_small (.inl (by omega)))
 | with_reducible (apply lf_listL;first|assumption|omega)
 | with_reducible (apply lf_sortS;first|assumption|omega)
 | with_reducible exact eqLL0
 | with_reducible exact eqLL1
 | with_reducible (apply eqLC1;assumption)
 | with_reducible (apply eqSC1;assumption)
 | with_reducible exact zns
 | with_reducible exact zfs
 | with_reducible exact znr
 | with_reducible (apply znq;assumption)
 | intro _
 | ((with_reducible apply zcb)<;>rfl)
 | ((with_reducible apply zfu)<;>rfl)
 | ((with_reducible apply zjN)<;>rfl)
 | ((with_reducible apply lf_fLe)<;>rfl)
 | ((with_reducible apply zjO)<;>rfl)
 | ((with_reducible apply lf_fGe)<;>rfl)
 | ((with_reducible apply zfv)<;>rfl)
 | ((with_reducible apply znw)<;>rfl)
 | ((with_reducible apply lf_fNeg);rfl)
 | ((with_reducible apply zpM);rfl)
 | with_reducible exact isiN
 | with_reducible exact isiNB
 | with_reducible exact isiI
 | with_reducible exact isiIB
 | ((with_reducible apply lf_min)<;>rfl)
 | ((with_reducible apply lf_max)<;>rfl)
 | ((with_reducible apply zcK);rfl;rfl;omega)
 | ((with_reducible apply zd2);rfl;rfl;omega)
 | (refine id (α:=(_:Nat)=_) ?_;rfl)
 | with_reducible rfl))
def rC(r:List Nat):C:=.lst (r.map nW)
def upR(rows:List (List Nat))(p q:Nat):List (List Nat):=rows.set p (rows.getD p []++[q])
def zp7(rows:List (List Nat))(p q:Nat):List (List Nat):=upR (upR rows p q) q p
theorem zhd(rows:List (List Nat))(p q:Nat):(upR rows p q).length=rows.length:=by simp[upR]
theorem zhV(rows:List (List Nat))(p q:Nat):(zp7 rows p q).length=rows.length:=by simp[zp7,zhd]
theorem zfQ{rows:List (List Nat)}{p:Nat}(hp:p<rows.length)(q i:Nat):(upR rows p q).getD i []=if i=p then rows.getD p []++[q] else rows.getD i []:=by
 unfold upR
 simp only[List.getD_eq_getElem?_getD]
 by_cases h:i=p
 ·subst h;simp[hp]
 ·rw[List.getElem?_set_ne (Ne.symm h)];simp[h]
structure Rows (n:Nat) (rows:List (List Nat)):Prop where
 len:rows.length=n
 bd:∀i j,j∈rows.getD i []->j<n
 sym:∀i j,j∈rows.getD i []->i∈rows.getD j []
section
variable {ce:Ce} {n mS:Nat} {rows:List (List Nat)} {gs:Ce}
abbrev zkp(ce:Ce)(n:Nat):W:=.lst ((List.range n).map fun i=>W.cel (ce.length+i))
abbrev bC(ce:Ce)(rows:List (List Nat))(gs:Ce):Ce:=ce++(rows.map rC++gs)
theorem zmv{p:Nat}(hp:p<rows.length):(bC ce rows gs)[ce.length+p]?=some (rC (rows.getD p [])):=by
 rw[zqo,List.getElem?_append_left (by simpa using hp),List.getElem?_map,List.getD_eq_getElem?_getD]
 simp[hp]
theorem zp8{p q:Nat}(hp:p<rows.length):(bC ce rows gs).set (ce.length+p) (.lst ((rows.getD p []).map nW++[nW q]))=bC ce (upR rows p q) gs:=by
 rw[zr0,List.set_append_left _ _ (by simpa using hp)]
 show _=ce++((rows.set p (rows.getD p []++[q])).map rC++gs)
 rw[List.map_set]
 have e:C.lst ((rows.getD p []).map nW++[nW q])=rC (rows.getD p []++[q]):=by simp only[rC,List.map_append,List.map_cons,List.map_nil]
 rw[e]
theorem zp9(c:Ce){p:Nat}(hp:p<n):ixW c (zkp ce n) (nW p)=some (W.cel (ce.length+p)):=by
 rw[zfp (xs:=(List.range n).map fun i=>W.cel (ce.length+i)) rfl,List.getElem?_map]
 simp[hp]
theorem ap1{sl:Sl}{a b p q:Nat}(h4:sl[mS]?=some (some (zkp ce n)))(ha:sl[a]?=some (some (nW p)))(hb:sl[b]?=some (some (nW q)))(hr:rows.length=n)(hp:p<n)(hz:(rows.getD p []).length<PySem.sizeLine) :
  dEx (dMt zgp (zaR ixW (zaf mS) (zaf a)) (zad (zaf b) zap)) sl (bC ce rows gs)=some (.go .nx sl (bC ce (upR rows p q) gs)):=by
 have hp':p<rows.length:=by omega
 have g:=zmv (ce:=ce) (gs:=gs) hp'
 have e1:zaR ixW (zaf mS) (zaf a) sl (bC ce rows gs)=some (.ok (W.cel (ce.length+p)) (bC ce rows gs)):=by
  simp only[zpq,zk7,zhH,h4,ha,zmd,zp9 _ hp,Option.map_some]
 have e2:zad (zaf b) zap sl (bC ce rows gs)=some (.ok [nW q] (bC ce rows gs)):=by
  simp only[zjA,zk7,zhH,hb,zme,zpp]
 have lq:zkm (bC ce rows gs) (W.cel (ce.length+p))=some ():=by
  unfold zkm
  rw[zcT (xs:=(rows.getD p []).map nW) g]
  rfl
 have ap:zgp (W.cel (ce.length+p)) [nW q] (bC ce rows gs)=some (.ok .non (bC ce (upR rows p q) gs)):=by
  rw[zk8 (zdX (xs:=(rows.getD p []).map nW) g) (by rw[List.length_map];exact hz),zp8 hp']
 generalize bC ce rows gs=c1 at *
 generalize bC ce (upR rows p q) gs=c2 at *
 simp only[zro,zrt,zk7,zrk,zmd,e1,e2,lq,ap,Option.map_some]
theorem ap2{sl:Sl}{a b p q:Nat}(h4:sl[mS]?=some (some (zkp ce n)))(ha:sl[a]?=some (some (nW p)))(hb:sl[b]?=some (some (nW q)))(hr:rows.length=n)(hp:p<n)(hq:q<n)(hz:∀i,(rows.getD i []).length<1000) :
  zav (dEx (dMt zgp (zaR ixW (zaf mS) (zaf a)) (zad (zaf b) zap))) (dEx (dMt zgp (zaR ixW (zaf mS) (zaf b)) (zad (zaf a) zap))) sl (bC ce rows gs)=some (.go .nx sl (bC ce (zp7 rows p q) gs)):=by
 have z:(1001:Nat)<PySem.sizeLine:=by decide
 rw[zjz (ap1 h4 ha hb hr hp (by have:=hz p;omega))]
 refine ap1 h4 hb ha (by rw[zhd];exact hr) hq ?_
 rw[zfQ (by omega)]
 split
 ·have:=hz p;rw[List.length_append,List.length_singleton];omega
 ·have:=hz q;omega
theorem ziz{p:Nat}(hp:p<rows.length)(h:(rows.getD p []).length<=60)(cs:Sl):dBi zbx (zad (dBi (za0 zbl) (zad (zaf 0) zap)) zap) (some (W.cel (ce.length+p))::cs) (bC ce rows gs)=some (.ok (wT (zcw (rows.getD p []))) (bC ce rows gs)):=by
 have g:=zmv (ce:=ce) (gs:=gs) hp
 have hz:(61:Nat)<PySem.sizeLine:=by decide
 have l1:(srt (toI (rows.getD p []))).length=(rows.getD p []).length:=by rw[(zbt _).length_eq,zbZ]
 have so:za0 zbl [W.cel (ce.length+p)] (bC ce rows gs)=some (.ok (.lst ((zcw (rows.getD p [])).map nW)) (bC ce rows gs)):=by
  simp only[za0,zcT (xs:=(rows.getD p []).map nW) g,zfn,zbZ]
  rw[if_pos (by omega),zjB _ (by rw[List.length_map,l1];omega),zdB]
 have tu:zbx [.lst ((zcw (rows.getD p [])).map nW)] (bC ce rows gs)=some (.ok (wT (zcw (rows.getD p []))) (bC ce rows gs)):=by
  have e:((zcw (rows.getD p [])).map nW).length=(rows.getD p []).length:=by rw[<- zdB,List.length_map,l1]
  show zne _ _=_
  rw[zpr _ (by rw[e];omega)]
  rfl
 generalize bC ce rows gs=c1 at *
 simp only[zrp,zk7,zjA,zhH,List.getElem?_cons_zero,zme,zpp,so,tu]
theorem zgC(hr:rows.length=n)(h36:n<=36)(h:∀i,(rows.getD i []).length<=60){sl:Sl}(h4:sl[mS]?=some (some (zkp ce n))) :
  dLC zbl [] (dIL (zaf mS)) zdf (dBi zbx (zad (dBi (za0 zbl) (zad (zaf 0) zap)) zap)) sl (bC ce rows gs)=some (.ok (.lst (((List.range n).map fun i=>zcw (rows.getD i [])).map wT)) (bC ce rows gs)):=by
 have hz:=zgW
 have hi:dIL (zaf mS) sl (bC ce rows gs)=some (.ok (.lst ((List.range n).map fun i=>W.cel (ce.length+i))) (bC ce rows gs)):=by
  show bnd (zaf mS sl) (fun w=>look fun ce=>zil ce w) (bC ce rows gs)=_
  rw[zbR (a:=zkp ce n) (ce':=bC ce rows gs) (by simp only[zhH,h4])]
  rfl
 obtain⟨zs,e,pz⟩:=zpx (mk:=zbl) (js:=[]) (s:=.lst ((List.range n).map fun i=>W.cel (ce.length+i))) (e:=dBi zbx (zad (dBi (za0 zbl) (zad (zaf 0) zap)) zap)) hi trivial (fun x y=>∃i,i<n/\x=W.cel (ce.length+i)/\y=wT (zcw (rows.getD i []))) (fun x hx=>by
  simp only[Src.items,List.mem_map,List.mem_range] at hx
  obtain⟨i,hi,rfl⟩:=hx
  exact⟨_,⟨i,hi,rfl,rfl⟩,ziz (by omega) (h i) _⟩) (by simp only[Src.items,List.length_map,List.length_range];omega)
 rw[e]
 obtain⟨hl,hn⟩:=VS.Paired.nth pz
 simp only[Src.items,List.length_map,List.length_range] at hl
 have ez:zs=((List.range n).map fun i=>zcw (rows.getD i [])).map wT:=by
  apply List.ext_getElem?
  intro i
  by_cases hi:i<n
  ·have h1:((List.range n).map fun i=>W.cel (ce.length+i))[i]?=some (W.cel (ce.length+i)):=by simp[hi]
   have h2:zs[i]?=some (zs[i]'(by omega)):=List.getElem?_eq_getElem _
   obtain⟨j,_,q1,q2⟩:=hn i _ _ h1 h2
   have hij:i=j:=by
    injection q1 with q1
    omega
   subst hij
   rw[h2,q2]
   simp[hi]
  ·rw[List.getElem?_eq_none (by omega),List.getElem?_eq_none (by simp;omega)]
 rw[zjB _ (by rw[<- hl];omega),ez]
theorem zlB{di:Sl->M Src}{sl:Sl}(hi:di sl ce=some (.ok (.rng 0 n) ce))(h36:n<=36):dLC zbl [] di zdf (zcy zap) sl ce=some (.ok (zkp ce n) (bC ce (List.replicate n []) [])):=by
 have hz:=zgW
 show bnd (di sl) (fun s=>bnd (lcL s (zcR [] sl) zdf (zcy zap) s.items []) zbl) ce=_
 have al:=zgv (s:=.rng 0 n) (cs:=zcR [] sl) (fun _=>trivial) (Src.rng 0 n).items [] ce (by rw[zdZ];simp;omega)
 rw[zbR hi,zbR al,zdZ,zjB _ (by simp;omega)]
 simp[bC,rC,zkp]
end
theorem zhe{fin:Ce->Ce->W->Option (R W)}{n:Nat}{body:DS}{ws:List W}{ce:Ce}{P:W->Ce->Prop}(sl:Sl)(e:ws.map some++List.replicate (n-ws.length) none=sl)(h:Run body sl ce (Rt fun v ce'=>∃w c',fin ce ce' v=some (.ok w c')/\P w c')):∃w c',dFn fin n body ws ce=some (.ok w c')/\P w c':=by
 subst e
 obtain⟨o,e,q⟩:=h
 cases o with
 | ex x c=>exact q.elim
 | go f sl c=>cases f with
  | rt w =>
   obtain⟨w',c',h1,h2⟩:=q
   exact⟨w',c',zmj e h1,h2⟩
  | nx=>exact q.elim
  | bk=>exact q.elim
  | ct=>exact q.elim
theorem zhf{d r:List Nat}{p n:Nat}(e:d++p::r=List.range n):d=List.range p:=by
 have hl:d.length<n:=by have:=congrArg List.length e;simp at this;omega
 have h1:(List.range n)[d.length]?=some p:=by rw[<- e];simp
 rw[List.getElem?_range hl] at h1
 cases h1
 have h2:(List.range n).take d.length=d:=by rw[<- e];simp
 rw[<- h2,List.take_range,Nat.min_eq_left (Nat.le_of_lt hl)]
 simp
structure LsOk (n:Nat) (ls:List (Nat×Nat)):Prop where
 nd:ls.Nodup
 lt:∀p∈ls,p.1<p.2/\p.2<n
theorem zhg{sl:Sl}{ce c1 c2:Ce}{a b:Sl->M W}{x y:W}{xs ys:List W}(ha:a sl ce=some (.ok x c1))(hb:b sl c1=some (.ok y c2))(hx:zcQ c2 x=some xs)(hy:zcQ c2 y=some ys)(hz:xs.length+ys.length<=PySem.sizeLine) :
  zkl zbl a b sl ce=some (.ok (.lst (xs++ys)) c2):=by
 simp only[zkl,bnd,ha,hb,zre,hx,hy,if_pos hz]
 exact zbW (by rw[List.length_append];exact hz)
theorem nodup_map_inj{α β:Type}{f:α->β}{l:List α}(h:l.Nodup)(inj:∀x y,f x=f y->x=y):(l.map f).Nodup:=List.Pairwise.map f (fun a b hab e=>hab (inj a b e)) h
def adj(ls:List (Nat×Nat))(i:Nat):List Nat:=ls.filterMap fun p=>if p.1=i then some p.2 else if p.2=i then some p.1 else none
theorem zfR{ls:List (Nat×Nat)}{n:Nat}(h:LsOk n ls){i j:Nat}:j∈adj ls i↔(i,j)∈ls\/(j,i)∈ls:=by
 unfold adj
 rw[List.mem_filterMap]
 constructor
 ·rintro⟨⟨a,b⟩,hp,e⟩
  simp only at e
  split at e
  ·cases e;rename_i h1;subst h1;exact .inl hp
  ·split at e
   ·cases e;simp_all
   ·cases e
 ·rintro(hp|hp)
  ·exact⟨(i,j),hp,by simp⟩
  ·have:=(h.lt _ hp).1
   simp only at this
   refine⟨(j,i),hp,?_⟩
   simp only
   rw[if_neg (by omega)]
   simp
theorem zj3{ls:List (Nat×Nat)}{n:Nat}(h:LsOk n ls)(i:Nat):(adj ls i).Nodup:=by
 unfold adj
 refine List.Pairwise.filterMap _ ?_ (List.Pairwise.and_mem.mp h.nd)
 rintro⟨a,b⟩ ⟨c,d⟩ ⟨h1,h2,hne⟩ x hx y hy e
 subst e
 have l1:=(h.lt _ h1).1
 have l2:=(h.lt _ h2).1
 simp only at hx hy l1 l2
 apply hne
 split at hx<;>split at hy
 ·cases hx;cases hy;simp_all
 ·split at hy
  ·cases hx;cases hy;simp_all;omega
  ·cases hy
 ·split at hx
  ·cases hx;cases hy;simp_all;omega
  ·cases hx
 ·split at hx
  ·split at hy
   ·cases hx;cases hy;simp_all
   ·cases hy
  ·cases hx
theorem zgD{ls:List (Nat×Nat)}{n:Nat}(h:LsOk n ls){i j:Nat}(hj:j∈adj ls i):j<n/\i<n:=by
 rcases(zfR h).mp hj with hp|hp<;>(have:=h.lt _ hp;simp only at this;omega)
def zhh(n:Nat)(ls:List (Nat×Nat)):List (List Nat):=(List.range n).map fun i=>zcw (adj ls i)
theorem zdE(n:Nat)(ls:List (Nat×Nat))(i:Nat):(zhh n ls).getD i []=if i<n then zcw (adj ls i) else []:=by
 unfold zhh
 rw[List.getD_eq_getElem?_getD,List.getElem?_map]
 by_cases h:i<n
 ·simp[h]
 ·rw[List.getElem?_eq_none (by simp;omega)];simp[h]
structure Brd (b:List (List Nat)):Prop where
 bd:Bd b
 sym:Sym b
 h36:b.length<=36
 pos:0<b.length
 row:∀i,(b.getD i []).length<=36
 srt:∀i,zcw (b.getD i [])=b.getD i []
theorem ziA{l m:List Nat}(h:l.Perm m):zcw l=zcw m:=by unfold zcw;rw[zjD h]
theorem zj4(l:List Nat):(zcw l).Perm l:=by
 have h:(zcw l).Perm ((toI l).map Int.toNat):=(zbt (toI l)).map _
 have e:(toI l).map Int.toNat=l:=by
  unfold toI
  rw[List.map_map]
  conv=>rhs;rw[<- List.map_id l]
  apply List.map_congr_left
  intro x _
  simp
 rwa [e] at h
theorem zj5(l:List Nat):zcw (zcw l)=zcw l:=ziA (zj4 l)
theorem znY{n:Nat}{ls:List (Nat×Nat)}(h:LsOk n ls)(h0:0<n)(h36:n<=36):Brd (zhh n ls):=by
 have hl:(zhh n ls).length=n:=by simp[zhh]
 refine⟨fun r hr x hx=>?_,fun i j hj=>?_,by omega,by omega,fun i=>?_,fun i=>?_⟩
 ·obtain⟨i,hi,rfl⟩:=List.mem_map.mp hr
  rw[hl]
  exact(zgD h ((zdC _ _).mp hx)).1
 ·rw[zdE] at hj ⊢
  split at hj
  ·have hj:=(zdC _ _).mp hj
   rw[if_pos (zgD h hj).1]
   exact(zdC _ _).mpr ((zfR h).mpr ((zfR h).mp hj).symm)
  ·simp at hj
 ·rw[zdE]
  split
  ·rw[zcV]
   exact Nat.le_trans (zaw (zj3 h i) fun x hx=>(zgD h hx).1) h36
  ·simp
 ·rw[zdE]
  split
  ·exact zj5 _
  ·exact List.length_eq_zero_iff.mp (zcV [])
theorem znZ(d:List (Nat×Nat))(p q i:Nat)(hpq:p≠q):adj (d++[(p,q)]) i=adj d i++((if i=p then [q] else [])++(if i=q then [p] else [])):=by
 unfold adj
 rw[List.filterMap_append]
 congr 1
 by_cases h1:i=p
 ·subst h1
  have:¬i=q:=hpq
  simp[this]
 ·by_cases h2:i=q
  ·subst h2
   simp[h1,hpq]
  ·have h1':¬p=i:=fun e=>h1 e.symm
   have h2':¬q=i:=fun e=>h2 e.symm
   simp[h1,h2,h1',h2']
theorem zlC(n:Nat)(d:List (Nat×Nat)){p q:Nat}(hp:p<n)(hq:q<n)(hpq:p≠q):zp7 ((List.range n).map (adj d)) p q=(List.range n).map (adj (d++[(p,q)])):=by
 have gd:∀(e:List (Nat×Nat)) (i:Nat),i<n->((List.range n).map (adj e)).getD i []=adj e i:=fun e i hi=>by simp[List.getD_eq_getElem?_getD,hi]
 apply List.ext_getElem?
 intro i
 by_cases hi:i<n
 ·have e1:∀(l:List (List Nat)),l.length=n->l[i]?=some (l.getD i []):=fun l hl=>by
   rw[List.getD_eq_getElem?_getD,List.getElem?_eq_getElem (by omega)];rfl
  rw[e1 _ (by rw[zhV];simp),e1 _ (by simp),gd _ i hi,znZ d p q i hpq]
  unfold zp7
  rw[zfQ (by rw[zhd];simpa using hq),zfQ (by simpa using hp),zfQ (by simpa using hp),gd _ _ hp,gd _ _ hq,gd _ _ hi]
  congr 1
  by_cases h1:i=q
  ·subst h1
   rw[if_pos rfl,if_neg (Ne.symm hpq),if_pos rfl,if_neg (Ne.symm hpq)]
   simp
  ·rw[if_neg h1,if_neg h1]
   by_cases h2:i=p
   ·subst h2;simp
   ·simp[h2]
 ·rw[List.getElem?_eq_none (by rw[zhV];simp;omega),List.getElem?_eq_none (by simp;omega)]
theorem zqa{sl:Sl}{ce c1:Ce}{a:Sl->M W}{x:W}{xs:List W}{n:Nat}{i:Int}(ha:a sl ce=some (.ok x c1))(hx:zcQ c1 x=some xs)(ei:i=(n:Int))(h:n<=xs.length)(hz:xs.length<=PySem.sizeLine):dSl zbl a (zba (dC (.int i))) zaZ sl ce=some (.ok (.lst (xs.drop n)) c1):=by
 subst ei
 have e1:HT.sIx xs.length 0 (some (n:Int))=n:=by rw[HT.sIx_nat];omega
 have e2:HT.sIx xs.length xs.length none=xs.length:=rfl
 have hb':zba (dC (.int (n:Int))) sl c1=some (.ok (some (n:Int)) c1):=zbX zbP
 simp only[dSl,bnd,ha,zaZ,ret,hb',slW,hx,zeQ,e1,e2]
 rw[List.take_of_length_le (by rw[List.length_drop];omega)]
 refine zbW ?_
 rw[List.length_drop];omega
theorem zfS{sl:Sl}{ce c1 c2 c3:Ce}{a:Sl->M W}{x:W}{xs:List W}{dl dh:Sl->M (Option Int)}{lo hi:Option Int}(ha:a sl ce=some (.ok x c1))(hl:dl sl c1=some (.ok lo c2))(hh:dh sl c2=some (.ok hi c3))(hx:zcQ c3 x=some xs)(hz:xs.length<=PySem.sizeLine):dSl zbl a dl dh sl ce=some (.ok (.lst (zeQ xs lo hi)) c3):=by
 simp only[dSl,bnd,ha,hl,hh,slW,hx]
 refine zbW ?_
 unfold zeQ
 rw[List.length_take,List.length_drop];omega
theorem zfT(xs:List Int)(lo hi:Option Int):∃ys:List Int,zeQ (xs.map W.int) lo hi=ys.map W.int/\ys.length<=xs.length/\∀y∈ys,y∈xs:=by
 unfold zeQ
 rw[<- List.map_drop,<- List.map_take]
 exact⟨_,rfl,by rw[List.length_take,List.length_drop];omega,fun y hy=>List.mem_of_mem_drop (List.mem_of_mem_take hy)⟩
section
variable {ce:Ce}
theorem zc8(fu:Nat)(c:Int){m:Nat}(hm:m<=999):∃xs:List Int,d__law_stream fu [.int c,nW m] ce=some (.ok (sW xs) ce)/\xs.length=m/\∀x∈xs,0<=x/\x<2147483647:=by
 have hz:1100<PySem.sizeLine:=by decide
 suffices hs:∃w c',d__law_stream fu [.int c,nW m] ce=some (.ok w c')/\∃xs:List Int,w=sW xs/\c'=ce/\xs.length=m/\∀x∈xs,0<=x/\x<2147483647 by
  obtain⟨w,c',e,xs,rfl,rfl,h⟩:=hs
  exact⟨xs,e,h⟩
 have f1:zb3 (nW m) (.int 1)=some (nW (m+1)):=zcb (i:=m) (j:=1) rfl rfl
 have m1000:m+1<=1000:=by omega
 unfold d__law_stream
 refine zhe [some (.int c),some (nW m),none,none,none] rfl ?_
 refine zan (zfr zar (Nat.zero_le _)) ?_
 refine zaj (by repeat (first|exact SetAt.zero|apply SetAt.succ)) ?_
 have O0:=(Own.start ce).alloc (C.lst [])
 generalize hk:ce.length=k2 at O0 ⊢
 generalize ce++[C.lst []]=c0 at O0 ⊢
 refine zan (w:=.int (c % 2147483647+48271)) (ce':=c0) (by trivial) ?_
 refine zaj (by repeat (first|exact SetAt.zero|apply SetAt.succ)) ?_
 refine zbn (zs:=List.range (m+1)) (en:=nW) (zet (by trivial) m1000)
  (fun d sl c'=>∃xs:List Int,∃u:Int,∃x4,sl=[some (.int c),some (nW m),some (.cel k2),some (.int u),x4]/\Own ce c' [(k2,C.lst (xs.map W.int))]/\0<=u/\u<4294967296/\xs.length=d.length/\∀x∈xs,0<=x/\x<2147483647)
  ⟨[],_,_,rfl,O0,by omega,by omega,rfl,by simp⟩ ?_ ?_
 ·rintro d j r sl c' e hj ⟨xs,u,x4,rfl,O,u0,u1,hl,hx⟩
  have hj:=List.mem_range.mp hj
  have hdl:d.length<=1000:=by have:=congrArg List.length e;simp at this;omega
  have g2:=O.g0
  have hm2:(xs.map W.int).length<PySem.sizeLine:=by rw[List.length_map];omega
  have mu:CMul u u:=.inl (by omega)
  have mu2:CMul 48271 u:=.inl (by omega)
  unfold zcF
  trivial
  refine⟨xs++[(u*u+48271*u+(j:Int)) % 2147483647],_,_,rfl,by rw[List.map_append];exact O.set0 _,by omega,by omega,by simp[hl],fun x hx'=>?_⟩
  rcases List.mem_append.mp hx' with h|h
  ·exact hx x h
  ·rw[List.mem_singleton] at h;subst h;omega
 ·rintro sl c' ⟨xs,u,x4,rfl,O,u0,u1,hl,hx⟩
  rw[List.length_range] at hl
  refine zaB (zqa (xs:=xs.map W.int) (n:=1) (zal rfl) (zcT O.g0) rfl (by rw[List.length_map];omega) (by rw[List.length_map];omega)) ?_
  rw[<- List.map_drop]
  subst hk
  refine⟨_,_,O.finC (by simp only[Bel];exact belInts _ _),xs.drop 1,rfl,rfl,by rw[List.length_drop];omega,fun x hx'=>hx x (List.mem_of_mem_drop hx')⟩
theorem zj6(fu:Nat){n:Nat}{ls:List (Nat×Nat)}(n0:0<n)(h36:n<=36)(L:LsOk n ls):d__law_joined fu [nW n,.lst (ls.map pW)] ce=some (.ok (wB (zhh n ls)) ce):=by
 have hz:=zgW
 unfold d__law_joined
 refine zcq [some (nW n),some (.lst (ls.map pW)),none,none,none] rfl ?_
 refine zan (zlB (ce:=ce) (n:=n) (zjL (by trivial) (by omega)) (by omega)) ?_
 refine zaj (by repeat (first|exact SetAt.zero|apply SetAt.succ)) ?_
 refine zlm (zs:=ls) (fa:=fun p=>nW p.1) (fb:=fun p=>nW p.2) (c1:=bC ce (List.replicate n []) []) (zgw (by trivial))
  (fun d sl c=>∃x3 x4,sl=[some (nW n),some (.lst (ls.map pW)),some (zkp ce n),x3,x4]/\c=bC ce ((List.range n).map (adj d)) [])
  ⟨_,_,rfl,by
   congr 2
   apply List.ext_getElem?
   intro i
   by_cases hi:i<n
   ·simp[hi,adj]
   ·rw[List.getElem?_eq_none (by simp;omega),List.getElem?_eq_none (by simp;omega)]⟩ ?_ ?_
 ·rintro d ⟨p,q⟩ r sl c e hp ⟨x3,x4,rfl,rfl⟩
  have lt:=L.lt _ hp
  simp only at lt
  have Ld:LsOk n d:=by
   rw[<- e] at L
   exact⟨(List.nodup_append.mp L.nd).1,fun x hx=>L.lt x (List.mem_append_left _ hx)⟩
  have hz2:∀i,(((List.range n).map (adj d)).getD i []).length<1000:=fun i=>by
   by_cases hi:i<n
   ·have:((List.range n).map (adj d)).getD i []=adj d i:=by simp[List.getD_eq_getElem?_getD,hi]
    rw[this]
    have:=zaw (zj3 Ld i) fun x hx=>(zgD Ld hx).1
    omega
   ·rw[List.getD_eq_getElem?_getD,List.getElem?_eq_none (by simp;omega)];simp
  unfold zcG
  refine zpD (ap2 (ce:=ce) (n:=n) (mS:=2) (rows:=(List.range n).map (adj d)) (gs:=[]) (sl:=[some (nW n),some (.lst (ls.map pW)),some (zkp ce n),some (nW p),some (nW q)]) (a:=3) (b:=4) (p:=p) (q:=q) rfl rfl rfl (by simp) (by omega) (by omega) hz2) ?_
  exact⟨_,_,rfl,by rw[zlC n d (by omega) (by omega) (by omega)]⟩
 ·rintro sl c ⟨x3,x4,rfl,rfl⟩
  have hb60:∀i,(((List.range n).map (adj ls)).getD i []).length<=60:=fun i=>by
   by_cases hi:i<n
   ·have:((List.range n).map (adj ls)).getD i []=adj ls i:=by simp[List.getD_eq_getElem?_getD,hi]
    rw[this]
    have:=zaw (zj3 L i) fun x hx=>(zgD L hx).1
    omega
   ·rw[List.getD_eq_getElem?_getD,List.getElem?_eq_none (by simp;omega)];simp
  have er:=zgC (ce:=ce) (gs:=[]) (mS:=2) (rows:=(List.range n).map (adj ls)) (n:=n) (by simp) (by omega) hb60 (sl:=[some (nW n),some (.lst (ls.map pW)),some (zkp ce n),x3,x4]) rfl
  have eb:((List.range n).map fun i=>zcw (((List.range n).map (adj ls)).getD i []))=zhh n ls:=by
   unfold zhh
   apply List.map_congr_left
   intro i hi
   have hi:=List.mem_range.mp hi
   simp[List.getD_eq_getElem?_getD,hi]
  rw[eb] at er
  have hlb:(zhh n ls).length<=PySem.sizeLine:=by simp[zhh];omega
  refine zaB (zby (zak er zar) (zpN hlb)) ?_
  have Oe:Own ce (bC ce ((List.range n).map (adj ls)) []) []:=⟨⟨_,rfl⟩,by simp,by simp,by simp⟩
  exact Oe.finC (zpC _ _)
end
theorem zb2{ns:List Int}{p:Nat}(h:p<ns.length)(c:Ce){i:Int}(ei:i=(p:Int)):ixW c (sW ns) (.int i)=some (.int (ns.getD p 0)):=by
 subst ei
 show ixW c (.lst (ns.map W.int)) (nW p)=_
 rw[zfp (xs:=ns.map W.int) rfl,List.getElem?_map,List.getD_eq_getElem?_getD,List.getElem?_eq_getElem h];rfl
theorem zfU{ns:List Int}{p:Nat}(h:p<ns.length):ns.getD p 0∈ns:=by
 rw[List.getD_eq_getElem?_getD,List.getElem?_eq_getElem h];exact List.getElem_mem h
section
variable {ce:Ce}
set_option maxHeartbeats 0 in
theorem zlD(fu:Nat){xs:List Int}(hx3:3<=xs.length)(hx:∀x∈xs,0<=x/\x<2147483647) :
  ∃many ls,zoe (d__law_lines fu) [sW xs] ce=some (.ok (.tup [nW many,.lst (ls.map pW)]) ce)/\0<many/\many<=36/\LsOk many ls:=by
 have hz:2000<PySem.sizeLine:=by decide
 have z2:2<=PySem.sizeLine:=by decide
 have z4:4<=PySem.sizeLine:=by decide
 suffices h:∃w c,d__law_lines fu [sW xs] ce=some (.ok w c)/\∃many ls l,Own ce c l/\zeu ce.length c 6 w=some (.tup [nW many,.lst (ls.map pW)])/\0<many/\many<=36/\LsOk many ls by
  obtain⟨w,c,e,many,ls,l,O,ht,r⟩:=h
  exact⟨many,ls,Own.frzD' e O (Chg.refl ce) ht,r⟩
 have i0:=fun c=>zb2 (ns:=xs) (p:=0) (by omega) c (i:=0) rfl
 have i1:=fun c=>zb2 (ns:=xs) (p:=1) (by omega) c (i:=1) rfl
 have i2:=fun c=>zb2 (ns:=xs) (p:=2) (by omega) c (i:=2) rfl
 have b0:=hx _ (zfU (ns:=xs) (p:=0) (by omega))
 have b1:=hx _ (zfU (ns:=xs) (p:=1) (by omega))
 have b2:=hx _ (zfU (ns:=xs) (p:=2) (by omega))
 generalize xs.getD 0 0=a0 at i0 b0
 generalize xs.getD 1 0=a1 at i1 b1
 generalize xs.getD 2 0=a2 at i2 b2
 have i0c:=i0 ce
 have i1c:=i1 ce
 have i2c:=i2 ce
 unfold d__law_lines
 refine zhe [some (sW xs),none,none,none,none,none,none,none] rfl ?_
 refine za1 (p:=decide (a1 % 4=0)) (ce':=ce) (by trivial) (fun q=>?_) (fun q=>?_)
 ·-- a grid
  obtain⟨wd0,hwd0⟩:∃wd:Nat,1+a0 % 4=wd:=⟨(1+a0 % 4).toNat,by omega⟩
  obtain⟨n0,hn0⟩:∃n:Nat,(wd0:Int)*(1+a2 % 4)=n:=⟨wd0*(1+a2 % 4).toNat,by rw[Int.natCast_mul];congr 1;omega⟩
  have mu0:CMul (wd0:Int) (1+a2 % 4):=.inl (by omega)
  have f0:zb3 (.int 1) (.int (a0 % 4))=some (nW wd0):=by rw[zcb rfl rfl,hwd0];rfl
  have f1:ze8 (nW wd0) (.int (1+a2 % 4))=some (nW n0):=by
   show ze8 (.int wd0) (.int (1+a2 % 4))=some (.int n0)
   rw[zgs mu0,hn0]
  refine zb8 ?_
  refine zan (w:=nW wd0) (ce':=ce) (by trivial) ?_
  refine zaj (by repeat (first|exact SetAt.zero|apply SetAt.succ)) ?_
  refine zb8 ?_
  refine zan (w:=nW n0) (ce':=ce) (by trivial) ?_
  refine zaj (by repeat (first|exact SetAt.zero|apply SetAt.succ)) ?_
  refine zb8 ?_
  have last:∀(wd hg n:Nat),0<wd->0<hg->wd*hg=n->n<=36->∀(tail:DS),Run (zav (zav (zbj 3 (dLC zgG [1] (zgH (zad (dOp zhv (zaf 2) (zaf 1)) zap)) zdf (zem (zad (zaf 0) (zad (dOp zb3 (zaf 0) (zaf 1)) zap)))))
    (zav (zbj 4 (dLC zbl [1] (zgH (zad (dOp zhv (zaf 2) (dC (.int 1))) zap)) (dB (dOp fGt (dOp zbA (dOp zb3 (zaf 0) (dC (.int 1))) (zaf 1)) (dC (.int 0)))) (zaf 0)))
    (zbO (zem (zad (zaf 2) (zad (zkl zbl (zaf 3) (dLC zbl [] (dIL (zaf 4)) zdf (zem (zad (zaf 0) (zad (dOp zb3 (zaf 0) (dC (.int 1))) zap))))) zap)))))) tail)
    [some (sW xs),some (nW wd),some (nW n),none,none,none,none,none] ce
    (Rt fun v ce'=>∃w c',zni ce ce' v=some (.ok w c')/\∃many ls l,Own ce c' l/\zeu ce.length c' 6 w=some (.tup [nW many,.lst (ls.map pW)])/\0<many/\many<=36/\LsOk many ls):=by
   intro wd hg n w1 h1 hn n36 tail
   have n0:0<n:=by rw[<- hn];exact Nat.mul_pos w1 h1
   have wn:wd<=n:=by rw[<- hn];exact Nat.le_mul_of_pos_right wd h1
   have sb:zhv (nW n) (nW wd)=some (nW (n-wd)):=by
    refine(zfu (x:=nW n) (y:=nW wd) (i:=n) (j:=wd) rfl rfl).trans ?_
    have:((n:Int)-(wd:Int))=((n-wd:Nat):Int):=by omega
    rw[this];rfl
   have sb1:zhv (nW n) (.int 1)=some (nW (n-1)):=by
    refine(zfu (x:=nW n) (y:=.int 1) (i:=n) (j:=1) rfl rfl).trans ?_
    have:((n:Int)-1)=((n-1:Nat):Int):=by omega
    rw[this];rfl
   have md:∀p:Nat,zbA (.int ((p:Int)+1)) (nW wd)=some (.int (((p:Int)+1) % (wd:Int))):=fun p=>zcK (i:=(p:Int)+1) (j:=wd) rfl rfl (by omega)
   have nz:(List.range (n-wd)).length<=PySem.sizeLine:=by rw[List.length_range];omega
   have nz2:(List.range (n-1)).length<=PySem.sizeLine:=by rw[List.length_range];omega
   have r1:n-wd<=1000:=by omega
   have r2:n-1<=1000:=by omega
   refine zb8 ?_
   refine zan (zru (zs:=List.range (n-wd)) (en:=nW) (g:=fun p=>pW (p,p+wd)) (zet (by trivial) r1).is nz (fun p hp=>?_)) ?_
   ·have e:pW (p,p+wd)=.tup [nW p,.int ((p:Int)+wd)]:=by simp[pW,nW]
    rw[e]
    trivial
   refine zaj (by repeat (first|exact SetAt.zero|apply SetAt.succ)) ?_
   have O1:=(Own.start ce).alloc (C.lst ((List.range (n-wd)).map fun p=>pW (p,p+wd)))
   generalize ce.length=k3 at O1 ⊢
   generalize hc1:ce++[C.lst ((List.range (n-wd)).map fun p=>pW (p,p+wd))]=c1 at O1 ⊢
   have g3:=zcT O1.g0
   let t:Nat->Bool:=fun p=>decide ((0:Int)<((p:Int)+1) % (wd:Int))
   refine zb8 ?_
   refine zan (w:=wL ((List.range (n-1)).filter t)) (ce':=c1) (zrv (zs:=List.range (n-1)) (en:=nW) (t:=t) (zet (by trivial) r2).is nz2 (fun p hp=>?_)) ?_
   ·have:=md p
    trivial
   refine zaj (by repeat (first|exact SetAt.zero|apply SetAt.succ)) ?_
   have hl1:((List.range (n-1)).filter t).length<=36:=by have:=List.length_filter_le t (List.range (n-1));rw[List.length_range] at this;omega
   refine zcp ?_
   refine zaB (zcf (ws:=[nW n,.lst (((List.range (n-wd)).map fun p=>pW (p,p+wd))++((List.range (n-1)).filter t).map fun p=>pW (p,p+1))]) (c1:=c1) (zak (by trivial) (zak (zhg (by trivial) (zqp (zs:=(List.range (n-1)).filter t) (en:=nW) (g:=fun p=>pW (p,p+1)) (znu (by trivial) (.fr _)) (by omega) (fun p hp=>?_)) g3 rfl ?_) zar)) z2) ?_
   ·have e:pW (p,p+1)=.tup [nW p,.int ((p:Int)+1)]:=by simp[pW,nW]
    rw[e]
    trivial
   ·rw[List.length_map,List.length_map,List.length_range];omega
   ·refine⟨_,_,rfl,n,((List.range (n-wd)).map fun p=>(p,p+wd))++(((List.range (n-1)).filter t).map fun p=>(p,p+1)),_,O1,?_,n0,n36,?_⟩
    ·have e:((List.range (n-wd)).map fun p=>pW (p,p+wd))++(((List.range (n-1)).filter t).map fun p=>pW (p,p+1))=(((List.range (n-wd)).map fun p=>(p,p+wd))++(((List.range (n-1)).filter t).map fun p=>(p,p+1))).map pW:=by rw[List.map_append,List.map_map,List.map_map];rfl
     rw[e]
     simp only[zeu,zck,zg3,zfz,Option.map_some]
    ·constructor
     ·rw[List.nodup_append]
      refine⟨nodup_map_inj List.nodup_range (fun x y h=>by simpa using congrArg Prod.fst h),nodup_map_inj (List.Pairwise.filter _ List.nodup_range) (fun x y h=>by simpa using congrArg Prod.fst h),?_⟩
      intro a ha c hc e
      subst e
      obtain⟨x,hx,e⟩:=List.mem_map.mp ha
      obtain⟨y,hy,rfl⟩:=List.mem_map.mp hc
      have hy':=of_decide_eq_true (List.mem_filter.mp hy).2
      injection e with e1 e2
      subst e1
      have:wd=1:=by omega
      subst this
      omega
     ·intro p hp
      rcases List.mem_append.mp hp with hp|hp
      ·obtain⟨x,hx,rfl⟩:=List.mem_map.mp hp
       have hx:=List.mem_range.mp hx
       exact⟨by show x<x+wd;omega,by show x+wd<n;omega⟩
      ·obtain⟨x,hx,rfl⟩:=List.mem_map.mp hp
       have hx:=List.mem_range.mp (List.mem_filter.mp hx).1
       exact⟨by show x<x+1;omega,by show x+1<n;omega⟩
  have dv:zgR (.int a2) (.int 4)=some (.int (a2 / 4)):=zd2 (i:=a2) (j:=4) rfl rfl (by omega)
  refine za1 (p:=decide (a2 / 4 % 9=0)) (ce':=ce) (by trivial) (fun _=>?_) (fun _=>?_)
  ·obtain⟨wd,hwd⟩:∃wd:Nat,3+a0 % 4=wd:=⟨(3+a0 % 4).toNat,by omega⟩
   have f2:zb3 (.int 3) (.int (a0 % 4))=some (nW wd):=by rw[zcb rfl rfl,hwd];rfl
   have f3:ze8 (.int 6) (nW wd)=some (nW (wd*6)):=by
    show ze8 (.int 6) (.int wd)=some (.int ((wd*6:Nat):Int))
    rw[zgs (.inl (by omega))]
    congr 2
    omega
   refine zb8 ?_
   refine zan (w:=nW wd) (ce':=ce) (by trivial) ?_
   refine zaj (by repeat (first|exact SetAt.zero|apply SetAt.succ)) ?_
   refine zan (w:=nW (wd*6)) (ce':=ce) (by trivial) ?_
   refine zaj (by repeat (first|exact SetAt.zero|apply SetAt.succ)) ?_
   exact last wd 6 _ (by omega) (by omega) rfl (by omega) _
  ·refine zaF ?_
   obtain⟨hg,hhg⟩:∃hg:Nat,1+a2 % 4=hg:=⟨(1+a2 % 4).toNat,by omega⟩
   have en:wd0*hg=n0:=by
    rw[hhg,<- Int.natCast_mul] at hn0
    exact Int.ofNat.inj hn0
   have:n0<=36:=by
    rw[<- en]
    exact Nat.le_trans (Nat.mul_le_mul (by omega:wd0<=4) (by omega:hg<=4)) (by omega)
   exact last wd0 hg _ (by omega) (by omega) en this _
 ·-- a row,a ring,drawn lines
  refine zaF ?_
  have q':=of_decide_eq_false q
  obtain⟨way,hway⟩:∃way:Nat,a1 % 4=way:=⟨(a1 % 4).toNat,by omega⟩
  have hway4:way<4:=by omega
  have m0:zbA (.int a1) (.int 4)=some (nW way):=by rw[zcK (i:=a1) (j:=4) rfl rfl (by omega),hway];rfl
  obtain⟨md,hmd,hmd1,hmd2⟩:∃md:Nat,ixW ce (.lst [.int 0,.int 7,.int 9,.int 5]) (nW way)=some (nW md)/\0<md/\md<=9:=by
   have:way=1\/way=2\/way=3:=by omega
   rcases this with rfl|rfl|rfl
   ·exact⟨7,rfl,by omega,by omega⟩
   ·exact⟨9,rfl,by omega,by omega⟩
   ·exact⟨5,rfl,by omega,by omega⟩
  obtain⟨r,hr,er⟩:=zdk a0 (n:=md) hmd1
  have m1:zbA (.int a0) (nW md)=some (nW r):=zeS hmd1 er
  obtain⟨n,hn⟩:∃n:Nat,1+r=n:=⟨_,rfl⟩
  have f1:zb3 (.int 1) (nW r)=some (nW n):=by
   refine(zcb (x:=.int 1) (y:=nW r) (i:=1) (j:=r) rfl rfl).trans ?_
   have:(1:Int)+(r:Int)=((n:Nat):Int):=by omega
   rw[this];rfl
  have n9:0<n/\n<=9:=by omega
  refine zan (w:=nW n) (ce':=ce) (zb9 (by trivial) (zb9 (by trivial) (zbL (x:=.lst [.int 0,.int 7,.int 9,.int 5]) (y:=nW way) (zbM (ws:=[.int 0,.int 7,.int 9,.int 5]) (by trivial) z4) (by trivial) hmd) m1) f1) ?_
  refine zaj (by repeat (first|exact SetAt.zero|apply SetAt.succ)) ?_
  have sb1:zhv (nW n) (.int 1)=some (nW (n-1)):=by
   refine(zfu (x:=nW n) (y:=.int 1) (i:=n) (j:=1) rfl rfl).trans ?_
   have:((n:Int)-1)=((n-1:Nat):Int):=by omega
   rw[this];rfl
  have nz2:(List.range (n-1)).length<=PySem.sizeLine:=by rw[List.length_range];omega
  have r2:n-1<=1000:=by omega
  refine zan (zru (zs:=List.range (n-1)) (en:=nW) (g:=fun p=>pW (p,p+1)) (zet (by trivial) r2).is nz2 (fun p hp=>?_)) ?_
  ·have e:pW (p,p+1)=.tup [nW p,.int ((p:Int)+1)]:=by simp[pW,nW]
   rw[e]
   trivial
  refine zaj (by repeat (first|exact SetAt.zero|apply SetAt.succ)) ?_
  have el:(List.range (n-1)).map (fun p=>pW (p,p+1))=((List.range (n-1)).map fun p=>(p,p+1)).map pW:=by rw[List.map_map];rfl
  rw[el]
  have L0:LsOk n ((List.range (n-1)).map fun p=>(p,p+1)):=⟨nodup_map_inj List.nodup_range (fun x y h=>by simpa using congrArg Prod.fst h),fun p hp=>by
   obtain⟨x,hx,rfl⟩:=List.mem_map.mp hp
   have hx:=List.mem_range.mp hx
   exact⟨by show x<x+1;omega,by show x+1<n;omega⟩⟩
  have ll0:((List.range (n-1)).map fun p=>(p,p+1)).length<=36:=by rw[List.length_map,List.length_range];omega
  have hno:2<n->(0,n-1)∉(List.range (n-1)).map fun p=>(p,p+1):=fun h2 hm=>by
   obtain⟨x,_,e⟩:=List.mem_map.mp hm
   injection e with e1 e2
   omega
  generalize (List.range (n-1)).map (fun p=>(p,p+1))=ls0 at L0 ll0 hno ⊢
  have O1:=(Own.start ce).alloc (C.lst (ls0.map pW))
  generalize hk3:ce.length=k3 at O1 ⊢
  generalize ce++[C.lst (ls0.map pW)]=c1 at O1 ⊢
  have fin:∀(ls:List (Nat×Nat)) (c:Ce) (l:List (Nat×C)) (k:Nat) (x5 x6 x7:Option W),LsOk n ls->Own ce c ((k,C.lst (ls.map pW))::l)->Run (zbO (zem (zad (zaf 2) (zad (zaf 3) zap)))) [some (sW xs),none,some (nW n),some (.cel k),none,x5,x6,x7] c
    (Rt fun v ce'=>∃w c',zni ce ce' v=some (.ok w c')/\∃many ls l,Own ce c' l/\zeu k3 c' 6 w=some (.tup [nW many,.lst (ls.map pW)])/\0<many/\many<=36/\LsOk many ls):=by
   intro ls c l k x5 x6 x7 L O
   refine zaB (zcf (ws:=[nW n,.cel k]) (c1:=c) (by trivial) z2) ?_
   refine⟨_,_,rfl,n,ls,_,O,?_,n9.1,by omega,L⟩
   have hk:¬k<k3:=by have:=O.ge _ List.mem_cons_self;rw[<- hk3];omega
   have g:=O.g0
   simp only[zeu,zck,zg3,if_neg hk,g,zfz,Option.map_some]
  have i1c1:=i1 c1
  have i2c1:=i2 c1
  have m2:zbA (.int a2) (.int 2)=some (.int (a2 % 2)):=zcK (i:=a2) (j:=2) rfl rfl (by omega)
  have gt2:fGt (nW n) (.int 2)=some (.bl (decide (2<(n:Int)))):=zjO (i:=n) (j:=2) rfl rfl
  have hm3:(ls0.map pW).length<PySem.sizeLine:=by rw[List.length_map];omega
  have way1:zdz (nW way) (.int 1)=some (.bl (decide ((way:Int)=1))):=zfv (i:=way) (j:=1) rfl rfl
  have wgt:∀c:Ce,dB (dOp fGt (dOp zbA (zaR ixW (zaf 0) (dC (.int 1))) (dC (.int 4))) (dC (.int 1))) [some (sW xs),none,some (nW n),some (.cel k3),none,none,none,none] c=some (.ok (decide (1<(way:Int))) c):=fun c=>by
   have i1':=i1 c
   have w2:fGt (nW way) (.int 1)=some (.bl (decide (1<(way:Int)))):=zjO (i:=way) (j:=1) rfl rfl
   trivial
  refine za1 (p:=decide ((way:Int)=1)&&(decide (2<(n:Int))&&decide (a2 % 2=0))) (ce':=c1) (by trivial) (fun q2=>?_) (fun q2=>?_)
  ·simp only[Bool.and_eq_true,decide_eq_true_eq] at q2
   have hn2:2<n:=by omega
   refine zjH (w:=.non) (ce':=c1.set k3 (C.lst (ls0.map pW++[pW (0,n-1)]))) (zlc (ws:=[pW (0,n-1)]) (by trivial) (zcT O1.g0) (zak (zcf (ws:=[.int 0,nW (n-1)]) (by trivial) z2) zar) (by rw[zk8 (zdX O1.g0) hm3])) ?_
   have O2:=O1.set0 (C.lst (ls0.map pW++[pW (0,n-1)]))
   have e2:ls0.map pW++[pW (0,n-1)]=(ls0++[(0,n-1)]).map pW:=by simp
   rw[e2] at O2 ⊢
   generalize c1.set k3 (C.lst ((ls0++[(0,n-1)]).map pW))=c2 at O2 ⊢
   refine za1 (p:=decide (1<(way:Int))) (ce':=c2) (wgt c2) (fun q3=>absurd (of_decide_eq_true q3) (by omega)) (fun _=>?_)
   refine zaF ?_
   refine fin _ c2 _ k3 _ _ _ ⟨?_,fun p hp=>?_⟩ O2
   ·rw[List.nodup_append]
    exact⟨L0.nd,by simp,fun a ha b hb=>by rw[List.mem_singleton] at hb;subst hb;intro e;subst e;exact hno hn2 ha⟩
   ·rcases List.mem_append.mp hp with hp|hp
    ·exact L0.lt p hp
    ·rw[List.mem_singleton] at hp;subst hp;exact⟨by show 0<n-1;omega,by show n-1<n;omega⟩
  ·refine zaF ?_
   refine za1 (p:=decide (1<(way:Int))) (ce':=c1) (wgt c1) (fun q3=>?_) (fun _=>?_)
   ·obtain⟨nn,hnn⟩:∃nn:Nat,n*n=nn:=⟨_,rfl⟩
    have nn81:nn<=81:=by rw[<- hnn];exact Nat.mul_le_mul n9.2 n9.2
    have fm:ze8 (nW n) (nW n)=some (nW nn):=by
     show ze8 (.int n) (.int n)=some (.int (nn:Int))
     rw[zgs (.inl (by omega)),<- hnn,Int.natCast_mul]
    obtain⟨ys,e5,hyl,hy⟩:=zc8 (ce:=c1) fu a2 (m:=nn) (by omega)
    refine zb8 ?_
    refine zan (w:=sW ys) (ce':=c1) (zaO (ws:=[.int a2,nW nn]) (by trivial) rfl e5) ?_
    refine zaj (by repeat (first|exact SetAt.zero|apply SetAt.succ)) ?_
    refine zb8 ?_
    refine zan (zfr zar (Nat.zero_le _)) ?_
    refine zaj (by repeat (first|exact SetAt.zero|apply SetAt.succ)) ?_
    have O2:=(O1.alloc (C.lst [])).perm (.swap _ _ _) |>.drop
    have O2:=O1.drop.alloc (C.lst [])
    generalize c1.length=k4 at O2 ⊢
    generalize c1++[C.lst []]=c2 at O2 ⊢
    have n1000:n<=1000:=by omega
    refine zbn (zs:=List.range n) (en:=nW) (zet (by trivial) n1000)
     (fun d sl c=>∃ls x6 x7,sl=[some (sW xs),none,some (nW n),some (.cel k4),none,some (sW ys),x6,x7]/\Own ce c [(k4,C.lst (ls.map pW))]/\ls.Nodup/\ls.length<=40*d.length/\∀p∈ls,p.1<p.2/\p.2<d.length)
     ⟨[],_,_,rfl,O2,by simp,by simp,by simp⟩ ?_ ?_
    ·rintro d p r' sl c e hp ⟨ls,x6,x7,rfl,O,nd,hl,lt⟩
     have hp':p<n:=List.mem_range.mp hp
     have hd:=zhf e
     have hdl:d.length=p:=by rw[hd,List.length_range]
     have p1000:p<=1000:=by omega
     unfold zc0
     refine zca (zs:=List.range p) (en:=nW) (zet (by trivial) p1000)
      (fun d' sl c=>∃ls x7,sl=[some (sW xs),none,some (nW n),some (.cel k4),none,some (sW ys),some (nW p),x7]/\Own ce c [(k4,C.lst (ls.map pW))]/\ls.Nodup/\ls.length<=40*p+d'.length/\∀q∈ls,q.1<q.2/\(q.2<p\/(q.2=p/\q.1<d'.length)))
      ⟨ls,x7,rfl,O,nd,by simpa[hdl] using hl,fun q hq=>⟨(lt q hq).1,.inl (by have:=(lt q hq).2;omega)⟩⟩ ?_ ?_
     ·rintro d' q r'' sl c e' hq ⟨ls,x7,rfl,O,nd,hl,lt⟩
      have hq':q<p:=List.mem_range.mp hq
      have hd':=zhf e'
      have hdl':d'.length=q:=by rw[hd',List.length_range]
      have g5:=O.g0
      have hm:(ls.map pW).length<PySem.sizeLine:=by rw[List.length_map];omega
      obtain⟨ix,hix⟩:∃ix:Nat,p*n+q=ix:=⟨_,rfl⟩
      have hixl:ix<ys.length:=by
       rw[hyl,<- hnn,<- hix]
       have:(p+1)*n<=n*n:=Nat.mul_le_mul_right n hp'
       rw[Nat.add_mul] at this
       omega
      have fm2:ze8 (nW p) (nW n)=some (nW (p*n)):=by
       show ze8 (.int p) (.int n)=some (.int ((p*n:Nat):Int))
       rw[zgs (.inl (by omega)),Int.natCast_mul]
      have fa:zb3 (nW (p*n)) (nW q)=some (nW ix):=by
       refine(zcb (x:=nW (p*n)) (y:=nW q) (i:=((p*n:Nat):Int)) (j:=q) rfl rfl).trans ?_
       have:((p*n:Nat):Int)+(q:Int)=((ix:Nat):Int):=by omega
       rw[this];rfl
      have iy:ixW c (sW ys) (nW ix)=some (.int (ys.getD ix 0)):=zb2 hixl c (i:=(ix:Int)) rfl
      have i1':=i1 c
      unfold zcZ
      refine zaj (by repeat (first|exact SetAt.zero|apply SetAt.succ)) ?_
      have lw:fLt (.int (ys.getD ix 0 % 5)) (nW way)=some (.bl (decide (ys.getD ix 0 % 5<(way:Int)))):=zjN (i:=ys.getD ix 0 % 5) (j:=way) rfl rfl
      have m5:zbA (.int (ys.getD ix 0)) (.int 5)=some (.int (ys.getD ix 0 % 5)):=zcK (i:=ys.getD ix 0) (j:=5) rfl rfl (by omega)
      refine zbS (p:=decide (ys.getD ix 0 % 5<(way:Int))) (ce':=c) (by trivial) (fun _=>?_) (fun _=>?_)
      ·refine zmk (w:=.non) (ce':=c.set k4 (C.lst (ls.map pW++[pW (q,p)]))) (zlc (ws:=[pW (q,p)]) (by trivial) (zcT O.g0) (zak (zcf (ws:=[nW q,nW p]) (by trivial) z2) zar) (by rw[zk8 (zdX O.g0) hm])) ?_
       refine⟨ls++[(q,p)],_,rfl,?_,?_,?_,fun x hx=>?_⟩
       ·rw[List.map_append];exact O.set0 _
       ·rw[List.nodup_append]
        refine⟨nd,by simp,fun a ha b hb=>?_⟩
        rw[List.mem_singleton] at hb
        subst hb
        intro e;subst e
        have:=(lt _ ha).2
        simp only at this
        omega
       ·simp only[List.length_append,List.length_cons,List.length_nil];omega
       ·rcases List.mem_append.mp hx with hx|hx
        ·refine⟨(lt x hx).1,?_⟩
         rcases(lt x hx).2 with h|h
         ·exact .inl h
         ·exact .inr ⟨h.1,by rw[List.length_append,List.length_cons,List.length_nil];omega⟩
        ·rw[List.mem_singleton] at hx
         subst hx
         exact⟨hq',.inr ⟨rfl,by show q<_;rw[List.length_append,List.length_cons,List.length_nil];omega⟩⟩
      ·refine zbu ?_
       refine⟨ls,_,rfl,O,nd,by simp only[List.length_append,List.length_cons,List.length_nil];omega,fun x hx=>⟨(lt x hx).1,?_⟩⟩
       rcases(lt x hx).2 with h|h
       ·exact .inl h
       ·exact .inr ⟨h.1,by rw[List.length_append,List.length_cons,List.length_nil];omega⟩
     ·rintro sl c ⟨ls,x7,rfl,O,nd,hl,lt⟩
      rw[List.length_range] at hl
      refine⟨ls,_,_,rfl,O,nd,by simp only[List.length_append,List.length_cons,List.length_nil];omega,fun x hx=>⟨(lt x hx).1,?_⟩⟩
      simp only[List.length_append,List.length_cons,List.length_nil]
      rcases(lt x hx).2 with h|h
      ·omega
      ·omega
    ·rintro sl c ⟨ls,x6,x7,rfl,O,nd,hl,lt⟩
     exact fin ls c [] k4 _ _ _ ⟨nd,fun p hp=>by have:=lt p hp;rw[List.length_range] at this;exact this⟩ O
   ·refine zaF ?_
    exact fin ls0 c1 [] k3 _ _ _ L0 O1
end
section
variable {b:List (List Nat)} {mk:W} {vl:Nat->Int} {s:Nat} {ce:Ce}
def Mk(b:List (List Nat))(mk:W)(vl:Nat->Int):Prop:=∀(ce:Ce) (x y:Nat),x<b.length->y<b.length->∃wx wy,ixW ce mk (nW x)=some wx/\ixW ce mk (nW y)=some wy/\eqW false ce wx wy=some (.bl (decide (vl x=vl y)))
theorem zs0{is:List Int}(h:is.length=b.length):Mk b (wS is) (fun x=>is.getD x 0):=fun ce x y hx hy=>⟨_,_,zcg (by omega),zcg (by omega),eqI0⟩
theorem zhi(fu:Nat)(hfu:200<=fu)(hm:Mk b mk vl)(hb:Bd b)(h36:b.length<=36)(hs:s<b.length) :
  d_patch_of fu [wB b,mk,nW s] ce=some (.ok (.cel ce.length) (ce++[.lst ((cpt b vl s).map nW)])):=by
 have hz:=zgW
 unfold d_patch_of
 refine zcq [some (wB b),some mk,some (nW s),none,none,none,none] rfl ?_
 trivial
 have O0:=((Own.start ce).alloc (C.dct (kvs [s]))).alloc (C.lst ([s].map nW))
 refine(?_:Run _ _ ((ce++[C.dct (kvs [s])])++[C.lst ([s].map nW)]) _)
 generalize h4:(ce++[C.dct (kvs [s])]).length=k4 at O0
 have h4':∀x:Key×W,(ce++[C.dct [x]]).length=k4:=fun x=>by rw[<- h4];simp
 rw[h4']
 generalize h3:ce.length=k3 at O0 ⊢
 generalize (ce++[C.dct (kvs [s])])++[C.lst ([s].map nW)]=c0 at O0 ⊢
 refine zgx (σ:=List Nat×List Nat) (fun st sl c=>∃x5 x6,sl=[some (wB b),some mk,some (nW s),some (.cel k3),some (.cel k4),x5,x6]/\Own ce c [(k4,C.lst (st.2.map nW)),(k3,C.dct (kvs st.1))]/\st.1.Nodup/\s∈st.1/\(∀x∈st.1,x<b.length)/\(∀x∈st.2,x∈st.1)/\st.2.length<=st.1.length/\(∀x∈st.1,Reach b (okV vl s) s x)/\∀x∈st.1,x∉st.2->∀y∈b.getD x [],okV vl s y->y∈st.1)
  (fun st=>st.2.length+2*(36-st.1.length)) ([s],[s]) ⟨_,_,rfl,O0,by simp,by simp,by simpa using hs,by simp,by simp,by simpa using Reach.refl,by simp⟩ (by show [s].length+2*(36-[s].length)<fu;simp;omega) ?_
 rintro⟨F,Wt⟩ sl c ⟨x5,x6,rfl,O,nd,hsF,lt,sub,hW,re,cl⟩
 have g4:=O.g0
 have g3:=O.g1
 dsimp only at g4 g3 O nd hsF lt sub hW re cl
 have hF36:F.length<=36:=Nat.le_trans (zaw nd lt) h36
 refine⟨!(Wt.map nW).isEmpty,by trivial,fun q=>?_,fun q=>?_⟩
 ·rcases List.eq_nil_or_concat Wt with rfl|⟨W0,p,hWt⟩
  ·simp at q
  ·rw[List.concat_eq_append] at hWt
   subst hWt
   have hpF:p∈F:=sub p (by simp)
   have hp:=lt p hpF
   have pp:=zpP (ys:=W0.map nW) (y:=nW p) g4 (by simp)
   have O1:=O.set0 (C.lst (W0.map nW))
   generalize c.set k4 (C.lst (W0.map nW))=c1 at O1 pp
   unfold zec
   trivial
   refine zca (zs:=b.getD p []) (en:=nW) (zeV (by trivial)) (fun d sl c=>∃new x6,sl=[some (wB b),some mk,some (nW s),some (.cel k3),some (.cel k4),some (nW p),x6]/\Own ce c [(k4,C.lst ((W0++new).map nW)),(k3,C.dct (kvs (F++new)))]/\(F++new).Nodup/\(∀x∈new,x∈b.getD p []/\okV vl s x)/\∀x∈d,okV vl s x->x∈F++new)
    ⟨[],x6,rfl,by simpa using O1,by simpa using nd,by simp,by simp⟩ ?_ ?_
   ·rintro d y r sl c e hy ⟨new,x6,rfl,O,nd2,hnew,hd⟩
    have g4:=O.g0
    have g3:=O.g1
    have gd:=zdY g3
    have hy':=hb.get hy
    obtain⟨wx,wy,i1,i2,q1⟩:=hm c y s hy' hs
    have lt2:∀x∈F++new,x<b.length:=fun x hx=>by
     rcases List.mem_append.mp hx with hx|hx
     ·exact lt x hx
     ·exact hb.get (hnew x hx).1
    have hl2:=zaw nd2 lt2
    have hk:(kvs (F++new)).length<PySem.sizeLine:=by rw[zbd];omega
    have hw:((W0++new).map nW).length<PySem.sizeLine:=by
     rw[List.length_map,List.length_append]
     rw[List.length_append] at hl2
     simp only[List.length_append,List.length_cons,List.length_nil] at hW
     omega
    unfold zeb
    refine zbS (p:=!decide (y∈F++new)&&decide (vl y=vl s)) (ce':=c) (by trivial) (fun q=>?_) (fun q=>?_)
    ·simp only[Bool.and_eq_true,Bool.not_eq_true',decide_eq_false_iff_not,decide_eq_true_eq] at q
     have O2:=O.set1 (C.dct (zik (kvs (F++new)) (.inl (y:Int)) (.bl true)))
     rw[zgV _ _ q.1] at O2
     have g4:=O2.g0
     have e1:C.dct (kvs (F++new++[y]))=C.dct (zik (kvs (F++new)) (.inl (y:Int)) (.bl true)):=by rw[zgV _ _ q.1]
     rw[e1] at g4
     trivial
     refine⟨new++[y],_,rfl,?_,?_,fun x hx=>?_,fun x hx o=>?_⟩
     ·have e2:(W0++(new++[y])).map nW=(W0++new).map nW++[nW y]:=by simp
      rw[<- e1,e2,<- List.append_assoc]
      exact O2.set0 _
     ·rw[<- List.append_assoc,List.nodup_append]
      exact⟨nd2,by simp,fun a ha c hc=>by rw[List.mem_singleton] at hc;subst hc;intro e;subst e;exact q.1 ha⟩
     ·rcases List.mem_append.mp hx with hx|hx
      ·exact hnew x hx
      ·rw[List.mem_singleton] at hx;subst hx;exact⟨hy,q.2⟩
     ·rw[<- List.append_assoc]
      rcases List.mem_append.mp hx with hx|hx
      ·exact List.mem_append_left _ (hd x hx o)
      ·rw[List.mem_singleton] at hx;subst hx;simp
    ·trivial
     refine⟨new,_,rfl,O,nd2,hnew,fun x hx o=>?_⟩
     rcases List.mem_append.mp hx with hx|hx
     ·exact hd x hx o
     ·rw[List.mem_singleton] at hx
      subst hx
      have o':vl x=vl s:=o
      simp only[o',decide_true,Bool.and_true,Bool.not_eq_false',decide_eq_true_eq] at q
      exact q
   ·rintro sl c ⟨new,x6,rfl,O,nd2,hnew,hd⟩
    have lt2:∀x∈F++new,x<b.length:=fun x hx=>by
     rcases List.mem_append.mp hx with hx|hx
     ·exact lt x hx
     ·exact hb.get (hnew x hx).1
    have hl2:=zaw nd2 lt2
    simp only[List.length_append] at hl2
    simp only[List.length_append,List.length_cons,List.length_nil] at hW
    refine⟨(F++new,W0++new),?_,_,_,rfl,O,nd2,List.mem_append_left _ hsF,lt2,fun x hx=>?_,?_,fun x hx=>?_,fun x hx hn y hy o=>?_⟩
    ·show(W0++new).length+2*(36-(F++new).length)<(W0++[p]).length+2*(36-F.length)
     simp only[List.length_append,List.length_cons,List.length_nil]
     omega
    ·rcases List.mem_append.mp hx with hx|hx
     ·exact List.mem_append_left _ (sub x (by simp[hx]))
     ·exact List.mem_append_right _ hx
    ·show(W0++new).length<=(F++new).length
     simp only[List.length_append]
     omega
    ·rcases List.mem_append.mp hx with hx|hx
     ·exact re x hx
     ·exact(re p hpF).step (hnew x hx).1 (hnew x hx).2
    ·rcases List.mem_append.mp hx with hx|hx
     ·by_cases hxp:x=p
      ·subst hxp;exact hd y hy o
      ·exact List.mem_append_left _ (cl x hx (fun q=>by rcases List.mem_append.mp q with q|q;exact hn (List.mem_append_left _ q);exact hxp (by simpa using q)) y hy o)
     ·exact absurd (List.mem_append_right _ hx) hn
 ·have hW0:Wt=[]:=by simpa using q
  subst hW0
  have comp:Comp b (okV vl s) s F:=⟨nd,hsF,lt,fun x hx y hy o=>cl x hx (by simp) y hy o,re⟩
  trivial
  ·rw[zhJ g3 (by omega),zdl (by rw[List.length_map,zcV];omega)]
  ·rw[znD comp]
   subst h3
   exact(O.alloc _).finO (by simp only[zim];exact bels_nW _ _)
theorem zqb(fu:Nat)(hfu:200<=fu)(hm:Mk b mk vl)(hb:Bd b)(h36:b.length<=36)(hs:s<b.length):zgU (d_patch_of fu) [wB b,mk,nW s] ce=some (.ok (wL (cpt b vl s)) ce) :=
 zdj (zhi fu hfu hm hb h36 hs) (bels_nW _ _)
end
section
variable {b:List (List Nat)} {mk:W} {vl:Nat->Int} {s:Nat} {ce:Ce}
theorem ziB(fu:Nat)(hfu:200<=fu)(hm:Mk b mk vl)(hb:Bd b)(sym:Sym b)(h36:b.length<=36) :
  d_patches fu [wB b,mk] ce=some (.ok (.cel ce.length) (ce++[.lst ((ptc b vl).map wL)])):=by
 have hz:=zgW
 unfold d_patches
 refine zcq [some (wB b),some mk,none,none,none,none,none] rfl ?_
 trivial
 have O0:=((Own.start ce).alloc (C.dct (kvs []))).alloc (C.lst [])
 refine(?_:Run _ _ ((ce++[C.dct (kvs [])])++[C.lst []]) _)
 generalize h3:(ce++[C.dct []]).length=k3
 have h3':(ce++[C.dct (kvs [])]).length=k3:=h3
 rw[h3'] at O0
 generalize h2:ce.length=k2 at O0 ⊢
 generalize (ce++[C.dct (kvs [])])++[C.lst []]=c0 at O0 ⊢
 have hl':b.length<=1000:=by omega
 refine zbn (zs:=List.range b.length) (en:=nW) (zet (by trivial) hl')
  (fun d sl c=>∃S x4 x5 x6,sl=[some (wB b),some mk,some (.cel k2),some (.cel k3),x4,x5,x6]/\Own ce c [(k3,C.lst (((d.filter (zbE b vl)).map (cpt b vl)).map wL)),(k2,C.dct (kvs S))]/\S.Nodup/\(∀x∈S,x<b.length)/\∀x,x∈S↔∃y∈d,x∈cpt b vl y)
  ⟨[],_,_,_,rfl,O0,by simp,by simp,by simp⟩ ?_ ?_
 ·rintro d p r sl c e hp ⟨S,x4,x5,x6,rfl,O,nd,lt,mem⟩
  have hp':p<b.length:=List.mem_range.mp hp
  have hd:=zhf e
  have g3:=O.g0
  have g2:=O.g1
  have key:p∈S↔¬zbE b vl p=true:=by
   rw[mem]
   constructor
   ·rintro⟨y,hy,hpy⟩ hl
    rw[hd] at hy
    have hy':=List.mem_range.mp hy
    unfold zbE at hl
    rw[List.all_eq_true] at hl
    have:=of_decide_eq_true (hl y (zhN hb sym (by omega) hpy))
    omega
   ·intro hl
    unfold zbE at hl
    rw[List.all_eq_true] at hl
    obtain⟨y,hy⟩:=Classical.not_forall.mp hl
    obtain⟨hy,hn⟩:=Classical.not_imp.mp hy
    have hn':¬p<=y:=fun q=>hn (decide_eq_true q)
    exact⟨y,by rw[hd];exact List.mem_range.mpr (by omega),zhN hb sym hp' hy⟩
  unfold zeY
  have hdl:d.length<b.length:=by have:=congrArg List.length e;simp at this;omega
  have hm3:(((d.filter (zbE b vl)).map (cpt b vl)).map wL).length<PySem.sizeLine:=by simp only[List.length_map];have:=List.length_filter_le (zbE b vl) d;omega
  have e1:=fun c=>zqb (ce:=c) fu hfu hm hb h36 hp'
  have e1c:=e1 c
  trivial
  ·rename_i q
   have q':p∉S:=by simpa using q
   have hl:zbE b vl p=true:=Classical.byContradiction fun h=>q' (key.mpr h)
   have O1:=O.set0 (C.lst (((d.filter (zbE b vl)).map (cpt b vl)).map wL++[wL (cpt b vl p)]))
   generalize c.set k3 (C.lst (((d.filter (zbE b vl)).map (cpt b vl)).map wL++[wL (cpt b vl p)]))=c1 at O1 ⊢
   have ef:((d++[p]).filter (zbE b vl)).map (cpt b vl)=(d.filter (zbE b vl)).map (cpt b vl)++[cpt b vl p]:=by rw[List.filter_append,List.filter_cons_of_pos hl];simp
   refine zca (zs:=cpt b vl p) (en:=nW) (zgw (by trivial)) (fun d' sl c=>∃S' x6,sl=[some (wB b),some mk,some (.cel k2),some (.cel k3),some (nW p),some (wL (cpt b vl p)),x6]/\Own ce c [(k3,C.lst ((((d++[p]).filter (zbE b vl)).map (cpt b vl)).map wL)),(k2,C.dct (kvs S'))]/\S'.Nodup/\(∀x∈S',x<b.length)/\∀x,x∈S'↔x∈S\/x∈d')
    ⟨S,x6,rfl,by rw[ef,List.map_append];exact O1,nd,lt,by simp⟩ ?_ ?_
   ·rintro d' y r' sl c e' hy ⟨S',x6,rfl,O,nd',lt',mem'⟩
    have gd:=zdY O.g1
    have hS:=zaw nd' lt'
    have hk:(kvs S').length<PySem.sizeLine:=by rw[zbd];omega
    unfold zeX
    trivial
    refine⟨ins S' y,_,rfl,by rw[zdm];exact O.set1 _,zeU nd',fun x hx=>?_,fun x=>?_⟩
    ·rcases ins_mem.mp hx with hx|rfl
     ·exact lt' x hx
     ·exact cpt_lt hy
    ·rw[ins_mem,mem',List.mem_append,List.mem_singleton,or_assoc]
   ·rintro sl c ⟨S',x6,rfl,O,nd',lt',mem'⟩
    refine⟨S',_,_,_,rfl,O,nd',lt',fun x=>?_⟩
    rw[mem',mem]
    constructor
    ·rintro(⟨y,hy,h⟩|h)
     ·exact⟨y,List.mem_append_left _ hy,h⟩
     ·exact⟨p,by simp,h⟩
    ·rintro⟨y,hy,h⟩
     rcases List.mem_append.mp hy with hy|hy
     ·exact .inl ⟨y,hy,h⟩
     ·rw[List.mem_singleton] at hy;subst hy;exact .inr h
  ·rename_i q
   have q':p∈S:=by simpa using q
   have hl:¬zbE b vl p=true:=key.mp q'
   refine⟨S,_,_,_,rfl,?_,nd,lt,fun x=>?_⟩
   ·rw[List.filter_append,List.filter_cons_of_neg hl,List.filter_nil,List.append_nil];exact O
   ·rw[mem]
    constructor
    ·rintro⟨y,hy,h⟩
     exact⟨y,List.mem_append_left _ hy,h⟩
    ·rintro⟨y,hy,h⟩
     rcases List.mem_append.mp hy with hy|hy
     ·exact⟨y,hy,h⟩
     ·rw[List.mem_singleton] at hy
      subst hy
      obtain⟨z,hz,hyz⟩:=(mem y).mp q'
      have hz':z<b.length:=by rw[hd] at hz;have:=List.mem_range.mp hz;omega
      exact⟨z,hz,by rw[<- zd3 hb sym hz' hyz];exact h⟩
 ·rintro sl c ⟨S,x4,x5,x6,rfl,O,nd,lt,mem⟩
  trivial
  subst h2
  exact O.finO (by simp only[zim];exact zfw _ _)
theorem zqc(fu:Nat)(hfu:200<=fu)(hm:Mk b mk vl)(hb:Bd b)(sym:Sym b)(h36:b.length<=36):zgU (d_patches fu) [wB b,mk] ce=some (.ok (.lst ((ptc b vl).map wL)) ce) :=
 zdj (ziB fu hfu hm hb sym h36) (zfw _ _)
end
def zbr(b:List (List Nat))(row:List Nat):List Nat:=(List.range b.length).filter fun y=>row.any fun p=>decide (y∈b.getD p [])
section
variable {b:List (List Nat)} {b0 ce:Ce} {row:List Nat}
theorem zdu(fu:Nat)(hb:Bd b)(h36:b.length<=36){w1:W}(hw:LstOf ce w1 (row.map nW))(hr:∀p∈row,p<b.length) :
  d_points_beside fu [wB b,w1] ce=some (.ok (.cel ce.length) (ce++[.lst ((zbr b row).map nW)])):=by
 unfold d_points_beside
 have hz:=zgW
 refine zfZ ?_
 simp only[List.map_cons,List.map_nil,List.cons_append,List.nil_append,List.length_cons,List.length_nil,List.replicate,Nat.reduceAdd,Nat.reduceSub]
 trivial
 have O0:=(Own.start ce).alloc (C.dct [])
 obtain⟨s,hs,hsi,_⟩:=hw.src
 have hst:∀{c1:Ce} {l:List (Nat×C)},Own ce c1 l->s.Stays c1:=by
  intro c1 l h
  obtain⟨t,rfl⟩:=h.cut
  cases hw with
  | fr=>simp only[zil] at hs;cases hs;exact True.intro
  | cl g =>
   simp only[zil,g] at hs
   cases hs
   show(ce++t)[_]?=_
   rw[List.getElem?_append_left (List.getElem?_eq_some_iff.mp g).1]
   exact g
 have hs':∀{c1:Ce} {l:List (Nat×C)},Own ce c1 l->zil c1 w1=some s:=by
  intro c1 l h
  obtain⟨t,rfl⟩:=h.cut
  cases hw with
  | fr=>exact hs
  | cl g =>
   simp only[zil,g] at hs ⊢
   rw[List.getElem?_append_left (List.getElem?_eq_some_iff.mp g).1,g]
   exact hs
 refine zjI (xs:=row) (en:=nW) (src:=s) (ce0:=ce++[C.dct []]) (by trivial;exact hs' O0) hsi
  (fun d sl c=>∃F x3 x4,sl=[some (wB b),some w1,some (.cel ce.length),x3,x4]/\Own ce c [(ce.length,C.dct (kvs F))]/\F.Nodup/\(∀x∈F,x<b.length)/\∀x,x∈F↔∃p∈d,x∈b.getD p [])
  ⟨[],none,none,rfl,O0,by simp,by simp,by simp⟩ ?_ (fun sl c h=>by obtain⟨_,_,_,_,O,_⟩:=h;exact hst O) ?_
 ·rintro d p r sl c e hp ⟨F,x3,x4,rfl,O,nd,lt,mem⟩
  refine⟨hst O,?_⟩
  have hp':=hr p hp
  unfold zci
  refine zca (zs:=b.getD p []) (en:=nW) (zeV (by trivial))
   (fun d' sl c=>∃F x4,sl=[some (wB b),some w1,some (.cel ce.length),some (nW p),x4]/\Own ce c [(ce.length,C.dct (kvs F))]/\F.Nodup/\(∀x∈F,x<b.length)/\∀x,x∈F↔(∃p∈d,x∈b.getD p [])\/x∈d')
   ⟨F,x4,rfl,O,nd,lt,by simpa using mem⟩ ?_ ?_
  ·rintro d' y r' sl c e' hy ⟨F,x4,rfl,O,nd,lt,mem⟩
   unfold zch
   have g:=zdY O.g0
   have hl:(kvs F).length<PySem.sizeLine:=by rw[zbd];have:=zaw nd lt;omega
   trivial
   refine⟨ins F y,some (nW y),rfl,?_,zeU nd,fun x hx=>?_,fun x=>?_⟩
   ·rw[zdm];exact O.set0 _
   ·rcases ins_mem.mp hx with hx|rfl
    ·exact lt x hx
    ·exact hb.get hy
   ·rw[ins_mem,mem,List.mem_append,List.mem_singleton,or_assoc]
  ·rintro sl c ⟨F,x4,rfl,O,nd,lt,mem⟩
   refine⟨F,some (nW p),x4,rfl,O,nd,lt,fun x=>?_⟩
   rw[mem]
   constructor
   ·rintro(⟨q,hq,h⟩|h)
    ·exact⟨q,List.mem_append_left _ hq,h⟩
    ·exact⟨p,by simp,h⟩
   ·rintro⟨q,hq,h⟩
    rcases List.mem_append.mp hq with hq|hq
    ·exact .inl ⟨q,hq,h⟩
    ·rw[List.mem_singleton] at hq;subst hq;exact .inr h
 ·rintro sl c ⟨F,x3,x4,rfl,O,nd,lt,mem⟩
  have hl:=zaw nd lt
  have es:zcw F=zbr b row:=by
   rw[zdD nd lt]
   unfold zbr
   apply List.filter_congr
   intro x _
   rw[Bool.eq_iff_iff]
   simp[mem]
  trivial
  ·rw[zhJ O.g0 (by omega),zdl (by rw[es,List.length_map];unfold zbr;have:=List.length_filter_le (fun y=>row.any fun p=>decide (y∈b.getD p [])) (List.range b.length);rw[List.length_range] at this;omega)]
  ·rw[es]
   exact((O.alloc _).finO (by simp only[zim];exact bels_nW _ _))
end
def brs(b:List (List Nat))(is:List Int)(row:List Nat):List Nat:=(zbr b row).filter fun p=>decide (is.getD p 0=0)
section
variable {b:List (List Nat)} {ce:Ce} {row:List Nat} {is:List Int}
theorem ziC{y:Nat}(h:y∈zbr b row):y<b.length:=List.mem_range.mp (List.mem_filter.mp h).1
theorem zhj:(zbr b row).length<=b.length:=by
 have:=List.length_filter_le (fun y=>row.any fun p=>decide (y∈b.getD p [])) (List.range b.length)
 rw[List.length_range] at this
 exact this
theorem zqd(fu:Nat)(hb:Bd b)(h36:b.length<=36){w1:W}(hw:LstOf ce w1 (row.map nW))(hr:∀p∈row,p<b.length):zgU (d_points_beside fu) [wB b,w1] ce=some (.ok (wL (zbr b row)) ce) :=
 zdj (zdu fu hb h36 hw hr) (bels_nW _ _)
theorem ziD(fu:Nat)(hb:Bd b)(h36:b.length<=36)(hl:is.length=b.length){w1:W}(hw:LstOf ce w1 (row.map nW))(hr:∀p∈row,p<b.length) :
  d_breaths fu [wB b,wS is,w1] ce=some (.ok (.cel ce.length) (ce++[.lst ((brs b is row).map nW)])):=by
 unfold d_breaths
 have hz:=zgW
 have e1:=zqd fu hb h36 hw hr
 have h2:=zhj (b:=b) (row:=row)
 refine zcq [some (wB b),some (wS is),some w1] rfl ?_
 refine zaB (zsi (zs:=zbr b row) (en:=nW) (t:=fun p=>decide (is.getD p 0=0)) (by trivial) (by omega) (fun p hp=>?_)) ?_
 ·have:=ziC hp
  have hp':p<is.length:=by omega
  trivial
 ·exact(((Own.start ce).alloc _).finO (by simp only[zim];exact bels_nW _ _))
end
open Classical in
def vT(T:List Nat):Nat->Int:=fun x=>if x∈T then 0 else 1
theorem zqe{T:List Nat}{x:Nat}(h:x∈T):vT T x=0:=if_pos h
theorem zj7{T:List Nat}{s y:Nat}(hs:s∈T):okV (vT T) s y↔y∈T:=by
 unfold okV
 rw[zqe hs]
 constructor
 ·intro h
  by_cases hy:y∈T
  ·exact hy
  ·unfold vT at h;rw[if_neg hy] at h;omega
 ·exact zqe
def thr(is H:List Int):List Nat:=(List.range is.length).filter fun p=>decide (is.getD p 0∈H)
def lpt(b:List (List Nat))(T:List Nat):List (List Nat):=(T.filter (zbE b (vT T))).map (cpt b (vT T))
theorem zbG(is:List Int)(p q:Nat)(v:Int):(is.set p v).getD q 0=if p=q/\p<is.length then v else is.getD q 0:=by
 simp only[List.getD_eq_getElem?_getD,List.getElem?_set]
 by_cases h:p=q
 ·subst h
  by_cases h2:p<is.length
  ·simp[h2]
  ·simp[h2]
 ·simp[h]
abbrev vS(is:List Int):Nat->Int:=fun x=>is.getD x 0
abbrev vH(is:List Int)(h:Int):Nat->Int:=fun x=>if is.getD x 0=h then 1 else 0
theorem zbz{b:List (List Nat)}{ok ok':Nat->Prop}{s:Nat}(h:∀x y,Reach b ok s x->Reach b ok' s x->y∈b.getD x []->ok y->ok' y){x:Nat}(r:Reach b ok s x):Reach b ok' s x:=by
 induction r with
 | refl=>exact .refl
 | step r hy o ih=>exact ih.step hy (h _ _ r ih hy o)
open Classical in
theorem zj8{b:List (List Nat)}{vl vl':Nat->Int}{s:Nat}(e:∀y,Reach b (okV vl s) s y↔Reach b (okV vl' s) s y):cpt b vl s=cpt b vl' s:=by
 unfold cpt
 apply List.filter_congr
 intro y _
 rw[Bool.eq_iff_iff,decide_eq_true_eq,decide_eq_true_eq]
 exact e y
def zkq(b:List (List Nat))(is:List Int)(h:Int):Prop:=∀s,s<b.length->is.getD s 0=h->∃x y,Reach b (okV (vS is) s) s x/\y∈b.getD x []/\is.getD y 0=0
theorem za7{b:List (List Nat)}{is:List Int}{r:List Nat}(hb:Bd b){y:Nat}:y∈brs b is r↔(∃x∈r,y∈b.getD x [])/\is.getD y 0=0:=by
 unfold brs zbr
 rw[List.mem_filter,List.mem_filter,List.mem_range,List.any_eq_true,decide_eq_true_eq]
 constructor
 ·rintro⟨⟨_,x,hx,q⟩,h0⟩
  exact⟨⟨x,hx,of_decide_eq_true q⟩,h0⟩
 ·rintro⟨⟨x,hx,q⟩,h0⟩
  exact⟨⟨hb.get q,x,hx,decide_eq_true q⟩,h0⟩
theorem zj9{b:List (List Nat)}{is:List Int}{r:List Nat}(hb:Bd b):brs b is r=[]↔∀x∈r,∀y∈b.getD x [],is.getD y 0≠0:=by
 rw[List.eq_nil_iff_forall_not_mem]
 constructor
 ·intro h x hx y hy h0
  exact h y ((za7 hb).mpr ⟨⟨x,hx,hy⟩,h0⟩)
 ·intro h y hy
  obtain⟨⟨x,hx,hy⟩,h0⟩:=(za7 hb).mp hy
  exact h x hx y hy h0
structure Swp (b:List (List Nat)) (is:List Int) (h:Int) (d:List (List Nat)) (is':List Int) (D:List (List Nat)):Prop where
 len:is'.length=is.length
 sub:∀r∈D,r∈d
 zp:∀r∈D,∀q∈r,is'.getD q 0=0
 was:∀q,is'.getD q 0=is.getD q 0\/(is'.getD q 0=0/\∃r∈D,q∈r)
 fre:∀r∈d,r∈D\/∃x∈r,∃y∈b.getD x [],is'.getD y 0=0
 no:∀r∈D,∀x∈r,∀y∈b.getD x [],is.getD y 0≠0
theorem thr_mem{is:List Int}{h:Int}{p:Nat}:p∈thr is [h]↔p<is.length/\is.getD p 0=h:=by
 unfold thr
 rw[List.mem_filter,List.mem_range,decide_eq_true_eq,List.mem_singleton]
theorem zmw{b:List (List Nat)}{T:List Nat}(hb:Bd b)(sym:Sym b)(hT:∀x∈T,x<b.length){s:Nat}(hs:s∈T):cpt b (vT T) s∈lpt b T:=by
 obtain⟨m,h1,h2,h3⟩:=zgy (vl:=vT T) hb sym (hT s hs)
 have hm:m∈T:=(zj7 hs).mp (cpt_val hb (hT s hs) h1)
 exact List.mem_map.mpr ⟨m,List.mem_filter.mpr ⟨hm,h2⟩,h3⟩
theorem zmx{b:List (List Nat)}{T:List Nat}{c:List Nat}(h:c∈lpt b T):∃s∈T,c=cpt b (vT T) s:=by
 obtain⟨s,hs,rfl⟩:=List.mem_map.mp h
 exact⟨s,(List.mem_filter.mp hs).1,rfl⟩
theorem zka{b:List (List Nat)}{is:List Int}(hb:Bd b)(hl:is.length=b.length){s:Nat}(hs:s<b.length):cpt b (vT (thr is [is.getD s 0])) s=cpt b (vS is) s:=by
 have hT:s∈thr is [is.getD s 0]:=thr_mem.mpr ⟨by omega,rfl⟩
 refine zj8 fun y=>⟨fun r=>zbz (fun x y _ _ _ o=>?_) r,fun r=>zbz (fun x y _ _ hy o=>?_) r⟩
 ·exact(thr_mem.mp ((zj7 hT).mp o)).2
 ·exact(zj7 hT).mpr (thr_mem.mpr ⟨by rw[hl];exact hb.get hy,o⟩)
section
variable {b:List (List Nat)} {is is':List Int} {h o:Int} {D:List (List Nat)}
theorem Swp.hand{d:List (List Nat)}(S:Swp b is h d is' D)(hb:Bd b)(hl:is.length=b.length)(hd:∀r∈d,r∈lpt b (thr is [h])){r:List Nat}(hr:r∈D){q:Nat}(hq:q∈r):is.getD q 0=h/\r=cpt b (vS is) q\/¬Sym b:=by
 by_cases sym:Sym b
 ·left
  obtain⟨s,hs,rfl⟩:=zmx (hd r (S.sub r hr))
  have hs':=thr_mem.mp hs
  have hsb:s<b.length:=by omega
  have e:=hs'.2
  subst e
  rw[zka hb hl hsb] at hq ⊢
  exact⟨cpt_val hb hsb hq,(zd3 hb sym hsb hq).symm⟩
 ·exact .inr sym
theorem Swp.hand'{d:List (List Nat)}(S:Swp b is h d is' D)(hb:Bd b)(sym:Sym b)(hl:is.length=b.length)(hd:∀r∈d,r∈lpt b (thr is [h])){r:List Nat}(hr:r∈D){q:Nat}(hq:q∈r):is.getD q 0=h/\r=cpt b (vS is) q:=(S.hand hb hl hd hr hq).resolve_right (fun n=>n sym)
theorem Swp.snd(S:Swp b is h (lpt b (thr is [h])) is' D)(hb:Bd b)(sym:Sym b)(hl:is.length=b.length)(h0:h≠0):zkq b is' h:=by
 intro s hs e
 have es:is.getD s 0=h:=by
  rcases S.was s with q|q
  ·rw[<- q];exact e
  ·exact absurd (e.symm.trans q.1) h0
 have hr:cpt b (vS is) s∈lpt b (thr is [h]):=by
  have:=zmw (T:=thr is [is.getD s 0]) hb sym (fun x hx=>by have:=(thr_mem.mp hx).1;omega) (thr_mem.mpr ⟨by omega,rfl⟩:s∈_)
  rwa [zka hb hl hs,es] at this
 have nD:cpt b (vS is) s∉D:=fun hD=>h0 (by rw[<- e];exact S.zp _ hD s (zbF hb hs))
 rcases S.fre _ hr with q|⟨x,hx,y,hy,hy0⟩
 ·exact absurd q nD
 ·refine⟨x,y,?_,hy,hy0⟩
  refine zbz (fun u z ru _ hz oz=>?_) ((za6 hb hs).mp hx)
  have hzr:z∈cpt b (vS is) s:=(za6 hb hs).mpr (ru.step hz oz)
  show is'.getD z 0=is'.getD s 0
  rw[e]
  rcases S.was z with q|⟨_,r,hrD,hzr2⟩
  ·rw[q];exact oz.trans es
  ·obtain⟨_,er⟩:=S.hand' hb sym hl (fun r hr=>hr) hrD hzr2
   rw[er,zd3 hb sym hs hzr] at hrD
   exact absurd hrD nD
structure Pap (b:List (List Nat)) (is:List Int) (h:Int) (R C:List (List Nat)):Prop where
 row:∀r∈R,∃s,s<b.length/\is.getD s 0=h/\r=cpt b (vS is) s
 cl:∀c∈C,∃s,s<b.length/\is.getD s 0≠h/\c=cpt b (vH is h) s
 firm:∀r∈R,∃c1∈C,∃c2∈C,c1≠c2/\(∀p∈c1,is.getD p 0=0->p∈brs b is r)/\∀p∈c2,is.getD p 0=0->p∈brs b is r
 wall:∀c∈C,∀x∈c,∀y∈b.getD x [],is.getD y 0=h->∃r∈R,y∈r
structure LaidOk (b:List (List Nat)) (is:List Int) (h o:Int) (p:Nat) (is':List Int) (D:List (List Nat)):Prop where
 hl:is.length=b.length
 hp:p<b.length
 p0:is.getD p 0=0
 sw:Swp b (is.set p o) h (lpt b (thr (is.set p o) [h])) is' D
 br:∃x y,Reach b (okV (vS is') p) p x/\y∈b.getD x []/\is'.getD y 0=0
structure Hands (h o:Int):Prop where
 h0:h≠0
 o0:o≠0
 ho:o≠h
theorem LaidOk.set1{p:Nat}(L:LaidOk b is h o p is' D)(q:Nat):(is.set p o).getD q 0=if q=p then o else is.getD q 0:=by
 rw[zbG]
 by_cases e:q=p
 ·subst e;rw[if_pos ⟨rfl,by rw[L.hl];exact L.hp⟩,if_pos rfl]
 ·rw[if_neg (fun x=>e x.1.symm),if_neg e]
theorem LaidOk.val{p:Nat}(L:LaidOk b is h o p is' D)(hb:Bd b)(sym:Sym b)(H:Hands h o)(q:Nat):is'.getD q 0=(if q=p then o else is.getD q 0)\/(is'.getD q 0=0/\is.getD q 0=h/\q≠p/\∃r∈D,q∈r):=by
 rcases L.sw.was q with e|⟨e,r,hr,hq⟩
 ·left;rw[e,L.set1]
 ·obtain⟨e1,_⟩:=L.sw.hand' hb sym (by rw[List.length_set];exact L.hl) (fun r hr=>hr) hr hq
  rw[L.set1] at e1
  by_cases hqp:q=p
  ·rw[if_pos hqp] at e1;exact absurd e1 H.ho
  ·rw[if_neg hqp] at e1;exact .inr ⟨e,e1,hqp,r,hr,hq⟩
theorem LaidOk.isO{p:Nat}(L:LaidOk b is h o p is' D)(hb:Bd b)(sym:Sym b)(H:Hands h o){q:Nat}(e:is.getD q 0=o):is'.getD q 0=o:=by
 rcases L.val hb sym H q with v|v
 ·rw[v];split
  ·rfl
  ·exact e
 ·exact absurd (e.symm.trans v.2.1) H.ho
theorem LaidOk.isP{p:Nat}(L:LaidOk b is h o p is' D)(hb:Bd b)(sym:Sym b)(H:Hands h o):is'.getD p 0=o:=by
 rcases L.val hb sym H p with v|v
 ·rw[v,if_pos rfl]
 ·exact absurd rfl v.2.2.1
theorem LaidOk.is0{p:Nat}(L:LaidOk b is h o p is' D)(hb:Bd b)(sym:Sym b)(H:Hands h o){q:Nat}(e:is.getD q 0=0)(hq:q≠p):is'.getD q 0=0:=by
 rcases L.val hb sym H q with v|v
 ·rw[v,if_neg hq];exact e
 ·exact v.1
theorem LaidOk.snd{p:Nat}(L:LaidOk b is h o p is' D)(hb:Bd b)(sym:Sym b)(H:Hands h o)(N:zkq b is o):zkq b is' o:=by
 intro s hs e
 have eP:=L.isP hb sym H
 by_cases hsp:Reach b (okV (vS is') s) s p
 ·obtain⟨x,y,r,hy,h0⟩:=L.br
  refine⟨x,y,hsp.trans ?_,hy,h0⟩
  have:okV (vS is') s=okV (vS is') p:=zmn (vl:=vS is') (x:=s) (s:=p) (e.trans eP.symm)
  rw[this];exact r
 ·have hne:s≠p:=fun q=>hsp (by subst q;exact .refl)
  have es:is.getD s 0=o:=by
   rcases L.val hb sym H s with v|v
   ·rw[if_neg hne] at v;exact v.symm.trans e
   ·exact absurd (e.symm.trans v.1) H.o0
  obtain⟨x,y,r,hy,h0⟩:=N s hs es
  have r':Reach b (okV (vS is') s) s x:=zbz (fun u z _ _ _ oz=>by
   show is'.getD z 0=is'.getD s 0
   rw[e];exact L.isO hb sym H (oz.trans es)) r
  refine⟨x,y,r',hy,L.is0 hb sym H h0 fun q=>hsp ?_⟩
  subst q
  exact r'.step hy (eP.trans e.symm)
end
theorem zfV{n:Nat}{t:Nat->Bool}{x:Nat}:x∈(List.range n).filter t↔x<n/\t x=true:=by rw[List.mem_filter,List.mem_range]
def lD(b:List (List Nat))(is:List Int)(o:Int)(p:Nat):List (List Nat):=(lpt b (thr (is.set p o) [3-o])).filter fun r=>decide (brs b (is.set p o) r=[])
def lT(b:List (List Nat))(is:List Int)(o:Int)(p:Nat):List Nat:=(List.range b.length).filter fun q=>(lD b is o p).any fun r=>decide (q∈r)
def lS(b:List (List Nat))(is:List Int)(o:Int)(p:Nat):List Int:=(List.range is.length).map fun q=>if q=p then o else if q∈lT b is o p then 0 else is.getD q 0
structure LyA (b:List (List Nat)) (is:List Int) (o:Int) (p:Nat):Prop where
 bd:Bd b
 sym:Sym b
 nl:∀i,i∉b.getD i []
 hl:is.length=b.length
 hp:p<b.length
 p0:is.getD p 0=0
 H:Hands (3-o) o
 v:∀q,q<b.length->is.getD q 0=0\/is.getD q 0=3-o\/is.getD q 0=o
 nh:zkq b is (3-o)
 no:zkq b is o
section
variable {b:List (List Nat)} {is:List Int} {o:Int} {p:Nat}
theorem zgE:(lS b is o p).length=is.length:=by simp[lS]
theorem LyA.s1(A:LyA b is o p)(q:Nat):(is.set p o).getD q 0=if q=p then o else is.getD q 0:=by
 rw[zbG]
 by_cases e:q=p
 ·subst e;rw[if_pos ⟨rfl,by rw[A.hl];exact A.hp⟩,if_pos rfl]
 ·rw[if_neg (fun x=>e x.1.symm),if_neg e]
theorem LyA.l1(A:LyA b is o p):(is.set p o).length=b.length:=by rw[List.length_set];exact A.hl
theorem LyA.get(A:LyA b is o p){q:Nat}(hq:q<b.length):(lS b is o p).getD q 0=if q=p then o else if q∈lT b is o p then 0 else is.getD q 0:=by
 unfold lS
 rw[List.getD_eq_getElem?_getD,List.getElem?_map,List.getElem?_range (by rw[A.hl];exact hq)]
 rfl
theorem LyA.far(A:LyA b is o p){q:Nat}(hq:¬q<b.length):(lS b is o p).getD q 0=0/\is.getD q 0=0:=by
 have h1:=A.hl
 constructor
 ·rw[List.getD_eq_getElem?_getD,List.getElem?_eq_none (by rw[zgE];omega)];rfl
 ·rw[List.getD_eq_getElem?_getD,List.getElem?_eq_none (by omega)];rfl
theorem LyA.dead(A:LyA b is o p){r:List Nat}:r∈lD b is o p↔∃s,s<b.length/\is.getD s 0=3-o/\r=cpt b (vS is) s/\∀x∈r,∀y∈b.getD x [],is.getD y 0=0->y=p:=by
 have hT:∀{s},s∈thr (is.set p o) [3-o]↔s<b.length/\is.getD s 0=3-o:=fun {s}=>by
  rw[thr_mem,A.l1,A.s1]
  constructor
  ·rintro⟨h1,h2⟩
   by_cases e:s=p
   ·rw[if_pos e] at h2;exact absurd h2 A.H.ho
   ·rw[if_neg e] at h2;exact⟨h1,h2⟩
  ·rintro⟨h1,h2⟩
   have e:s≠p:=fun e=>by subst e;exact A.H.h0 (h2.symm.trans A.p0)
   exact⟨h1,by rw[if_neg e];exact h2⟩
 have hc:∀{s},s<b.length->is.getD s 0=3-o->cpt b (vT (thr (is.set p o) [3-o])) s=cpt b (vS is) s:=fun {s} hs es=>by
  have hsT:=hT.mpr ⟨hs,es⟩
  refine zj8 fun y=>⟨fun r=>zbz (fun u z _ _ hz oz=>?_) r,fun r=>zbz (fun u z _ _ hz oz=>?_) r⟩
  ·exact(hT.mp ((zj7 hsT).mp oz)).2.trans es.symm
  ·exact(zj7 hsT).mpr (hT.mpr ⟨A.bd.get hz,Eq.trans oz es⟩)
 have hb1:∀{r:List Nat},brs b (is.set p o) r=[]↔∀x∈r,∀y∈b.getD x [],is.getD y 0=0->y=p:=fun {r}=>by
  rw[zj9 A.bd]
  constructor
  ·intro h x hx y hy y0
   apply Classical.byContradiction
   intro hne
   exact h x hx y hy (by rw[A.s1,if_neg hne];exact y0)
  ·intro h x hx y hy
   rw[A.s1]
   by_cases e:y=p
   ·rw[if_pos e];exact A.H.o0
   ·rw[if_neg e];exact fun y0=>e (h x hx y hy y0)
 unfold lD
 rw[List.mem_filter,decide_eq_true_eq,hb1]
 constructor
 ·rintro⟨h1,h2⟩
  obtain⟨s,hs,rfl⟩:=zmx h1
  obtain⟨q1,q2⟩:=hT.mp hs
  rw[hc q1 q2] at h2 ⊢
  exact⟨s,q1,q2,rfl,h2⟩
 ·rintro⟨s,q1,q2,rfl,h2⟩
  refine⟨?_,h2⟩
  have:=zmw (T:=thr (is.set p o) [3-o]) A.bd A.sym (fun x hx=>(hT.mp hx).1) (hT.mpr ⟨q1,q2⟩)
  rwa [hc q1 q2] at this
theorem LyA.tk(A:LyA b is o p){q:Nat}:q∈lT b is o p↔∃r∈lD b is o p,q∈r:=by
 unfold lT
 rw[zfV,List.any_eq_true]
 constructor
 ·rintro⟨_,r,hr,hq⟩;exact⟨r,hr,of_decide_eq_true hq⟩
 ·rintro⟨r,hr,hq⟩
  obtain⟨s,hs,_,rfl,_⟩:=A.dead.mp hr
  exact⟨cpt_lt hq,_,hr,decide_eq_true hq⟩
theorem LyA.tkh(A:LyA b is o p){q:Nat}(h:q∈lT b is o p):q<b.length/\is.getD q 0=3-o/\q≠p:=by
 obtain⟨r,hr,hq⟩:=A.tk.mp h
 obtain⟨s,hs,es,rfl,_⟩:=A.dead.mp hr
 have e:is.getD q 0=3-o:=(cpt_val A.bd hs hq).trans es
 exact⟨cpt_lt hq,e,fun e'=>by subst e';exact A.H.h0 (e.symm.trans A.p0)⟩
theorem LyA.near(A:LyA b is o p){q:Nat}:q∈lT b is o p↔∃y∈b.getD p [],is.getD y 0=3-o/\(brs b is (cpt b (vS is) y)).erase p=[]/\q∈cpt b (vS is) y:=by
 have nd:∀r,(brs b is r).Nodup:=fun r=>List.Pairwise.filter _ (List.Pairwise.filter _ List.nodup_range)
 have er:∀y,y<b.length->((brs b is (cpt b (vS is) y)).erase p=[]↔∀x∈cpt b (vS is) y,∀z∈b.getD x [],is.getD z 0=0->z=p):=fun y hy=>by
  rw[List.eq_nil_iff_forall_not_mem]
  constructor
  ·intro h x hx z hz z0
   apply Classical.byContradiction
   intro hne
   exact h z (((nd _).mem_erase_iff).mpr ⟨hne,(za7 A.bd).mpr ⟨⟨x,hx,hz⟩,z0⟩⟩)
  ·intro h z hz
   obtain⟨h1,h2⟩:=((nd _).mem_erase_iff).mp hz
   obtain⟨⟨x,hx,hz⟩,z0⟩:=(za7 A.bd).mp h2
   exact h1 (h x hx z hz z0)
 rw[A.tk]
 constructor
 ·rintro⟨r,hr,hq⟩
  obtain⟨s,hs,es,rfl,hd⟩:=A.dead.mp hr
  obtain⟨u,w,ru,hw,w0⟩:=A.nh s hs es
  have hu:u∈cpt b (vS is) s:=(za6 A.bd hs).mpr ru
  have e:=hd u hu w hw w0
  subst e
  have hub:=cpt_lt hu
  refine⟨u,A.sym _ _ hw,(cpt_val A.bd hs hu).trans es,?_,?_⟩
  ·rw[er u hub,zd3 A.bd A.sym hs hu];exact hd
  ·rw[zd3 A.bd A.sym hs hu];exact hq
 ·rintro⟨y,hy,ey,h1,hq⟩
  have hyb:=A.bd.get hy
  exact⟨_,A.dead.mpr ⟨y,hyb,ey,rfl,(er y hyb).mp h1⟩,hq⟩
theorem LyA.swp(A:LyA b is o p):Swp b (is.set p o) (3-o) (lpt b (thr (is.set p o) [3-o])) (lS b is o p) (lD b is o p):=by
 have low:∀y,(is.set p o).getD y 0=0->(lS b is o p).getD y 0=0:=fun y h0=>by
  by_cases hy:y<b.length
  ·rw[A.s1] at h0
   rw[A.get hy]
   by_cases e:y=p
   ·rw[if_pos e] at h0;exact absurd h0 A.H.o0
   ·rw[if_neg e] at h0 ⊢
    split
    ·rfl
    ·exact h0
  ·exact(A.far hy).1
 refine⟨by rw[zgE,List.length_set],fun r hr=>(List.mem_filter.mp hr).1,fun r hr q hq=>?_,fun q=>?_,fun r hr=>?_,fun r hr=>?_⟩
 ·have ht:=A.tk.mpr ⟨r,hr,hq⟩
  obtain⟨h1,_,h3⟩:=A.tkh ht
  rw[A.get h1,if_neg h3,if_pos ht]
 ·by_cases hq:q<b.length
  ·rw[A.get hq,A.s1]
   by_cases e:q=p
   ·rw[if_pos e,if_pos e];exact .inl rfl
   ·rw[if_neg e,if_neg e]
    by_cases ht:q∈lT b is o p
    ·rw[if_pos ht];exact .inr ⟨rfl,A.tk.mp ht⟩
    ·rw[if_neg ht];exact .inl rfl
  ·left
   rw[(A.far hq).1,A.s1,if_neg (fun e=>hq (by rw[e];exact A.hp)),(A.far hq).2]
 ·by_cases e:brs b (is.set p o) r=[]
  ·exact .inl (List.mem_filter.mpr ⟨hr,decide_eq_true e⟩)
  ·obtain⟨y,hy⟩:=List.exists_mem_of_ne_nil _ e
   obtain⟨⟨x,hx,hy⟩,h0⟩:=(za7 A.bd).mp hy
   exact .inr ⟨x,hx,y,hy,low y h0⟩
 ·exact(zj9 A.bd).mp (of_decide_eq_true (List.mem_filter.mp hr).2)
def Frb(b:List (List Nat))(is:List Int)(o:Int)(p:Nat):Prop:=brs b (lS b is o p) (cpt b (vS (lS b is o p)) p)≠[]
theorem LyA.laid(A:LyA b is o p)(h:Frb b is o p):LaidOk b is (3-o) o p (lS b is o p) (lD b is o p):=by
 refine⟨A.hl,A.hp,A.p0,A.swp,?_⟩
 obtain⟨y,hy⟩:=List.exists_mem_of_ne_nil _ h
 obtain⟨⟨x,hx,hy⟩,h0⟩:=(za7 A.bd).mp hy
 exact⟨x,y,(za6 A.bd A.hp).mp hx,hy,h0⟩
theorem LyA.atP(A:LyA b is o p):(lS b is o p).getD p 0=o:=by rw[A.get A.hp,if_pos rfl]
theorem LyA.brth(A:LyA b is o p):Frb b is o p↔((∃y∈b.getD p [],is.getD y 0=0)\/∃y∈b.getD p [],is.getD y 0=o/\(brs b is (cpt b (vS is) y)).erase p≠[])\/lT b is o p≠[]:=by
 have nd:∀r,(brs b is r).Nodup:=fun r=>List.Pairwise.filter _ (List.Pairwise.filter _ List.nodup_range)
 have free:∀y,y<b.length->is.getD y 0=0->y≠p->(lS b is o p).getD y 0=0:=fun y hy y0 hne=>by
  rw[A.get hy,if_neg hne];split
  ·rfl
  ·exact y0
 have own:∀y,y<b.length->is.getD y 0=o->(lS b is o p).getD y 0=o:=fun y hy e=>by
  rw[A.get hy];split
  ·rfl
  ·rw[if_neg (fun h=>A.H.ho (e.symm.trans (A.tkh h).2.1))];exact e
 have selfP:=zbF (vl:=vS (lS b is o p)) A.bd A.hp
 constructor
 ·intro h
  by_cases ht:lT b is o p=[]
  ·left
   obtain⟨w,hw⟩:=List.exists_mem_of_ne_nil _ h
   obtain⟨⟨u,hu,hv⟩,w0⟩:=(za7 A.bd).mp hw
   have hwb:=A.bd.get hv
   have e1:∀q,q<b.length->(lS b is o p).getD q 0=if q=p then o else is.getD q 0:=fun q hq=>by rw[A.get hq,ht];simp
   rw[e1 w hwb] at w0
   have hwp:w≠p:=fun e=>by rw[if_pos e] at w0;exact A.H.o0 w0
   rw[if_neg hwp] at w0
   have key:∀u,Reach b (okV (vS (lS b is o p)) p) p u->u=p\/∃y∈b.getD p [],is.getD y 0=o/\Reach b (okV (vS is) y) y u:=by
    intro u r
    induction r with
    | refl=>exact .inl rfl
    | @step x z r hz oz ih =>
     by_cases ezp:z=p
     ·exact .inl ezp
     ·right
      have hzb:=A.bd.get hz
      have oz':(lS b is o p).getD z 0=o:=Eq.trans oz A.atP
      rw[e1 z hzb,if_neg ezp] at oz'
      rcases ih with rfl|⟨y,hy,ey,ry⟩
      ·exact⟨z,hz,oz',.refl⟩
      ·exact⟨y,hy,ey,ry.step hz (oz'.trans ey.symm)⟩
   rcases key u ((za6 A.bd A.hp).mp hu) with rfl|⟨y,hy,ey,ry⟩
   ·exact .inl ⟨w,hv,w0⟩
   ·refine .inr ⟨y,hy,ey,fun e=>?_⟩
    have:w∈(brs b is (cpt b (vS is) y)).erase p:=((nd _).mem_erase_iff).mpr ⟨hwp,(za7 A.bd).mpr ⟨⟨u,(za6 A.bd (A.bd.get hy)).mpr ry,hv⟩,w0⟩⟩
    rw[e] at this
    simp at this
  ·exact .inr ht
 ·rintro((⟨y,hy,y0⟩|⟨y,hy,ey,hne⟩)|ht)
  ·have hyb:=A.bd.get hy
   have hyp:y≠p:=fun e=>A.nl p (by rw[e] at hy;exact hy)
   exact List.ne_nil_of_mem ((za7 A.bd).mpr ⟨⟨p,selfP,hy⟩,free y hyb y0 hyp⟩)
  ·obtain⟨w,hw⟩:=List.exists_mem_of_ne_nil _ hne
   obtain⟨hwp,hw⟩:=((nd _).mem_erase_iff).mp hw
   obtain⟨⟨u,hu,hw⟩,w0⟩:=(za7 A.bd).mp hw
   have hyb:=A.bd.get hy
   have r1:Reach b (okV (vS (lS b is o p)) p) p y:=Reach.refl.step hy ((own y hyb ey).trans A.atP.symm)
   have r2:Reach b (okV (vS (lS b is o p)) p) y u:=zbz (fun x z _ _ hz oz=>(own z (A.bd.get hz) (Eq.trans oz ey)).trans A.atP.symm) ((za6 A.bd hyb).mp hu)
   exact List.ne_nil_of_mem ((za7 A.bd).mpr ⟨⟨u,(za6 A.bd A.hp).mpr (r1.trans r2),hw⟩,free w (A.bd.get hw) w0 hwp⟩)
  ·obtain⟨q,hq⟩:=List.exists_mem_of_ne_nil _ ht
   obtain⟨y,hy,ey,h1,_⟩:=A.near.mp hq
   have hyb:=A.bd.get hy
   have ty:y∈lT b is o p:=A.near.mpr ⟨y,hy,ey,h1,zbF A.bd hyb⟩
   refine List.ne_nil_of_mem ((za7 A.bd).mpr ⟨⟨p,selfP,hy⟩,?_⟩)
   rw[A.get hyb,if_neg (A.tkh ty).2.2,if_pos ty]
theorem LyA.snd(A:LyA b is o p)(h:Frb b is o p):zkq b (lS b is o p) o/\zkq b (lS b is o p) (3-o) :=
 ⟨(A.laid h).snd A.bd A.sym A.H A.no,A.swp.snd A.bd A.sym A.l1 A.H.h0⟩
theorem LyA.vals(A:LyA b is o p):∀q,q<b.length->(lS b is o p).getD q 0=0\/(lS b is o p).getD q 0=3-o\/(lS b is o p).getD q 0=o:=fun q hq=>by
 rw[A.get hq]
 split
 ·exact .inr (.inr rfl)
 ·split
  ·exact .inl rfl
  ·exact A.v q hq
end
theorem zgF{b:List (List Nat)}{is:List Int}{r r':List Nat}(h:∀x,x∈r↔x∈r'):brs b is r=brs b is r':=by
 unfold brs zbr
 congr 1
 apply List.filter_congr
 intro y _
 rw[Bool.eq_iff_iff,List.any_eq_true,List.any_eq_true]
 exact⟨fun⟨x,hx,q⟩=>⟨x,(h x).mp hx,q⟩,fun⟨x,hx,q⟩=>⟨x,(h x).mpr hx,q⟩⟩
theorem zkb{ce:Ce}{k:Nat}{F:List Nat}(g:ce[k]?=some (.dct (kvs F))):zcJ [.cel k] ce=some (.ok (nW F.length) ce):=by
 have l:zeN ce (.cel k)=none:=by simp only[zeN,zcQ,g]
 simp only[zcJ,l,zmh g,zbd];rfl
section
variable {b:List (List Nat)} {is:List Int} {ce:Ce} {row:List Nat}
theorem zn0(fu:Nat)(hfu:200<=fu)(B:Brd b)(hl:is.length=b.length){s:Nat}(hs:s<b.length):∃F,d__law_row fu [wB b,wS is,nW s] ce=some (.ok (.cel ce.length) (ce++[.lst (F.map nW)]))/\Comp b (okV (vS is) s) s F:=by
 have hz:=zgW
 have h36:=B.h36
 have hb:=B.bd
 suffices h:∃w c,d__law_row fu [wB b,wS is,nW s] ce=some (.ok w c)/\∃F,w=.cel ce.length/\c=ce++[.lst (F.map nW)]/\Comp b (okV (vS is) s) s F by
  obtain⟨w,c,e,F,rfl,rfl,q⟩:=h
  exact⟨F,e,q⟩
 unfold d__law_row
 refine zhe [some (wB b),some (wS is),some (nW s),none,none,none] rfl ?_
 refine zan (zfr (ws:=[nW s]) (by trivial) (by show 1<=PySem.sizeLine;omega)) ?_
 refine zaj (by repeat (first|exact SetAt.zero|apply SetAt.succ)) ?_
 have O0:=(Own.start ce).alloc (C.lst ([s].map nW))
 refine(?_:Run _ _ (ce++[C.lst ([s].map nW)]) _)
 generalize hk:ce.length=k3 at O0 ⊢
 generalize ce++[C.lst ([s].map nW)]=c0 at O0 ⊢
 refine zan (w:=nW 0) (ce':=c0) zbP ?_
 refine zaj (by repeat (first|exact SetAt.zero|apply SetAt.succ)) ?_
 refine zgx (σ:=List Nat×Nat) (fun st sl c=>∃x5,sl=[some (wB b),some (wS is),some (nW s),some (.cel k3),some (nW st.2),x5]/\Own ce c [(k3,C.lst (st.1.map nW))]/\st.1.Nodup/\s∈st.1/\(∀x∈st.1,x<b.length)/\st.2<=st.1.length/\(∀x∈st.1,Reach b (okV (vS is) s) s x)/\∀x∈st.1.take st.2,∀y∈b.getD x [],okV (vS is) s y->y∈st.1)
  (fun st=>36-st.2) ([s],0) ⟨_,rfl,O0,by simp,by simp,by simpa using hs,by simp,by simpa using Reach.refl,by simp⟩ (by show 36-0<fu;omega) ?_
 rintro⟨F,at'⟩ sl c ⟨x5,rfl,O,nd,hsF,lt,hat,re,cl⟩
 dsimp only at O nd hsF lt hat re cl
 have g3:=O.g0
 have hF36:F.length<=36:=Nat.le_trans (zaw nd lt) h36
 have cmp:fLt (nW at') (nW F.length)=some (.bl (decide ((at':Int)<(F.length:Int)))):=zjN (i:=at') (j:=F.length) rfl rfl
 refine⟨decide ((at':Int)<(F.length:Int)),by trivial,fun q=>?_,fun q=>?_⟩
 ·have hlt:at'<F.length:=by have:=of_decide_eq_true q;omega
  have hpF:F.getD at' 0∈F:=by rw[List.getD_eq_getElem?_getD,List.getElem?_eq_getElem hlt];exact List.getElem_mem hlt
  have ix:=zmm (p:=at') g3 hlt
  have etk:F.take (at'+1)=F.take at'++[F.getD at' 0]:=by
   rw[List.take_add_one,List.getElem?_eq_getElem hlt,List.getD_eq_getElem?_getD,List.getElem?_eq_getElem hlt];rfl
  generalize F.getD at' 0=p at hpF ix etk
  have hp:=lt p hpF
  unfold zee
  refine zbn (zs:=b.getD p []) (en:=nW) (c1:=c) (zeV (by trivial))
   (fun d sl c=>∃new x5,sl=[some (wB b),some (wS is),some (nW s),some (.cel k3),some (nW at'),x5]/\Own ce c [(k3,C.lst ((F++new).map nW))]/\(F++new).Nodup/\(∀x∈new,x∈b.getD p []/\okV (vS is) s x)/\∀x∈d,okV (vS is) s x->x∈F++new)
   ⟨[],x5,rfl,by simpa using O,by simpa using nd,by simp,by simp⟩ ?_ ?_
  ·rintro d y r sl c e hy ⟨new,x5,rfl,O,nd2,hnew,hd⟩
   have g3:=O.g0
   have hy':=hb.get hy
   have lt2:∀x∈F++new,x<b.length:=fun x hx=>by
    rcases List.mem_append.mp hx with hx|hx
    ·exact lt x hx
    ·exact hb.get (hnew x hx).1
   have hl2:=zaw nd2 lt2
   have hw:((F++new).map nW).length<PySem.sizeLine:=by rw[List.length_map];omega
   have j1:=zcg (ce:=c) (is:=is) (p:=y) (by omega)
   have j2:=zcg (ce:=c) (is:=is) (p:=s) (by omega)
   unfold zed
   refine zaj (by repeat (first|exact SetAt.zero|apply SetAt.succ)) ?_
   refine zbS (p:=decide (is.getD y 0=is.getD s 0)&&!decide (y∈F++new)) (ce':=c) (by trivial) (fun q=>?_) (fun q=>?_)
   ·simp only[Bool.and_eq_true,Bool.not_eq_true',decide_eq_false_iff_not,decide_eq_true_eq] at q
    trivial
    refine⟨new++[y],_,rfl,?_,?_,fun x hx=>?_,fun x hx o=>?_⟩
    ·have e2:(F++(new++[y])).map nW=(F++new).map nW++[nW y]:=by simp
     rw[e2]
     exact O.set0 _
    ·rw[<- List.append_assoc,List.nodup_append]
     exact⟨nd2,by simp,fun a ha c hc=>by rw[List.mem_singleton] at hc;subst hc;intro e;subst e;exact q.2 ha⟩
    ·rcases List.mem_append.mp hx with hx|hx
     ·exact hnew x hx
     ·rw[List.mem_singleton] at hx;subst hx;exact⟨hy,q.1⟩
    ·rw[<- List.append_assoc]
     rcases List.mem_append.mp hx with hx|hx
     ·exact List.mem_append_left _ (hd x hx o)
     ·rw[List.mem_singleton] at hx;subst hx;simp
   ·refine zbu ?_
    refine⟨new,_,rfl,O,nd2,hnew,fun x hx o=>?_⟩
    rcases List.mem_append.mp hx with hx|hx
    ·exact hd x hx o
    ·rw[List.mem_singleton] at hx
     subst hx
     have o':is.getD x 0=is.getD s 0:=o
     rw[decide_eq_true o',Bool.true_and,Bool.not_eq_false',decide_eq_true_eq] at q
     exact q
  ·rintro sl c ⟨new,x5,rfl,O,nd2,hnew,hd⟩
   have lt2:∀x∈F++new,x<b.length:=fun x hx=>by
    rcases List.mem_append.mp hx with hx|hx
    ·exact lt x hx
    ·exact hb.get (hnew x hx).1
   have fa:zb3 (nW at') (.int 1)=some (nW (at'+1)):=zcb (i:=at') (j:=1) rfl rfl
   refine zgX (w:=nW (at'+1)) (ce':=c) (by trivial) ?_
   refine⟨(F++new,at'+1),(by show 36-(at'+1)<36-at';omega),x5,rfl,O,nd2,List.mem_append_left _ hsF,lt2,by show at'+1<=(F++new).length;rw[List.length_append];omega,fun x hx=>?_,fun x hx y hy o=>?_⟩
   ·rcases List.mem_append.mp hx with hx|hx
    ·exact re x hx
    ·exact(re p hpF).step (hnew x hx).1 (hnew x hx).2
   ·rw[List.take_append_of_le_length (by omega),etk] at hx
    rcases List.mem_append.mp hx with hx|hx
    ·exact List.mem_append_left _ (cl x hx y hy o)
    ·rw[List.mem_singleton] at hx;subst hx;exact hd y hy o
 ·have q':=of_decide_eq_false q
  have eat:at'=F.length:=by omega
  subst eat
  rw[List.take_length] at cl
  refine zaB (w:=.cel k3) (ce':=c) (by trivial) ?_
  subst hk
  exact⟨_,_,O.finO (by simp only[zim];exact bels_nW _ _),F,rfl,rfl,⟨nd,hsF,lt,cl,re⟩⟩
theorem zhW(fu:Nat)(hfu:200<=fu)(B:Brd b)(hl:is.length=b.length){s:Nat}(hs:s<b.length):∃F,zgU (d__law_row fu) [wB b,wS is,nW s] ce=some (.ok (wL F) ce)/\Comp b (okV (vS is) s) s F:=by
 obtain⟨F,e,h⟩:=zn0 (ce:=ce) fu hfu B hl hs
 exact⟨F,zdj e (bels_nW _ _),h⟩
theorem zmy(fu:Nat)(B:Brd b)(hl:is.length=b.length)(hr:∀p∈row,p<b.length):d__law_breaths fu [wB b,wS is,wL row] ce=some (.ok (.cel ce.length) (ce++[.lst ((brs b is row).map nW)])):=by
 have hz:=zgW
 have h36:=B.h36
 have hb:=B.bd
 unfold d__law_breaths
 refine zcq [some (wB b),some (wS is),some (wL row),none,none,none] rfl ?_
 refine zan zd0 ?_
 refine zaj (by repeat (first|exact SetAt.zero|apply SetAt.succ)) ?_
 have O0:=(Own.start ce).alloc (C.dct (kvs []))
 refine(?_:Run _ _ (ce++[C.dct (kvs [])]) _)
 generalize hk:ce.length=k3 at O0 ⊢
 generalize ce++[C.dct (kvs [])]=c0 at O0 ⊢
 refine zbn (zs:=row) (en:=nW) (zgw (by trivial))
  (fun d sl c=>∃F x4 x5,sl=[some (wB b),some (wS is),some (wL row),some (.cel k3),x4,x5]/\Own ce c [(k3,C.dct (kvs F))]/\F.Nodup/\(∀x∈F,x<b.length)/\∀x,x∈F↔(∃p∈d,x∈b.getD p [])/\is.getD x 0=0)
  ⟨[],none,none,rfl,O0,by simp,by simp,by simp⟩ ?_ ?_
 ·rintro d p r sl c e hp ⟨F,x4,x5,rfl,O,nd,lt,mem⟩
  have hp':=hr p hp
  unfold zcs
  refine zaj (by repeat (first|exact SetAt.zero|apply SetAt.succ)) ?_
  refine zca (zs:=b.getD p []) (en:=nW) (zeV (by trivial))
   (fun d' sl c=>∃F x5,sl=[some (wB b),some (wS is),some (wL row),some (.cel k3),some (nW p),x5]/\Own ce c [(k3,C.dct (kvs F))]/\F.Nodup/\(∀x∈F,x<b.length)/\∀x,x∈F↔((∃p∈d,x∈b.getD p [])\/x∈d')/\is.getD x 0=0)
   ⟨F,x5,rfl,O,nd,lt,by simpa using mem⟩ ?_ ?_
  ·rintro d' y r' sl c e' hy ⟨F,x5,rfl,O,nd,lt,mem⟩
   have g:=zdY O.g0
   have hl':(kvs F).length<PySem.sizeLine:=by rw[zbd];have:=zaw nd lt;omega
   have hy':=hb.get hy
   have j1:=zcg (ce:=c) (is:=is) (p:=y) (by omega)
   unfold zcr
   refine zaj (by repeat (first|exact SetAt.zero|apply SetAt.succ)) ?_
   refine zbS (p:=decide (is.getD y 0=0)) (ce':=c) (by trivial) (fun q=>?_) (fun q=>?_)
   ·have q':=of_decide_eq_true q
    trivial
    refine⟨ins F y,some (nW y),rfl,?_,zeU nd,fun x hx=>?_,fun x=>?_⟩
    ·rw[zdm];exact O.set0 _
    ·rcases ins_mem.mp hx with hx|rfl
     ·exact lt x hx
     ·exact hy'
    ·rw[ins_mem,mem,List.mem_append,List.mem_singleton]
     constructor
     ·rintro(⟨h1,h2⟩|rfl)
      ·exact⟨h1.imp id .inl,h2⟩
      ·exact⟨.inr (.inr rfl),q'⟩
     ·rintro⟨h1|h1|rfl,h2⟩
      ·exact .inl ⟨.inl h1,h2⟩
      ·exact .inl ⟨.inr h1,h2⟩
      ·exact .inr rfl
   ·have q':=of_decide_eq_false q
    refine zbu ?_
    refine⟨F,some (nW y),rfl,O,nd,lt,fun x=>?_⟩
    rw[mem,List.mem_append,List.mem_singleton]
    constructor
    ·rintro⟨h1,h2⟩;exact⟨h1.imp id .inl,h2⟩
    ·rintro⟨h1|h1|rfl,h2⟩
     ·exact⟨.inl h1,h2⟩
     ·exact⟨.inr h1,h2⟩
     ·exact absurd h2 q'
  ·rintro sl c ⟨F,x5,rfl,O,nd,lt,mem⟩
   refine⟨F,some (nW p),x5,rfl,O,nd,lt,fun x=>?_⟩
   rw[mem]
   refine and_congr_left fun _=>?_
   constructor
   ·rintro(⟨q,hq,h⟩|h)
    ·exact⟨q,List.mem_append_left _ hq,h⟩
    ·exact⟨p,by simp,h⟩
   ·rintro⟨q,hq,h⟩
    rcases List.mem_append.mp hq with hq|hq
    ·exact .inl ⟨q,hq,h⟩
    ·rw[List.mem_singleton] at hq;subst hq;exact .inr h
 ·rintro sl c ⟨F,x4,x5,rfl,O,nd,lt,mem⟩
  have hl':=zaw nd lt
  have es:zcw F=brs b is row:=by
   rw[zdD nd lt]
   unfold brs zbr
   rw[List.filter_filter]
   apply List.filter_congr
   intro x _
   rw[Bool.eq_iff_iff]
   simp only[decide_eq_true_eq,mem,Bool.and_eq_true,List.any_eq_true]
   exact and_comm
  refine zaB (w:=.cel c.length) (ce':=c++[.lst ((brs b is row).map nW)]) (zby (zak (zby (zak (by trivial) zar) ((zhK (.cl O.g0)).trans (zbW (by rw[List.length_map];omega)))) zar) ?_) ?_
  ·show za0 zgG [wL F] c=_
   rw[zhM (by omega),es]
   exact zdl (by rw[List.length_map,<- es,zcV];omega)
  ·subst hk
   exact(O.alloc _).finO (by simp only[zim];exact bels_nW _ _)
end
structure StdOk (b:List (List Nat)) (is:List Int):Prop where
 hl:is.length=b.length
 v:∀q,q<b.length->0<=is.getD q 0/\is.getD q 0<=2
 s1:zkq b is 1
 s2:zkq b is 2
structure BrdN (b:List (List Nat)):Prop where
 B:Brd b
 nl:∀i,i∉b.getD i []
section
variable {b:List (List Nat)} {is:List Int} {o:Int} {p:Nat} {ce:Ce}
theorem StdOk.ly(S:StdOk b is)(N:BrdN b)(ho:o=1\/o=2)(hp:p<b.length)(p0:is.getD p 0=0):LyA b is o p:=by
 refine⟨N.B.bd,N.B.sym,N.nl,S.hl,hp,p0,⟨by omega,by omega,by omega⟩,fun q hq=>by have:=S.v q hq;omega,?_,?_⟩
 ·rcases ho with rfl|rfl
  ·exact S.s2
  ·exact S.s1
 ·rcases ho with rfl|rfl
  ·exact S.s1
  ·exact S.s2
theorem LyA.std(A:LyA b is o p)(ho:o=1\/o=2)(h:Frb b is o p):StdOk b (lS b is o p):=by
 obtain⟨n1,n2⟩:=A.snd h
 refine⟨by rw[zgE];exact A.hl,fun q hq=>by have:=A.vals q hq;omega,?_,?_⟩
 ·rcases ho with rfl|rfl
  ·exact n1
  ·exact n2
 ·rcases ho with rfl|rfl
  ·exact n2
  ·exact n1
theorem zkc{F:List Nat}{n y:Nat}(h:∀x∈F,x<n)(hy:y<n):∀x∈ins F y,x<n:=fun x hx=>by
 rcases ins_mem.mp hx with hx|rfl
 ·exact h x hx
 ·exact hy
open Classical in
def zmz(b:List (List Nat))(is:List Int)(o:Int)(p:Nat):W:=if is.getD p 0=0 then (if Frb b is o p then .tup [wS (lS b is o p),wL (lT b is o p)] else .str "breath") else .str "lay"
theorem zlE{l m:List Int}(hl:l.length=m.length)(h:∀q,q<l.length->l.getD q 0=m.getD q 0):l=m:=by
 apply List.ext_getElem hl
 intro i h1 h2
 have:=h i h1
 rw[List.getD_eq_getElem?_getD,List.getD_eq_getElem?_getD,List.getElem?_eq_getElem h1,List.getElem?_eq_getElem h2] at this
 exact this
theorem zrI{sl:Sl}{a:Sl->M W}{k:Nat}{F:List Nat}{c1:Ce}(h:a sl ce=some (.ok (.cel k) c1))(g:c1[k]?=some (.dct (kvs F))):SrcFix (dID a) sl ce (c1.set k (.fzd (kvs F))) (F.map nW):=by
 refine⟨.dky ((kvs F).map fun p=>kW p.1),by simp only[dID,bnd,h,g],?_,fun _=>trivial⟩
 simp only[Src.items,kvs,List.map_map]
 rfl
set_option maxHeartbeats 0 in
theorem zlF(fu:Nat)(hfu:200<=fu)(N:BrdN b)(S:StdOk b is)(ho:o=1\/o=2)(hp:p<b.length):d__law_tried fu [wB b,wS is,.int o,nW p] ce=some (.ok (zmz b is o p) ce):=by
 have hz:=zgW
 have B:=N.B
 have h36:=B.h36
 have hb:=B.bd
 have hl:=S.hl
 have jp:=fun c=>zcg (ce:=c) (is:=is) (p:=p) (by omega)
 have jpc:=jp ce
 unfold d__law_tried
 refine zcq [some (wB b),some (wS is),some (.int o),some (nW p),none,none,none,none,none,none,none] rfl ?_
 refine za1 (p:=!decide (is.getD p 0=0)) (ce':=ce) (by trivial) (fun q=>?_) (fun q=>?_)
 ·have q':¬is.getD p 0=0:=by simpa using q
  refine zcp (zaB (w:=.str "lay") (ce':=ce) zbP ?_)
  refine zcL ?_
  unfold zmz
  rw[if_neg q']
  exact zaP (by simp only[Bel])
 have p0:is.getD p 0=0:=by simpa using q
 have A:=S.ly N ho hp p0
 refine zaF ?_
 refine zan zd0 ?_
 refine zaj (by repeat (first|exact SetAt.zero|apply SetAt.succ)) ?_
 refine(?_:Run _ _ (ce++[C.dct (kvs [])]) _)
 have O0:=(Own.start ce).alloc (C.dct (kvs []))
 generalize hk4:ce.length=k4 at O0 ⊢
 generalize ce++[C.dct (kvs [])]=c0 at O0 ⊢
 refine zan zd0 ?_
 refine zaj (by repeat (first|exact SetAt.zero|apply SetAt.succ)) ?_
 refine(?_:Run _ _ (c0++[C.dct (kvs [])]) _)
 have O1:=O0.alloc (C.dct (kvs []))
 generalize c0.length=k5 at O1 ⊢
 generalize c0++[C.dct (kvs [])]=c1 at O1 ⊢
 refine zbn (zs:=b.getD p []) (en:=nW) (zeV (by trivial))
  (fun d sl c=>∃F4 F5 x6 x7 x8 x9,sl=[some (wB b),some (wS is),some (.int o),some (nW p),some (.cel k4),some (.cel k5),x6,x7,x8,x9,none]/\Own ce c [(k5,C.dct (kvs F5)),(k4,C.dct (kvs F4))]/\F4.Nodup/\F5.Nodup/\(∀x∈F4,x<b.length)/\(∀x∈F5,x<b.length)
   /\ (∀x,x∈F4↔∃y∈d,is.getD y 0=3-o/\(brs b is (cpt b (vS is) y)).erase p=[]/\x∈cpt b (vS is) y)
   /\ ∀x,x∈F5↔(x∈d/\is.getD x 0=0)\/∃y∈d,is.getD y 0=o/\x∈(brs b is (cpt b (vS is) y)).erase p)
  ⟨[],[],_,_,_,_,rfl,O1,by simp,by simp,by simp,by simp,by simp,by simp⟩ ?_ ?_
 ·rintro d y r sl c e hy ⟨F4,F5,x6,x7,x8,x9,rfl,O,nd4,nd5,lt4,lt5,m4,m5⟩
  have hyb:=hb.get hy
  have vy:=S.v y hyb
  have jy:=fun c=>zcg (ce:=c) (is:=is) (p:=y) (by omega)
  have jyc:=jy c
  have g5:=O.g0
  have gd5:=zdY O.g0
  have hs5:(kvs F5).length<PySem.sizeLine:=by rw[zbd];have:=zaw nd5 lt5;omega
  unfold zc4
  refine zaj (by repeat (first|exact SetAt.zero|apply SetAt.succ)) ?_
  refine zbS (p:=decide (is.getD y 0=0)) (ce':=c) (by trivial) (fun q=>?_) (fun q=>?_)
  ·have y0:=of_decide_eq_true q
   trivial
   refine⟨F4,ins F5 y,_,_,_,_,rfl,by rw[zdm];exact O.set0 _,nd4,zeU nd5,lt4,zkc lt5 hyb,fun x=>?_,fun x=>?_⟩
   ·rw[m4]
    constructor
    ·rintro⟨z,hz,h⟩;exact⟨z,List.mem_append_left _ hz,h⟩
    ·rintro⟨z,hz,h⟩
     rcases List.mem_append.mp hz with hz|hz
     ·exact⟨z,hz,h⟩
     ·rw[List.mem_singleton] at hz;subst hz;exact absurd (h.1.symm.trans y0) (by omega)
   ·rw[ins_mem,m5]
    constructor
    ·rintro((⟨h1,h2⟩|⟨z,hz,h⟩)|rfl)
     ·exact .inl ⟨List.mem_append_left _ h1,h2⟩
     ·exact .inr ⟨z,List.mem_append_left _ hz,h⟩
     ·exact .inl ⟨by simp,y0⟩
    ·rintro(⟨h1,h2⟩|⟨z,hz,h⟩)
     ·rcases List.mem_append.mp h1 with h1|h1
      ·exact .inl (.inl ⟨h1,h2⟩)
      ·rw[List.mem_singleton] at h1;exact .inr h1
     ·rcases List.mem_append.mp hz with hz|hz
      ·exact .inl (.inr ⟨z,hz,h⟩)
      ·rw[List.mem_singleton] at hz;subst hz;exact absurd (h.1.symm.trans y0) (by omega)
  ·have y0:=of_decide_eq_false q
   obtain⟨Fy,e7,cm⟩:=zhW (ce:=c) fu hfu B hl hyb
   have mF:∀x,x∈Fy↔x∈cpt b (vS is) y:=fun x=>(cm.mem x).trans (za6 hb hyb).symm
   have eB:brs b is Fy=brs b is (cpt b (vS is) y):=zgF mF
   have e8:=zmy (ce:=c) (is:=is) fu B hl cm.lt
   rw[eB] at e8
   have hpb:p∈brs b is (cpt b (vS is) y):=(za7 hb).mpr ⟨⟨y,zbF hb hyb,A.sym _ _ hy⟩,p0⟩
   have hlen:(brs b is (cpt b (vS is) y)).length<=36:=by
    have h1:(brs b is (cpt b (vS is) y)).Nodup:=List.Pairwise.filter _ (List.Pairwise.filter _ List.nodup_range)
    have h2:∀x∈brs b is (cpt b (vS is) y),x<b.length:=fun x hx=>by
     obtain⟨⟨u,_,h⟩,_⟩:=(za7 hb).mp hx
     exact hb.get h
    exact Nat.le_trans (zaw h1 h2) h36
   have hbl:∀x∈(brs b is (cpt b (vS is) y)).erase p,x<b.length:=fun x hx=>by
    obtain⟨⟨u,_,h⟩,_⟩:=(za7 hb).mp (List.mem_of_mem_erase hx)
    exact hb.get h
   refine zan (w:=wL Fy) (ce':=c) (by trivial) ?_
   refine zaj (by repeat (first|exact SetAt.zero|apply SetAt.succ)) ?_
   refine zan (w:=.cel c.length) (ce':=c++[.lst ((brs b is (cpt b (vS is) y)).map nW)]) (by trivial) ?_
   refine zaj (by repeat (first|exact SetAt.zero|apply SetAt.succ)) ?_
   have O2:=O.alloc (C.lst ((brs b is (cpt b (vS is) y)).map nW))
   generalize c.length=k8 at O2 ⊢
   generalize c++[C.lst ((brs b is (cpt b (vS is) y)).map nW)]=c2 at O2 ⊢
   refine zjH (w:=.non) (ce':=c2.set k8 (.lst (((brs b is (cpt b (vS is) y)).erase p).map nW))) (zlc (ws:=[nW p]) (by trivial) (zcT O2.g0) (by trivial) (zp3 O2.g0 hpb)) ?_
   have O3:=O2.set0 (C.lst (((brs b is (cpt b (vS is) y)).erase p).map nW))
   generalize c2.set k8 (C.lst (((brs b is (cpt b (vS is) y)).erase p).map nW))=c3 at O3 ⊢
   have jy3:=jy c3
   refine zbS (p:=decide (is.getD y 0=o)) (ce':=c3) (by trivial) (fun q2=>?_) (fun q2=>?_)
   ·have yo:=of_decide_eq_true q2
    refine zlf (zs:=(brs b is (cpt b (vS is) y)).erase p) (en:=nW) (k:=k8) (by trivial) O3.g0
     (fun d' sl c=>∃F5' x9,sl=[some (wB b),some (wS is),some (.int o),some (nW p),some (.cel k4),some (.cel k5),some (nW y),some (wL Fy),some (.cel k8),x9,none]/\Own ce c [(k8,C.lst (((brs b is (cpt b (vS is) y)).erase p).map nW)),(k5,C.dct (kvs F5')),(k4,C.dct (kvs F4))]/\F5'.Nodup/\(∀x∈F5',x<b.length)/\∀x,x∈F5'↔x∈F5\/x∈d')
     ⟨F5,_,rfl,O3,nd5,lt5,by simp⟩ (fun d sl c h=>by obtain⟨_,_,_,O,_⟩:=h;exact O.g0) ?_ ?_
    ·rintro d' u r' sl c e' hu ⟨F5',x9,rfl,O,nd',lt',mem'⟩
     have gd:=zdY O.g1
     have hs:(kvs F5').length<PySem.sizeLine:=by rw[zbd];have:=zaw nd' lt';omega
     unfold zc3
     trivial
     refine⟨ins F5' u,_,rfl,by rw[zdm];exact O.set1 _,zeU nd',zkc lt' (hbl u hu),fun x=>?_⟩
     rw[ins_mem,mem',List.mem_append,List.mem_singleton,or_assoc]
    ·rintro sl c ⟨F5',x9,rfl,O,nd',lt',mem'⟩
     refine⟨F4,F5',_,_,_,_,rfl,O.drop,nd4,nd',lt4,lt',fun x=>?_,fun x=>?_⟩
     ·rw[m4]
      constructor
      ·rintro⟨z,hz,h⟩;exact⟨z,List.mem_append_left _ hz,h⟩
      ·rintro⟨z,hz,h⟩
       rcases List.mem_append.mp hz with hz|hz
       ·exact⟨z,hz,h⟩
       ·rw[List.mem_singleton] at hz;subst hz;exact absurd (h.1.symm.trans yo) (by omega)
     ·rw[mem',m5]
      constructor
      ·rintro((⟨h1,h2⟩|⟨z,hz,h⟩)|h)
       ·exact .inl ⟨List.mem_append_left _ h1,h2⟩
       ·exact .inr ⟨z,List.mem_append_left _ hz,h⟩
       ·exact .inr ⟨y,by simp,yo,h⟩
      ·rintro(⟨h1,h2⟩|⟨z,hz,h⟩)
       ·rcases List.mem_append.mp h1 with h1|h1
        ·exact .inl (.inl ⟨h1,h2⟩)
        ·rw[List.mem_singleton] at h1;subst h1;exact absurd h2 y0
       ·rcases List.mem_append.mp hz with hz|hz
        ·exact .inl (.inr ⟨z,hz,h⟩)
        ·rw[List.mem_singleton] at hz;subst hz;exact .inr h.2
   ·have yo:=of_decide_eq_false q2
    have yh:is.getD y 0=3-o:=by omega
    have m5':∀x,((x∈d++[y]/\is.getD x 0=0)\/∃z∈d++[y],is.getD z 0=o/\x∈(brs b is (cpt b (vS is) z)).erase p)↔x∈F5:=fun x=>by
     rw[m5]
     constructor
     ·rintro(⟨h1,h2⟩|⟨z,hz,h⟩)
      ·rcases List.mem_append.mp h1 with h1|h1
       ·exact .inl ⟨h1,h2⟩
       ·rw[List.mem_singleton] at h1;subst h1;exact absurd h2 y0
      ·rcases List.mem_append.mp hz with hz|hz
       ·exact .inr ⟨z,hz,h⟩
       ·rw[List.mem_singleton] at hz;subst hz;exact absurd h.1 yo
     ·rintro(⟨h1,h2⟩|⟨z,hz,h⟩)
      ·exact .inl ⟨List.mem_append_left _ h1,h2⟩
      ·exact .inr ⟨z,List.mem_append_left _ hz,h⟩
    have eqn:eqW false c3 (.cel k8) (.lst [])=some (.bl (decide ((brs b is (cpt b (vS is) y)).erase p=[]))):=(LstOf.cl O3.g0).eqN (m:=[]) (.fr _) false
    refine zbS (p:=decide ((brs b is (cpt b (vS is) y)).erase p=[])) (ce':=c3) (by trivial) (fun q3=>?_) (fun q3=>?_)
    ·have e3:=of_decide_eq_true q3
     refine zca (zs:=Fy) (en:=nW) (zgw (by trivial))
      (fun d' sl c=>∃F4' x9,sl=[some (wB b),some (wS is),some (.int o),some (nW p),some (.cel k4),some (.cel k5),some (nW y),some (wL Fy),some (.cel k8),x9,none]/\Own ce c [(k8,C.lst (((brs b is (cpt b (vS is) y)).erase p).map nW)),(k5,C.dct (kvs F5)),(k4,C.dct (kvs F4'))]/\F4'.Nodup/\(∀x∈F4',x<b.length)/\∀x,x∈F4'↔x∈F4\/x∈d')
      ⟨F4,_,rfl,O3,nd4,lt4,by simp⟩ ?_ ?_
     ·rintro d' u r' sl c e' hu ⟨F4',x9,rfl,O,nd',lt',mem'⟩
      have gd:=zdY O.g2
      have hs:(kvs F4').length<PySem.sizeLine:=by rw[zbd];have:=zaw nd' lt';omega
      unfold zc2
      trivial
      refine⟨ins F4' u,_,rfl,by rw[zdm];exact O.set2 _,zeU nd',zkc lt' (cm.lt u hu),fun x=>?_⟩
      rw[ins_mem,mem',List.mem_append,List.mem_singleton,or_assoc]
     ·rintro sl c ⟨F4',x9,rfl,O,nd',lt',mem'⟩
      refine⟨F4',F5,_,_,_,_,rfl,O.drop,nd',nd5,lt',lt5,fun x=>?_,fun x=>(m5' x).symm⟩
      rw[mem',m4,mF]
      constructor
      ·rintro(⟨z,hz,h⟩|h)
       ·exact⟨z,List.mem_append_left _ hz,h⟩
       ·exact⟨y,by simp,yh,e3,h⟩
      ·rintro⟨z,hz,h⟩
       rcases List.mem_append.mp hz with hz|hz
       ·exact .inl ⟨z,hz,h⟩
       ·rw[List.mem_singleton] at hz;subst hz;exact .inr h.2.2
    ·have e3:=of_decide_eq_false q3
     refine zbu ?_
     refine⟨F4,F5,_,_,_,_,rfl,O3.drop,nd4,nd5,lt4,lt5,fun x=>?_,fun x=>(m5' x).symm⟩
     rw[m4]
     constructor
     ·rintro⟨z,hz,h⟩;exact⟨z,List.mem_append_left _ hz,h⟩
     ·rintro⟨z,hz,h⟩
      rcases List.mem_append.mp hz with hz|hz
      ·exact⟨z,hz,h⟩
      ·rw[List.mem_singleton] at hz;subst hz;exact absurd h.2.1 e3
 ·rintro sl c ⟨F4,F5,x6,x7,x8,x9,rfl,O,nd4,nd5,lt4,lt5,m4,m5⟩
  have eT:∀x,x∈F4↔x∈lT b is o p:=fun x=>(m4 x).trans A.near.symm
  have l5:=zkb O.g0
  have l4:=zkb O.g1
  have eFr:Frb b is o p↔¬(F5.length=0/\F4.length=0):=by
   rw[A.brth]
   constructor
   ·rintro((⟨y,hy,y0⟩|⟨y,hy,ey,hne⟩)|h) ⟨h5,h4⟩
    ·have:y∈F5:=(m5 y).mpr (.inl ⟨hy,y0⟩)
     rw[List.length_eq_zero_iff.mp h5] at this;simp at this
    ·obtain⟨x,hx⟩:=List.exists_mem_of_ne_nil _ hne
     have:x∈F5:=(m5 x).mpr (.inr ⟨y,hy,ey,hx⟩)
     rw[List.length_eq_zero_iff.mp h5] at this;simp at this
    ·obtain⟨x,hx⟩:=List.exists_mem_of_ne_nil _ h
     have:=(eT x).mpr hx
     rw[List.length_eq_zero_iff.mp h4] at this;simp at this
   ·intro h
    by_cases h4:F4=[]
    ·have h5:F5≠[]:=fun e=>h ⟨by rw[e];rfl,by rw[h4];rfl⟩
     obtain⟨x,hx⟩:=List.exists_mem_of_ne_nil _ h5
     left
     rcases(m5 x).mp hx with ⟨h1,h2⟩|⟨y,hy,ey,hx⟩
     ·exact .inl ⟨x,h1,h2⟩
     ·exact .inr ⟨y,hy,ey,List.ne_nil_of_mem hx⟩
    ·obtain⟨x,hx⟩:=List.exists_mem_of_ne_nil _ h4
     exact .inr (List.ne_nil_of_mem ((eT x).mp hx))
  have q5:zdz (nW F5.length) (.int 0)=some (.bl (decide ((F5.length:Int)=0))):=zfv (i:=F5.length) (j:=0) rfl rfl
  have q4:zdz (nW F4.length) (.int 0)=some (.bl (decide ((F4.length:Int)=0))):=zfv (i:=F4.length) (j:=0) rfl rfl
  refine za1 (p:=decide ((F5.length:Int)=0)&&decide ((F4.length:Int)=0)) (ce':=c) (by trivial) (fun q=>?_) (fun q=>?_)
  ·simp only[Bool.and_eq_true,decide_eq_true_eq] at q
   refine zcp (zaB (w:=.str "breath") (ce':=c) zbP ?_)
   refine zcL ?_
   unfold zmz
   rw[if_pos p0,if_neg (fun h=>eFr.mp h (by omega))]
   subst hk4
   exact O.finC (by simp only[Bel])
  ·have fr:Frb b is o p:=eFr.mpr fun h=>by
    rw[decide_eq_true (by omega),decide_eq_true (by omega)] at q;cases q
   refine zaF ?_
   have hlz:is.length<=PySem.sizeLine:=by omega
   refine zan (w:=.cel c.length) (ce':=c++[.lst (is.map W.int)]) (zby (zak (by trivial) zar) (by rw[zd1 (xs:=is.map W.int) rfl,zdl (by rw[List.length_map];exact hlz)])) ?_
   refine zaj (by repeat (first|exact SetAt.zero|apply SetAt.succ)) ?_
   have O2:=O.alloc (C.lst (is.map W.int))
   generalize c.length=k10 at O2 ⊢
   generalize c++[C.lst (is.map W.int)]=c2 at O2 ⊢
   have O3:=O2.set2 (C.fzd (kvs F4))
   refine zbn (zs:=F4) (en:=nW) (c1:=c2.set k4 (.fzd (kvs F4))) (zrI (by trivial) O2.g2)
    (fun d sl c=>∃is' x9,sl=[some (wB b),some (wS is),some (.int o),some (nW p),some (.cel k4),some (.cel k5),x6,x7,x8,x9,some (.cel k10)]/\Own ce c [(k10,C.lst (is'.map W.int)),(k5,C.dct (kvs F5)),(k4,C.fzd (kvs F4))]/\is'.length=b.length/\(∀q∈d,is'.getD q 0=0)/\∀q,q∉d->is'.getD q 0=is.getD q 0)
    ⟨is,_,rfl,O3,hl,by simp,fun _ _=>rfl⟩ ?_ ?_
   ·rintro d u r sl c e hu ⟨is',x9,rfl,O,l',z1,z2⟩
    have hul:u<is'.length:=by rw[l'];exact lt4 u hu
    unfold zc1
    refine zaj (by repeat (first|exact SetAt.zero|apply SetAt.succ)) ?_
    refine zfy (w:=.int 0) (k:=k10) (ij:=u) (j:=u) (by trivial) (by trivial) (by trivial) O.g0 (zfx (by rw[List.length_map];exact hul)) ?_
    refine⟨is'.set u 0,_,rfl,by rw[List.map_set];exact O.set0 _,by rw[List.length_set];exact l',fun q hq=>?_,fun q hq=>?_⟩
    ·rw[zbG]
     split
     ·rfl
     ·rename_i hn
      rcases List.mem_append.mp hq with hq|hq
      ·exact z1 q hq
      ·rw[List.mem_singleton] at hq;exact absurd ⟨hq.symm,hul⟩ hn
    ·rw[zbG,if_neg (fun x=>hq (by rw[<- x.1];simp))]
     exact z2 q fun x=>hq (List.mem_append_left _ x)
   ·rintro sl c ⟨is',x9,rfl,O,l',z1,z2⟩
    have hpl:p<is'.length:=by omega
    refine zlk (w:=.int o) (k:=k10) (ij:=p) (j:=p) (by trivial) (by trivial) (by trivial) O.g0 (zfx (by rw[List.length_map];exact hpl)) ?_
    have es:(is'.map W.int).set p (.int o)=(is'.set p o).map W.int:=by rw[List.map_set]
    have eL:is'.set p o=lS b is o p:=by
     refine zlE (by rw[List.length_set,zgE,l',hl]) fun q hq=>?_
     rw[List.length_set,l'] at hq
     rw[A.get hq,zbG]
     by_cases e:q=p
     ·subst e;rw[if_pos ⟨rfl,hpl⟩,if_pos rfl]
     ·rw[if_neg (fun x=>e x.1.symm),if_neg e]
      by_cases ht:q∈lT b is o p
      ·rw[if_pos ht];exact z1 q ((eT q).mpr ht)
      ·rw[if_neg ht];exact z2 q fun h=>ht ((eT q).mp h)
    rw[es,eL]
    have O4:=O.set0 (C.lst ((lS b is o p).map W.int))
    generalize c.set k10 (C.lst ((lS b is o p).map W.int))=c4 at O4 ⊢
    have lz:(lS b is o p).length<=PySem.sizeLine:=by rw[zgE];omega
    have h4l:=zaw nd4 lt4
    have e4:zcw F4=lT b is o p:=by
     rw[zdD nd4 lt4]
     unfold lT
     apply List.filter_congr
     intro x hx
     rw[Bool.eq_iff_iff,decide_eq_true_eq,eT,List.any_eq_true,A.tk]
     exact⟨fun⟨r,h1,h2⟩=>⟨r,h1,decide_eq_true h2⟩,fun⟨r,h1,h2⟩=>⟨r,h1,of_decide_eq_true h2⟩⟩
    have eW:zmz b is o p=.tup [wS (lS b is o p),wL (lT b is o p)]:=by unfold zmz;rw[if_pos p0,if_pos fr]
    have z22:2<=PySem.sizeLine:=by decide
    refine zaB (w:=zmz b is o p) (ce':=c4) ?_ ?_
    ·rw[eW]
     refine zcf (ws:=[wS (lS b is o p),wL (lT b is o p)]) (zak (zby (zak (by trivial) zar) (zlg O4.g0 lz)) (zak (zby (zak (zby (zak (by trivial) zar) ((zhK (.fz O4.g2)).trans (zbW (by rw[List.length_map];omega)))) zar) ?_) zar)) z22
     show za0 zbl [wL F4] c4=_
     rw[zhM (by omega),e4]
     exact zbW (by rw[List.length_map,<- e4,zcV];omega)
    ·rw[eW]
     subst hk4
     exact O4.finC (by simp only[Bel,zdr];exact⟨belInts _ _,bels_nW _ _,trivial⟩)
end
section
variable {b:List (List Nat)} {is:List Int} {o:Int} {p:Nat} {ce:Ce}
theorem zs1(b:List (List Nat)):StdOk b (b.map fun _=>0):=by
 have z:∀q,(b.map fun _=>(0:Int)).getD q 0=0:=fun q=>by
  rw[List.getD_eq_getElem?_getD,List.getElem?_map]
  cases b[q]?<;>rfl
 exact⟨by simp,fun q _=>by rw[z];omega,fun s _ e=>by rw[z] at e;omega,fun s _ e=>by rw[z] at e;omega⟩
theorem zhX{x:PySem.Str}:zio [.str x,.ty "tuple"] ce=some (.ok (.bl false) ce):=rfl
theorem zlG{xs:List W}:zio [.tup xs,.ty "tuple"] ce=some (.ok (.bl true) ce):=rfl
theorem zlH(fu:Nat)(hfu:200<=fu)(N:BrdN b)(cs:List Int):∃is,d__law_sound fu [wB b,sW cs] ce=some (.ok (wS is) ce)/\StdOk b is:=by
 have hz:=zgW
 have B:=N.B
 have h36:=B.h36
 have pos:=B.pos
 suffices hs:∃w c',d__law_sound fu [wB b,sW cs] ce=some (.ok w c')/\∃is,w=wS is/\c'=ce/\StdOk b is by
  obtain⟨w,c',e,is,rfl,rfl,h⟩:=hs
  exact⟨is,e,h⟩
 have hbz:b.length<=PySem.sizeLine:=by omega
 unfold d__law_sound
 refine zhe [some (wB b),some (sW cs),none,none,none,none,none,none] rfl ?_
 refine zan (w:=wS (b.map fun _=>0)) (ce':=ce) (zby (zak (znv (zs:=b) (en:=wT) (f:=fun _=>0) (zle (by trivial)).is hbz (fun x hx=>zbP)) zar) (zny (by rw[List.length_map];exact hbz))) ?_
 refine zaj (by repeat (first|exact SetAt.zero|apply SetAt.succ)) ?_
 refine zbn (zs:=cs) (en:=W.int) (zgw (xs:=cs.map W.int) (by trivial))
  (fun d sl c=>∃is x3 x4 x5 x6 x7,sl=[some (wB b),some (sW cs),some (wS is),x3,x4,x5,x6,x7]/\c=ce/\StdOk b is)
  ⟨_,_,_,_,_,_,rfl,rfl,zs1 b⟩ ?_ ?_
 ·rintro d x r sl c e hx ⟨is,x3,x4,x5,x6,x7,rfl,rfl,S⟩
  obtain⟨xs,e1,xl,hxs⟩:=zc8 (ce:=c) fu x (m:=3) (by omega)
  have i0:=zb2 (ns:=xs) (p:=0) (by omega) c (i:=0) rfl
  have i1:=zb2 (ns:=xs) (p:=1) (by omega) c (i:=1) rfl
  have i2:=zb2 (ns:=xs) (p:=2) (by omega) c (i:=2) rfl
  generalize xs.getD 0 0=a0 at i0
  generalize xs.getD 1 0=a1 at i1
  generalize xs.getD 2 0=a2 at i2
  have e1':d__law_stream fu [.int x,.int 3] c=some (.ok (sW xs) c):=e1
  unfold zc6
  refine zaj (by repeat (first|exact SetAt.zero|apply SetAt.succ)) ?_
  refine zan (w:=sW xs) (ce':=c) (zaO (ws:=[.int x,.int 3]) (by trivial) rfl e1') ?_
  refine zaj (by repeat (first|exact SetAt.zero|apply SetAt.succ)) ?_
  obtain⟨n,hn⟩:∃n:Nat,1+a2 % 3=n:=⟨(1+a2 % 3).toNat,by omega⟩
  have fa:zb3 (.int 1) (.int (a2 % 3))=some (nW n):=by rw[zcb rfl rfl,hn];rfl
  have n1000:n<=1000:=by omega
  refine zca (zs:=List.range n) (en:=nW) (zet (by trivial) n1000)
   (fun d' sl c'=>∃is x5 x6 x7,sl=[some (wB b),some (sW cs),some (wS is),some (.int x),some (sW xs),x5,x6,x7]/\c'=c/\StdOk b is)
   ⟨is,_,_,_,rfl,rfl,S⟩ ?_ ?_
  ·rintro d' k r' sl c' e' hk ⟨is,x5,x6,x7,rfl,rfl,S⟩
   have hk:=List.mem_range.mp hk
   obtain⟨p,hp,ep⟩:=zdk (a0+7*(k:Int)) (n:=b.length) pos
   have e2:zbA (.int (a0+7*(k:Int))) (nW b.length)=some (nW p):=zeS pos ep
   have m7:CMul 7 (k:Int):=.inl (by omega)
   obtain⟨o,ho⟩:∃o:Int,1+(a1+(k:Int)) % 2=o:=⟨_,rfl⟩
   have ho12:o=1\/o=2:=by omega
   have fo:zb3 (.int 1) (.int ((a1+(k:Int)) % 2))=some (.int o):=by rw[zcb rfl rfl,ho]
   have e3:=zlF (ce:=c') fu hfu N S ho12 hp
   unfold zc5
   refine zaj (by repeat (first|exact SetAt.zero|apply SetAt.succ)) ?_
   refine zan (w:=nW p) (ce':=c') (by trivial) ?_
   refine zaj (by repeat (first|exact SetAt.zero|apply SetAt.succ)) ?_
   refine zan (w:=zmz b is o p) (ce':=c') (zaO (ws:=[wB b,wS is,.int o,nW p]) (by trivial) rfl e3) ?_
   refine zaj (by repeat (first|exact SetAt.zero|apply SetAt.succ)) ?_
   unfold zmz
   split
   ·rename_i p0
    split
    ·rename_i fr
     refine zbS (p:=true) (ce':=c') (zeT (zby (ws:=[.tup [wS (lS b is o p),wL (lT b is o p)],.ty "tuple"]) (by trivial) zlG)) (fun _=>?_) (fun q=>by cases q)
     have i3:ixW c' (.tup [wS (lS b is o p),wL (lT b is o p)]) (.int 0)=some (wS (lS b is o p)):=znm (xs:=[wS (lS b is o p),wL (lT b is o p)]) (j:=0) rfl rfl
     refine zgX (w:=wS (lS b is o p)) (ce':=c') (by trivial) ?_
     exact⟨lS b is o p,_,_,_,rfl,rfl,(S.ly N ho12 hp p0).std ho12 fr⟩
    ·refine zbS (p:=false) (ce':=c') (zeT (zby (ws:=[.str "breath",.ty "tuple"]) (by trivial) zhX)) (fun q=>by cases q) (fun _=>?_)
     refine zbu ?_
     exact⟨is,_,_,_,rfl,rfl,S⟩
   ·refine zbS (p:=false) (ce':=c') (zeT (zby (ws:=[.str "lay",.ty "tuple"]) (by trivial) zhX)) (fun q=>by cases q) (fun _=>?_)
    refine zbu ?_
    exact⟨is,_,_,_,rfl,rfl,S⟩
  ·rintro sl c' ⟨is,x5,x6,x7,rfl,rfl,S⟩
   exact⟨is,_,_,_,_,_,rfl,rfl,S⟩
 ·rintro sl c ⟨is,x3,x4,x5,x6,x7,rfl,rfl,S⟩
  refine zaB (w:=wS is) (ce':=c) (by trivial) ?_
  exact⟨_,_,zaP (by simp only[Bel];exact belInts _ _),is,rfl,rfl,S⟩
end
section
variable {b:List (List Nat)} {is:List Int} {o:Int} {p:Nat} {ce:Ce}
theorem zkd(hb:Bd b){vl:Nat->Int}{c:List Nat}(h:c∈ptc b vl):0<c.length/\c.length<=b.length/\∀p∈c,p<b.length:=by
 obtain⟨s,hs,_,rfl⟩:=(zg2 hb).mp h
 exact⟨List.length_pos_of_mem (zbF hb hs),znC,fun p hp=>cpt_lt hp⟩
theorem zn1{c:List Nat}{n:Nat}(h0:0<c.length)(h:∀p∈c,p<n):c.getD 0 0<n:=by
 rw[List.getD_eq_getElem?_getD,List.getElem?_eq_getElem h0]
 exact h _ (List.getElem_mem h0)
theorem zqf{c:List Nat}(h0:0<c.length):ixW ce (wL c) (.int 0)=some (nW (c.getD 0 0)):=zml (p:=0) h0
def zke(b:List (List Nat))(is:List Int):List (List Nat):=(ptc b (vS is)).filter fun c=>!decide (is.getD (c.getD 0 0) 0=0)
theorem zn2(fu:Nat)(hfu:200<=fu)(B:Brd b)(hl:is.length=b.length):d_rows fu [wB b,wS is] ce=some (.ok (.lst ((zke b is).map wL)) ce):=by
 have hz:=zgW
 have h36:=B.h36
 have e1:=zqc (ce:=ce) fu hfu (zs0 hl) B.bd B.sym h36
 have hzl:(ptc b (vS is)).length<=PySem.sizeLine:=by have:=zjQ (b:=b) (vl:=vS is);omega
 unfold d_rows
 refine zcq [some (wB b),some (wS is)] rfl ?_
 refine zaB (zrv (zs:=ptc b (vS is)) (en:=wL) (t:=fun c=>!decide (is.getD (c.getD 0 0) 0=0)) (znu (zaO (ws:=[wB b,wS is]) (by trivial) rfl e1) (.fr _)) hzl (fun c hc=>?_)) ?_
 ·obtain⟨p0,_,p2⟩:=zkd B.bd hc
  have hh:c.getD 0 0<is.length:=by rw[hl];exact zn1 p0 p2
  have i1:=zqf (ce:=ce) p0
  have i2:=zcg (ce:=ce) hh
  trivial
 ·exact zaP (by simp only[Bel];exact zfw _ _)
end
inductive Pl:W->Prop
 | non:Pl .non
 | bl (b:Bool):Pl (.bl b)
 | int (i:Int):Pl (.int i)
 | str (x:PySem.Str):Pl (.str x)
 | lst (xs:List W):Pl (.lst xs)
 | tup (xs:List W):Pl (.tup xs)
def tst:W->Bool
 | .int i=>decide (0<=i)&&decide (i<=2)
 | _=>false
def isI:W->Bool
 | .int _=>true
 | _=>false
section
variable {ce:Ce} {sl:Sl} {c1:Ce} {a b c:Sl->M W}
theorem zlI{i j k:Int}(ha:a sl ce=some (.ok (.int i) ce))(hb:b sl ce=some (.ok (.int j) ce))(hc:c sl ce=some (.ok (.int k) ce)):zge (fun _=>fLe) (fun _=>fLe) a b c sl ce=some (.ok (.bl (decide (i<=j)&&decide (j<=k))) ce):=by
 have h1:fLe (.int i) (.int j)=some (.bl (decide (i<=j))):=rfl
 have h2:fLe (.int j) (.int k)=some (.bl (decide (j<=k))):=rfl
 simp only[zge,bnd,ha,hb,look,h1,Option.map_some]
 cases decide (i<=j) with
 | true=>simp only[bnd,look,hc,h2,Option.map_some,Bool.true_and]
 | false=>simp only[ret,Bool.false_and]
theorem zlJ(fu:Nat){w:W}(h:Pl w):d_is_whole fu [w] ce=some (.ok (.bl (isI w)) ce):=by
 unfold d_is_whole
 refine zcq [some w] rfl ?_
 refine zaB (w:=.bl (isI w)) (ce':=ce) ?_ (zaP (by simp only[Bel]))
 cases h<;>first|rfl|(rename_i b;cases b<;>rfl)
theorem zkf{xs:List W}:zcJ [.tup xs] ce=some (.ok (nW xs.length) ce):=by simp[zcJ];rfl
theorem zhY(fu:Nat){bs xs:List W}(hx:∀w∈xs,Pl w)(hl:xs.length<=100):d_is_stand fu [.tup bs,.tup xs] ce=some (.ok (.bl (decide (xs.length=bs.length)&&xs.all tst)) ce):=by
 have z:(100:Nat)<PySem.sizeLine:=by decide
 have i0:zio [.tup xs,.ty "tuple"] ce=some (.ok (.bl true) ce):=rfl
 have l1:=zkf (ce:=ce) (xs:=xs)
 have l2:=zkf (ce:=ce) (xs:=bs)
 have en:eqW true ce (nW xs.length) (nW bs.length)=some (.bl (!decide (xs.length=bs.length))):=by
  have:=zsj (ce:=ce) (i:=(xs.length:Int)) (j:=(bs.length:Int))
  rw[show decide ((xs.length:Int)=(bs.length:Int))=decide (xs.length=bs.length) by rw[Bool.eq_iff_iff,decide_eq_true_eq,decide_eq_true_eq];omega] at this
  exact this
 unfold d_is_stand
 refine zcq [some (.tup bs),some (.tup xs)] rfl ?_
 refine za1 (p:=!true||!decide (xs.length=bs.length)) (ce':=ce) (by trivial) (fun q=>?_) (fun q=>?_)
 ·have q':¬xs.length=bs.length:=by simpa using q
  refine zcp ?_
  trivial
  rw[decide_eq_false q']
  exact zcL (zaP (by simp only[Bel]))
 ·have q':xs.length=bs.length:=by simpa using q
  refine zaF ?_
  refine zaB (zby (zak (zpQ (zs:=xs) (en:=id) (f:=tst) (by rw[List.map_id];exact(zpT (by trivial)).is) (by omega) (fun w hw=>?_)) zar) zjP) ?_
  ·have ew:=zlJ (ce:=ce) fu (hx w hw)
   have hc:zbo 1 (d_is_whole fu) (zad (zaf 0) zap) (some (id w)::zcR [] [some (.tup bs),some (.tup xs)]) ce=some (.ok (.bl (isI w)) ce):=zaO (ws:=[w]) (by trivial) rfl ew
   cases hx w hw with
   | int i =>
    exact zj1 (zjS hc (zlI zbP (zal rfl) zbP))
   | _=>simp only[zkn,noX,zl5,bnd,hc,isI,ret,tst]
  ·rw[decide_eq_true q',Bool.true_and]
   refine zcL ?_
   have e:(xs.map tst).all id=xs.all tst:=by rw[List.all_map];rfl
   rw[e]
   exact zaP (by simp only[Bel])
theorem zej(fu:Nat){bs:List W}{w:W}(h:zio [w,.ty "tuple"] ce=some (.ok (.bl false) ce)):d_is_stand fu [.tup bs,w] ce=some (.ok (.bl false) ce):=by
 unfold d_is_stand
 refine zcq [some (.tup bs),some w] rfl ?_
 have hb:zkk (zdQ (dB (dBi zio (zad (zaf 1) (zad (dC (.ty "tuple")) zap))))) (dB (zaR (eqW true) (dBi zcJ (zad (zaf 1) zap)) (dBi zcJ (zad (zaf 0) zap)))) [some (.tup bs),some w] ce=some (.ok (!false||true) ce) :=
  zhI (p:=!false) (q:=true) (by trivial) (fun q=>by cases q)
 refine za1 hb (fun _=>?_) (fun q=>by cases q)
 refine zcp ?_
 trivial
 exact zcL (zaP (by simp only[Bel]))
theorem zkg{xs:List W}{dl dh:Sl->M (Option Int)}{lo hi:Option Int}(ha:a sl ce=some (.ok (.tup xs) ce))(hl:dl sl ce=some (.ok lo ce))(hh:dh sl ce=some (.ok hi ce))(hz:xs.length<=PySem.sizeLine):znK a dl dh sl ce=some (.ok (.tup (zeQ xs lo hi)) ce):=by
 simp only[znK,bnd,ha,hl,hh,slA]
 refine znB ?_
 unfold zeQ
 rw[List.length_take,List.length_drop]
 omega
theorem zqg{n d m:Nat}(h:m<=n):HT.sIx n d (some (m:Int))=m:=by simp only[HT.sIx];rw[if_neg (by omega)];simp;omega
theorem zqh{xs:List W}{n:Nat}(h:n<=xs.length):zeQ xs none (some (n:Int))=xs.take n:=by
 unfold zeQ
 rw[zqg h]
 simp[HT.sIx]
theorem zlK{xs:List W}{n:Nat}(h:n<=xs.length):zeQ xs (some (n:Int)) none=xs.drop n:=by
 unfold zeQ
 rw[zqg h]
 simp only[HT.sIx]
 exact List.take_of_length_le (by rw[List.length_drop];omega)
end
def ziE(b:List (List Nat))(is:List Int):Prop:=∀p,p<b.length->is.getD p 0≠0->∃q∈cpt b (vS is) p,∃y∈b.getD q [],is.getD y 0=0
section
variable {b:List (List Nat)} {is:List Int} {ce:Ce}
open Classical in
theorem zek(fu:Nat)(hfu:200<=fu)(B:Brd b)(hl:is.length=b.length):d_is_sound fu [wB b,wS is] ce=some (.ok (.bl (decide (ziE b is))) ce):=by
 have hz:=zgW
 have hb:=B.bd
 have sym:=B.sym
 have h36:=B.h36
 have e1:=zn2 (ce:=ce) fu hfu B hl
 have hrl:(zke b is).length<=b.length:=Nat.le_trans (List.length_filter_le _ _) zjQ
 unfold d_is_sound
 refine zcq [some (wB b),some (wS is)] rfl ?_
 refine zaB (zby (zak (zpQ (zs:=zke b is) (en:=wL) (f:=fun c=>decide ((0:Int)<((brs b is c).length:Int))) (by trivial) (by omega) (fun c hc=>?_)) zar) zjP) ?_
 ·have hc':=(List.mem_filter.mp hc).1
  obtain⟨h0,_,h2⟩:=zkd hb hc'
  have e2:=zdj (ziD (ce:=ce) fu hb h36 hl (LstOf.fr _) h2) (bels_nW _ _)
  trivial
 ·refine(?_:finC ce ce (W.bl _)=_)
  rw[zaP (by simp only[Bel])]
  have:((zke b is).map fun c=>decide ((0:Int)<((brs b is c).length:Int))).all id=decide (ziE b is):=by
   rw[Bool.eq_iff_iff,decide_eq_true_eq,List.all_eq_true]
   simp only[List.mem_map,forall_exists_index,and_imp,forall_apply_eq_imp_iff₂,id,decide_eq_true_eq]
   have br:∀c:List Nat,(0:Int)<((brs b is c).length:Int)↔∃q∈c,∃y∈b.getD q [],is.getD y 0=0:=by
    intro c
    have:(0:Int)<((brs b is c).length:Int)↔0<(brs b is c).length:=by omega
    rw[this,List.length_pos_iff_exists_mem]
    unfold brs zbr
    simp only[List.mem_filter,List.mem_range,List.any_eq_true,decide_eq_true_eq]
    constructor
    ·rintro⟨y,⟨_,q,hq,hy⟩,h⟩;exact⟨q,hq,y,hy,h⟩
    ·rintro⟨q,hq,y,hy,h⟩;exact⟨y,⟨hb.get hy,q,hq,hy⟩,h⟩
   simp only[br]
   constructor
   ·intro h p hp hv
    obtain⟨m,h1,h2,h3⟩:=zgy (vl:=vS is) hb sym hp
    have hm:=cpt_lt h1
    have hmem:cpt b (vS is) m∈zke b is:=by
     refine List.mem_filter.mpr ⟨(zg2 hb).mpr ⟨m,hm,h2,rfl⟩,?_⟩
     rw[zhO hb hm h2]
     have:=cpt_val hb hp h1
     simp only[vS] at this
     simp[-List.getD_eq_getElem?_getD,this,hv]
    have:=h _ hmem
    rwa [h3] at this
   ·intro h c hc
    obtain⟨hc1,hc2⟩:=List.mem_filter.mp hc
    obtain⟨m,hm,h2,rfl⟩:=(zg2 hb).mp hc1
    rw[zhO hb hm h2] at hc2
    exact h m hm (by simpa[-List.getD_eq_getElem?_getD] using hc2)
  rw[this]
end
def NoS(n:Nat)(w:W):Prop:=(∃xs,w=.tup xs/\(∀x∈xs,Pl x)/\xs.length<=100/\(xs.length=n->∃x∈xs,tst x=false))\/∀ce,zio [w,.ty "tuple"] ce=some (.ok (.bl false) ce)
theorem zlL(fu:Nat){n:Nat}{bs:List W}(hb:bs.length=n){w:W}{c:Ce}(h:NoS n w):d_is_stand fu [.tup bs,w] c=some (.ok (.bl false) c):=by
 rcases h with ⟨xs,rfl,hp,hl,hn⟩|hn
 ·rw[zhY fu hp hl]
  by_cases q:xs.length=bs.length
  ·obtain⟨x,hx,tx⟩:=hn (by omega)
   have:xs.all tst=false:=by
    rw[List.all_eq_false]
    exact⟨x,hx,by rw[tx];simp⟩
   rw[this,Bool.and_false]
  ·rw[decide_eq_false q,Bool.false_and]
 ·exact zej fu (hn c)
theorem zel(l:List Int):∀x∈l.map W.int,Pl x:=fun x hx=>by
 obtain⟨i,_,rfl⟩:=List.mem_map.mp hx
 exact .int i
theorem zlM{xs:List W}(h:0<xs.length):zeQ xs none (some (-1))=xs.take (xs.length-1):=by
 unfold zeQ
 have:HT.sIx xs.length xs.length (some (-1))=xs.length-1:=by simp only[HT.sIx];rw[if_pos (by omega)];omega
 rw[this]
 simp[HT.sIx]
section
variable {ce:Ce} {st:List Int}
theorem ziF(fu:Nat)(h0:0<st.length)(h36:st.length<=36){x:Int}(hc:0<=x) :
  ∃w,d__law_spoiled fu [wS st,.int x] ce=some (.ok w (ce++[.dct []]))/\(NoS st.length w\/w=.cel ce.length):=by
 have z:(1000:Nat)<PySem.sizeLine:=by decide
 have z1:1<=PySem.sizeLine:=by decide
 obtain⟨at',hat,eat⟩:=zdk (x / 12) h0
 have e2:zbA (.int (x / 12)) (nW st.length)=some (nW at'):=zeS h0 eat
 have hl:(st.map W.int).length=st.length:=List.length_map _
 have hlz:(st.map W.int).length<=PySem.sizeLine:=by omega
 obtain⟨r,hr,er⟩:=zdk (x / 432) (n:=10) (by omega)
 have e10:zbA (.int (x / 432)) (.int 10)=some (nW r):=zeS (n:=10) (by omega) er
 obtain⟨r9,hr9,er9⟩:=zdk (x / 12) (n:=9) (by omega)
 have e9:zbA (.int (x / 12)) (.int 9)=some (nW r9):=zeS (n:=9) (by omega) er9
 have p59:zpU (.int 10) (.int 59)=some (.int (10 ^ 59)):=znF (n:=59) (by omega) (by decide)
 let items:List W:=[.int 3,.int (-1),.int (10 ^ 59+x),.bl true,.bl false,.str "1",.non,.tup [.int 1],.lst [.int 0],.int (-2)]
 have hits:∀y∈items,Pl y/\tst y=false:=by
  intro y hy
  simp only[items,List.mem_cons,List.not_mem_nil,or_false] at hy
  rcases hy with rfl|rfl|rfl|rfl|rfl|rfl|rfl|rfl|rfl|rfl
  ·exact⟨.int _,by decide⟩
  ·exact⟨.int _,by decide⟩
  ·exact⟨.int _,by simp only[tst];rw[Bool.and_eq_false_iff];right;exact decide_eq_false (by omega)⟩
  ·exact⟨.bl _,rfl⟩
  ·exact⟨.bl _,rfl⟩
  ·exact⟨.str _,rfl⟩
  ·exact⟨.non,rfl⟩
  ·exact⟨.tup _,rfl⟩
  ·exact⟨.lst _,rfl⟩
  ·exact⟨.int _,by decide⟩
 obtain⟨y,hy⟩:∃y,items[r]?=some y:=⟨_,List.getElem?_eq_getElem (by show r<10;exact hr)⟩
 obtain⟨py,ty⟩:=hits y (List.mem_of_getElem? hy)
 have mok:PySem.MulOk (PySem.Str.ofString "1") (st.length:Int):=by
  refine⟨by simp;omega,fun _ _=>?_,fun _ _=>?_⟩
  ·have:((PySem.Str.ofString "1").length:Int)=1:=by decide
   rw[this]
   have:=Int.le_ediv_of_mul_le (a:=1) (b:=(2 ^ 63-1:Int)) (c:=(st.length:Int)) (by omega) (by omega)
   omega
  ·have:(PySem.Str.ofString "1").length=1:=by decide
   rw[this]
   have z36:∀m:Nat,m<=36->PySem.Builtin.Str.tooLong (1*m)=false:=by decide
   exact z36 _ (by omega)
 have e3:zjT (.str "1") (nW st.length)=some (.str (PySem.Txt.mul (PySem.Str.ofString "1") (st.length:Int))):=if_pos mok
 let some':List W:=[.tup ((st.map W.int).take (st.length-1)),.tup (st.map W.int++[.int 0]),.lst (st.map W.int),.cel ce.length,.non,.str (PySem.Txt.mul (PySem.Str.ofString "1") (st.length:Int)),.int 7,.tup [],.lst [wS st]]
 suffices hs:∃w c',d__law_spoiled fu [wS st,.int x] ce=some (.ok w c')/\c'=ce++[.dct []]/\(NoS st.length w\/w=.cel ce.length) by
  obtain⟨w,c',e,rfl,h⟩:=hs
  exact⟨w,e,h⟩
 unfold d__law_spoiled
 refine zhe [some (wS st),some (.int x),none,none,none] rfl ?_
 refine zan (w:=nW at') (ce':=ce) (zb9 (zb9 (zal rfl) zbP (zd2 rfl rfl (by omega))) (zby (ws:=[wS st]) (zak (zal rfl) zar) zfs) e2) ?_
 refine zaj (by repeat (first|exact SetAt.zero|apply SetAt.succ)) ?_
 have ix:ixW ce (.lst items) (nW r)=some y:=by rw[zfp (xs:=items) rfl];exact hy
 refine zan (w:=y) (ce':=ce) (zbL (x:=.lst items) (y:=nW r) (zbM (ws:=items) ?_ (by show 10<=PySem.sizeLine;decide)) (zb9 (zb9 (zal rfl) zbP (zd2 rfl rfl (by omega))) zbP e10) ix) ?_
 ·exact zak zbP (zak (zgZ zbP rfl) (zak (zb9 (zb9 zbP zbP p59) (zal rfl) rfl) (zak zbP (zak zbP (zak zbP (zak zbP (zak (zcf (ws:=[.int 1]) (zak zbP zar) z1) (zak (zbM (ws:=[.int 0]) (zak zbP zar) z1) (zak (zgZ zbP rfl) zar)))))))))
 refine zaj (by repeat (first|exact SetAt.zero|apply SetAt.succ)) ?_
 have s1:∀x2 x3 x4,znK (zaf 0) zaZ (zba (dUn ziH (dC (.int 1)))) [some (wS st),some (.int x),x2,x3,x4] ce=some (.ok (.tup ((st.map W.int).take (st.length-1))) ce):=fun x2 x3 x4=>by
  have:=zkg (sl:=[some (wS st),some (.int x),x2,x3,x4]) (ce:=ce) (a:=zaf 0) (dl:=zaZ) (lo:=none) (dh:=zba (dUn ziH (dC (.int 1)))) (hi:=some (-1)) (xs:=st.map W.int) (zal rfl) rfl (zbX (zgZ zbP rfl)) hlz
  rw[zlM (by omega),hl] at this
  exact this
 refine zan (w:=.lst some') (ce':=ce++[.dct []]) (zbM (ws:=some') ?_ (by show 9<=PySem.sizeLine;decide)) ?_
 ·refine zak (s1 _ _ _) (zak (zg1 (c1:=ce) (zal rfl) (zcf (ws:=[.int 0]) (zak zbP zar) z1) (by rw[hl];simp only[List.length_cons,List.length_nil];omega)) (zak (zby (ws:=[wS st]) (zak (zal rfl) zar) (by rw[zd1 (xs:=st.map W.int) rfl,zbW hlz])) (zak zd0 (zak zbP (zak (zb9 zbP (zby (ws:=[wS st]) (zak (zal rfl) zar) zfs) e3) (zak zbP (zak (zcf zar (Nat.zero_le _)) (zak (zbM (ws:=[wS st]) (zak (zal rfl) zar) z1) zar))))))))
 refine zaj (by repeat (first|exact SetAt.zero|apply SetAt.succ)) ?_
 generalize hc1:ce++[C.dct []]=c1
 have fin:∀{sl:Sl} {e:Sl->M W} {w:W},e sl c1=some (.ok w c1)->(NoS st.length w\/w=.cel ce.length)->Run (zbO e) sl c1 (Rt fun v ce'=>∃w c',zni ce ce' v=some (.ok w c')/\c'=c1/\(NoS st.length w\/w=.cel ce.length)) :=
  fun he hf=>zaB he (zcL ⟨_,_,rfl,rfl,hf⟩)
 refine za1 (p:=decide (x % 12<9)&&decide (x % 3=0)) (ce':=c1) (zjK (zeT (zb9 (zb9 (zal rfl) zbP (zcK rfl rfl (by omega))) zbP rfl)) (fun _=>zeT (zb9 (zb9 (zal rfl) zbP (zcK rfl rfl (by omega))) zbP rfl))) (fun _=>?_) (fun _=>?_)
 ·refine zcp ?_
  obtain⟨w,hw⟩:∃w,some'[r9]?=some w:=⟨_,List.getElem?_eq_getElem (by show r9<9;exact hr9)⟩
  have ixs:ixW c1 (.lst some') (nW r9)=some w:=by rw[zfp (xs:=some') rfl];exact hw
  refine fin (zbL (x:=.lst some') (y:=nW r9) (zal rfl) (zb9 (zb9 (zal rfl) zbP (zd2 rfl rfl (by omega))) zbP e9) ixs) ?_
  have hm:=List.mem_of_getElem? hw
  simp only[some',List.mem_cons,List.not_mem_nil,or_false] at hm
  rcases hm with rfl|rfl|rfl|rfl|rfl|rfl|rfl|rfl|rfl
  ·exact .inl (.inl ⟨_,rfl,fun y hy=>zel st y (List.mem_of_mem_take hy),by rw[List.length_take];omega,fun e=>by rw[List.length_take,hl] at e;omega⟩)
  ·refine .inl (.inl ⟨_,rfl,fun y hy=>?_,by rw[List.length_append,hl];simp only[List.length_cons,List.length_nil];omega,fun e=>by rw[List.length_append,hl] at e;simp only[List.length_cons,List.length_nil] at e;omega⟩)
   rcases List.mem_append.mp hy with hy|hy
   ·exact zel st y hy
   ·rw[List.mem_singleton] at hy;subst hy;exact .int 0
  ·exact .inl (.inr fun _=>rfl)
  ·exact .inr rfl
  ·exact .inl (.inr fun _=>rfl)
  ·exact .inl (.inr fun _=>rfl)
  ·exact .inl (.inr fun _=>rfl)
  ·exact .inl (.inl ⟨_,rfl,by simp,by simp,fun e=>by simp at e;omega⟩)
  ·exact .inl (.inr fun _=>rfl)
 ·refine zaF ?_
  refine fin (w:=.tup (((st.map W.int).take at'++[y])++(st.map W.int).drop (at'+1))) ?_ ?_
  ·refine zg1 (c1:=c1) (zg1 (c1:=c1) (xs:=(st.map W.int).take at') (ys:=[y]) ?_ (zcf (ws:=[y]) (zak (zal rfl) zar) z1) ?_) (ys:=(st.map W.int).drop (at'+1)) ?_ ?_
   ·rw[<- zqh (xs:=st.map W.int) (n:=at') (by omega)]
    exact zkg (zal rfl) rfl (zbX (zal rfl)) hlz
   ·rw[List.length_take];simp only[List.length_cons,List.length_nil];omega
   ·rw[<- zlK (xs:=st.map W.int) (n:=at'+1) (by omega)]
    exact zkg (zal rfl) (zbX (i:=((at'+1:Nat):Int)) (zb9 (zal rfl) zbP (by simp[zb3,i2,nW]))) rfl hlz
   ·simp only[List.length_append,List.length_take,List.length_drop,List.length_cons,List.length_nil];omega
  ·refine .inl (.inl ⟨_,rfl,fun u hu=>?_,?_,fun _=>⟨y,by simp,ty⟩⟩)
   ·rcases List.mem_append.mp hu with hu|hu
    ·rcases List.mem_append.mp hu with hu|hu
     ·exact zel st u (List.mem_of_mem_take hu)
     ·rw[List.mem_singleton] at hu;subst hu;exact py
    ·exact zel st u (List.mem_of_mem_drop hu)
   ·simp only[List.length_append,List.length_take,List.length_drop,List.length_cons,List.length_nil];omega
end
section
variable {b:List (List Nat)} {is:List Int} {ce:Ce}
theorem zs2{m:List Int}{k p:Nat}(g:ce[k]?=some (.lst (m.map W.int)))(h:p<m.length):ixW ce (.cel k) (nW p)=some (.int (m.getD p 0)):=by
 rw[zfp (zgt g),List.getElem?_map,List.getD_eq_getElem?_getD,List.getElem?_eq_getElem h];rfl
theorem zrJ{m:List Int}{k:Nat}(g:ce[k]?=some (.lst (m.map W.int))):zcJ [.cel k] ce=some (.ok (nW m.length) ce):=by simp only[zcJ,zgt g,List.length_map];rfl
theorem zhZ(B:Brd b){is':List Int}{p:Nat}(hp:p<b.length)(h:∀q,q<b.length->is'.getD q 0≠0):¬ziE b is':=fun S=>by
 obtain⟨q,_,y,hy,e⟩:=S p hp (h p hp)
 exact h y (B.bd.get hy) e
theorem zlN(fu:Nat)(hfu:200<=fu)(N:BrdN b)(S:StdOk b is){x:Int}(hx:0<=x) :
  ∃is',d__law_breathless fu [wB b,wS is,.int x] ce=some (.ok (wS is') ce)/\is'.length=b.length/\(∀q,q<b.length->0<=is'.getD q 0/\is'.getD q 0<=2)/\¬ziE b is':=by
 have hz:=zgW
 have zz2:2<=PySem.sizeLine:=by decide
 have B:=N.B
 have h36:=B.h36
 have pos:=B.pos
 have hl:=S.hl
 have hl0:0<is.length:=by omega
 have hlz:(is.map W.int).length<=PySem.sizeLine:=by rw[List.length_map];omega
 obtain⟨p,hp,ep⟩:=zdk x hl0
 have e2:zbA (.int x) (nW is.length)=some (nW p):=zeS hl0 ep
 have hpb:p<b.length:=by omega
 have jp:=zcg (ce:=ce) hp
 suffices hs:∃w c',d__law_breathless fu [wB b,wS is,.int x] ce=some (.ok w c')/\∃is',w=wS is'/\c'=ce/\is'.length=b.length/\(∀q,q<b.length->0<=is'.getD q 0/\is'.getD q 0<=2)/\¬ziE b is' by
  obtain⟨w,c',e,is',rfl,rfl,h⟩:=hs
  exact⟨is',e,h⟩
 unfold d__law_breathless
 refine zhe [some (wB b),some (wS is),some (.int x),none,none,none] rfl ?_
 refine zan (w:=nW p) (ce':=ce) (zb9 (zal rfl) (zby (ws:=[wS is]) (zak (zal rfl) zar) zfs) e2) ?_
 refine zaj (by repeat (first|exact SetAt.zero|apply SetAt.succ)) ?_
 generalize hv:1+x / 108 % 2=v
 have hv12:v=1\/v=2:=by omega
 refine za1 (p:=decide (x / 36 % 3=0)||decide (is.getD p 0=0)) (ce':=ce) (by trivial) (fun _=>?_) (fun q=>?_)
 ·refine zcp ?_
  refine zaB (w:=wS (is.map fun _=>v)) (ce':=ce) (zby (zak (znv (zs:=is) (en:=W.int) (f:=fun _=>v) (zle (by trivial)).is (by omega) (fun u hu=>?_)) zar) (zny (by rw[List.length_map];omega))) ?_
  ·rw[<- hv];trivial
  ·have z:∀q,q<b.length->(is.map fun _=>v).getD q 0=v:=fun q hq=>by
    rw[List.getD_eq_getElem?_getD,List.getElem?_map,List.getElem?_eq_getElem (by omega)];rfl
   exact⟨_,_,zaP (by simp only[Bel];exact belInts _ _),_,rfl,rfl,by simp[hl],fun q hq=>by rw[z q hq];omega,zhZ B pos fun q hq=>by rw[z q hq];omega⟩
 ·have hq0:is.getD p 0≠0:=by
   intro h
   rw[decide_eq_true h,Bool.or_true] at q
   cases q
  have hs12:is.getD p 0=1\/is.getD p 0=2:=by have:=S.v p hpb;omega
  refine zaF ?_
  refine zan (w:=.cel ce.length) (ce':=ce++[.lst (is.map W.int)]) (zby (zak (by trivial) zar) (by rw[zd1 (xs:=is.map W.int) rfl,zdl hlz])) ?_
  refine zaj (by repeat (first|exact SetAt.zero|apply SetAt.succ)) ?_
  have O0:=(Own.start ce).alloc (C.lst (is.map W.int))
  generalize hk:ce.length=k3 at O0 ⊢
  generalize ce++[C.lst (is.map W.int)]=c0 at O0 ⊢
  obtain⟨F,er,cF⟩:=zhW (ce:=c0) fu hfu B hl hpb
  have hF:∀y∈F,y<b.length:=fun y hy=>cF.lt y hy
  have eb:=zdj (zmy (ce:=c0) fu B hl hF) (bels_nW _ _)
  have bm:∀y,y∈brs b is F↔(∃z∈cpt b (vS is) p,y∈b.getD z [])/\is.getD y 0=0:=fun y=>by
   rw[zgF (r':=cpt b (vS is) p) (fun z=>?_),za7 B.bd]
   rw[za6 B.bd hpb]
   exact cF.mem z
  generalize brs b is F=br at eb bm
  have hbr:∀y∈br,y<b.length:=fun y hy=>by
   obtain⟨⟨z,_,hz⟩,_⟩:=(bm y).mp hy
   exact B.bd.get hz
  generalize hs:is.getD p 0=s at *
  generalize ht:x / 108 % 2=t at *
  have ht2:t=0\/t=1:=by omega
  let a:Int:=if t=0 then 3-s else s
  have ea:∀c:Ce,ixW c (.lst [.int (3-s),.int s]) (.int t)=some (.int a):=fun c=>by
   rcases ht2 with h|h
   ·rw[h,show a=3-s from if_pos h];exact znm (xs:=[.int (3-s),.int s]) (j:=0) rfl rfl
   ·rw[h,show a=s from if_neg (by omega)];exact znm (xs:=[.int (3-s),.int s]) (j:=1) rfl rfl
  have ha12:a=1\/a=2:=by
   show(if t=0 then 3-s else s)=1\/(if t=0 then 3-s else s)=2
   split<;>omega
  clear_value a
  refine zbn (zs:=br) (en:=nW) (c1:=c0) (zgw (xs:=br.map nW) (zaO (ws:=[wB b,wS is,wL F]) (zak (by trivial) (zak (by trivial) (zak (zaO (ws:=[wB b,wS is,nW p]) (by trivial) rfl er) zar))) rfl eb))
   (fun d sl c=>∃is' x5,sl=[some (wB b),some (wS is),some (.int x),some (nW p),some (.cel k3),x5]/\Own ce c [(k3,C.lst (is'.map W.int))]/\is'.length=is.length/\(∀q∈d,is'.getD q 0=a)/\∀q,q∉d->is'.getD q 0=is.getD q 0)
   ⟨is,_,rfl,O0,rfl,by simp,fun _ _=>rfl⟩ ?_ ?_
  ·rintro d y r sl c e hy ⟨is',x5,rfl,O,l',z1,z2⟩
   have hyl:y<is'.length:=by rw[l',hl];exact hbr y hy
   have jp':=zcg (ce:=c) hp
   rw[hs] at jp'
   have i1:=ea c
   unfold zbU
   refine zaj (by repeat (first|exact SetAt.zero|apply SetAt.succ)) ?_
   refine zfy (w:=.int a) (k:=k3) (ij:=y) (j:=y) (c1:=c) (zbL (zbM (ws:=[.int (3-s),.int s]) (by trivial) zz2) (y:=.int t) (by rw[<- ht];trivial) i1) (by trivial) (by trivial) O.g0 (zfx (by rw[List.length_map];exact hyl)) ?_
   refine⟨is'.set y a,_,rfl,by rw[List.map_set];exact O.set0 _,by rw[List.length_set];exact l',fun q hq=>?_,fun q hq=>?_⟩
   ·rw[zbG]
    split
    ·rfl
    ·rename_i hn
     rcases List.mem_append.mp hq with hq|hq
     ·exact z1 q hq
     ·rw[List.mem_singleton] at hq;exact absurd ⟨hq.symm,hyl⟩ hn
   ·rw[zbG,if_neg (fun x=>hq (by rw[<- x.1];simp))]
    exact z2 q fun x=>hq (List.mem_append_left _ x)
  ·rintro sl c ⟨is1,x5,rfl,O,l1,z1,z2⟩
   have v1:∀q,q<b.length->0<=is1.getD q 0/\is1.getD q 0<=2:=fun q hq=>by
    by_cases h:q∈br
    ·rw[z1 q h];omega
    ·rw[z2 q h];exact S.v q hq
   refine za1 (p:=decide (t=1)) (ce':=c) (by rw[<- ht];trivial) (fun q=>?_) (fun q=>?_)
   ·have t1:t=1:=of_decide_eq_true q
    have n1000:is1.length<=1000:=by omega
    refine zbn (zs:=List.range is1.length) (en:=nW) (c1:=c) (zet (n:=is1.length) (zak (zby (ws:=[.cel k3]) (by trivial) (zrJ O.g0)) zar) n1000)
     (fun d sl c=>∃is' x5,sl=[some (wB b),some (wS is),some (.int x),some (nW p),some (.cel k3),x5]/\Own ce c [(k3,C.lst (is'.map W.int))]/\is'.length=is.length/\(∀q∈d,is'.getD q 0≠0)/\∀q,q<b.length->0<=is'.getD q 0/\is'.getD q 0<=2)
     ⟨is1,_,rfl,O,l1,by simp,v1⟩ ?_ ?_
    ·rintro d y r sl c e hy ⟨is',x5,rfl,O,l',z1,z2⟩
     have hy:=List.mem_range.mp hy
     have hyl:y<is'.length:=by omega
     have jy:=zs2 O.g0 hyl
     have jp':=zcg (ce:=c) hp
     rw[hs] at jp'
     unfold zbT
     refine zaj (by repeat (first|exact SetAt.zero|apply SetAt.succ)) ?_
     refine zbS (p:=decide (is'.getD y 0=0)) (ce':=c) (by trivial) (fun q=>?_) (fun q=>?_)
     ·refine zfy (w:=.int (3-s)) (k:=k3) (ij:=y) (j:=y) (c1:=c) (by trivial) (by trivial) (by trivial) O.g0 (zfx (by rw[List.length_map];exact hyl)) ?_
      refine⟨is'.set y (3-s),_,rfl,by rw[List.map_set];exact O.set0 _,by rw[List.length_set];exact l',fun q hq=>?_,fun q hq=>?_⟩
      ·rw[zbG]
       split
       ·omega
       ·rename_i hn
        rcases List.mem_append.mp hq with hq|hq
        ·exact z1 q hq
        ·rw[List.mem_singleton] at hq;exact absurd ⟨hq.symm,hyl⟩ hn
      ·rw[zbG]
       split
       ·omega
       ·exact z2 q hq
     ·refine zbu ?_
      refine⟨is',_,rfl,O,l',fun q' hq'=>?_,z2⟩
      rcases List.mem_append.mp hq' with hq'|hq'
      ·exact z1 q' hq'
      ·rw[List.mem_singleton] at hq';subst hq';exact of_decide_eq_false q
    ·rintro sl c ⟨is',x5,rfl,O,l',z1,z2⟩
     refine zaB (w:=wS is') (ce':=c) (zby (zak (by trivial) zar) (zlg O.g0 (by omega))) ?_
     subst hk
     exact⟨_,_,O.finC (by simp only[Bel];exact belInts _ _),is',rfl,rfl,by omega,z2,zhZ B pos fun q hq=>z1 q (List.mem_range.mpr (by omega))⟩
   ·have t0:t=0:=by have:=of_decide_eq_false q;omega
    have ea':=ea []
    rw[t0] at ea'
    have ea3:a=3-s:=by
     have:=(znm (ce:=[]) (x:=.lst [.int (3-s),.int s]) (y:=.int 0) (xs:=[.int (3-s),.int s]) (j:=0) rfl rfl:ixW [] (.lst [.int (3-s),.int s]) (.int 0)=some (.int (3-s))).symm.trans ea'
     injection this with this;injection this with this;exact this.symm
    refine zaF ?_
    refine zaB (w:=wS is1) (ce':=c) (zby (zak (by trivial) zar) (zlg O.g0 (by omega))) ?_
    subst hk
    refine⟨_,_,O.finC (by simp only[Bel];exact belInts _ _),is1,rfl,rfl,by omega,v1,fun Sd=>?_⟩
    have hp1:is1.getD p 0=s:=by
     rw[z2 p fun h=>?_,hs]
     have:=((bm p).mp h).2
     omega
    obtain⟨q1,hq1,y,hy,e0⟩:=Sd p hpb (by omega)
    have r1:=(za6 B.bd hpb).mp hq1
    have r0:Reach b (okV (vS is) p) p q1:=zbz (fun x y _ _ hxy hok=>by
     have hok:is1.getD y 0=is1.getD p 0:=hok
     show is.getD y 0=is.getD p 0
     by_cases h:y∈br
     ·rw[z1 y h] at hok;omega
     ·rw[z2 y h] at hok;omega) r1
    by_cases h:y∈br
    ·rw[z1 y h] at e0;omega
    ·rw[z2 y h] at e0
     exact h ((bm y).mpr ⟨⟨q1,(za6 B.bd hpb).mpr r0,hy⟩,e0⟩)
end
section
variable {b:List (List Nat)} {is:List Int} {ce:Ce}
theorem zn3(fu:Nat){u r w h:W}(hn:d_is_stand fu [wB b,w] ce=some (.ok (.bl false) ce)):d_Game___init__ fu [u,wB b,r,w,h] ce=some (.ex ⟨"NoStand",none⟩ ce):=by
 unfold d_Game___init__
 refine zhT [some u,some (wB b),some r,some w,some h] rfl ?_
 exact za1 (p:=!false) (ce':=ce) (zbV (zeT (zaO (ws:=[wB b,w]) (by trivial) rfl hn))) (fun _=>zgA rfl ⟨rfl,[],by simp⟩) (fun q=>by cases q)
theorem zlO(fu:Nat){u r w h:W}(hn:d_is_stand fu [wB b,w] ce=some (.ok (.bl true) ce))(hs:d_is_sound fu [wB b,w] ce=some (.ok (.bl false) ce)):d_Game___init__ fu [u,wB b,r,w,h] ce=some (.ex ⟨"NoStand",none⟩ ce):=by
 unfold d_Game___init__
 refine zhT [some u,some (wB b),some r,some w,some h] rfl ?_
 refine za1 (p:=!true) (ce':=ce) (zbV (zeT (zaO (ws:=[wB b,w]) (by trivial) rfl hn))) (fun q=>by cases q) (fun _=>zaF ?_)
 exact za1 (p:=!false) (ce':=ce) (zbV (zeT (zaO (ws:=[wB b,w]) (by trivial) rfl hs))) (fun _=>zgA rfl ⟨rfl,[],by simp⟩) (fun q=>by cases q)
def gmF(b:List (List Nat))(r:PySem.Str)(is:List Int)(h:Int):List (PySem.Str×W):=[("joined",wB b),("barring",.str r),("first",.int h),("past",.lst [wS is]),("done",.lst []),("takings",.lst [])]
theorem zcx(c:Ce)(x y:C):(c++[x]).set c.length y=c++[y]:=by simp
theorem zn4(fu:Nat){r:PySem.Str}{h:Int}(hn:∀c,d_is_stand fu [wB b,wS is] c=some (.ok (.bl true) c))(hs:∀c,d_is_sound fu [wB b,wS is] c=some (.ok (.bl true) c)) :
  d_Game___init__ fu [.cel ce.length,wB b,.str r,wS is,.int h] (ce++[C.ins "Game" []])=some (.ok .non (ce++[.ins "Game" (gmF b r is h)])):=by
 have z1:1<=PySem.sizeLine:=by decide
 unfold d_Game___init__
 refine zrH [some (.cel ce.length),some (wB b),some (.str r),some (wS is),some (.int h)] rfl ?_
 refine za1 (p:=!true) (ce':=ce++[C.ins "Game" []]) (zbV (zeT (zaO (ws:=[wB b,wS is]) (by trivial) rfl (hn _)))) (fun q=>by cases q) (fun _=>zaF ?_)
 refine za1 (p:=!true) (ce':=ce++[C.ins "Game" []]) (zbV (zeT (zaO (ws:=[wB b,wS is]) (by trivial) rfl (hs _)))) (fun q=>by cases q) (fun _=>zaF ?_)
 refine zcY (w:=wB b) (k:=ce.length) (zal rfl) (zal rfl) (zcD _ _) (Nat.lt_of_le_of_lt (Nat.le_refl 0) (by decide)) ?_
 rw[zcx]
 refine zcY (w:=.str r) (k:=ce.length) (zal rfl) (zal rfl) (zcD _ _) (Nat.lt_of_le_of_lt (zbc (Nat.le_refl 0)) (by decide)) ?_
 rw[zcx]
 refine zcY (w:=.int h) (k:=ce.length) (zal rfl) (zal rfl) (zcD _ _) (Nat.lt_of_le_of_lt (zbc (zbc (Nat.le_refl 0))) (by decide)) ?_
 rw[zcx]
 refine zcY (w:=.lst [wS is]) (k:=ce.length) (zbM (ws:=[wS is]) (by trivial) z1) (zal rfl) (zcD _ _) (Nat.lt_of_le_of_lt (zbc (zbc (zbc (Nat.le_refl 0)))) (by decide)) ?_
 rw[zcx]
 refine zcY (w:=.lst []) (k:=ce.length) (zbM zar (Nat.zero_le _)) (zal rfl) (zcD _ _) (Nat.lt_of_le_of_lt (zbc (zbc (zbc (zbc (Nat.le_refl 0))))) (by decide)) ?_
 rw[zcx]
 refine zlz (w:=.lst []) (k:=ce.length) (zbM zar (Nat.zero_le _)) (zal rfl) (zcD _ _) (Nat.lt_of_le_of_lt (zbc (zbc (zbc (zbc (zbc (Nat.le_refl 0)))))) (by decide)) ?_
 rw[zcx]
 exact⟨_,_,rfl,rfl⟩
theorem zh0{f:Ce->W->Option W}{d:Sl->M W}{sl:Sl}{c c1:Ce}{w w':W}(h:d sl c=some (.ok w c1))(hf:f c1 w=some w'):zko f d sl c=some (.ok w' c1):=by simp only[zko,bnd,h,look,hf,Option.map_some]
theorem zlP(nm:PySem.Str):zg5 (ce++[.exn nm]) (.cel ce.length)=some nm:=by simp only[zg5,zcD]
theorem zeZ(fu:Nat){r w h:W}(hi:∀c:Ce,∀u,d_Game___init__ fu [u,wB b,r,w,h] (ce++c)=some (.ex ⟨"NoStand",none⟩ (ce++c))):d__law_refused fu [wB b,r,w,h] ce=some (.ok (.bl true) ce):=by
 have hu:zd6 XTB "StoneError" ⟨"NoStand",none⟩=true:=by decide +kernel
 have ha:zfB XTB "NoStand" = some (["NoStand", "StoneError"]:List PySem.Str):=by decide +kernel
 unfold d__law_refused
 refine zcq [some (wB b),some r,some w,some h,none,none] rfl ?_
 refine zan zbP ?_
 refine zaj (by repeat (first|exact SetAt.zero|apply SetAt.succ)) ?_
 have hc:zew "Game" 5 (d_Game___init__ fu) (zkn (zad (zaf 0) (zad (zaf 1) (zad (zaf 2) (zad (zaf 3) zap))))) [some (wB b),some r,some w,some h,some .non,none] ce=some (.ex ⟨"NoStand",none⟩ (ce++[C.ins "Game" []])):=zlA (ws:=[wB b,r,w,h]) (c1:=ce) (zj1 (zak (zal rfl) (zak (zal rfl) (zak (zal rfl) (zak (zal rfl) zar))))) rfl (hi _ _)
 refine zls (sl':=[some (wB b),some r,some w,some h,some (.cel (ce++[C.ins "Game" []]).length),none]) (c2:=ce++[C.ins "Game" []]++[.exn "NoStand"]) hc hu rfl ?_
 have v0:zpY XTB (ce++[C.ins "Game" []]++[.exn "NoStand"]) (.cel (ce++[C.ins "Game" []]).length) "NoStand" = some (.bl true):=by
  unfold zpY
  rw[zlP,Option.bind_some,ha,Option.bind_some,if_pos (by decide +kernel)]
  rfl
 have v1:zms XTB (ce++[C.ins "Game" []]++[.exn "NoStand"]) (.cel (ce++[C.ins "Game" []]).length) ["Again", "NoBack", "NoBoard", "NoBreath", "NoLay", "NoPoint"]=some (.bl false):=by
  unfold zms
  rw[zlP,Option.bind_some,ha,Option.bind_some,if_pos (by decide +kernel)]
  exact congrArg (fun t=>some (W.bl t)) (by decide +kernel)
 have v2:zms XTB (ce++[C.ins "Game" []]++[.exn "NoStand"]) (.cel (ce++[C.ins "Game" []]).length) ["NoRow", "NoText", "Over", "TooMuch"]=some (.bl false):=by
  unfold zms
  rw[zlP,Option.bind_some,ha,Option.bind_some,if_pos (by decide +kernel)]
  exact congrArg (fun t=>some (W.bl t)) (by decide +kernel)
 have v3:zpZ XTB (ce++[C.ins "Game" []]++[.exn "NoStand"]) (.cel (ce++[C.ins "Game" []]).length)=some (.bl true):=by
  unfold zpZ
  rw[zlP,Option.bind_some,ha,Option.bind_some]
 refine za1 (p:=!true||!true) (ce':=ce++[C.ins "Game" []]++[.exn "NoStand"]) (zhI (zbV (zeT (zh0 (zal rfl) v0))) (fun _=>zbV (zeT (zh0 (zal rfl) v3)))) (fun q=>by cases q) (fun _=>zaF ?_)
 refine za1 (p:=false) (ce':=ce++[C.ins "Game" []]++[.exn "NoStand"]) (zeT (zh0 (zal rfl) v1)) (fun q=>by cases q) (fun _=>zaF ?_)
 refine zaB (w:=.bl (!false)) (ce':=ce++[C.ins "Game" []]++[.exn "NoStand"]) (zp5 (zh0 (zal rfl) v2)) (zcL ?_)
 rw[List.append_assoc]
 exact zdA (by simp only[Bel])
theorem zmA(fu:Nat){is:List Int}(hl:is.length=b.length)(h36:b.length<=36)(v:∀q,q<b.length->0<=is.getD q 0/\is.getD q 0<=2)(c:Ce):d_is_stand fu [wB b,wS is] c=some (.ok (.bl true) c):=by
 have e:=zhY (ce:=c) fu (bs:=b.map wT) (xs:=is.map W.int) (zel is) (by rw[List.length_map];omega)
 have ha:(is.map W.int).all tst=true:=by
  rw[List.all_eq_true]
  intro w hw
  obtain⟨i,hi,rfl⟩:=List.mem_map.mp hw
  obtain⟨j,hj,e⟩:=List.getElem_of_mem hi
  have:=v j (by omega)
  rw[List.getD_eq_getElem?_getD,List.getElem?_eq_getElem hj,e] at this
  simp only[Option.getD_some] at this
  simp[tst,this]
 rw[List.length_map,List.length_map,ha,decide_eq_true hl] at e
 exact e
open Classical in
theorem zn5(fu:Nat)(hfu:200<=fu)(N:BrdN b)(S:StdOk b is)(c:Ce):d_is_sound fu [wB b,wS is] c=some (.ok (.bl true) c):=by
 rw[zek fu hfu N.B S.hl,decide_eq_true]
 intro p hp hv
 have v:=S.v p hp
 have k:∀h:Int,zkq b is h->is.getD p 0=h->∃q∈cpt b (vS is) p,∃y∈b.getD q [],is.getD y 0=0:=fun h H e=>by
  obtain⟨x,y,r,hy,e0⟩:=H p hp e
  exact⟨x,(za6 N.B.bd hp).mpr r,y,hy,e0⟩
 have:is.getD p 0=1\/is.getD p 0=2:=by omega
 rcases this with h|h
 ·exact k 1 S.s1 h
 ·exact k 2 S.s2 h
open Classical in
theorem zn6(fu:Nat)(hfu:200<=fu)(B:Brd b)(hl:is.length=b.length)(h:¬ziE b is)(c:Ce):d_is_sound fu [wB b,wS is] c=some (.ok (.bl false) c):=by
 rw[zek fu hfu B hl,decide_eq_false h]
variable {r:PySem.Str} {h:Int} {c:Ce} {k:Nat}
theorem zlQ(fu:Nat)(g:c[k]?=some (.ins "Game" (gmF b r is h))):d_Game_stand fu [.cel k] c=some (.ok (wS is) c):=by
 unfold d_Game_stand
 refine zcq [some (.cel k)] rfl ?_
 refine zaB (w:=wS is) (ce':=c) (zbL (x:=.lst [wS is]) (y:=.int (-1)) (zd9 (zal rfl) g rfl) (zgZ zbP rfl) rfl) (zaP (by simp only[Bel];exact belInts _ _))
theorem zlR(fu:Nat)(g:c[k]?=some (.ins "Game" (gmF b r is h))):d_Game_begin fu [.cel k] c=some (.ok (.tup [wS is,.int h]) c):=by
 have z2:2<=PySem.sizeLine:=by decide
 unfold d_Game_begin
 refine zcq [some (.cel k)] rfl ?_
 refine zaB (zcf (ws:=[wS is,.int h]) (zak (zbL (x:=.lst [wS is]) (y:=.int 0) (zd9 (zal rfl) g rfl) zbP rfl) (zak (zd9 (zal rfl) g rfl) zar)) z2) (zaP (by simp only[Bel,zdr];exact⟨belInts _ _,trivial,trivial⟩))
theorem zkh(fu:Nat)(g:c[k]?=some (.ins "Game" (gmF b r is h))):d_Game_stands fu [.cel k] c=some (.ok (.lst [wS is]) c):=by
 have z1:1<=PySem.sizeLine:=by decide
 unfold d_Game_stands
 refine zcq [some (.cel k)] rfl ?_
 refine zaB (w:=.lst [wS is]) (ce':=c) (zby (ws:=[.lst [wS is]]) (zak (zd9 (zal rfl) g rfl) zar) (by rw[zd1 (xs:=[wS is]) rfl];exact zbW z1)) (zaP (by simp only[Bel,zdr];exact⟨belInts _ _,trivial⟩))
theorem zlS(fu:Nat)(g:c[k]?=some (.ins "Game" (gmF b r is h))):d_Game_deeds fu [.cel k] c=some (.ok (.lst []) c):=by
 unfold d_Game_deeds
 refine zcq [some (.cel k)] rfl ?_
 refine zaB (w:=.lst []) (ce':=c) (zby (ws:=[.lst []]) (zak (zd9 (zal rfl) g rfl) zar) (by rw[zd1 (xs:=[]) rfl];exact zbW (by decide))) (zaP (by simp only[Bel,zdr]))
theorem zlT(fu:Nat)(g:c[k]?=some (.ins "Game" (gmF b r is h))):d_Game_ended fu [.cel k] c=some (.ok .non c):=by
 have s1:dSl zbl (ziL "Game" "done" (zaf 0)) (zba (dUn ziH (dC (.int 2)))) zaZ [some (.cel k)] c=some (.ok (.lst []) c):=by
  have:=zfS (sl:=[some (.cel k)]) (ce:=c) (a:=ziL "Game" "done" (zaf 0)) (x:=.lst []) (xs:=[]) (dl:=zba (dUn ziH (dC (.int 2)))) (lo:=some (-2)) (dh:=zaZ) (hi:=none) (zd9 (zal rfl) g rfl) (zbX (zgZ zbP rfl)) rfl rfl (by decide)
  exact this
 have e1:eqW false c (.lst []) (.lst [.non,.non])=some (.bl false):=rfl
 unfold d_Game_ended
 refine zcq [some (.cel k)] rfl ?_
 refine za1 (p:=false) (ce':=c) (zeT (zbL s1 (zbM (ws:=[.non,.non]) (by trivial) (by decide)) e1)) (fun q=>by cases q) (fun _=>zaF ?_)
 refine za1 (p:=false) (ce':=c) (zeT (zb9 (x:=.int 0) (zby (ws:=[.lst []]) (zak (zd9 (zal rfl) g rfl) zar) rfl) zbP rfl)) (fun q=>by cases q) (fun _=>zaF ?_)
 exact zaB (w:=.non) (ce':=c) zbP (zaP (by simp only[Bel]))
end
theorem zn7{n:Nat}{ls:List (Nat×Nat)}(L:LsOk n ls)(i:Nat):i∉(zhh n ls).getD i []:=by
 rw[zdE]
 split
 ·intro h
  rcases(zfR L).mp ((zdC _ _).mp h) with h|h<;>(have:=(L.lt _ h).1;simp only at this;omega)
 ·simp
theorem zh1{ce:Ce}{ns xs:List Int}{v i j e:Int}{sl:Sl}{d3:Sl->M W}{dh:Sl->M (Option Int)}{hi:Option Int}(h0:sl[0]?=some (some (sW ns)))(h1:sl[1]?=some (some (sW xs)))(hn:ns.length<=63)(hx:xs.length<=1000)(hh:dh sl ce=some (.ok hi ce))(h3:d3 sl ce=some (.ok (.int v) ce)) :
  ∃cs:List Int,dSl zbl (zkl zbl (dSl zbl (zaf 0) (zba (dC (.int i))) (zba (dC (.int j)))) (dSl zbl (zaf 1) (zba (dC (.int e))) dh)) zaZ (zba d3) sl ce=some (.ok (sW cs) ce):=by
 have hz:3000<PySem.sizeLine:=by decide
 obtain⟨a,e1,l1,_⟩:=zfT ns (some i) (some j)
 obtain⟨b,e2,l2,_⟩:=zfT xs (some e) hi
 have v0:zaf 0 sl ce=some (.ok (sW ns) ce):=zal h0
 have v1:zaf 1 sl ce=some (.ok (sW xs) ce):=zal h1
 have s1:dSl zbl (zaf 0) (zba (dC (.int i))) (zba (dC (.int j))) sl ce=some (.ok (sW a) ce):=by
  have:=zfS (sl:=sl) (ce:=ce) (a:=zaf 0) (xs:=ns.map W.int) v0 (zbX (zbP (w:=.int i))) (zbX (zbP (w:=.int j))) rfl (by rw[List.length_map];omega)
  rw[e1] at this
  exact this
 have s2:dSl zbl (zaf 1) (zba (dC (.int e))) dh sl ce=some (.ok (sW b) ce):=by
  have:=zfS (sl:=sl) (ce:=ce) (a:=zaf 1) (xs:=xs.map W.int) (dh:=dh) (hi:=hi) v1 (zbX (zbP (w:=.int e))) hh rfl (by rw[List.length_map];omega)
  rw[e2] at this
  exact this
 have s3:=zhg s1 s2 (xs:=a.map W.int) (ys:=b.map W.int) rfl rfl (by rw[List.length_map,List.length_map];omega)
 rw[<- List.map_append] at s3
 obtain⟨cs,e3,_,_⟩:=zfT (a++b) none (some v)
 refine⟨cs,?_⟩
 have:=zfS (dl:=zaZ) (lo:=none) s3 rfl (zbX h3) (xs:=(a++b).map W.int) rfl (by rw[List.length_map,List.length_append];omega)
 rw[e3] at this
 exact this
theorem zki{ce:Ce}{w:W}(ng:Bool)(hx:zlj ce w=some w)(hc:cln 8 w=true):eqD ng ce w w=some (.bl (!ng)):=by
 simp only[eqD,hx,hc,Bool.and_self,if_true,zhy 8 hc]
 cases ng<;>rfl
theorem zhk{ce:Ce}(n:Nat)(l:List Int)(d:Nat):zeu n ce (d+1) (wS l)=some (wS l):=by
 have:∀l:List Int,zck n ce d (l.map W.int)=some (l.map W.int):=fun l=>by
  induction l with
  | nil=>simp only[List.map_nil,zck]
  | cons a r ih=>simp only[List.map_cons,zck,zeu,ih]
 simp only[wS,zeu,this,Option.map_some]
theorem zqi(is:List Int)(n:Nat):cln (n+1) (wS is)=true:=zcU is n
theorem zn8(fu:Nat){b:List (List Nat)}{c:Ce}{k:Nat}(g:c[k]?=some (.dct [])):d_is_stand fu [wB b,.cel k] c=some (.ok (.bl false) c):=zej fu (by simp only[zio,tyW,g];rfl)
theorem main(ns:List Int)(_h:ns.length<=63):∃ce',d_law FU [.lst (ns.map W.int)] []=some (.ok (.bl true) ce'):=by
 have hz:=zgW
 have hfu:200<=FU:=by decide
 have z1:1<=PySem.sizeLine:=by decide
 have z2:2<=PySem.sizeLine:=by decide
 have hz3:3000<PySem.sizeLine:=by decide
 suffices hs:∃w c,d_law FU [.lst (ns.map W.int)] []=some (.ok w c)/\w=.bl true by
  obtain⟨w,c,e,rfl⟩:=hs
  exact⟨c,e⟩
 obtain⟨xs,e1,xl,hxs⟩:=zc8 (ce:=[]) FU ((ns++[0]).getD 0 0) (m:=60) (by omega)
 have e1':d__law_stream FU [.int ((ns++[0]).getD 0 0),.int 60] []=some (.ok (sW xs) []):=e1
 obtain⟨n,ls,e2,n0,n36,L⟩:=zlD (ce:=[]) FU (xs:=xs) (by omega) hxs
 have e3:=zj6 (ce:=[]) FU n0 n36 L
 have B:=znY L n0 n36
 have N:BrdN (zhh n ls):=⟨B,zn7 L⟩
 have bl:(zhh n ls).length=n:=by simp[zhh]
 generalize zhh n ls=b at e3 B N bl
 unfold d_law
 refine zhe [some (sW ns),none,none,none,none,none,none,none,none,none,none,none] rfl ?_
 have ec:zkl zbl (zaf 0) (zeo (zad (dC (.int 0)) zap)) [some (sW ns),none,none,none,none,none,none,none,none,none,none,none] []=some (.ok (sW (ns++[0])) []):=by
  have:=zhg (sl:=[some (sW ns),none,none,none,none,none,none,none,none,none,none,none]) (ce:=[]) (a:=zaf 0) (b:=zeo (zad (dC (.int 0)) zap)) (zal rfl) (zbM (ws:=[.int 0]) (by trivial) z1) (xs:=ns.map W.int) (ys:=[.int 0]) rfl rfl (by rw[List.length_map];show ns.length+1<=_;omega)
  rw[this]
  show _=some (R.ok (W.lst ((ns++[0]).map W.int)) [])
  rw[List.map_append];rfl
 have i0:=zb2 (ns:=ns++[0]) (p:=0) (by simp) [] (i:=0) rfl
 refine zan (w:=sW xs) (ce':=[]) (zaO (ws:=[.int ((ns++[0]).getD 0 0),.int 60]) (zak (zbL ec zbP i0) (by trivial)) rfl e1') ?_
 refine zaj (by repeat (first|exact SetAt.zero|apply SetAt.succ)) ?_
 refine zll (x:=nW n) (y:=.lst (ls.map pW)) (c1:=[]) (zaO (ws:=[sW xs]) (by trivial) rfl e2) ?_
 refine(?_:Run _ [some (sW ns),some (sW xs),some (nW n),some (.lst (ls.map pW)),none,none,none,none,none,none,none,none] [] _)
 refine zan (w:=wB b) (ce':=[]) (zaO (ws:=[nW n,.lst (ls.map pW)]) (by trivial) rfl e3) ?_
 refine zaj (by repeat (first|exact SetAt.zero|apply SetAt.succ)) ?_
 have i3:=zb2 (ns:=xs) (p:=3) (by omega) [] (i:=3) rfl
 have i4:=zb2 (ns:=xs) (p:=4) (by omega) [] (i:=4) rfl
 have i5:=zb2 (ns:=xs) (p:=5) (by omega) [] (i:=5) rfl
 have i6:=zb2 (ns:=xs) (p:=6) (by omega) [] (i:=6) rfl
 generalize xs.getD 3 0=x3 at i3
 generalize xs.getD 4 0=x4 at i4
 generalize xs.getD 5 0=x5 at i5
 generalize xs.getD 6 0=x6 at i6
 obtain⟨cs,e4⟩:=zh1 (ce:=[]) (ns:=ns) (xs:=xs) (v:=x6 % 31) (i:=11) (j:=41) (e:=20) (sl:=[some (sW ns),some (sW xs),some (nW n),some (.lst (ls.map pW)),some (wB b),none,none,none,none,none,none,none]) (d3:=dOp zbA (zaR ixW (zaf 1) (dC (.int 6))) (dC (.int 31))) (dh:=zaZ) (hi:=none) rfl rfl (by omega) (by omega) rfl (by trivial)
 obtain⟨is,e5,S⟩:=zlH (ce:=[]) FU hfu N cs
 refine zan (w:=wS is) (ce':=[]) (zaO (ws:=[wB b,sW cs]) (zak (by trivial) (zak e4 zar)) rfl e5) ?_
 refine zaj (by repeat (first|exact SetAt.zero|apply SetAt.succ)) ?_
 obtain⟨rl,hrl⟩:∃rl:PySem.Str,ixW [] (.lst [.str "stones",.str "turns"]) (.int (x3 % 2))=some (.str rl):=by
  have:x3 % 2=0\/x3 % 2=1:=by omega
  rcases this with h|h
  ·rw[h];exact⟨_,znm (xs:=[.str "stones",.str "turns"]) (j:=0) rfl rfl⟩
  ·rw[h];exact⟨_,znm (xs:=[.str "stones",.str "turns"]) (j:=1) rfl rfl⟩
 refine zan (w:=.str rl) (ce':=[]) (zbL (zbM (ws:=[.str "stones",.str "turns"]) (by trivial) z2) (y:=.int (x3 % 2)) (by trivial) hrl) ?_
 refine zaj (by repeat (first|exact SetAt.zero|apply SetAt.succ)) ?_
 refine zan (w:=.int (1+x5 % 2)) (ce':=[]) (by trivial) ?_
 refine zaj (by repeat (first|exact SetAt.zero|apply SetAt.succ)) ?_
 generalize 1+x5 % 2=hd
 obtain⟨ds,e6⟩:=zh1 (ce:=[]) (ns:=ns) (xs:=xs) (v:=1+x4 % 10) (i:=1) (j:=11) (e:=8) (sl:=[some (sW ns),some (sW xs),some (nW n),some (.lst (ls.map pW)),some (wB b),some (wS is),some (.str rl),some (.int hd),none,none,none,none]) (d3:=dOp zb3 (dC (.int 1)) (dOp zbA (zaR ixW (zaf 1) (dC (.int 4))) (dC (.int 10)))) (dh:=zba (dC (.int 18))) (hi:=some 18) rfl rfl (by omega) (by omega) (zbX zbP) (by trivial)
 refine zbn (zs:=ds) (en:=W.int) (c1:=[]) (zgw (xs:=ds.map W.int) e6)
  (fun d sl c=>∃y8 y9 y10 y11,sl=[some (sW ns),some (sW xs),some (nW n),some (.lst (ls.map pW)),some (wB b),some (wS is),some (.str rl),some (.int hd),y8,y9,y10,y11]) ⟨_,_,_,_,rfl⟩ ?_ ?_
 ·rintro d t r sl c e ht ⟨y8,y9,y10,y11,rfl⟩
  obtain⟨ys,f1,yl,hys⟩:=zc8 (ce:=c) FU t (m:=1) (by omega)
  have f1':d__law_stream FU [.int t,.int 1] c=some (.ok (sW ys) c):=f1
  have j0:=zb2 (ns:=ys) (p:=0) (by omega) c (i:=0) rfl
  have hy0:=(hys _ (zfU (ns:=ys) (p:=0) (by omega))).1
  generalize ys.getD 0 0=x at j0 hy0
  have hl:=S.hl
  obtain⟨w,f2,hw⟩:=ziF (ce:=c) (st:=is) FU (by have:=B.pos;omega) (by omega) hy0
  obtain⟨is',f3,l3,v3,ns3⟩:=zlN (ce:=c++[.dct []]) FU hfu N S (x:=x / 5) (by omega)
  unfold zmu
  refine zaj (by repeat (first|exact SetAt.zero|apply SetAt.succ)) ?_
  refine zan (w:=.int x) (ce':=c) (zbL (zaO (ws:=[.int t,.int 1]) (by trivial) rfl f1') zbP j0) ?_
  refine zaj (by repeat (first|exact SetAt.zero|apply SetAt.succ)) ?_
  refine zan (w:=w) (ce':=c++[.dct []]) (zaO (ws:=[wS is,.int x]) (by trivial) rfl f2) ?_
  refine zaj (by repeat (first|exact SetAt.zero|apply SetAt.succ)) ?_
  refine za1 (p:=decide (x / 4320 % 3=0)) (ce':=c++[.dct []]) (by trivial) (fun _=>?_) (fun _=>?_)
  ·refine zan (w:=wS is') (ce':=c++[.dct []]) (zaO (ws:=[wB b,wS is,.int (x / 5)]) (by trivial) rfl f3) ?_
   refine zaj (by repeat (first|exact SetAt.zero|apply SetAt.succ)) ?_
   have f4:=zeZ (ce:=c++[.dct []]) (b:=b) FU (r:=.str rl) (w:=wS is') (h:=.int hd) (fun c' u=>zlO FU (zmA FU l3 B.h36 v3 _) (zn6 FU hfu B l3 ns3 _))
   refine zbS (p:=!true) (ce':=c++[.dct []]) (zbV (zeT (zaO (ws:=[wB b,.str rl,wS is',.int hd]) (by trivial) rfl f4))) (fun q=>by cases q) (fun _=>zbu ?_)
   exact⟨_,_,_,_,rfl⟩
  ·refine zaF ?_
   have f4:=zeZ (ce:=c++[.dct []]) (b:=b) FU (r:=.str rl) (w:=w) (h:=.int hd) (fun c' u=>zn3 FU (by
    rcases hw with hw|rfl
    ·exact zlL FU (by rw[List.length_map];omega) hw
    ·exact zn8 FU (by rw[List.append_assoc,List.getElem?_append_right (Nat.le_refl _)];simp)))
   refine zbS (p:=!true) (ce':=c++[.dct []]) (zbV (zeT (zaO (ws:=[wB b,.str rl,w,.int hd]) (by trivial) rfl f4))) (fun q=>by cases q) (fun _=>zbu ?_)
   exact⟨_,_,_,_,rfl⟩
 ·rintro sl c ⟨y8,y9,y10,y11,rfl⟩
  refine zan (w:=.cel c.length) (ce':=c++[.ins "Game" (gmF b rl is hd)]) (znV (ws:=[wB b,.str rl,wS is,.int hd]) (by trivial) rfl (zn4 FU (fun c=>zmA FU S.hl B.h36 S.v c) (fun c=>zn5 FU hfu N S c))) ?_
  refine zaj (by repeat (first|exact SetAt.zero|apply SetAt.succ)) ?_
  have g:(c++[C.ins "Game" (gmF b rl is hd)])[c.length]?=some (.ins "Game" (gmF b rl is hd)):=zcD _ _
  generalize c++[C.ins "Game" (gmF b rl is hd)]=c' at g
  generalize c.length=k at g
  have d1:zlj c' (wS is)=some (wS is):=zhk 0 is 5
  have d2:zlj c' (.tup [wS is,.int hd])=some (.tup [wS is,.int hd]):=by simp only[zlj,zeu,zck,zhk,Option.map_some]
  have d3:zlj c' (.lst [wS is])=some (.lst [wS is]):=by simp only[zlj,zeu,zck,zhk,Option.map_some]
  have q1:=zki (ce:=c') true d1 (zqi is 7)
  have q2:=zki (ce:=c') true d2 (by simp only[cln,List.all_cons,List.all_nil,Bool.and_true];exact zcU is 6)
  have q3:=zki (ce:=c') false d3 (by simp only[cln,List.all_cons,List.all_nil,Bool.and_true];exact zcU is 6)
  have m1:∀sl:Sl,sl[11]?=some (some (.cel k))->zcM "Game" "stand" 1 (d_Game_stand FU) (zaf 11) zap sl c'=some (.ok (wS is) c'):=fun sl hs=>zea (ws:=[]) (zal hs) g rfl zar rfl (zlQ FU g)
  have m2:∀sl:Sl,sl[11]?=some (some (.cel k))->zcM "Game" "begin" 1 (d_Game_begin FU) (zaf 11) zap sl c'=some (.ok (.tup [wS is,.int hd]) c'):=fun sl hs=>zea (ws:=[]) (zal hs) g rfl zar rfl (zlR FU g)
  have m3:∀sl:Sl,sl[11]?=some (some (.cel k))->zcM "Game" "stands" 1 (d_Game_stands FU) (zaf 11) zap sl c'=some (.ok (.lst [wS is]) c'):=fun sl hs=>zea (ws:=[]) (zal hs) g rfl zar rfl (zkh FU g)
  have m4:∀sl:Sl,sl[11]?=some (some (.cel k))->zcM "Game" "deeds" 1 (d_Game_deeds FU) (zaf 11) zap sl c'=some (.ok (.lst []) c'):=fun sl hs=>zea (ws:=[]) (zal hs) g rfl zar rfl (zlS FU g)
  have m5:∀sl:Sl,sl[11]?=some (some (.cel k))->zcM "Game" "ended" 1 (d_Game_ended FU) (zaf 11) zap sl c'=some (.ok .non c'):=fun sl hs=>zea (ws:=[]) (zal hs) g rfl zar rfl (zlT FU g)
  refine za1 (p:=!true||!true) (ce':=c') (zhI (zeT (zbL (m1 _ rfl) (zal rfl) q1)) (fun _=>zeT (zbL (m2 _ rfl) (zcf (ws:=[wS is,.int hd]) (by trivial) z2) q2))) (fun q=>by cases q) (fun _=>zaF ?_)
  refine zaB (w:=.bl true) (ce':=c') (zjS (zbL (m3 _ rfl) (zbM (ws:=[wS is]) (by trivial) z1) q3) (zjS (zbL (m4 _ rfl) (zbM zar (Nat.zero_le _)) rfl) (zgZ (m5 _ rfl) rfl))) ?_
  exact⟨_,_,zdA (ce:=[]) (l:=c') (by simp only[Bel]),rfl⟩
end K22
namespace K22
open PySem PySem.Spec PyProof.Rows L2 VS
theorem fin_mk{w:World}{K:PySem.W.Frag}{mg:Str->Option Value}{l:PySem.W.OpenLaw}{fa:Addr}(z:∃A:Adr,Txt K mg A/\fa=A.f_law/\∀(s:Shared) (v:Value),BindsTo s A.d_law ⟨[v],[]⟩ [("_law_script",v)]) :
  ∃fd:FuncData,(∀(s:Shared) (u:Value),BindsTo s fd ⟨[u],[]⟩ [("_law_script",u)])/\∀base:Heap,K.In base->base.Ns mainGlobals mg->FnOk l.prog w K mg base CX0 8 fa fd ["_law_script"] (spLaw Gx (d_law FU) K):=by
 obtain⟨A,T,e,b⟩:=z
 subst e
 exact⟨A.d_law,b,fun base _ _=>znQ T.nl (zp6 FU T)⟩
end K22
open PySem PySem.W PyProof.Rows
theorem PySem.W.Fast.te13556682878454123241 : True := trivial
theorem PySem.W.Fast.tw3856241221658783567 : True := trivial
theorem PySem.W.Fast.tw18337531719824421696 : True := trivial
theorem PySem.W.Fast.tw4097012881784906307 : True := trivial
theorem PySem.W.Fast.tw14827922741689882243 : True := trivial
theorem PySem.W.Fast.tw11068047153108619171 : True := trivial
theorem PySem.W.Fast.tw11362503612760451365 : True := trivial
theorem PySem.W.Fast.tw2654182528739590823 : True := trivial
theorem PySem.W.Fast.tw11330247535052252522 : True := trivial
theorem PySem.W.Fast.tw3628253079616216179 : True := trivial
theorem PySem.W.Fast.tw12793519804347877813 : True := trivial
theorem PySem.W.Fast.tw15824960983726284246 : True := trivial
theorem PySem.W.Fast.tw4485593693231097686 : True := trivial
theorem PySem.W.Fast.tw3347904133477897495 : True := trivial
theorem PySem.W.Fast.tw9361997967902757563 : True := trivial
theorem PySem.W.Fast.tw18099063453777423133 : True := trivial
theorem PySem.W.Fast.tw5215986635231664606 : True := trivial
theorem PySem.W.Fast.tw13054945593632365502 : True := trivial
set_option maxRecDepth 100000 in
set_option maxHeartbeats 0 in
theorem PySem.Challenge.cw_stonebreath_k22_games_that_do_not_begin_holds : PySem.Challenge.rw_stonebreath_k22_games_that_do_not_begin.Holds := by
 w_on;o_law;k_head;(case hw=>w_witness2)
 k_fill
 refine L2.walk_ofK (l:=PySem.Challenge.rw_stonebreath_k22_games_that_do_not_begin) (n:=63) (k:=8) (x := "_law_script") (CX:=L2.CX0) (sp:=VS.spLaw K22.Gx (K22.d_law K22.FU)) rfl (by decide) rfl ⟨rfl,by decide,by decide⟩ (fun w h Y=>PySem.W.kIn_of Y) ?F (VS.law_sp K22.main) (fun _ _ _ _ z=>z)
 case F =>
  intro w mg fa h KX G hmg
  refine' K22.fin_mk (K22.all_mk KX G hmg ?ac_Game ?pg_Game ?hd_Game ?po_Game ?sa_Game ?mi_Game ?kc_Game ?na_Game_barring ?na_Game_done ?na_Game_first ?na_Game_joined ?na_Game_past ?na_Game_takings ?a0 ?l0 ?c0 ?k0 ?a1 ?l1 ?c1 ?k1 ?a2 ?l2 ?c2 ?k2 ?a3 ?l3 ?c3 ?k3 ?a4 ?l4 ?c4 ?k4 ?a5 ?l5 ?c5 ?k5 ?a6 ?l6 ?c6 ?k6 ?a7 ?l7 ?c7 ?k7 ?a8 ?l8 ?c8 ?k8 ?a9 ?l9 ?c9 ?k9 ?a10 ?l10 ?c10 ?k10 ?a11 ?l11 ?c11 ?k11 ?a12 ?l12 ?c12 ?k12 ?a13 ?l13 ?c13 ?k13 ?a14 ?l14 ?c14 ?k14 ?a15 ?l15 ?c15 ?k15 ?a16 ?l16 ?c16 ?k16 ?a17 ?l17 ?c17 ?k17 ?a18 ?l18 ?c18 ?k18 ?a19 ?fn19 ?l19 ?c19 ?k19 ?a20 ?fn20 ?l20 ?c20 ?k20 ?a21 ?fn21 ?l21 ?c21 ?k21 ?a22 ?fn22 ?l22 ?c22 ?k22 ?a23 ?fn23 ?l23 ?c23 ?k23 ?a24 ?fn24 ?l24 ?c24 ?k24 ?q0 ?z_ValueError ?z_all ?z_bool ?z_int ?z_isinstance ?z_len ?z_list ?z_range ?z_sorted ?z_tuple ?xt ?nl)
  (case ac_Game=>k_is);(case pg_Game=>k_is);(case hd_Game=>k_is);(case po_Game=>k_is);(case sa_Game=>k_is);(case mi_Game=>k_is);(case kc_Game=>k_is);(case na_Game_barring=>k_is);(case na_Game_done=>k_is);(case na_Game_first=>k_is);(case na_Game_joined=>k_is);(case na_Game_past=>k_is);(case na_Game_takings=>k_is);(case a0=>k_is);(case l0=>k_is);(case c0=>k_is);(case k0=>k_is);(case a1=>k_is);(case l1=>k_is);(case c1=>k_is);(case k1=>k_is);(case a2=>k_is);(case l2=>k_is);(case c2=>k_is);(case k2=>k_is);(case a3=>k_is);(case l3=>k_is);(case c3=>k_is);(case k3=>k_is);(case a4=>k_is);(case l4=>k_is);(case c4=>k_is);(case k4=>k_is);(case a5=>k_is);(case l5=>k_is);(case c5=>k_is);(case k5=>k_is);(case a6=>k_is);(case l6=>k_is);(case c6=>k_is);(case k6=>k_is);(case a7=>k_is);(case l7=>k_is);(case c7=>k_is);(case k7=>k_is);(case a8=>k_is);(case l8=>k_is);(case c8=>k_is);(case k8=>k_is);(case a9=>k_is);(case l9=>k_is);(case c9=>k_is);(case k9=>k_is);(case a10=>k_is);(case l10=>k_is);(case c10=>k_is);(case k10=>k_is);(case a11=>k_is);(case l11=>k_is);(case c11=>k_is);(case k11=>k_is);(case a12=>k_is);(case l12=>k_is);(case c12=>k_is);(case k12=>k_is);(case a13=>k_is);(case l13=>k_is);(case c13=>k_is);(case k13=>k_is);(case a14=>k_is);(case l14=>k_is);(case c14=>k_is);(case k14=>k_is);(case a15=>k_is);(case l15=>k_is);(case c15=>k_is);(case k15=>k_is);(case a16=>k_is);(case l16=>k_is);(case c16=>k_is);(case k16=>k_is);(case a17=>k_is);(case l17=>k_is);(case c17=>k_is);(case k17=>k_is);(case a18=>k_is);(case l18=>k_is);(case c18=>k_is);(case k18=>k_is);(case a19=>k_is);(case fn19=>k_is);(case l19=>k_is);(case c19=>k_is);(case k19=>k_is);(case a20=>k_is);(case fn20=>k_is);(case l20=>k_is);(case c20=>k_is);(case k20=>k_is);(case a21=>k_is);(case fn21=>k_is);(case l21=>k_is);(case c21=>k_is);(case k21=>k_is);(case a22=>k_is);(case fn22=>k_is);(case l22=>k_is);(case c22=>k_is);(case k22=>k_is);(case a23=>k_is);(case fn23=>k_is);(case l23=>k_is);(case c23=>k_is);(case k23=>k_is);(case a24=>k_is);(case fn24=>k_is);(case l24=>k_is);(case c24=>k_is);(case k24=>k_is);(case q0=>k_is);(case z_ValueError=>k_is);(case z_all=>k_is);(case z_bool=>k_is);(case z_int=>k_is);(case z_isinstance=>k_is);(case z_len=>k_is);(case z_list=>k_is);(case z_range=>k_is);(case z_sorted=>k_is);(case z_tuple=>k_is);(case xt=>kernel_rfl);(case nl=>kernel_rfl)
