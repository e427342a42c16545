import PyProof.Rows.All
import Wide.All
import OpenK.AllK
import Wide.FinOn
import Lean
import PyProof.EqAt
import PyProof.EqKinds
import PyProof.TupleCall
import KE.KIsAll
import KE.KItem
import KE.KxBytes
import KE.KRevIter
import KE.KDictOf
import KE.KTurnsDict
import KE.KPairComp
import PyProof.Rows.SortShell
import KE.KDictList
import PyProof.AttrMissSeq
import PyProof.DictUpdate
import PyProof.WalksS
import PyProof.ListRange
import KE.KEqDict
import PyProof.SumWalkG
import PyProof.ListNew
import PySem.Challenge.RW_likehalves_k22_whole_sums_of_frames
noncomputable section
set_option compiler.extract_closed false
set_option genSizeOf false
set_option Elab.async false
set_option linter.all false
set_option maxRecDepth 100000
namespace L2
open PySem PySem.Spec PyProof.Rows
abbrev Key:=Sum Int Str
def keyIs:Key->Value->Bool
 | .inl k,v=>Value.isInt k v
 | .inr x,v=>Value.isStrOf x v
def keyH(w:World):Key->Int
 | .inl k=>hashInt k
 | .inr x=>hashStr w x
theorem G_:∀ {k:Key} {v:Value},keyIs k v=true->(∃i t,k=Sum.inl i/\v=Value.int i t)\/(∃x t,k=Sum.inr x/\v=Value.str x t)
 | .inl i,v,h=>by
  obtain⟨t,e⟩:=Value.isInt_shape (k:=i) (v:=v) h
  exact .inl ⟨i,t,rfl,e⟩
 | .inr x,v,h=>by
  obtain⟨t,e⟩:=Value.isStrOf_shape (x:=x) (v:=v) h
  exact .inr ⟨x,t,rfl,e⟩
theorem lT_(i:Int)(t:Tok):keyIs (.inl i) (.int i t)=true:=by simp[keyIs,Value.isInt]
theorem lS_(x:Str)(t:Tok):keyIs (.inr x) (.str x t)=true:=by simp[keyIs,Value.isStrOf]
theorem qv_(a b:Int):decide ((Sum.inl a:Key)=Sum.inl b)=(a==b):=by
 by_cases e:a=b
 ·subst e;simp
 ·have h:¬ (Sum.inl a:Key)=Sum.inl b:=fun q=>e (Sum.inl.inj q)
  rw[decide_eq_false h]
  exact(beq_eq_false_iff_ne.mpr e).symm
theorem qs_(a b:Str):decide ((Sum.inr a:Key)=Sum.inr b)=decide (a=b):=by
 by_cases e:a=b
 ·subst e;simp
 ·have h:¬ (Sum.inr a:Key)=Sum.inr b:=fun q=>e (Sum.inr.inj q)
  rw[decide_eq_false h,decide_eq_false e]
theorem qu_(a:Int)(b:Str):decide ((Sum.inl a:Key)=Sum.inr b)=false:=decide_eq_false (fun q=>nomatch q)
theorem qt_(a:Str)(b:Int):decide ((Sum.inr a:Key)=Sum.inl b)=false:=decide_eq_false (fun q=>nomatch q)
def w_(prog:Program)(w:World):PySem.KeyKind prog w Key where
 is:=keyIs
 hash:=keyH w
 inj:=fun v a b ha hb=>by
  rcases G_ ha with⟨i,t,rfl,rfl⟩ | ⟨x,t,rfl,rfl⟩
  ·rcases G_ hb with⟨j,u,rfl,e⟩ | ⟨y,u,rfl,e⟩
   ·injection e with e1 _;rw[e1]
   ·exact nomatch e
  ·rcases G_ hb with⟨j,u,rfl,e⟩ | ⟨y,u,rfl,e⟩
   ·exact nomatch e
   ·injection e with e1 _;rw[e1]
 byValue:=fun k v h=>by
  rcases G_ h with⟨i,t,rfl,rfl⟩ | ⟨x,t,rfl,rfl⟩ <;> rfl
 pyHash:=fun hv h=>by
  rcases G_ hv with⟨i,t,rfl,rfl⟩ | ⟨x,t,rfl,rfl⟩
  ·exact wpAny_pyHash_int h
  ·exact wpAny_pyHash_str h
 eqBool:=fun hu hv h=>by
  rcases G_ hu with⟨i,t,rfl,rfl⟩ | ⟨x,t,rfl,rfl⟩
  ·rcases G_ hv with⟨j,u,rfl,rfl⟩ | ⟨y,u,rfl,rfl⟩
   ·rw[qv_] at h;exact wpAny_eqBool_int h
   ·rw[qu_] at h;exact SeqAt.EqAt.int_str i t y u _ _ _ _ h
  ·rcases G_ hv with⟨j,u,rfl,rfl⟩ | ⟨y,u,rfl,rfl⟩
   ·rw[qt_] at h;exact SeqAt.EqAt.str_int x t j u _ _ _ _ h
   ·rw[qs_] at h;exact wpAny_eqBool_str h
 «strs»:=fun k x t v h=>by
  rcases G_ h with⟨i,u,rfl,e⟩ | ⟨y,u,rfl,e⟩
  ·exact nomatch e
  ·injection e with e1 _
   subst e1
   cases v <;> rfl
theorem hY_(prog:Program)(w:World)(i:Int)(t:Tok):(w_ prog w).is (.inl i) (.int i t)=true:=lT_ i t
theorem hX_(prog:Program)(w:World)(x:Str)(t:Tok):(w_ prog w).is (.inr x) (.str x t)=true:=lS_ x t
inductive V where
 | non | bl (b:Bool) | int (i:Int) | str (x:Str) | byt (b:Array UInt8) | flt (b:UInt64) | ref (a:Addr) | ty (n:String)
 deriving DecidableEq
def RelV:V->Value->Prop
 | .non,u=>u=Value.none
 | .bl b,u=>u=Value.bool b
 | .int i,u=>∃t,u=Value.int i t
 | .str x,u=>∃t,u=Value.str x t
 | .byt b,u=>∃t,u=Value.bytes b t
 | .flt b,u=>∃t,u=Value.float b t
 | .ref a,u=>u=Value.ref a
 | .ty n,u=>u=Value.type n
abbrev Vals:List V->List Value->Prop:=Paired RelV
theorem Vals.length{xs:List V}{us:List Value}(r:Vals xs us):xs.length=us.length:=Paired.length r
theorem Vals.get:∀ {xs:List V} {us:List Value} {i:Nat} {x:V},Vals xs us->xs[i]?=some x->∃u,us[i]?=some u/\RelV x u
 | _,_,_,_,.nil,e=>by simp at e
 | _,_,0,_,.cons r _,e=>by simp at e;subst e;exact⟨_,rfl,r⟩
 | _,_,i+1,x,.cons _ t,e=>by
  obtain⟨u,h1,h2⟩:=Vals.get (i:=i) (x:=x) t (by simpa using e)
  exact⟨u,by simpa using h1,h2⟩
theorem Vals.set{x:V}{u:Value}(r:RelV x u):∀ {xs:List V} {us:List Value} (i:Nat),Vals xs us->Vals (xs.set i x) (us.set i u)
 | _,_,_,.nil=>.nil
 | _,_,0,.cons _ t=>.cons r t
 | _,_,i+1,.cons q t=>.cons q (Vals.set r i t)
theorem Vals.append{xs ys:List V}{us ws:List Value}(a:Vals xs us)(b:Vals ys ws):Vals (xs++ys) (us++ws):=by
 induction a with
 | nil=>exact b
 | cons r _ ih=>exact .cons r ih
theorem Vals.take:∀ {xs:List V} {us:List Value} (n:Nat),Vals xs us->Vals (xs.take n) (us.take n)
 | _,_,0,_=>.nil
 | _,_,_+1,.nil=>.nil
 | _,_,n+1,.cons r t=>.cons r (Vals.take n t)
theorem Vals.drop:∀ {xs:List V} {us:List Value} (n:Nat),Vals xs us->Vals (xs.drop n) (us.drop n)
 | _,_,0,r=>r
 | _,_,_+1,.nil=>.nil
 | _,_,n+1,.cons _ t=>Vals.drop n t
theorem Vals.none_of:∀ {xs:List V} {us:List Value} {i:Nat},Vals xs us->xs[i]?=none->us[i]?=none:=fun {xs us i} r e=>by
 have h1:=r.length
 have h2:xs.length<=i:=List.getElem?_eq_none_iff.mp e
 exact List.getElem?_eq_none_iff.mpr (by omega)
def RelO:Option V->Option Value->Prop
 | some v,some u=>RelV v u
 | none,none=>True
 | _,_=>False
def KV{κ:Type}:List (κ×V)->List (κ×Value)->Prop:=Paired fun(p:κ×V) (q:κ×Value)=>p.1=q.1/\RelV p.2 q.2
def kV:Key->V
 | .inl i=>.int i
 | .inr x=>.str x
inductive HO where
 | lst (xs:List V)
 | tup (xs:List V)
 | dK (kvs:List (Key×V)) | dT (kvs:List (List Key×V))
 | set (S:Int->Bool) (n:Nat)
 | ins (C dx:Addr) (fs:List (Str×V))
 | own (x:Addr)
 | xd (fs:List (Str×V))
 | met (f x:Addr)
 | rng (lo hi:Int)
 | frz (o:Obj) (u:HO)
 | tbl (ps:Array Value)
 | ext (φ:Heap->Prop)
abbrev Hp:=Addr->Option HO
def upd(H:Hp)(a:Addr)(o:HO):Hp:=fun b=>if b=a then some o else H b
theorem c_{H:Hp}{a:Addr}{o:HO}:upd H a o a=some o:=by unfold upd;rw[if_pos rfl]
theorem j_{H:Hp}{a b:Addr}{o:HO}(h:b≠a):upd H a o b=H b:=by unfold upd;rw[if_neg h]
theorem hV_{H:Hp}{a b:Addr}{o u:HO}(h:H a=some o)(h':H b=some u)(d:o≠u):a≠b:=by
 intro e;subst e;rw[h] at h';exact d (Option.some.inj h')
theorem f_{H:Hp}{a b:Addr}{o:HO}(h:H a=some o)(h':H b=none):a≠b:=by
 intro e;subst e;rw[h] at h';cases h'
section
variable(P:Program)(w:World)
def ObjOk(H:Hp)(h:Heap)(a:Addr):HO->Prop
 | .lst xs=>xs.length<=sizeLine/\∃(its:List Value) (n:Nat),Vals xs its/\h.get? a=some {cls:=.type "list",data:=.seq its.toArray n}
 | .tup xs=>xs.length<=sizeLine/\∃its:List Value,Vals xs its/\IsTup h a its.toArray
 | .dK kvs=>kvs.length<=sizeLine/\(a==sysModules)=false/\∃vs,KV kvs vs/\h.DictOf (w_ P w) a vs
 | .dT kvs=>kvs.length<=sizeLine/\(a==sysModules)=false/\∃xs:List (List Key×Addr×Value),
   Paired (fun(p:List Key×V) (q:List Key×Addr×Value)=>p.1=q.1/\H q.2.1=some (.tup (p.1.map kV))/\RelV p.2 q.2.2) kvs xs/\
   ∃o es ep,h.get? a=some o/\o.ExactDict/\o.data=.dict es ep/\es.toList=xs.map (entryOfKey (tupleKind (w_ P w)))/\(xs.map (·.1)).Nodup
 | .set S n=>h.SetOf (intKind P w) a S n
 | .ins C dx fs=>H dx=some (.own a)/\fs.length<=1000/\dx≠a/\h.get? a=some (PySem.W.instObj C dx)/\
   ∃mA,h.Ns1 dx mA/\(∀f,RelO (fs.lookup f) (mA f))/\PySem.Within mA (fs.map (·.1))
 | .own _=>∃o,h.get? a=some o
 | .xd fs=>∃mA,h.Ns1 a mA/\∀f,RelO (fs.lookup f) (mA f)
 | .rng lo hi=>∃t u v,h.get? a=some {cls:=.type "range",data:=.fields #[.int lo t,.int hi u,.int 1 v]}
 | .frz o u=>h.get? a=some o/\ObjOk H h a u
 | .tbl ps=>h.get? a=some {cls:=.none,data:=.fields ps}
 | .met f x=>h.get? a=some (PySem.W.methodObj (.ref f) (.ref x))
 | .ext φ=>φ h/\(∃o,h.get? a=some o)/\∀h1 h2:Heap,φ h1->(∀o,h1.get? a=some o->h2.get? a=some o)->φ h2
def HOk(H:Hp)(h:Heap):Prop:=∀a o,H a=some o->ObjOk P w H h a o
end
section
variable{P:Program}{w:World}{H H':Hp}{h h':Heap}{a:Addr}{o:HO}
theorem ObjOk.lt(x:ObjOk P w H h a o):a<h.objs.size:=by
 cases o with
 | lst xs=>obtain⟨_,_,_,_,e⟩:=x;exact Heap.lt_size e
 | tup xs=>obtain⟨_,_,_,p⟩:=x;exact p.lt
 | dK kvs=>obtain⟨_,_,_,_,o,_,_,e,_⟩:=x;exact Heap.lt_size e
 | dT kvs=>obtain⟨_,_,_,_,o,_,_,e,_⟩:=x;exact Heap.lt_size e
 | set S n=>obtain⟨o,_,_,_,e,_⟩:=x;exact Heap.lt_size e
 | ins C dx fs=>obtain⟨_,_,_,e,_⟩:=x;exact Heap.lt_size e
 | own y=>obtain⟨_,e⟩:=x;exact Heap.lt_size e
 | xd fs=>obtain⟨_,⟨_,_,_,e,_⟩,_⟩:=x;exact Heap.lt_size e
 | rng lo hi=>obtain⟨_,_,_,e⟩:=x;exact Heap.lt_size e
 | frz ob u=>obtain⟨e,_⟩:=x;exact Heap.lt_size e
 | tbl ps=>exact Heap.lt_size (show h.get? a=some _ from x)
 | met f y=>exact Heap.lt_size (show h.get? a=some _ from x)
 | ext φ=>obtain⟨_,⟨_,e⟩,_⟩:=x;exact Heap.lt_size e
theorem Paired.mapP{α β:Type}{F G:α->β->Prop}{l₁:List α}{l₂:List β}(h:Paired F l₁ l₂)(f:∀a b,F a b->G a b):Paired G l₁ l₂:=by
 induction h with
 | nil=>exact .nil
 | cons r _ ih=>exact .cons (f _ _ r) ih
theorem ObjOk.stay(x:ObjOk P w H h a o)(k:∀b u,(b=a\/H b=some (.own a))->h.get? b=some u->h'.get? b=some u)
  (ho:∀b,H b=some (.own a)->H' b=some (.own a)) (ht:∀b xs,H b=some (.tup xs)->H' b=some (.tup xs)):ObjOk P w H' h' a o:=by
 induction o with
 | lst xs=>obtain⟨z,its,n,r,e⟩:=x;exact⟨z,its,n,r,k _ _ (.inl rfl) e⟩
 | tup xs=>obtain⟨z,its,r,ob,e,c⟩:=x;exact⟨z,its,r,ob,k _ _ (.inl rfl) e,c⟩
 | dK kvs=>obtain⟨z,y,vs,r,ob,es,ep,e,c⟩:=x;exact⟨z,y,vs,r,ob,es,ep,k _ _ (.inl rfl) e,c⟩
 | dT kvs =>
  obtain⟨z,y,xs,r,ob,es,ep,e,c⟩:=x
  exact⟨z,y,xs,Paired.mapP r fun p q z=>⟨z.1,ht _ _ z.2.1,z.2.2⟩,ob,es,ep,k _ _ (.inl rfl) e,c⟩
 | set S n=>obtain⟨ob,es,ep,t,e,c⟩:=x;exact⟨ob,es,ep,t,k _ _ (.inl rfl) e,c⟩
 | ins C dx fs =>
  obtain⟨d,z,ne,e,mA,⟨od,es,ep,e2,c⟩,r⟩:=x
  exact⟨ho _ d,z,ne,k _ _ (.inl rfl) e,mA,⟨od,es,ep,k _ _ (.inr d) e2,c⟩,r⟩
 | own y=>obtain⟨ob,e⟩:=x;exact⟨ob,k _ _ (.inl rfl) e⟩
 | xd fs=>obtain⟨mA,⟨od,es,ep,e,c⟩,r⟩:=x;exact⟨mA,⟨od,es,ep,k _ _ (.inl rfl) e,c⟩,r⟩
 | rng lo hi=>obtain⟨t,u,v,e⟩:=x;exact⟨t,u,v,k _ _ (.inl rfl) e⟩
 | frz ob u ih=>obtain⟨e,q⟩:=x;exact⟨k _ _ (.inl rfl) e,ih q⟩
 | tbl ps =>
  have e:h.get? a=some {cls:=.none,data:=.fields ps}:=x
  show h'.get? a=some {cls:=.none,data:=.fields ps}
  exact k a _ (.inl rfl) e
 | met f y =>
  have e:h.get? a=some (PySem.W.methodObj (.ref f) (.ref y)):=x
  show h'.get? a=some (PySem.W.methodObj (.ref f) (.ref y))
  exact k a _ (.inl rfl) e
 | ext φ=>obtain⟨p,⟨o,e⟩,st⟩:=x;exact⟨st _ _ p fun o q=>k _ _ (.inl rfl) q,⟨o,k _ _ (.inl rfl) e⟩,st⟩
theorem HOk.lt(x:HOk P w H h)(e:H a=some o):a<h.objs.size:=(x a o e).lt
theorem HOk.fresh(x:HOk P w H h)(e:h.objs.size<=a):H a=none:=by
 cases q:H a with
 | none=>rfl
 | some u=>exact absurd (Nat.lt_of_lt_of_le (x.lt q) e) (Nat.lt_irrefl _)
theorem HOk.kept(x:HOk P w H h)(k:∀b u,h.get? b=some u->h'.get? b=some u):HOk P w H h':=fun a o e =>
 (x a o e).stay (fun b u _ q=>k b u q) (fun _ q=>q) fun _ _ q=>q
theorem HOk.laid(x:HOk P w H h)(k:∀b u,h.get? b=some u->h'.get? b=some u)(hp:h.objs.size<=a)(new:ObjOk P w (upd H a o) h' a o):HOk P w (upd H a o) h':=fun b u e=>by
 have hn:=x.fresh hp
 by_cases hb:b=a
 ·subst hb;rw[c_] at e;cases e;exact new
 ·rw[j_ hb] at e
  exact(x b u e).stay (fun c v _ q=>k c v q) (fun c q=>by rw[j_ (f_ q hn)];exact q) fun c xs q=>by rw[j_ (f_ q hn)];exact q
end
def Rd(H:Hp)(a:Addr)(u:HO):Prop:=H a=some u\/∃o,H a=some (.frz o u)
theorem Rd.ok{P:Program}{w:World}{H:Hp}{h:Heap}{a:Addr}{u:HO}(r:Rd H a u)(x:HOk P w H h):ObjOk P w H h a u:=by
 rcases r with r | ⟨o,r⟩
 ·exact x a u r
 ·obtain⟨_,q⟩:=x a _ r
  exact q
def Mut:Option HO->Prop
 | some (.lst _)=>True
 | some (.dK _)=>True
 | some (.dT _)=>True
 | some (.set _ _)=>True
 | some (.ins _ _ _)=>True
 | some (.ext _)=>True
 | _=>False
section
variable{P:Program}{w:World}{H:Hp}{h h':Heap}{x e:Addr}{o':HO}
theorem HOk.write(ok:HOk P w H h)(mu:Mut (H x))(he:e=x\/H e=some (.own x))(k:∀b u,b≠e->h.get? b=some u->h'.get? b=some u)(heo:∃u,h'.get? e=some u)
  (new:ObjOk P w (upd H x o') h' x o'):HOk P w (upd H x o') h':=fun b u q=>by
 have nown:∀c y,H c=some (.own y)->c≠x:=fun c y r z=>by subst z;rw[r] at mu;exact mu
 have ntup:∀c xs,H c=some (.tup xs)->c≠x:=fun c xs r z=>by subst z;rw[r] at mu;exact mu
 by_cases hb:b=x
 ·subst hb;rw[c_] at q;cases q;exact new
 ·rw[j_ hb] at q
  by_cases hbe:b=e
  ·have q':H b=some (.own x):=by
    rcases he with z | z
    ·exact absurd (hbe.trans z) hb
    ·rw[hbe];exact z
   rw[q] at q';cases q'
   obtain⟨v,hv⟩:=heo
   exact⟨v,by rw[hbe];exact hv⟩
  ·refine(ok b u q).stay (fun c v hc r=>k c v ?_ r) (fun c r=>by rw[j_ (nown c b r)];exact r) fun c xs r=>by rw[j_ (ntup c xs r)];exact r
   rcases hc with rfl | hc
   ·exact hbe
   ·rintro rfl
    rcases he with z | z
    ·exact nown c b hc z
    ·rw[hc] at z;cases z;exact hb rfl
end
structure Un(fs ex:List Addr)(H H':Hp)(h h':Heap):Prop where
 keep:∀b o,h.get? b=some o->H b=none->b∉fs->b∉ex->h'.get? b=some o
 slot:∀b o,h.get? b=some o->H b=none->b∈fs->b∉ex->∃sl,h'.get? b=some {o with slots:=sl}
 free:∀b o,h.get? b=some o->H b=none->b∉ex->H' b=none
 there:∀b o,h.get? b=some o->b∉ex->∃o',h'.get? b=some o'
 tups:∀b xs,H b=some (.tup xs)->H' b=some (.tup xs)
 frzs:∀b o u,H b=some (.frz o u)->H' b=some (.frz o u)
 tbls:∀b ps,H b=some (.tbl ps)->∃more,H' b=some (.tbl (ps++more))
section
variable{fs fs' ex ex':List Addr}{H H1 H2:Hp}{h h1 h2 h':Heap}{a x e:Addr}{o:HO}
theorem Un.any(u:Un fs ex H H1 h h1){b:Addr}{ob:Obj}(q:h.get? b=some ob)(n:H b=none)(hx:b∉ex):∃sl,h1.get? b=some {ob with slots:=sl}:=by
 by_cases hb:b∈fs
 ·exact u.slot b ob q n hb hx
 ·exact⟨ob.slots,u.keep b ob q n hb hx⟩
theorem Un.kept(k:∀b u,h.get? b=some u->h'.get? b=some u):Un fs ex H H h h' :=
 ⟨fun b ob q _ _ _=>k b ob q,fun b ob q _ _ _=>⟨ob.slots,k b ob q⟩,fun _ _ _ n _=>n,fun b ob q _=>⟨ob,k b ob q⟩,fun _ _ q=>q,fun _ _ _ q=>q,fun _ ps q=>⟨#[],by rw[q];simp⟩⟩
theorem Un.refl:Un fs ex H H h h:=Un.kept fun _ _ q=>q
theorem Un.laid(k:∀b u,h.get? b=some u->h'.get? b=some u)(hp:h.objs.size<=a)(hn:H a=none):Un fs ex H (upd H a o) h h' where
 keep:=fun b u q _ _ _=>k b u q
 slot:=fun b u q _ _ _=>⟨u.slots,k b u q⟩
 free:=fun b u q n _=>by rw[j_ (Nat.ne_of_lt (Nat.lt_of_lt_of_le (Heap.lt_size q) hp))];exact n
 there:=fun b u q _=>⟨u,k b u q⟩
 tups:=fun b xs q=>by rw[j_ (f_ q hn)];exact q
 frzs:=fun b u xs q=>by rw[j_ (f_ q hn)];exact q
 tbls:=fun b ps q=>⟨#[],by rw[j_ (f_ q hn),q];simp⟩
theorem Un.write(mu:Mut (H x))(he:e=x\/H e=some (.own x))(k:∀b u,b≠e->h.get? b=some u->h'.get? b=some u)(heo:∃u,h'.get? e=some u):Un fs ex H (upd H x o) h h':=by
 have hx:∀b,H b=none->b≠x:=fun b n z=>by subst z;rw[n] at mu;exact mu
 have hb:∀b,H b=none->b≠e:=fun b n z=>by
  subst z
  rcases he with r | r
  ·exact hx b n r
  ·rw[n] at r;cases r
 have hm:∀b u,H b=some u->¬ Mut (some u)->b≠x:=fun b u q nm z=>by subst z;rw[q] at mu;exact nm mu
 refine⟨fun b u q n _ _=>k b u (hb b n) q,fun b u q n _ _=>⟨u.slots,k b u (hb b n) q⟩,fun b u q n _=>by rw[j_ (hx b n)];exact n,fun b u q _=>?_,
  fun b xs q=>by rw[j_ (hm b _ q fun z=>z)];exact q,fun b u xs q=>by rw[j_ (hm b _ q fun z=>z)];exact q,fun b ps q=>⟨#[],by rw[j_ (hm b _ q fun z=>z),q];simp⟩⟩
 by_cases hbe:b=e
 ·subst hbe;exact heo
 ·exact⟨u,k b u hbe q⟩
end
def trk(h:Heap)(H:Hp):List Addr:=(List.range h.objs.size).filter fun a=>(H a).isSome
def hidT(h:Heap)(H:Hp):Heap:=PySem.W.hideAll h (trk h H)
theorem ma_(h:Heap)(H:Hp):(hidT h H).objs.size=h.objs.size:=PySem.W.hideAll_size _ _
theorem nD_{h:Heap}{H:Hp}{b:Addr}{o:Obj}(e:h.get? b=some o)(n:H b=none):(hidT h H).get? b=some o :=
 PySem.W.hideAll_get _ e fun hm=>by
  have q:(H b).isSome=true:=(List.mem_filter.mp hm).2
  rw[n] at q;simp at q
theorem pb_{h:Heap}{H:Hp}{b:Addr}{o:Obj}(e:(hidT h H).get? b=some o):h.get? b=some o/\H b=none:=by
 have e':h.get? b=some o:=PySem.W.of_hideAll (trk h H) e
 refine⟨e',?_⟩
 cases q:H b with
 | none=>rfl
 | some x =>
  have hm:b∈trk h H:=List.mem_filter.mpr ⟨List.mem_range.mpr (Heap.lt_size e'),by simp[q]⟩
  have z:(hidT h H).get? b=none:=PySem.W.hideAll_none (trk h H) hm
  rw[z] at e;cases e
def pr_(g h:Heap)(L:Addr):List (Addr×Obj):=(List.range h.objs.size).filterMap fun a=>if a=L\/(g.get? a).isSome=true then none else (h.get? a).map fun o=>(a,o)
def rest(g h:Heap)(L d:Addr):List (Addr×Obj):=(pr_ g h L).filter fun p=>decide (p.1≠d)
structure Mod(K:PySem.W.Frag)(mg:Str->Option Value)(base:Heap):Prop where
 kin:K.In base
 glob:base.Ns mainGlobals mg
 blt:∃mb,base.Ns builtinsNs mb/\∀x:Str,x≠"__name__"->mb x=bootBuiltins x
 nolimit:base.NoLimit
structure Cx where
 prog:Program
 w:World
 K:PySem.W.Frag
 mg:Str->Option Value
 base:Heap
 A:Around
 N:List Str
 s₀:Shared
 H₀:Hp
 env:Env
 outer:List Env
 stack:List Env
 ex:List Addr
 fn:Str->Bool
 calm:Bool
 pn:List (Addr×Obj)
 xe:Value->Shared->Prop
def frs(l:List Env):List Addr:=l.filterMap (·.frame)
abbrev Cx.fs(X:Cx):List Addr:=frs X.outer
def Vis(sc:Scope)(x:Str):Prop:=sc.names.lookup x=some .local\/sc.names.lookup x=some .cell\/sc.names.lookup x=some .free
def Loc(sc:Scope)(x:Str):Prop:=sc.names.lookup x=some .local\/sc.names.lookup x=some .cell
def Look(env:Env)(h:Heap)(m:Str->Option Value)(x:Str)(u:Value):Prop :=
 (env.kindOf x=some .local/\m x=some u)\/((env.kindOf x=some .cell\/env.kindOf x=some .free)/\∃c,env.cells.lookup x=some c/\h.IsCell c (some u))
structure Cx.Ok(X:Cx):Prop where
 mod:Mod X.K X.mg X.base
 kind:X.env.scope.kind=.function
 glob:X.env.globals=mainGlobals
 blt:X.env.builtins=builtinsNs
 above:X.s₀.heap.objs.size<=X.env.locals
 inj:∀x y c,X.env.cells.lookup x=some c->X.env.cells.lookup y=some c->x=y
 has:∀x,(X.env.kindOf x=some .cell\/X.env.kindOf x=some .free)->∃c,X.env.cells.lookup x=some c
 cab:∀x c,X.fn x=true->X.env.cells.lookup x=some c->X.s₀.heap.objs.size<=c
 hd:X.calm=true->X.A.handled=none
 frames:X.A.frames=some X.stack
 stk:X.stack=X.outer\/(X.stack=X.env::X.outer/\X.env.frame=some X.env.locals)
 exf:∀b∈X.ex,b≠X.env.locals/\∀x c,X.env.cells.lookup x=some c->c≠b
 bs:∀b o,X.base.get? b=some o->X.s₀.heap.get? b=some o/\X.H₀ b=none
 bsz:X.base.objs.size<=X.s₀.heap.objs.size
 noex:∀b o,X.base.get? b=some o->b∉X.ex
 exfs:∀b∈X.ex,b∉X.fs
 funs:X.s₀.heap.FunFrames X.base X.outer
 frf:∀b∈X.fs,X.H₀ b=none
structure Inv(X:Cx)(pins:List (Addr×Obj))(σ:List (Option V))(H:Hp)(s:Shared):Prop where
 ok:X.Ok
 os:s.os=X.s₀.os
 bare:AllBare s.gens
 base:Un X.fs X.ex X.H₀ H X.s₀.heap s.heap
 loc:∃m,s.heap.Ns X.env.locals m/\∀(i:Nat) (x:Str) (v:V),X.N[i]?=some x->σ[i]?=some (some v)->Vis X.env.scope x->∃u,RelV v u/\Look X.env s.heap m x u
 cell:∀x c,X.env.cells.lookup x=some c->∃v,s.heap.IsCell c v
 free:H X.env.locals=none
 freeC:∀x c,X.env.cells.lookup x=some c->H c=none
 pin:∀p∈X.pn++pins,s.heap.get? p.1=some p.2/\H p.1=none/\p.1≠X.env.locals/\p.1∉X.fs/\∀v,p.2.data≠.cell v
 hok:HOk X.prog X.w H s.heap
 len:σ.length=X.N.length
section
variable{X:Cx}{pins:List (Addr×Obj)}{σ:List (Option V)}{H H':Hp}{s:Shared}{h':Heap}
theorem Cx.Ok.nofr(ok:X.Ok){b:Addr}{o:Obj}(e:X.base.get? b=some o):b∉X.fs:=fun hb=>by
 have:=(ok.funs.mem hb).1
 rw[e] at this;cases this
theorem Inv.bs(I:Inv X pins σ H s):∀b o,X.base.get? b=some o->s.heap.get? b=some o/\H b=none:=fun b o e =>
 ⟨I.base.keep b o (I.ok.bs b o e).1 (I.ok.bs b o e).2 (I.ok.nofr e) (I.ok.noex b o e),I.base.free b o (I.ok.bs b o e).1 (I.ok.bs b o e).2 (I.ok.noex b o e)⟩
theorem Inv.bk(I:Inv X pins σ H s):∀b o,X.base.get? b=some o->s.heap.get? b=some o:=fun b o e=>(I.bs b o e).1
theorem Inv.mod(I:Inv X pins σ H s):Mod X.K X.mg X.base:=I.ok.mod
theorem Inv.kIn(I:Inv X pins σ H s):X.K.In s.heap:=I.ok.mod.kin.keeps I.bk
theorem Inv.fr(I:Inv X pins σ H s):∃m,Fr X.base X.env.locals s.heap m :=
 let ⟨m,hn,_⟩:=I.loc
 ⟨m,hn,I.bk,Nat.le_trans I.ok.bsz I.ok.above⟩
theorem Inv.lt(I:Inv X pins σ H s):X.env.locals<s.heap.objs.size:=let ⟨_,hn,_⟩:=I.loc;hn.lt
theorem Inv.sz(I:Inv X pins σ H s):X.s₀.heap.objs.size<=s.heap.objs.size:=Nat.le_trans I.ok.above (Nat.le_of_lt I.lt)
theorem Inv.nofs(I:Inv X pins σ H s){a:Addr}(h:s.heap.objs.size<=a):a∉X.fs:=fun hb=>by
 obtain⟨_,o,ho,_⟩:=I.ok.funs.mem hb
 exact absurd (Nat.lt_of_lt_of_le (Heap.lt_size ho) (Nat.le_trans I.sz h)) (Nat.lt_irrefl _)
theorem Inv.cne(I:Inv X pins σ H s):∀x c,X.env.cells.lookup x=some c->c≠X.env.locals:=fun x c e z=>by
 obtain⟨v,o,ho,hd⟩:=I.cell x c e
 obtain⟨m,⟨o',es,ep,ho',hd',_⟩,_⟩:=I.loc
 rw[z,ho'] at ho;cases ho;rw[hd'] at hd;cases hd
theorem Inv.funs(I:Inv X pins σ H s):s.heap.FunFrames X.base X.outer:=by
 have all:∀(l:List Env),(∀b∈frs l,b∈X.fs)->X.s₀.heap.FunFrames X.base l->s.heap.FunFrames X.base l:=by
  intro l
  induction l with
  | nil=>intro _ _;trivial
  | cons env r ih =>
   intro hs hl
   obtain⟨hk,⟨L,o,hf,hn,ho,hd⟩,hr⟩:=hl
   have hL:L∈X.fs:=hs L (by unfold frs;rw[List.filterMap_cons,hf];exact List.mem_cons_self)
   obtain⟨sl,e⟩:=I.base.slot L o ho (I.ok.frf L hL) hL fun z=>I.ok.exfs L z hL
   exact⟨hk,⟨L,_,hf,hn,e,hd⟩,ih (fun b hb=>hs b (by unfold frs;rw[List.filterMap_cons,hf];exact List.mem_cons_of_mem _ hb)) hr⟩
 exact all X.outer (fun _ hb=>hb) I.ok.funs
theorem Inv.stack(I:Inv X pins σ H s):s.heap.FunFrames X.base X.stack:=by
 rcases I.ok.stk with e | ⟨e,hf⟩
 ·rw[e];exact I.funs
 ·rw[e]
  obtain⟨m,hn,_⟩:=I.loc
  refine .cons (by rw[I.ok.kind];decide) hf hn ?_ I.funs
  exact Heap.get?_none_of_le (Nat.le_trans I.ok.bsz I.ok.above)
theorem Inv.stkSub(I:Inv X pins σ H s):∀b∈frs X.stack,b∈X.env.locals::X.fs:=fun b hb=>by
 rcases I.ok.stk with e | ⟨e,hf⟩
 ·rw[e] at hb;exact List.mem_cons_of_mem _ hb
 ·rw[e] at hb
  unfold frs at hb
  rw[List.filterMap_cons,hf] at hb
  exact hb
theorem Inv.stkFree(I:Inv X pins σ H s):∀b∈frs X.stack,H b=none:=fun b hb=>by
 rcases List.mem_cons.mp (I.stkSub b hb) with e | hb
 ·rw[e];exact I.free
 ·obtain⟨_,o,ho,_⟩:=I.ok.funs.mem hb
  exact I.base.free b o ho (I.ok.frf b hb) fun z=>I.ok.exfs b z hb
theorem Inv.step{g':Array GenState}{t':Nat}{d':Drawn}{ch:List Addr}(I:Inv X pins σ H s)
  (hch:∀b∈ch,(b∈X.ex\/X.s₀.heap.objs.size<=b)/\b≠X.env.locals/\(∀x c,X.env.cells.lookup x=some c->c≠b)/\∀p∈X.pn++pins,p.1≠b)
  (keep:∀b o,b≠X.env.locals->b∉X.fs->b∉ch->s.heap.get? b=some o->H b=none->h'.get? b=some o)
  (slot:∀b o,b≠X.env.locals->b∈X.fs->b∉ch->s.heap.get? b=some o->H b=none->∃sl,h'.get? b=some {o with slots:=sl}) (free:∀b o,b∉ch->s.heap.get? b=some o->H b=none->H' b=none)
  (there:∀b o,b∉ch->s.heap.get? b=some o->∃o',h'.get? b=some o')
  (tups:∀b xs,H b=some (.tup xs)->H' b=some (.tup xs)) (frzs:∀b o u,H b=some (.frz o u)->H' b=some (.frz o u)) (tbls:∀b ps,H b=some (.tbl ps)->∃more,H' b=some (.tbl (ps++more)))
  (ns:∀m,s.heap.Ns X.env.locals m->h'.Ns X.env.locals m) (hok:HOk X.prog X.w H' h') (hg:AllBare g') :
  Inv X pins σ H' {s with heap:=h',gens:=g',drawn:=d',toks:=t'}:=by
 have neL:∀b o,X.s₀.heap.get? b=some o->b≠X.env.locals:=fun b o e=>Nat.ne_of_lt (Nat.lt_of_lt_of_le (Heap.lt_size e) I.ok.above)
 have neC:∀b o,X.s₀.heap.get? b=some o->b∉X.ex->b∉ch:=fun b o e hx hb=>by
  rcases(hch b hb).1 with z | z
  ·exact hx z
  ·exact absurd (Nat.lt_of_lt_of_le (Heap.lt_size e) z) (Nat.lt_irrefl _)
 have cellK:∀x c,X.env.cells.lookup x=some c->∀v,s.heap.IsCell c v->h'.IsCell c v:=fun x c e v ⟨o,ho,hd⟩=>by
  have nch:c∉ch:=fun z=>(hch c z).2.2.1 x c e rfl
  by_cases hc:c∈X.fs
  ·obtain⟨sl,q⟩:=slot c o (I.cne x c e) hc nch ho (I.freeC x c e)
   exact⟨_,q,hd⟩
  ·exact⟨o,keep c o (I.cne x c e) hc nch ho (I.freeC x c e),hd⟩
 refine⟨I.ok,I.os,hg,⟨fun b o e n hb hx=>?_,fun b o e n hb hx=>?_,fun b o e n hx=>?_,fun b o e hx=>?_,fun b xs e=>tups b xs (I.base.tups b xs e),fun b o xs e=>frzs b o xs (I.base.frzs b o xs e),fun b ps e=>?_⟩,?_,fun x c e=>?_,?_,fun x c e=>?_,fun p hp=>?_,hok,I.len⟩
 ·exact keep b o (neL b o e) hb (neC b o e hx) (I.base.keep b o e n hb hx) (I.base.free b o e n hx)
 ·obtain⟨sl,e1⟩:=I.base.slot b o e n hb hx
  obtain⟨sl',e2⟩:=slot b _ (neL b o e) hb (neC b o e hx) e1 (I.base.free b o e n hx)
  exact⟨sl',e2⟩
 ·obtain⟨o',e1⟩:=I.base.there b o e hx
  exact free b o' (neC b o e hx) e1 (I.base.free b o e n hx)
 ·obtain⟨o',e1⟩:=I.base.there b o e hx
  exact there b o' (neC b o e hx) e1
 ·obtain⟨m1,e1⟩:=I.base.tbls b ps e
  obtain⟨m2,e2⟩:=tbls b _ e1
  exact⟨m1++m2,by rw[e2,Array.append_assoc]⟩
 ·obtain⟨m,hn,hl⟩:=I.loc
  refine⟨m,ns m hn,fun i x v e1 e2 e3=>?_⟩
  obtain⟨u,r,l⟩:=hl i x v e1 e2 e3
  refine⟨u,r,?_⟩
  rcases l with l | ⟨k,c,e,z⟩
  ·exact .inl l
  ·exact .inr ⟨k,c,e,cellK x c e _ z⟩
 ·obtain⟨v,z⟩:=I.cell x c e
  exact⟨v,cellK x c e v z⟩
 ·obtain⟨m,⟨o,_,_,ho,_⟩,_⟩:=I.loc
  exact free _ o (fun z=>(hch _ z).2.1 rfl) ho I.free
 ·obtain⟨v,o,ho,hd⟩:=I.cell x c e
  exact free c o (fun z=>(hch c z).2.2.1 x c e rfl) ho (I.freeC x c e)
 ·obtain⟨e,n,ne,nf,d⟩:=I.pin p hp
  have nch:p.1∉ch:=fun z=>(hch p.1 z).2.2.2 p hp rfl
  exact⟨keep p.1 p.2 ne nf nch e n,free p.1 p.2 nch e n,ne,nf,d⟩
theorem Inv.un{t':Nat}(I:Inv X pins σ H s)(u:Un X.fs [] H H' s.heap h')(hok:HOk X.prog X.w H' h'):Inv X pins σ H' {s with heap:=h',toks:=t'}:=by
 obtain⟨m,⟨o,es,ep,ho,r⟩,_⟩:=id I.loc
 obtain⟨sl,hL⟩:=u.any ho I.free (by simp)
 exact I.step (g':=s.gens) (d':=s.drawn) (ch:=[]) (fun _ z=>nomatch z) (fun b o _ hb _ e n=>u.keep b o e n hb (by simp)) (fun b o _ hb _ e n=>u.slot b o e n hb (by simp)) (fun b o _ e n=>u.free b o e n (by simp)) (fun b o _ e=>u.there b o e (by simp)) u.tups u.frzs u.tbls (fun m' hm=>by
  obtain⟨o',es',ep',ho',r'⟩:=hm
  rw[ho] at ho';cases ho'
  exact⟨_,es',ep',hL,r'⟩) hok I.bare
theorem Inv.call{g':Array GenState}{t':Nat}{d':Drawn}{ch:List Addr}(I:Inv X pins σ H s)(u:Un (frs X.stack) ch H H' s.heap h')(hok:HOk X.prog X.w H' h')(hg:AllBare g')
  (hch:∀b∈ch,(b∈X.ex\/X.s₀.heap.objs.size<=b)/\b≠X.env.locals/\(∀x c,X.env.cells.lookup x=some c->c≠b)/\∀p∈X.pn++pins,p.1≠b) :
  Inv X pins σ H' {s with heap:=h',gens:=g',drawn:=d',toks:=t'}:=by
 obtain⟨m,⟨o,es,ep,ho,r⟩,_⟩:=id I.loc
 obtain⟨sl,hL⟩:=u.any ho I.free fun z=>(hch _ z).2.1 rfl
 exact I.step (ch:=ch) hch (fun b o hL hb hc e n=>u.keep b o e n (fun z=>(List.mem_cons.mp (I.stkSub b z)).elim hL hb) hc) (fun b o _ _ hc e n=>u.any e n hc) (fun b o hc e n=>u.free b o e n hc) (fun b o hc e=>u.there b o e hc) u.tups u.frzs u.tbls (fun m' hm=>by
  obtain⟨o',es',ep',ho',r'⟩:=hm
  rw[ho] at ho';cases ho'
  exact⟨_,es',ep',hL,r'⟩) hok hg
theorem Inv.turned{t':Nat}{it:Addr}(I:Inv X pins σ H s)(k:∀b o,b≠it->s.heap.get? b=some o->h'.get? b=some o)(hn:H it=none)(hL:it≠X.env.locals)
  (h1:it∈X.ex\/X.s₀.heap.objs.size<=it) (h2:∀x c,X.env.cells.lookup x=some c->c≠it) (h3:∀p∈X.pn++pins,p.1≠it):Inv X pins σ H {s with heap:=h',toks:=t'}:=by
 have nit:∀b u,H b=some u->b≠it:=fun b u e z=>by rw[z,hn] at e;cases e
 refine I.step (g':=s.gens) (d':=s.drawn) (ch:=[it]) (fun b hb=>?_) (fun b o _ _ hc e _=>k b o (fun z=>hc (by simp[z])) e) (fun b o _ _ hc e _=>⟨o.slots,k b o (fun z=>hc (by simp[z])) e⟩) (fun _ _ _ _ n=>n)
  (fun b o hc e=>⟨o,k b o (fun z=>hc (by simp[z])) e⟩) (fun _ _ e=>e) (fun _ _ _ e=>e) (fun b ps e=>⟨#[],by rw[e];simp⟩) (fun m hm=>?_) (fun b u e=>?_) I.bare
 ·have e:b=it:=by simpa using hb
  subst e
  exact⟨h1,hL,h2,h3⟩
 ·obtain⟨o,es,ep,ho,r⟩:=hm
  exact⟨o,es,ep,k _ o (Ne.symm hL) ho,r⟩
 ·refine(I.hok b u e).stay (fun c v hc q=>k c v ?_ q) (fun _ q=>q) fun _ _ q=>q
  rcases hc with z | z
  ·rw[z];exact nit b u e
  ·exact nit c _ z
theorem Inv.tok(I:Inv X pins σ H s)(t:Nat):Inv X pins σ H {s with toks:=t}:=I.un (h':=s.heap) (t':=t) Un.refl I.hok
theorem Inv.kept{t':Nat}(I:Inv X pins σ H s)(k:∀b u,s.heap.get? b=some u->h'.get? b=some u):Inv X pins σ H {s with heap:=h',toks:=t'}:=I.un (Un.kept k) (I.hok.kept k)
theorem Inv.laid{a:Addr}{o:HO}{t':Nat}(I:Inv X pins σ H s)(k:∀b u,s.heap.get? b=some u->h'.get? b=some u)(hp:s.heap.objs.size<=a)(new:ObjOk X.prog X.w (upd H a o) h' a o) :
  Inv X pins σ (upd H a o) {s with heap:=h',toks:=t'}:=I.un (Un.laid k hp (I.hok.fresh hp)) (I.hok.laid k hp new)
theorem Inv.write{x e:Addr}{o:HO}{t':Nat}(I:Inv X pins σ H s)(mu:Mut (H x))(he:e=x\/H e=some (.own x))(k:∀b u,b≠e->s.heap.get? b=some u->h'.get? b=some u)(heo:∃u,h'.get? e=some u)
  (new:ObjOk X.prog X.w (upd H x o) h' x o):Inv X pins σ (upd H x o) {s with heap:=h',toks:=t'}:=I.un (Un.write mu he k heo) (I.hok.write mu he k heo new)
theorem Inv.weak{σ':List (Option V)}(I:Inv X pins σ H s)(hl:σ'.length=σ.length)(w:∀(i:Nat) v,σ'[i]?=some (some v)->σ[i]?=some (some v)):Inv X pins σ' H s :=
 ⟨I.ok,I.os,I.bare,I.base,let ⟨m,hn,hl'⟩:=I.loc;⟨m,hn,fun i x v e1 e2 e3=>hl' i x v e1 (w i v e2) e3⟩,I.cell,I.free,I.freeC,I.pin,I.hok,hl.trans I.len⟩
theorem Inv.pins_of{pins':List (Addr×Obj)}(I:Inv X pins σ H s)(h:∀p∈pins',s.heap.get? p.1=some p.2/\H p.1=none/\p.1≠X.env.locals/\p.1∉X.fs/\∀v,p.2.data≠.cell v):Inv X pins' σ H s :=
 ⟨I.ok,I.os,I.bare,I.base,I.loc,I.cell,I.free,I.freeC,fun p hp=>(List.mem_append.mp hp).elim (fun z=>I.pin p (List.mem_append_left _ z)) (h p),I.hok,I.len⟩
theorem jf_{N:List Str}(hN:N.Nodup){i j:Nat}{x:Str}(a:N[i]?=some x)(b:N[j]?=some x):i=j:=by
 obtain⟨h1,e1⟩:=List.getElem?_eq_some_iff.mp a
 obtain⟨h2,e2⟩:=List.getElem?_eq_some_iff.mp b
 exact(List.getElem_inj hN).mp (e1.trans e2.symm)
theorem fW_{M:Model}{A:Around}{E:Value->Shared->Prop}{i:Nat}{x:Str}{v:V}{u:Value}{Q:Unit->Shared->Prop}(I:Inv X pins σ H s)(hN:X.N.Nodup)(hi:X.N[i]?=some x)(hx:Loc X.env.scope x)(r:RelV v u)
  (h:∀s',Inv X pins (σ.set i (some v)) H s'->(∃a,Heap.SameBut a s.heap s'.heap/\(a=X.env.locals\/X.env.cells.lookup x=some a))->Q () s') (hf:X.fn x=true\/X.env.scope.names.lookup x=some .local:=by first | exact .inl rfl | exact .inr rfl | assumption):wpAny M A (storeName X.env x u) Q E s:=by
 obtain⟨m,hn,hl⟩:=id I.loc
 have hcls:(X.env.scope.kind==.class || (X.env.scope.kind==.module&&X.env.locals != X.env.globals))=false:=by rw[I.ok.kind];rfl
 have hiσ:i<σ.length:=by rw[I.len];exact(List.getElem?_eq_some_iff.mp hi).1
 have cne:=I.cne
 have tracked:∀ {a:Addr} {h':Heap},(∃o,s.heap.get? a=some o/\H a=none)->Heap.SameBut a s.heap h'->HOk X.prog X.w H h':=fun {a h'} ha hs b ob e=>by
  obtain⟨_,_,hfree⟩:=ha
  refine(I.hok b ob e).stay (fun c w' hc q=>(hs.2 c ?_).trans q) (fun _ q=>q) fun _ _ q=>q
  rintro rfl
  rcases hc with rfl | hc
  ·rw[hfree] at e;cases e
  ·rw[hfree] at hc;cases hc
 rcases hx with hk | hk
 ·refine wpAny_storeName_local hk hn (fun h' hn' hs=>?_) hcls
  obtain⟨oL,_,_,hoL,_⟩:=id hn
  refine h _ ⟨I.ok,I.os,I.bare,⟨fun b o e n hb hx=>?_,fun b o e n hb hx=>?_,I.base.free,fun b o e hx=>?_,I.base.tups,I.base.frzs,I.base.tbls⟩,⟨_,hn',fun j y v' e1 e2 e3=>?_⟩,fun y c e=>?_,I.free,I.freeC,fun p hp=>?_,tracked ⟨oL,hoL,I.free⟩ hs,by simpa using I.len⟩ ⟨_,hs,.inl rfl⟩
  ·exact(hs.2 b (Nat.ne_of_lt (Nat.lt_of_lt_of_le (Heap.lt_size e) I.ok.above))).trans (I.base.keep b o e n hb hx)
  ·obtain⟨sl,e1⟩:=I.base.slot b o e n hb hx
   exact⟨sl,(hs.2 b (Nat.ne_of_lt (Nat.lt_of_lt_of_le (Heap.lt_size e) I.ok.above))).trans e1⟩
  ·obtain⟨o',e1⟩:=I.base.there b o e hx
   exact⟨o',(hs.2 b (Nat.ne_of_lt (Nat.lt_of_lt_of_le (Heap.lt_size e) I.ok.above))).trans e1⟩
  ·by_cases hj:j=i
   ·subst hj
    rw[hi] at e1;cases e1
    rw[List.getElem?_set_self hiσ] at e2
    cases e2
    exact⟨u,r,.inl ⟨hk,by simp⟩⟩
   ·rw[List.getElem?_set_ne (Ne.symm hj)] at e2
    obtain⟨u',r',q⟩:=hl j y v' e1 e2 e3
    refine⟨u',r',?_⟩
    rcases q with⟨k,e⟩ | ⟨k,c,e,z⟩
    ·refine .inl ⟨k,?_⟩
     have:y≠x:=fun e=>hj (jf_ hN e1 (e▸hi))
     simp[this,e]
    ·exact .inr ⟨k,c,e,z.sameBut hs (cne y c e)⟩
  ·obtain⟨w',z⟩:=I.cell y c e
   exact⟨w',z.sameBut hs (cne y c e)⟩
  ·obtain⟨e,n,ne,nf,d⟩:=I.pin p hp
   exact⟨(hs.2 p.1 ne).trans e,n,ne,nf,d⟩
 ·have hfn:X.fn x=true:=by
   rcases hf with z | z
   ·exact z
   ·rw[z] at hk;cases hk
  obtain⟨c,hc⟩:=I.ok.has x (.inl hk)
  obtain⟨w',z⟩:=I.cell x c hc
  refine wpAny_storeName_cell I.ok.kind hk hc z (fun h' hc' hs=>?_)
  obtain⟨oc,hoc,hocd⟩:=id z
  refine h {s with heap:=h'} ⟨I.ok,I.os,I.bare,⟨fun b o e n hb hx=>?_,fun b o e n hb hx=>?_,I.base.free,fun b o e hx=>?_,I.base.tups,I.base.frzs,I.base.tbls⟩,⟨m,hn.sameBut hs (Ne.symm (cne x c hc)),fun j y v' e1 e2 e3=>?_⟩,fun y c' e=>?_,I.free,I.freeC,fun p hp=>?_,tracked ⟨oc,hoc,I.freeC x c hc⟩ hs,by simpa using I.len⟩ ⟨c,hs,.inr hc⟩
  ·exact(hs.2 b (Nat.ne_of_lt (Nat.lt_of_lt_of_le (Heap.lt_size e) (I.ok.cab x c hfn hc)))).trans (I.base.keep b o e n hb hx)
  ·obtain⟨sl,e1⟩:=I.base.slot b o e n hb hx
   exact⟨sl,(hs.2 b (Nat.ne_of_lt (Nat.lt_of_lt_of_le (Heap.lt_size e) (I.ok.cab x c hfn hc)))).trans e1⟩
  ·obtain⟨o',e1⟩:=I.base.there b o e hx
   exact⟨o',(hs.2 b (Nat.ne_of_lt (Nat.lt_of_lt_of_le (Heap.lt_size e) (I.ok.cab x c hfn hc)))).trans e1⟩
  ·by_cases hj:j=i
   ·subst hj
    rw[hi] at e1;cases e1
    rw[List.getElem?_set_self hiσ] at e2
    cases e2
    exact⟨u,r,.inr ⟨.inl hk,c,hc,hc'⟩⟩
   ·rw[List.getElem?_set_ne (Ne.symm hj)] at e2
    obtain⟨u',r',q⟩:=hl j y v' e1 e2 e3
    refine⟨u',r',?_⟩
    rcases q with q | ⟨k,c',e,z'⟩
    ·exact .inl q
    ·refine .inr ⟨k,c',e,z'.sameBut hs ?_⟩
     rintro rfl
     exact hj (jf_ hN e1 (I.ok.inj _ _ _ e hc▸hi))
  ·by_cases hcc:c'=c
   ·subst hcc;exact⟨_,hc'⟩
   ·obtain⟨w2,z2⟩:=I.cell y c' e
    exact⟨w2,z2.sameBut hs hcc⟩
  ·obtain⟨e,n,ne,nf,d⟩:=I.pin p hp
   refine⟨(hs.2 p.1 ?_).trans e,n,ne,nf,d⟩
   intro q
   rw[q,hoc] at e
   have q':oc=p.2:=Option.some.inj e
   exact d w' (by rw[<-q'];exact hocd)
theorem eR_{M:Model}{A:Around}{E:Value->Shared->Prop}{i:Nat}{x:Str}{v:V}{u:Value}{Q:Unit->Shared->Prop}(I:Inv X pins σ H s)(hN:X.N.Nodup)(hi:X.N[i]?=some x)(hx:Loc X.env.scope x)(r:RelV v u)
  (h:∀s',Inv X pins (σ.set i (some v)) H s'->Q () s') (hf:X.fn x=true\/X.env.scope.names.lookup x=some .local:=by first | exact .inl rfl | exact .inr rfl | assumption):wpAny M A (storeName X.env x u) Q E s :=
 fW_ I hN hi hx r (fun s' I' _=>h s' I') hf
end
abbrev XK:=Value->Option Addr->Hp->Prop
abbrev St:=List (Option V)
abbrev VK:=V->Hp->Prop
abbrev TE:=St->Hp->VK->Prop
abbrev TT:=St->Hp->(Bool->Hp->Prop)->Prop
abbrev TA:=St->Hp->(List V->Hp->Prop)->Prop
structure Ends where
 nx:St->Hp->Prop
 rt:VK
 bk:St->Hp->Prop:=fun _ _=>False
 ct:St->Hp->Prop:=fun _ _=>False
abbrev TS:=Ends->St->Hp->Prop
def EP(X:Cx)(pins:List (Addr×Obj))(σ:St)(Q:VK)(u:Value)(s':Shared):Prop:=∃v H',Inv X pins σ H' s'/\RelV v u/\Q v H'
def TP(X:Cx)(pins:List (Addr×Obj))(σ:St)(Q:Bool->Hp->Prop)(b:Bool)(s':Shared):Prop:=∃H',Inv X pins σ H' s'/\Q b H'
def AP(X:Cx)(pins:List (Addr×Obj))(σ:St)(Q:List V->Hp->Prop)(us:List Value)(s':Shared):Prop:=∃vs H',Inv X pins σ H' s'/\Vals vs us/\Q vs H'
def SP(X:Cx)(pins:List (Addr×Obj))(D:Ends)(f:Flow)(s':Shared):Prop :=
 match f with
 | .next=>∃ σ' H',Inv X pins σ' H' s'/\D.nx σ' H'
 | .brk=>∃ σ' H',Inv X pins σ' H' s'/\D.bk σ' H'
 | .cont=>∃ σ' H',Inv X pins σ' H' s'/\D.ct σ' H'
 | .ret u=>∃v σ' H',Inv X pins σ' H' s'/\RelV v u/\D.rt v H'
def PE(X:Cx)(e:Expr)(t:TE):Prop :=
 ∀(pins:List (Addr×Obj)) (s:Shared) (σ:St) (H:Hp) (Q:VK),Inv X pins σ H s->t σ H Q->wpAny (model X.prog X.w) X.A (eval e X.env) (EP X pins σ Q) X.xe s
def PT(X:Cx)(e:Expr)(t:TT):Prop :=
 ∀(pins:List (Addr×Obj)) (s:Shared) (σ:St) (H:Hp) (Q:Bool->Hp->Prop),Inv X pins σ H s->t σ H Q->wpAny (model X.prog X.w) X.A (isTrue e X.env (eval e X.env)) (TP X pins σ Q) X.xe s
def PW(X:Cx)(e:Expr)(t:TT):Prop :=
 ∀(whole:Sem Value) (pins:List (Addr×Obj)) (s:Shared) (σ:St) (H:Hp) (Q:Bool->Hp->Prop),Inv X pins σ H s->t σ H Q->wpAny (model X.prog X.w) X.A (isTrue e X.env whole) (TP X pins σ Q) X.xe s
theorem PW.pt{X:Cx}{e:Expr}{t:TT}(h:PW X e t):PT X e t:=h _
def PA(X:Cx)(es:List Expr)(t:TA):Prop :=
 ∀(pos:Pos) (pins:List (Addr×Obj)) (s:Shared) (σ:St) (H:Hp) (Q:List V->Hp->Prop),Inv X pins σ H s->t σ H Q->wpAny (model X.prog X.w) X.A (spliced (backTo pos (starEach es X.env))) (AP X pins σ Q) X.xe s
def PS(X:Cx)(st:Stmt)(t:TS):Prop :=
 ∀(pins:List (Addr×Obj)) (s:Shared) (σ:St) (H:Hp) (D:Ends),Inv X pins σ H s->t D σ H->wpAny (model X.prog X.w) X.A (exec st X.env) (SP X pins D) X.xe s
def PSs(X:Cx)(st:List Stmt)(t:TS):Prop :=
 ∀(pins:List (Addr×Obj)) (s:Shared) (σ:St) (H:Hp) (D:Ends),Inv X pins σ H s->t D σ H->wpAny (model X.prog X.w) X.A (execs st X.env) (SP X pins D) X.xe s
theorem thn{α:Type}{t:Sem α}{Q Q':α->Shared->Prop}{M:Model}{A:Around}{E:Value->Shared->Prop}{s:Shared}(h:wpAny M A t Q E s)(hQ:∀a s,Q a s->Q' a s):wpAny M A t Q' E s:=wpAny_mono h hQ fun _ _ x=>x
section
variable{X:Cx}
theorem bin{a b:Expr}{ta tb:TE}(ha:PE X a ta)(hb:PE X b tb){pins:List (Addr×Obj)}{s:Shared}{σ:St}{H:Hp}{R:V->V->Hp->Prop}(I:Inv X pins σ H s)(h:ta σ H fun x H1=>tb σ H1 fun y H2=>R x y H2)
  {α:Type} {Q:α->Shared->Prop} {f:Value->Value->Sem α}
  (hf:∀v u s2 x y H2,Inv X pins σ H2 s2->RelV x v->RelV y u->R x y H2->wpAny (model X.prog X.w) X.A (f v u) Q X.xe s2) :
  wpAny (model X.prog X.w) X.A (eval a X.env) (fun v s₁=>wpAny (model X.prog X.w) X.A (eval b X.env) (fun u s₂=>wpAny (model X.prog X.w) X.A (f v u) Q X.xe s₂) X.xe s₁) X.xe s:=by
 refine thn (ha pins s σ H _ I h) fun v s1 ⟨x,H1,I1,r1,q1⟩=>?_
 refine thn (hb pins s1 σ H1 _ I1 q1) fun u s2 ⟨y,H2,I2,r2,q2⟩=>?_
 exact hf v u s2 x y H2 I2 r1 r2 q2
def tVar(i:Nat):TE:=fun σ H Q=>∃v,σ[i]?=some (some v)/\Q v H
def tC(v:V):TE:=fun _ H Q=>Q v H
theorem pU_{i:Nat}{x:Str}{pos:Pos}(hN:X.N[i]?=some x)(hv:Vis X.env.scope x)(hd:(x==("__debug__":Str))=false:=by decide)(hcd:(x==("__classdict__":Str))=false:=by decide):PE X (.Name x pos) (tVar i):=by
 intro pins s σ H Q I h
 obtain⟨v,e,h⟩:=h
 obtain⟨m,hn,hl⟩:=I.loc
 obtain⟨u,r,l⟩:=hl i x v hN e hv
 have fin:EP X pins σ Q u s:=⟨v,H,I,r,h⟩
 rcases l with⟨hk,hm⟩ | ⟨hk,c,hc,hcell⟩
 ·exact wpAny_Name (wpAny_loadName_local I.ok.kind hk hn hm fin) hd
 ·rcases hk with hk | hk
  ·exact wpAny_Name (wpAny_loadName_cell I.ok.kind hk hc hcell fin) hd
  ·exact wpAny_Name (wpAny_loadName_free I.ok.kind hk hc hcell fin hcd) hd
theorem e_{i j pos}:PE X (.Constant (.int i) j pos) (tC (.int i)):=fun _ _ _ H _ I h=>wpAny_Constant_int ⟨.int i,H,I.tok _,⟨_,rfl⟩,h⟩
theorem bw_{b j pos}:PE X (.Constant (.bool b) j pos) (tC (.bl b)):=fun _ _ _ H _ I h=>Constant_bool ⟨.bl b,H,I,rfl,h⟩
theorem iX_{j pos}:PE X (.Constant .none j pos) (tC .non):=fun _ _ _ H _ I h=>Constant_none ⟨.non,H,I,rfl,h⟩
def Gl(X:Cx)(x:Str):Prop:=X.env.kindOf x=some .globalImplicit
theorem ph_{E:Value->Shared->Prop}{pins:List (Addr×Obj)}{s:Shared}{σ:St}{H:Hp}{x:Str}{u:Value}{pos:Pos}{Q:Value->Shared->Prop}(I:Inv X pins σ H s)(hg:Gl X x)(hm:X.mg x=some u)(h:Q u s)
  (hd:(x==("__debug__":Str))=false:=by decide):wpAny (model X.prog X.w) X.A (eval (.Name x pos) X.env) Q E s :=
 Calls.Name_function_global I.ok.kind hg (Calls.loadGlobal_global (by rw[I.ok.glob];exact I.mod.glob.keeps I.bk) hm h) hd
theorem aI_{E:Value->Shared->Prop}{pins:List (Addr×Obj)}{s:Shared}{σ:St}{H:Hp}{x:Str}{u:Value}{pos:Pos}{Q:Value->Shared->Prop}(I:Inv X pins σ H s)(hg:Gl X x)(hm:X.mg x=none)(hv:bootBuiltins x=some u)(h:Q u s)
  (hn:x≠"__name__":=by decide) (hd:(x==("__debug__":Str))=false:=by decide):wpAny (model X.prog X.w) X.A (eval (.Name x pos) X.env) Q E s:=by
 obtain⟨mb,h1,h2⟩:=I.mod.blt
 exact Calls.Name_function_global I.ok.kind hg (Calls.loadGlobal_builtin (by rw[I.ok.glob];exact I.mod.glob.keeps I.bk) hm (by rw[I.ok.blt];exact h1.keeps I.bk) ((h2 x hn).trans hv) h) hd
theorem oS_{x:Str}{v:V}{u:Value}{pos:Pos}(hg:Gl X x)(hm:X.mg x=none)(hv:bootBuiltins x=some u)(r:RelV v u)(hn:x≠"__name__":=by decide)(hd:(x==("__debug__":Str))=false:=by decide):PE X (.Name x pos) (tC v) :=
 fun _ _ _ H _ I h=>aI_ I hg hm hv ⟨v,H,I,r,h⟩ hn hd
def t2I(ta tb:TE)(k:Int->Int->Hp->Prop):St->Hp->Prop:=fun σ H=>ta σ H fun x H1=>tb σ H1 fun y H2=>∃i j,x=.int i/\y=.int j/\k i j H2
variable{a b:Expr}{ta tb:TE}{pos:Pos}
def PC(X:Cx)(op:CmpOp)(a b:Expr)(t:TE):Prop :=
 ∀(pins:List (Addr×Obj)) (s:Shared) (σ:St) (H:Hp) (Q:VK),Inv X pins σ H s->t σ H Q->
  wpAny (model X.prog X.w) X.A (eval a X.env) (fun v s₁=>wpAny (model X.prog X.w) X.A (eval b X.env) (fun u s₂=>wpAny (model X.prog X.w) X.A (compareOp op v u) (EP X pins σ Q) X.xe s₂) X.xe s₁) X.xe s
def tCmp(p:Int->Int->Bool)(ta tb:TE):TE:=fun σ H Q=>t2I ta tb (fun i j H2=>Q (.bl (p i j)) H2) σ H
abbrev tLt:TE->TE->TE:=tCmp fun i j=>decide (i<j)
abbrev tLe:TE->TE->TE:=tCmp fun i j=>decide (i<=j)
abbrev tGt:TE->TE->TE:=tCmp fun i j=>decide (j<i)
abbrev tGe:TE->TE->TE:=tCmp fun i j=>decide (j<=i)
abbrev tEqI:TE->TE->TE:=tCmp fun i j=>decide (i=j)
abbrev tNeI:TE->TE->TE:=tCmp fun i j=>!decide (i=j)
def tB(t:TE):TT:=fun σ H Q=>t σ H fun x H1=>∃c,x=.bl c/\Q c H1
theorem oa_{op:CmpOp}{t:TE}(h:PC X op a b t)(h1:behindInMarks op b=false:=by first | exact nobehind _ (by decide) (by decide) | rfl):PT X (.Compare a [op] [b] pos) (tB t):=by
 intro pins s σ H Q I hw
 refine wpAny_isTrue_Compare1 (thn (h pins s σ H _ I hw) fun v s1 h1=>thn h1 fun u s2 h2=>thn h2 fun c s3 ⟨x,H1,I1,r1,q1⟩=>?_) h1
 obtain⟨d,rfl,q⟩:=q1
 cases r1
 exact wpAny_truthy_bool ⟨H1,I1,q⟩
theorem bs_{e:Expr}{t:TE}(h:PE X e t)(he:∀whole,isTrue e X.env whole=(do let v <-whole;standAt e.pos;holding [v] (truthy v)):=by intro _;rfl):PT X e (tB t):=by
 intro pins s σ H Q I hw
 refine isTrue_plain (thn (h pins s σ H _ I hw) fun v s1 ⟨x,H1,I1,r1,q1⟩=>?_) (he _)
 obtain⟨d,rfl,q⟩:=q1
 cases r1
 exact wpAny_truthy_bool ⟨H1,I1,q⟩
variable{tA tB':TT}{rest:List Expr}
def tAnd(t u:TT):TT:=fun σ H Q=>t σ H fun c H1=>if c=true then u σ H1 Q else Q false H1
def tOr(t u:TT):TT:=fun σ H Q=>t σ H fun c H1=>if c=true then Q true H1 else u σ H1 Q
def tNot(t:TT):TT:=fun σ H Q=>t σ H fun c H1=>Q (!c) H1
theorem oN_(ha:PT X a tA):PW X (.BoolOp .And [a] pos) tA:=by
 intro wh pins s σ H Q I h
 refine isTrue_and (thn (ha pins s σ H Q I h) fun c s1 e=>?_)
 cases c with
 | true=>exact isTrue_and_nil e
 | false=>exact e
theorem dO_(ha:PT X a tA):PW X (.BoolOp .Or [a] pos) tA:=by
 intro wh pins s σ H Q I h
 refine isTrue_or (thn (ha pins s σ H Q I h) fun c s1 e=>?_)
 cases c with
 | false=>exact isTrue_or_nil e
 | true=>exact e
theorem pQ_(ha:PT X a tA)(hb:PW X (.BoolOp .And (b::rest) pos) tB'):PW X (.BoolOp .And (a::b::rest) pos) (tAnd tA tB'):=by
 intro wh pins s σ H Q I h
 refine isTrue_and (thn (ha pins s σ H _ I h) fun c s1 ⟨H1,I1,q1⟩=>?_)
 cases c with
 | true=>exact hb wh pins s1 σ H1 Q I1 q1
 | false=>exact⟨H1,I1,q1⟩
theorem hC_(ha:PT X a tA)(hb:PW X (.BoolOp .Or (b::rest) pos) tB'):PW X (.BoolOp .Or (a::b::rest) pos) (tOr tA tB'):=by
 intro wh pins s σ H Q I h
 refine isTrue_or (thn (ha pins s σ H _ I h) fun c s1 ⟨H1,I1,q1⟩=>?_)
 cases c with
 | true=>exact⟨H1,I1,q1⟩
 | false=>exact hb wh pins s1 σ H1 Q I1 q1
theorem bl_(ha:PT X a tA):PT X (.UnaryOp .Not a pos) (tNot tA):=by
 intro pins s σ H Q I h
 exact isTrue_not (ha pins s σ H (fun c H1=>Q (!c) H1) I h)
def tAndV(ta tb:TE):TE:=fun σ H Q=>ta σ H fun x H1=>∃c,x=.bl c/\if c=true then tb σ H1 Q else Q (.bl false) H1
def tNotV(ta:TE):TE:=fun σ H Q=>ta σ H fun x H1=>∃c,x=.bl c/\Q (.bl (!c)) H1
theorem iW_{op}{t:TE}(h:PE X a t):PE X (.BoolOp op [a] pos) t:=fun pins s σ H Q I hw=>BoolOp_one (h pins s σ H Q I hw)
theorem iZ_(ha:PE X a ta)(hb:PE X (.BoolOp .And (b::rest) pos) tb):PE X (.BoolOp .And (a::b::rest) pos) (tAndV ta tb):=by
 intro pins s σ H Q I h
 refine BoolOp_and (thn (ha pins s σ H _ I h) fun v s1 ⟨x,H1,I1,r1,q1⟩=>?_)
 obtain⟨c,rfl,q1⟩:=q1
 cases r1
 refine wpAny_truthy_bool ?_
 cases c with
 | true=>exact hb pins s1 σ H1 Q I1 q1
 | false=>exact⟨.bl false,H1,I1,rfl,q1⟩
theorem pV_(ha:PE X a ta):PE X (.UnaryOp .Not a pos) (tNotV ta):=by
 intro pins s σ H Q I h
 refine UnaryOp_ (thn (ha pins s σ H _ I h) fun v s1 ⟨x,H1,I1,r1,q1⟩=>?_)
 obtain⟨c,rfl,q1⟩:=q1
 cases r1
 exact not_of (wpAny_truthy_bool ⟨.bl (!c),H1,I1,rfl,q1⟩)
def tIf(t:TT)(ta tb:TE):TE:=fun σ H Q=>t σ H fun c H1=>if c=true then ta σ H1 Q else tb σ H1 Q
theorem nm_{c:Expr}(hc:PT X c tA)(ha:PE X a ta)(hb:PE X b tb):PE X (.IfExp c a b pos) (tIf tA ta tb):=by
 intro pins s σ H Q I h
 refine wpAny_IfExp (thn (hc pins s σ H _ I h) fun d s1 ⟨H1,I1,q1⟩=>?_)
 cases d with
 | true=>exact ha pins s1 σ H1 Q I1 q1
 | false=>exact hb pins s1 σ H1 Q I1 q1
end
def SqL(K:PySem.W.Frag)(H:Hp)(a:Addr)(xs:List V):Prop :=
 Rd H a (.lst xs)\/
  ∃(o:Obj) (its:Array Value) (n:Nat),K.lookup a=some o/\o.cls=.type "list"/\o.dict=none/\o.data=.seq its n/\its.size<=sizeLine/\Vals xs its.toList
def SqT(K:PySem.W.Frag)(H:Hp)(a:Addr)(xs:List V):Prop :=
 Rd H a (.tup xs)\/
  ∃(o:Obj) (its:Array Value) (n:Nat),K.lookup a=some o/\o.cls=.type "tuple"/\o.data=.seq its n/\its.size<=sizeLine/\Vals xs its.toList
def absV:Value->Option V
 | .none=>some .non
 | .bool b=>some (.bl b)
 | .int i _=>some (.int i)
 | .str x _=>some (.str x)
 | .bytes b _=>some (.byt b)
 | .float b _=>some (.flt b)
 | .ref a=>some (.ref a)
 | .type n=>some (.ty n)
 | _=>none
theorem RelV.abs{x:V}{u:Value}(r:RelV x u):absV u=some x:=by
 cases x with
 | non=>cases r;rfl
 | bl _=>cases r;rfl
 | int _=>obtain⟨t,rfl⟩:=r;rfl
 | str _=>obtain⟨t,rfl⟩:=r;rfl
 | byt _=>obtain⟨t,rfl⟩:=r;rfl
 | flt _=>obtain⟨t,rfl⟩:=r;rfl
 | ref _=>cases r;rfl
 | ty _=>cases r;rfl
theorem RelV.inj{x y:V}{u:Value}(r:RelV x u)(q:RelV y u):x=y:=Option.some.inj (r.abs.symm.trans q.abs)
theorem Vals.inj{xs ys:List V}{us:List Value}(a:Vals xs us)(b:Vals ys us):xs=ys:=by
 induction a generalizing ys with
 | nil=>cases b;rfl
 | cons r t ih =>
  cases b with
  | cons r' t'=>rw[r.inj r',ih t']
section
variable{X:Cx}{pins:List (Addr×Obj)}{σ:St}{H:Hp}{s:Shared}{a:Addr}{xs ys:List V}
theorem SqL.of{K:PySem.W.Frag}(h:H a=some (.lst xs)):SqL K H a xs:=.inl (.inl h)
theorem SqT.of{K:PySem.W.Frag}(h:H a=some (.tup xs)):SqT K H a xs:=.inl (.inl h)
theorem Inv.list(I:Inv X pins σ H s)(h:SqL X.K H a xs):∃its:List Value,Vals xs its/\PlainL s.heap a its.toArray/\xs.length<=sizeLine:=by
 rcases h with h | ⟨o,its,n,hk,hc,hd,hs,hz,r⟩
 ·obtain⟨z,its,n,r,e⟩:=h.ok I.hok
  exact⟨its,r,⟨_,n,e,rfl,rfl,rfl⟩,z⟩
 ·refine⟨its.toList,r,⟨o,n,I.kIn a o hk,hc,hd,by simpa using hs⟩,?_⟩
  have e:=r.length
  simp only[Array.length_toList] at e
  omega
theorem Inv.tuple(I:Inv X pins σ H s)(h:SqT X.K H a xs):∃its:List Value,Vals xs its/\IsTup s.heap a its.toArray/\xs.length<=sizeLine:=by
 rcases h with h | ⟨o,its,n,hk,hc,hs,hz,r⟩
 ·obtain⟨z,its,r,p⟩:=h.ok I.hok
  exact⟨its,r,p,z⟩
 ·refine⟨its.toList,r,⟨o,I.kIn a o hk,hc,n,by simpa using hs⟩,?_⟩
  have e:=r.length
  simp only[Array.length_toList] at e
  omega
theorem Inv.list_inj(I:Inv X pins σ H s)(h:SqL X.K H a xs)(h':SqL X.K H a ys):xs=ys:=by
 obtain⟨its,r,⟨o,n,e,_,_,d⟩,_⟩:=I.list h
 obtain⟨its',r',⟨o',n',e',_,_,d'⟩,_⟩:=I.list h'
 rw[e] at e';cases e'
 rw[d] at d'
 injection d' with d1 _
 have:its=its':=by simpa using congrArg Array.toList d1
 subst this
 exact r.inj r'
end
abbrev Cx.wish(X:Cx)(E:Value->Shared->Prop):Cx:={X with xe:=E}
abbrev Cx.nox(X:Cx):Cx:=X.wish fun _ _=>False
theorem Cx.Ok.wish{X:Cx}(ok:X.Ok)(E:Value->Shared->Prop):(X.wish E).Ok :=
 ⟨ok.mod,ok.kind,ok.glob,ok.blt,ok.above,ok.inj,ok.has,ok.cab,ok.hd,ok.frames,ok.stk,ok.exf,ok.bs,ok.bsz,ok.noex,ok.exfs,ok.funs,ok.frf⟩
theorem Cx.Ok.unwish{X:Cx}{E:Value->Shared->Prop}(ok:(X.wish E).Ok):X.Ok :=
 ⟨ok.mod,ok.kind,ok.glob,ok.blt,ok.above,ok.inj,ok.has,ok.cab,ok.hd,ok.frames,ok.stk,ok.exf,ok.bs,ok.bsz,ok.noex,ok.exfs,ok.funs,ok.frf⟩
section
variable{X:Cx}{pins:List (Addr×Obj)}{σ:St}{H:Hp}{s:Shared}{E:Value->Shared->Prop}
theorem Inv.wish(I:Inv X pins σ H s)(E:Value->Shared->Prop):Inv (X.wish E) pins σ H s:=⟨I.ok.wish E,I.os,I.bare,I.base,I.loc,I.cell,I.free,I.freeC,I.pin,I.hok,I.len⟩
theorem Inv.unwish(I:Inv (X.wish E) pins σ H s):Inv X pins σ H s:=⟨I.ok.unwish,I.os,I.bare,I.base,I.loc,I.cell,I.free,I.freeC,I.pin,I.hok,I.len⟩
theorem SP.unwish{D:Ends}{f:Flow}{s':Shared}(h:SP (X.wish E) pins D f s'):SP X pins D f s':=by
 cases f with
 | next=>obtain⟨σ',H',I,q⟩:=h;exact⟨σ',H',I.unwish,q⟩
 | brk=>obtain⟨σ',H',I,q⟩:=h;exact⟨σ',H',I.unwish,q⟩
 | cont=>obtain⟨σ',H',I,q⟩:=h;exact⟨σ',H',I.unwish,q⟩
 | ret u=>obtain⟨v,σ',H',I,r,q⟩:=h;exact⟨v,σ',H',I.unwish,r,q⟩
theorem PSs.nox{st:List Stmt}{t:TS}(h:PSs X.nox st t):PSs X st t:=fun pins s σ H D I hw =>
 wpAny_mono (h pins s σ H D (I.wish _) hw) (fun _ _ q=>q.unwish) fun _ _ z=>False.elim z
end
section
variable{X:Cx}{st:Stmt}{rest:List Stmt}{t u:TS}{e:Expr}{te:TE}{pos:Pos}
def tNext:TS:=fun D σ H=>D.nx σ H
def tSeq(t u:TS):TS:=fun D σ H=>t {D with nx:=u D} σ H
theorem D_:PSs X [] tNext:=fun _ _ σ H _ I h=>wpAny_execs_nil ⟨σ,H,I,h⟩
theorem b_(h1:PS X st t)(h2:PSs X rest u):PSs X (st::rest) (tSeq t u):=by
 intro pins s σ H D I h
 refine wpAny_execs_cons (thn (h1 pins s σ H {D with nx:=u D} I h) fun f s1 q=>?_)
 cases f with
 | next =>
  obtain⟨σ',H',I',q⟩:=q
  exact h2 pins s1 σ' H' D I' q
 | ret v=>exact q
 | brk=>exact q
 | cont=>exact q
theorem g_(h1:PS X st t):PSs X [st] t:=by
 intro pins s σ H D I h
 refine wpAny_execs_cons (thn (h1 pins s σ H D I h) fun f s1 q=>?_)
 cases f with
 | next=>exact wpAny_execs_nil q
 | ret v=>exact q
 | brk=>exact q
 | cont=>exact q
theorem Inv.quiet{pins:List (Addr×Obj)}{σ:St}{H:Hp}{s:Shared}(I:Inv X pins σ H s):interactive X.env=false:=by simp[interactive,I.ok.kind]
def tDrop(te:TE):TS:=fun D σ H=>te σ H fun _ H1=>D.nx σ H1
theorem y_(he:PE X e te)(hs:swapsWith e none pos.line X.env=pure false:=by rfl):PS X (.Expr e pos) (tDrop te):=by
 intro pins s σ H D I h
 exact wpAny_Expr_any (thn (he pins s σ H _ I h) fun v s1 ⟨x,H1,I1,r1,q1⟩=>⟨σ,H1,I1,q1⟩) I.quiet hs
def tRet(te:TE):TS:=fun D σ H=>te σ H D.rt
theorem o_(he:PE X e te):PS X (.Return (some e) pos) (tRet te):=by
 intro pins s σ H D I h
 exact wpAny_Return_some (thn (he pins s σ H _ I h) fun v s1 ⟨x,H1,I1,r1,q1⟩=>⟨x,σ,H1,I1,r1,q1⟩)
def tIfS(c:TT)(t u:TS):TS:=fun D σ H=>c σ H fun b H1=>if b=true then t D σ H1 else u D σ H1
theorem ae_{c:Expr}{a b:List Stmt}{tc:TT}(hc:PT X c tc)(ha:PSs X a t)(hb:PSs X b u):PS X (.If c a b pos) (tIfS tc t u):=by
 intro pins s σ H D I h
 refine wpAny_If (thn (hc pins s σ H _ I h) fun d s1 ⟨H1,I1,q1⟩=>?_)
 cases d with
 | true=>exact ha pins s1 σ H1 D I1 q1
 | false=>exact hb pins s1 σ H1 D I1 q1
def pF_:TS:=fun _ _ _=>False
theorem bt_{sts:List Stmt}:PSs X sts pF_:=fun _ _ _ _ _ _ h=>h.elim
end
abbrev TG:=V->St->Hp->(St->Hp->Prop)->Prop
abbrev TGs:=List V->St->Hp->(St->Hp->Prop)->Prop
def PG(X:Cx)(target:Expr)(t:TG):Prop :=
 ∀(pins:List (Addr×Obj)) (s:Shared) (σ:St) (H:Hp) (v:V) (u:Value) (Q:St->Hp->Prop),Inv X pins σ H s->RelV v u->t v σ H Q->
  wpAny (model X.prog X.w) X.A (assign target X.env u) (fun _ s'=>∃ σ' H',Inv X pins σ' H' s'/\Q σ' H') X.xe s
def PGs(X:Cx)(ts:List Expr)(t:TGs):Prop :=
 ∀(pins:List (Addr×Obj)) (s:Shared) (σ:St) (H:Hp) (vs:List V) (us:List Value) (Q:St->Hp->Prop),Inv X pins σ H s->Vals vs us->t vs σ H Q->
  wpAny (model X.prog X.w) X.A (assignInOrder ((assignEach ts X.env).map (·.2)) us) (fun _ s'=>∃ σ' H',Inv X pins σ' H' s'/\Q σ' H') X.xe s
abbrev TSet:=V->V->V->Hp->(Hp->Prop)->Prop
def PSet(X:Cx)(t:TSet):Prop :=
 ∀(pins:List (Addr×Obj)) (s:Shared) (σ:St) (H:Hp) (o i v:V) (ov iv u:Value) (Q:Hp->Prop),Inv X pins σ H s->RelV o ov->RelV i iv->RelV v u->t o i v H Q->
  wpAny (model X.prog X.w) X.A (setItem ov iv u) (fun _ s'=>∃H',Inv X pins σ H' s'/\Q H') X.xe s
abbrev TIp:=V->V->Hp->VK->Prop
def PIp(X:Cx)(op:Operator)(t:TIp):Prop :=
 ∀(pins:List (Addr×Obj)) (s:Shared) (σ:St) (H:Hp) (x y:V) (v u:Value) (Q:VK),Inv X pins σ H s->RelV x v->RelV y u->t x y H Q->
  wpAny (model X.prog X.w) X.A (inplaceOp op v u) (EP X pins σ Q) X.xe s
section
variable{X:Cx}{pos:Pos}
def gName(i:Nat):TG:=fun v σ H Q=>Q (σ.set i (some v)) H
theorem n_{i:Nat}{x:Str}(hN:X.N.Nodup)(hi:X.N[i]?=some x)(hx:Loc X.env.scope x)(hf:X.fn x=true\/X.env.scope.names.lookup x=some .local:=by first | exact .inl rfl | exact .inr rfl | assumption):PG X (.Name x pos) (gName i):=by
 intro pins s σ H v u Q I r h
 exact wpAny_assign_Name (eR_ I hN hi hx r (fun s' I'=>⟨_,H,I',h⟩) hf)
def gNil:TGs:=fun vs σ H Q=>vs=[]/\Q σ H
def gCons(t:TG)(u:TGs):TGs:=fun vs σ H Q=>∃v r,vs=v::r/\t v σ H fun σ' H'=>u r σ' H' Q
theorem aB_:PGs X [] gNil:=by
 intro pins s σ H vs us Q I r h
 obtain⟨e,h⟩:=h
 subst e
 cases r
 exact assignInOrder_nil ⟨σ,H,I,h⟩
theorem z_{e:Expr}{es:List Expr}{t:TG}{u:TGs}(h1:PG X e t)(h2:PGs X es u)
  (hs:(assignEach (e::es) X.env).map (·.2)=assign e X.env::(assignEach es X.env).map (·.2):=by rfl):PGs X (e::es) (gCons t u):=by
 intro pins s σ H vs us Q I r h
 obtain⟨v,vr,e1,h⟩:=h
 subst e1
 cases r with
 | cons r rr =>
  rw[hs]
  refine assignInOrder_cons (thn (h1 pins s σ H _ _ _ I r h) fun _ s1 ⟨σ1,H1,I1,q1⟩=>?_)
  exact h2 pins s1 σ1 H1 _ _ Q I1 rr q1
def gTup(K:PySem.W.Frag)(n:Nat)(t:TGs):TG:=fun v σ H Q=>∃a xs,v=.ref a/\SqT K H a xs/\xs.length=n/\t xs σ H Q
theorem df_{es:List Expr}{k:Nat}{t:TGs}{n:Nat}(hc:X.calm=true)(h:PGs X es t)
  (hn:(assignEach es X.env).length=n:=by rfl) (hst:(assignEach es X.env).findIdx? (·.1)=none:=by rfl):PG X (.Tuple es k pos) (gTup X.K n t):=by
 intro pins s σ H v u Q I r hw
 obtain⟨a,xs,e1,hq,hl,hw⟩:=hw
 subst e1
 cases r
 obtain⟨its,rv,ht,hz⟩:=I.tuple hq
 refine assign_Tuple_tuple (I.ok.hd hc) ht (by simp[hn,<-hl,rv.length]) hst fun h' hx=>?_
 have I1:Inv X pins σ H {s with heap:=h'}:=I.kept (t':=s.toks) fun b o e=>hx b o (Nat.ne_of_lt (Heap.lt_size e)) e
 exact h pins _ σ H xs _ Q I1 (by simpa using rv) hw
def gSub(to ti:TE)(t:TSet):TG:=fun v σ H Q=>to σ H fun o H1=>ti σ H1 fun i H2=>t o i v H2 fun H3=>Q σ H3
theorem pT_{o i:Expr}{to ti:TE}{t:TSet}(ho:PE X o to)(hi:PE X i ti)(hs:PSet X t)
  (ha:∀v,assign (.Subscript o i pos) X.env v=(do
   let ov <-holding [v] (eval o X.env)
   let iv <-holding [v,ov] (eval i X.env)
   standAt pos
   holding [v,ov,iv] (setItem ov iv v)
   release [v,ov,iv] []):=by intro _;rfl):PG X (.Subscript o i pos) (gSub to ti t):=by
 intro pins s σ H v u Q I r h
 rw[ha]
 refine wpAny_bind (wpAny_holding (thn (ho pins s σ H _ I h) fun ov s1 ⟨x,H1,I1,r1,q1⟩=>?_))
 refine wpAny_bind (wpAny_holding (thn (hi pins s1 σ H1 _ I1 q1) fun iv s2 ⟨y,H2,I2,r2,q2⟩=>?_))
 refine wpAny_bind (wpAny_standAt (wpAny_bind (wpAny_holding (thn (hs pins s2 σ H2 x y v ov iv u _ I2 r1 r2 r q2) fun _ s3 ⟨H3,I3,q3⟩=>?_))))
 exact wpAny_release ⟨σ,H3,I3,q3⟩
def tAsg(te:TE)(g:TG):TS:=fun D σ H=>te σ H fun x H1=>g x σ H1 D.nx
theorem lf_{tg e:Expr}{te:TE}{g:TG}(he:PE X e te)(hg:PG X tg g)(hs:swapsWithSole [tg] e pos.line X.env=pure false:=by rfl)(hw:swappedStores [tg] e X.env=pure none:=by rfl)
  (h1:(assignEach [tg] X.env).map (·.2)=[assign tg X.env]:=by rfl):PS X (.Assign [tg] e pos) (tAsg te g):=by
 intro pins s σ H D I h
 refine wpAny_Assign_stores (thn (he pins s σ H _ I h) fun v s1 ⟨x,H1,I1,r1,q1⟩=>?_) hs hw
 rw[h1]
 exact thn (hg pins s1 σ H1 x v _ I1 r1 q1) fun _ s2 q=>q
theorem k_{i:Nat}{x:Str}{e:Expr}{te:TE}{pos':Pos}(hN:X.N.Nodup)(hi:X.N[i]?=some x)(hx:Loc X.env.scope x)(he:PE X e te)(hs:swapsWith e (some (.Name x pos')) pos.line X.env=pure false:=by rfl)(hf:X.fn x=true\/X.env.scope.names.lookup x=some .local:=by first | exact .inl rfl | exact .inr rfl | assumption) :
  PS X (.Assign [.Name x pos'] e pos) (tAsg te (gName i)):=by
 intro pins s σ H D I h
 refine wpAny_Assign_Name (thn (he pins s σ H _ I h) fun v s1 ⟨y,H1,I1,r1,q1⟩=>?_) hs
 exact eR_ I1 hN hi hx r1 (fun s2 I2=>⟨_,H1,I2,q1⟩) hf
def tAug(i:Nat)(te:TE)(ti:TIp):TS:=fun D σ H=>∃x,σ[i]?=some (some x)/\te σ H fun y H1=>ti x y H1 fun z H2=>D.nx (σ.set i (some z)) H2
theorem pR_{i:Nat}{x:Str}{e:Expr}{te:TE}{op:Operator}{ti:TIp}{pos':Pos}(hN:X.N.Nodup)(hi:X.N[i]?=some x)(hx:Loc X.env.scope x)(he:PE X e te)(ho:PIp X op ti)(hf:X.fn x=true\/X.env.scope.names.lookup x=some .local:=by first | exact .inl rfl | exact .inr rfl | assumption) :
  PS X (.AugAssign (.Name x pos') op e pos) (tAug i te ti):=by
 intro pins s σ H D I h
 obtain⟨v,e1,h⟩:=h
 obtain⟨m,hn,hl⟩:=I.loc
 have vis:Vis X.env.scope x:=by rcases hx with k | k;exact .inl k;exact .inr (.inl k)
 obtain⟨u,r,l⟩:=hl i x v hi e1 vis
 refine wpAny_AugAssign_Name ?_
 have go:wpAny (model X.prog X.w) X.A (eval e X.env) (fun w s₂=>wpAny (model X.prog X.w) X.A (inplaceOp op u w) (fun r s₃=>wpAny (model X.prog X.w) X.A (storeName X.env x r) (fun _=>SP X pins D .next) X.xe s₃) X.xe s₂) X.xe s:=by
  refine thn (he pins s σ H _ I h) fun w s1 ⟨y,H1,I1,r1,q1⟩=>?_
  refine thn (ho pins s1 σ H1 v y u w _ I1 r r1 q1) fun z s2 ⟨zv,H2,I2,r2,q2⟩=>?_
  exact eR_ I2 hN hi hx r2 (fun s3 I3=>⟨_,H2,I3,q2⟩) hf
 rcases l with⟨hk,hm⟩ | ⟨hk,c,hc,hcell⟩
 ·exact wpAny_loadName_local I.ok.kind hk hn hm go
 ·rcases hk with hk | hk
  ·exact wpAny_loadName_cell I.ok.kind hk hc hcell go
  ·rcases hx with k | k
   ·have:X.env.scope.names.lookup x=some .free:=hk
    rw[k] at this;cases this
   ·have:X.env.scope.names.lookup x=some .free:=hk
    rw[k] at this;cases this
def ipI(f:Int->Int->Int):TIp:=fun x y H Q=>∃i j,x=.int i/\y=.int j/\Q (.int (f i j)) H
theorem qz_:PIp X .Add (ipI fun i j=>i+j):=by
 intro pins s σ H x y v u Q I r1 r2 h
 obtain⟨i,j,e1,e2,q⟩:=h
 subst e1;subst e2
 obtain⟨t,rfl⟩:=r1
 obtain⟨t',rfl⟩:=r2
 exact iadd_int ⟨.int _,H,I.tok _,⟨_,rfl⟩,q⟩
def pD_(c:TT)(tb:TS):TS:=fun D σ H=>∃W:Nat->St->Hp->Prop,(∃m,W m σ H)/\∀m σ H,W m σ H->
 c σ H fun b H1=>if b=true then ∃N:St->Hp->Prop,(∀ σ' H',N σ' H'->∃m',m'<m/\W m' σ' H')/\tb {D with nx:=N,ct:=N,bk:=D.nx} σ H1 else D.nx σ H1
theorem iQ_{c:Expr}{body:List Stmt}{tc:TT}{tb:TS}(hp:PassesOwn (model X.prog X.w) X.A X.env X.xe)(hc:PT X c tc)(hb:PSs X body tb):PS X (.While c body [] pos) (pD_ tc tb):=by
 intro pins s σ H D I h
 obtain⟨W,⟨m0,w0⟩,turn⟩:=h
 refine wpAny_While (codeAny_whileLoop (fun n s'=>∃ σ' H',Inv X pins σ' H' s'/\W n σ' H') ?_ m0 ⟨σ,H,I,w0⟩)
 rintro n s1 ⟨σ1,H1,I1,w1⟩
 refine wpAny_passesOwn hp (thn (hc pins s1 σ1 H1 _ I1 (turn n σ1 H1 w1)) fun b s2 ⟨H2,I2,q2⟩=>?_)
 cases b with
 | true =>
  obtain⟨N,hN,q2⟩:=q2
  rw[if_pos rfl]
  refine wpAny_passesOwn hp (thn (hb pins s2 σ1 H2 _ I2 q2) fun f s3 q3=>?_)
  cases f with
  | next =>
   obtain⟨σ3,H3,I3,n3⟩:=q3
   obtain⟨m',hm,w3⟩:=hN σ3 H3 n3
   exact⟨m',hm,σ3,H3,I3,w3⟩
  | cont =>
   obtain⟨σ3,H3,I3,n3⟩:=q3
   obtain⟨m',hm,w3⟩:=hN σ3 H3 n3
   exact⟨m',hm,σ3,H3,I3,w3⟩
  | brk=>exact q3
  | ret v=>exact q3
 | false =>
  rw[if_neg Bool.false_ne_true]
  exact wpAny_execs_nil ⟨σ1,H2,I2,q2⟩
end
structure It where
 go:Nat->Hp->Prop
 yld:Nat->Hp->V->Hp->Prop
 stop:Nat->Hp->Prop
def FpOk(X:Cx)(pins:List (Addr×Obj))(H:Hp)(b:Addr):Prop :=
 H b=none/\b≠X.env.locals/\b∉X.fs/\(b∈X.ex\/X.s₀.heap.objs.size<=b)/\(∀x c,X.env.cells.lookup x=some c->c≠b)/\∀p∈X.pn++pins,p.1≠b
theorem Inv.fpOk{X:Cx}{pins:List (Addr×Obj)}{σ:St}{H H':Hp}{s:Shared}{b:Addr}(I:Inv X pins σ H s)(hb:s.heap.objs.size<=b)(hn:H' b=none):FpOk X pins H' b:=by
 refine⟨hn,Nat.ne_of_gt (Nat.lt_of_lt_of_le I.lt hb),I.nofs hb,.inr (Nat.le_trans I.sz hb),fun x c e z=>?_,fun p hp z=>?_⟩
 ·obtain⟨v,q⟩:=I.cell x c e
  exact absurd (Nat.lt_of_lt_of_le q.lt (by rw[z];exact hb)) (Nat.lt_irrefl _)
 ·exact absurd (Nat.lt_of_lt_of_le (Heap.lt_size (I.pin p hp).1) (by rw[z];exact hb)) (Nat.lt_irrefl _)
structure Turn(P:Program)(w:World)(K:PySem.W.Frag)(tg:Expr)(J:It)(fp:List Addr)(it:Addr)(tn:Nat->Heap->Prop):Prop where
 mem:it∈fp
 obj:∀i h,tn i h->∀b∈fp,∃o,h.get? b=some o/\∀v,o.data≠.cell v
 keep:∀i h h',tn i h->(∀b∈fp,∀o,h.get? b=some o->h'.get? b=some o)->tn i h'
 item:∀(X:Cx),X.prog=P->X.w=w->X.K=K->X.calm=true->∀(i:Nat) (pins:List (Addr×Obj)) (s:Shared) (σ:St) (H:Hp) (E:Value->Shared->Prop),Inv X pins σ H s->(∀b∈fp,FpOk X pins H b)->tn i s.heap->J.go i H->
  wpAny (model P w) X.A (pyNext (.ref it)) (fun r s1=>∃u,r=some u/\
   wpAny (model P w) X.A (letOwnedTupleGo tg (.ref it) u) (fun _ s2=>∃x H',Inv X pins σ H' s2/\RelV x u/\J.yld i H x H'/\tn (i+1) s2.heap/\∀b∈fp,H' b=none) E s1) E s
 done:∀(X:Cx),X.prog=P->X.w=w->X.K=K->X.calm=true->∀(i:Nat) (pins:List (Addr×Obj)) (s:Shared) (σ:St) (H:Hp) (E:Value->Shared->Prop),Inv X pins σ H s->(∀b∈fp,FpOk X pins H b)->tn i s.heap->J.stop i H->
  wpAny (model P w) X.A (pyNext (.ref it)) (fun r s1=>r=none/\Inv X pins σ H s1) E s
 self:∀(A:Around) (i:Nat) (s:Shared) (Q:Value->Shared->Prop) (E:Value->Shared->Prop),tn i s.heap->Q (.ref it) s->wpAny (model P w) A (pyIter (.ref it)) Q E s
abbrev TI:=St->Hp->(It->Hp->Prop)->Prop
def PIE(X:Cx)(pins:List (Addr×Obj))(σ:St)(tg:Expr)(R:It->Hp->Prop)(itv:Value)(s2:Shared):Prop :=
 ∃(it:Addr) (fp:List Addr) (tn:Nat->Heap->Prop) (J:It) (H':Hp),itv=.ref it/\Inv X pins σ H' s2/\Turn X.prog X.w X.K tg J fp it tn/\tn 0 s2.heap/\(∀b∈fp,FpOk X pins H' b)/\R J H'
def PI(X:Cx)(tg iter:Expr)(wi:TI):Prop :=
 ∀(pins:List (Addr×Obj)) (s:Shared) (σ:St) (H:Hp) (R:It->Hp->Prop),Inv X pins σ H s->wi σ H R->
  wpAny (model X.prog X.w) X.A (eval iter X.env) (fun v s1=>wpAny (model X.prog X.w) X.A (pyIter v) (PIE X pins σ tg R) X.xe s1) X.xe s
theorem mc_{M:Model}{A:Around}{E:Value->Shared->Prop}{s:Shared}{tg:Expr}{it:Addr}{u:Value}{o:Obj}{n:String}{vs:Array Value}{Q:Unit->Shared->Prop}(ho:s.heap.get? it=some o)(hc:o.cls=.type n)(hd:o.data=.fields vs)
  (hn:["enumerate","zip","dict_itemiterator","dict_reverseitemiterator","odict_iterator","itertools.zip_longest","itertools.pairwise"].contains n=false) (hQ:Q () s):wpAny M A (letOwnedTupleGo tg (.ref it) u) Q E s:=by
 unfold letOwnedTupleGo
 cases tg <;> first
  | exact wpAny_pure hQ
  | (cases u <;> first
    | exact wpAny_pure hQ
    | (refine wpAny_bind (wpAny_load ho ?_)
       rw[hc,hd]
       show wpAny M A (if (["enumerate","zip","dict_itemiterator","dict_reverseitemiterator","odict_iterator","itertools.zip_longest","itertools.pairwise"].contains n&&vs[0]?==some (rawInt _))=true then _ else _) Q E s
       rw[if_neg (by intro h;rw[hn,Bool.false_and] at h;cases h)]
       exact wpAny_pure hQ))
def Itl(K:PySem.W.Frag)(a:Addr):It :=
 ⟨fun i H=>∃xs x,SqL K H a xs/\xs[i]?=some x,fun i H x H'=>H'=H/\∀xs,SqL K H a xs->xs[i]?=some x,fun i H=>∃xs,SqL K H a xs/\xs.length<=i⟩
def Itr(lo:Int)(n:Nat):It:=⟨fun i _=>i<n,fun i H x H'=>H'=H/\x=.int (lo+i),fun i _=>n<=i⟩
theorem kx_{P:Program}{w:World}{K:PySem.W.Frag}{tg:Expr}(a it:Addr):Turn P w K tg (Itl K a) [it] it (fun i h=>h.IsListIter it a i) where
 mem:=by simp
 obj:=fun i h st b hb=>by
  have e:b=it:=by simpa using hb
  subst e
  obtain⟨o,e,c,d⟩:=st
  exact⟨o,e,fun v z=>by rw[d] at z;cases z⟩
 keep:=fun i h h' st k=>st.at fun o e=>k it (by simp) o e
 item:=by
  intro X hP hw hK hc i pins s σ H E I hf st hg
  subst hP hw hK
  obtain⟨xs,x,hq,hx⟩:=hg
  obtain⟨its,rv,p,hz⟩:=I.list hq
  obtain⟨u,hu,ru⟩:=rv.get hx
  obtain⟨f0,f1,f2,f3,f4,f5⟩:=hf it (by simp)
  refine wpAny_pyNext_list_item st p.isList (x:=u) (by simpa using hu) fun h' st' sb=>?_
  have I1:Inv X pins σ H {s with heap:=h'}:=I.turned (t':=s.toks) (fun b o hb e=>(sb.2 b hb).trans e) f0 f1 f3 f4 f5
  obtain⟨o,e,c,d⟩:=id st'
  exact⟨u,rfl,mc_ (s:={s with heap:=h'}) e c d (by decide) ⟨x,H,I1,ru,⟨rfl,fun ys hy=>by rw[I.list_inj hy hq];exact hx⟩,st',fun b hb=>(hf b hb).1⟩⟩
 done:=by
  intro X hP hw hK hc i pins s σ H E I hf st hg
  subst hP hw hK
  obtain⟨xs,hq,hx⟩:=hg
  obtain⟨its,rv,p,hz⟩:=I.list hq
  obtain⟨f0,f1,f2,f3,f4,f5⟩:=hf it (by simp)
  have hl:=rv.length
  exact wpAny_pyNext_list_end (I.ok.hd hc) st p.isList (by simp;omega) fun h' eb=>⟨rfl,I.turned (t':=s.toks) (fun b o hb e=>eb b o hb e) f0 f1 f3 f4 f5⟩
 self:=fun _ _ _ _ _ st h=>wpAny_pyIter_listiter st h
theorem jC_{P:Program}{w:World}{K:PySem.W.Frag}{tg:Expr}(it:Addr)(lo:Int)(n:Nat):Turn P w K tg (Itr lo n) [it] it (fun i h=>IsRangeIter h it (lo+(i:Nat)*1) ((n:Int)-(i:Nat)) 1) where
 mem:=by simp
 obj:=fun i h st b hb=>by
  have e:b=it:=by simpa using hb
  subst e
  exact⟨_,st,fun v z=>by
   have z':Data.fields _=Data.cell v:=z
   cases z'⟩
 keep:=fun i h h' st k=>k it (by simp) _ st
 item:=by
  intro X hP hw hK hc i pins s σ H E I hf st hg
  subst hP hw hK
  obtain⟨f0,f1,f2,f3,f4,f5⟩:=hf it (by simp)
  have W:=Walks.range (prog:=X.prog) (w:=X.w) (I.ok.hd hc) it lo 1 n
  refine W.item i s _ _ hg st fun v h' tk hv st' kk=>?_
  obtain⟨t,rfl⟩:=hv
  have I1:Inv X pins σ H {s with heap:=h',toks:=tk}:=I.turned (fun b o hb e=>kk b o (by simpa using hb) e) f0 f1 f3 f4 f5
  refine⟨_,rfl,mc_ (s:={s with heap:=h',toks:=tk}) (n:="range_iterator") st' rfl rfl (by decide) ⟨.int (lo+i),H,I1,⟨t,?_⟩,⟨rfl,rfl⟩,st',fun b hb=>(hf b hb).1⟩⟩
  rw[Int.mul_one]
 done:=by
  intro X hP hw hK hc i pins s σ H E I hf st hg
  subst hP hw hK
  obtain⟨f0,f1,f2,f3,f4,f5⟩:=hf it (by simp)
  exact wpAny_pyNext_range_end (I.ok.hd hc) st (by have:n<=i:=hg;omega) fun h' eb=>⟨rfl,I.turned (t':=s.toks) (fun b o hb e=>eb b o hb e) f0 f1 f3 f4 f5⟩
 self:=fun _ _ _ _ _ st h=>wpAny_pyIter_rangeiter st h
section
variable{X:Cx}{tg:Expr}
def iList(K:PySem.W.Frag)(tl:TE):TI:=fun σ H R=>tl σ H fun x H1=>∃a,x=.ref a/\(∃xs,SqL K H1 a xs)/\R (Itl K a) H1
theorem M_{l:Expr}{tl:TE}(hl:PE X l tl):PI X tg l (iList X.K tl):=by
 intro pins s σ H R I h
 refine thn (hl pins s σ H _ I h) fun v s1 ⟨x,H1,I1,r1,q1⟩=>?_
 obtain⟨a,e,⟨xs,hq⟩,q⟩:=q1
 subst e
 cases r1
 obtain⟨its,rv,p,hz⟩:=I1.list hq
 refine wpAny_pyIter_list p.isList ?_
 refine⟨s1.heap.objs.size,[s1.heap.objs.size],_,_,H1,rfl,I1.kept (t':=s1.toks) fun b o e=>Heap.get?_push_of_some _ e,kx_ a _,⟨_,Heap.get?_push_size _ rfl,rfl,rfl⟩,fun b hb=>?_,q⟩
 have e:b=s1.heap.objs.size:=by simpa using hb
 subst e
 exact I1.fpOk (Nat.le_refl _) (I1.hok.fresh (Nat.le_refl _))
theorem iM_{pins:List (Addr×Obj)}{σ:St}{H:Hp}{s:Shared}{R:It->Hp->Prop}{E:Value->Shared->Prop}{lo hi:Int}{t u v:Tok}{tk:Nat}(I:Inv X pins σ H s)(h1 : -(2 ^ 62)<=lo)(h2:lo<2 ^ 62)(h3 : -(2 ^ 62)<=hi)(h4:hi<2 ^ 62)
  (q:R (Itr lo (hi-lo).toNat) H):wpAny (model X.prog X.w) X.A (pyIter (.ref s.heap.objs.size)) (PIE X pins σ tg R) E {s with heap:=s.heap.push {cls:=.type "range",data:=.fields #[.int lo t,.int hi u,.int 1 v]},toks:=tk}:=by
 refine wpAny_pyIter_range (IsRange.new ..) (small_one h1 h2 h3 h4) ?_
 have I1:Inv X pins σ H {s with heap:=s.heap.push {cls:=.type "range",data:=.fields #[.int lo t,.int hi u,.int 1 v]},toks:=tk}:=I.kept fun b o e=>Heap.get?_push_of_some _ e
 refine⟨(s.heap.push {cls:=.type "range",data:=.fields #[.int lo t,.int hi u,.int 1 v]}).objs.size,[(s.heap.push {cls:=.type "range",data:=.fields #[.int lo t,.int hi u,.int 1 v]}).objs.size],_,_,H,rfl,
  I1.kept (t':=tk) fun b o e=>Heap.get?_push_of_some _ e,jC_ _ lo (hi-lo).toNat,?_,fun b hb=>?_,q⟩
 ·have e1:lo+((0:Nat):Int)*1=lo:=by simp
  have e2:(((hi-lo).toNat:Nat):Int)-((0:Nat):Int)=Builtin.Range.rangeSize lo hi 1:=by rw[rangeSize_one];split <;> omega
  show IsRangeIter _ _ (lo+((0:Nat):Int)*1) ((((hi-lo).toNat:Nat):Int)-((0:Nat):Int)) 1
  rw[e1,e2]
  exact Heap.get?_push_size _ rfl
 ·have e:b=(s.heap.push {cls:=.type "range",data:=.fields #[.int lo t,.int hi u,.int 1 v]}).objs.size:=by simpa using hb
  subst e
  exact I1.fpOk (Nat.le_refl _) (I1.hok.fresh (Nat.le_refl _))
def iRng1(ta:TA):TI:=fun σ H R=>ta σ H fun vs H1=>∃j:Int,vs=[.int j]/\-(2 ^ 62)<=j/\j<2 ^ 62/\R (Itr 0 j.toNat) H1
def iRng2(ta:TA):TI:=fun σ H R=>ta σ H fun vs H1=>∃i j:Int,vs=[.int i,.int j]/\(-(2 ^ 62)<=i/\i<2 ^ 62/\-(2 ^ 62)<=j/\j<2 ^ 62)/\R (Itr i (j-i).toNat) H1
theorem C_{a:Expr}{ta:TA}{p pos:Pos}(hg:Gl X "range")(hm:X.mg "range"=none)(ha:PA X [a] ta)(hs:starEach [a] X.env=[(false,eval a X.env)]:=by rfl):PI X tg (.Call (.Name "range" p) [a] [] pos) (iRng1 ta):=by
 intro pins s σ H R I h
 refine Call_ (aI_ I hg hm boot_range (PyProof.Rows.callWith_type1 (thn (ha pos pins s σ H _ I h) fun us s1 ⟨vs,H1,I1,r1,q1⟩=>?_) hs rfl))
 obtain⟨j,e,q1,q2,q⟩:=q1
 subst e
 cases r1 with
 | cons r rr =>
  cases rr
  obtain⟨t,rfl⟩:=r
  exact call_range_1 (iM_ I1 (by omega) (by omega) q1 q2 (by simpa using q))
theorem ln_{a b:Expr}{ta:TA}{p pos:Pos}(hg:Gl X "range")(hm:X.mg "range"=none)(ha:PA X [a,b] ta)(hs:starEach [a,b] X.env=[(false,eval a X.env),(false,eval b X.env)]:=by rfl)(hs2:starEach [b] X.env=[(false,eval b X.env)]:=by rfl) :
  PI X tg (.Call (.Name "range" p) [a,b] [] pos) (iRng2 ta):=by
 intro pins s σ H R I h
 refine Call_ (aI_ I hg hm boot_range (PyProof.Rows.callWith_type1 (thn (ha pos pins s σ H _ I h) fun us s1 ⟨vs,H1,I1,r1,q1⟩=>?_) (by rw[hs,hs2]) (by rw[hs2];rfl)))
 obtain⟨i,j,e,⟨q1,q2,q3,q4⟩,q⟩:=q1
 subst e
 cases r1 with
 | cons r rr =>
  cases rr with
  | cons r' rr =>
   cases rr
   obtain⟨t,rfl⟩:=r
   obtain⟨t',rfl⟩:=r'
   exact call_range_2 (iM_ I1 q1 q2 q3 q4 q)
def tFor(wi:TI)(g:TG)(tb:TS):TS:=fun D σ H=>wi σ H fun J H1=>∃W:Nat->Nat->St->Hp->Prop,(∃m,W 0 m σ H1)/\∀i m σ H,W i m σ H->
 (J.stop i H/\D.nx σ H)\/(J.go i H/\∃N:St->Hp->Prop,(∀ σ' H',N σ' H'->∃m',m'<m/\W (i+1) m' σ' H')/\∀x H',J.yld i H x H'->g x σ H' fun σ2 H2=>tb {D with nx:=N,ct:=N,bk:=D.nx} σ2 H2)
def de_(fp:List Addr)(h:Heap):List (Addr×Obj):=fp.filterMap fun b=>(h.get? b).map fun o=>(b,o)
theorem bT_{fp:List Addr}{h:Heap}{b:Addr}{o:Obj}(hb:b∈fp)(e:h.get? b=some o):(b,o)∈de_ fp h:=List.mem_filterMap.mpr ⟨b,hb,by rw[e];rfl⟩
theorem gu_{fp:List Addr}{h:Heap}{p:Addr×Obj}(hp:p∈de_ fp h):p.1∈fp/\h.get? p.1=some p.2:=by
 obtain⟨b,hb,e⟩:=List.mem_filterMap.mp hp
 cases q:h.get? b with
 | none=>rw[q] at e;cases e
 | some o =>
  rw[q] at e
  have e':(b,o)=p:=Option.some.inj e
  subst e'
  exact⟨hb,q⟩
theorem Inv.pinned{pins:List (Addr×Obj)}{σ:St}{H:Hp}{s:Shared}{fp:List Addr}(I:Inv X pins σ H s)(hf:∀b∈fp,FpOk X pins H b)(ho:∀b∈fp,∃o,s.heap.get? b=some o/\∀v,o.data≠.cell v):Inv X (pins++de_ fp s.heap) σ H s :=
 I.pins_of fun p hp=>(List.mem_append.mp hp).elim (fun z=>I.pin p (List.mem_append_right _ z)) fun z=>by
  obtain⟨hb,e⟩:=gu_ z
  obtain⟨f0,f1,f2,_⟩:=hf p.1 hb
  obtain⟨o,e',d⟩:=ho p.1 hb
  rw[e] at e';cases e'
  exact⟨e,f0,f1,f2,d⟩
theorem Inv.unpinned{pins pl:List (Addr×Obj)}{σ:St}{H:Hp}{s:Shared}(I:Inv X (pins++pl) σ H s):Inv X pins σ H s:=I.pins_of fun p hp=>I.pin p (List.mem_append_right _ (List.mem_append_left _ hp))
theorem B_{iter:Expr}{body:List Stmt}{wi:TI}{g:TG}{tb:TS}{pos:Pos}(hp:PassesOwn (model X.prog X.w) X.A X.env X.xe)(hc:X.calm=true)(hi:PI X tg iter wi)(hg:PG X tg g)(hb:PSs X body tb)
  (hs:∀x,foldedSetIterable iter X.env x=pure x:=by intro _;rfl):PS X (.For tg iter body [] pos) (tFor wi g tb):=by
 intro pins s σ H D I h
 refine wpAny_For (thn (hi pins s σ H _ I h) fun v s1 h1=>thn h1 fun itv s2 h2=>?_) hs
 obtain⟨it,fp,tn,J,H2,e,I2,T,st2,f2,W,⟨m0,w0⟩,turn⟩:=h2
 subst e
 have stat:∀ {H':Hp},(∀b∈fp,H' b=none)->∀b∈fp,FpOk X pins H' b:=fun hn b hb=>⟨hn b hb,(f2 b hb).2⟩
 refine codeAny_forLoop_any (fun n s'=>∃i σ' H',Inv X pins σ' H' s'/\tn i s'.heap/\(∀b∈fp,H' b=none)/\W i n σ' H') ?_ m0 ⟨0,σ,H2,I2,st2,fun b hb=>(f2 b hb).1,w0⟩
 rintro n s3 ⟨i,σ3,H3,I3,st3,fr3,w3⟩
 rcases turn i n σ3 H3 w3 with⟨stop,qn⟩ | ⟨go,N,hN,step⟩
 ·refine wpAny_passesOwn hp (thn (T.done X rfl rfl rfl hc i pins s3 σ3 H3 X.xe I3 (stat fr3) st3 stop) fun r s4 ⟨hr,I4⟩=>?_)
  subst hr
  exact wpAny_execs_nil ⟨σ3,H3,I4,qn⟩
 ·refine wpAny_passesOwn hp (thn (T.item X rfl rfl rfl hc i pins s3 σ3 H3 X.xe I3 (stat fr3) st3 go) fun r s4 ⟨u,hr,h4⟩=>?_)
  subst hr
  refine wpAny_passesOwn hp (thn h4 fun _ s5 ⟨x,H5,I5,r5,y5,st5,fr5⟩=>?_)
  have I5':=I5.pinned (stat fr5) (T.obj _ _ st5)
  refine wpAny_passesOwn hp (thn (hg _ s5 σ3 H5 x u _ I5' r5 (step x H5 y5)) fun _ s6 ⟨σ6,H6,I6,q6⟩=>?_)
  refine wpAny_passesOwn hp (thn (hb _ s6 σ6 H6 _ I6 q6) fun f s7 q7=>?_)
  have again:∀ {σ7:St} {H7:Hp},Inv X (pins++de_ fp s5.heap) σ7 H7 s7->N σ7 H7->∃m,m<n/\∃i σ' H',Inv X pins σ' H' s7/\tn i s7.heap/\(∀b∈fp,H' b=none)/\W i m σ' H':=fun {σ7 H7} I7 n7=>by
   obtain⟨m',hm,w7⟩:=hN σ7 H7 n7
   refine⟨m',hm,i+1,σ7,H7,I7.unpinned,T.keep _ _ _ st5 fun b hb o e=>(I7.pin (b,o) (List.mem_append_right _ (List.mem_append_right _ (bT_ hb e)))).1,fun b hb=>?_,w7⟩
   obtain⟨o,e,d⟩:=T.obj _ _ st5 b hb
   exact(I7.pin (b,o) (List.mem_append_right _ (List.mem_append_right _ (bT_ hb e)))).2.1
  cases f with
  | next=>obtain⟨σ7,H7,I7,n7⟩:=q7;exact again I7 n7
  | cont=>obtain⟨σ7,H7,I7,n7⟩:=q7;exact again I7 n7
  | brk=>obtain⟨σ7,H7,I7,q7⟩:=q7;exact⟨σ7,H7,I7.unpinned,q7⟩
  | ret v=>obtain⟨x7,σ7,H7,I7,r7,q7⟩:=q7;exact⟨x7,σ7,H7,I7.unpinned,r7,q7⟩
end
theorem al_{K:PySem.W.Frag}{a:Addr}{xs:List V}{g:TG}{tb:TS}{D:Ends}{σ:St}{H:Hp}(Pv:Nat->St->Hp->Prop)(h0:Pv 0 σ H)(hl:∀i σ H,i<=xs.length->Pv i σ H->SqL K H a xs)
  (hs:∀i x σ H,xs[i]?=some x->Pv i σ H->g x σ H fun σ2 H2=>tb {D with nx:=Pv (i+1),ct:=Pv (i+1),bk:=D.nx} σ2 H2) (hd:∀ σ H,Pv xs.length σ H->D.nx σ H) :
  ∃W:Nat->Nat->St->Hp->Prop,(∃m,W 0 m σ H)/\∀i m σ H,W i m σ H->
   ((Itl K a).stop i H/\D.nx σ H)\/((Itl K a).go i H/\∃N:St->Hp->Prop,(∀ σ' H',N σ' H'->∃m',m'<m/\W (i+1) m' σ' H')/\∀x H',(Itl K a).yld i H x H'->g x σ H' fun σ2 H2=>tb {D with nx:=N,ct:=N,bk:=D.nx} σ2 H2):=by
 refine⟨fun i m σ H=>m=xs.length-i/\i<=xs.length/\Pv i σ H,⟨xs.length,by simp,Nat.zero_le _,h0⟩,?_⟩
 rintro i m σ H ⟨rfl,hi,p⟩
 have q:=hl i σ H hi p
 by_cases hlt:i<xs.length
 ·refine .inr ⟨⟨xs,xs[i],q,by simp[hlt]⟩,Pv (i+1),fun σ' H' p'=>⟨xs.length-(i+1),by omega,rfl,hlt,p'⟩,fun x H' y=>?_⟩
  obtain⟨e,y⟩:=y
  subst e
  exact hs i x σ _ (y xs q) p
 ·have e:i=xs.length:=by omega
  subst e
  exact .inl ⟨⟨xs,q,Nat.le_refl _⟩,hd σ H p⟩
theorem K_{lo:Int}{n:Nat}{g:TG}{tb:TS}{D:Ends}{σ:St}{H:Hp}(Pv:Nat->St->Hp->Prop)(h0:Pv 0 σ H)
  (hs:∀i σ H,i<n->Pv i σ H->g (.int (lo+i)) σ H fun σ2 H2=>tb {D with nx:=Pv (i+1),ct:=Pv (i+1),bk:=D.nx} σ2 H2) (hd:∀ σ H,Pv n σ H->D.nx σ H) :
  ∃W:Nat->Nat->St->Hp->Prop,(∃m,W 0 m σ H)/\∀i m σ H,W i m σ H->
   ((Itr lo n).stop i H/\D.nx σ H)\/((Itr lo n).go i H/\∃N:St->Hp->Prop,(∀ σ' H',N σ' H'->∃m',m'<m/\W (i+1) m' σ' H')/\∀x H',(Itr lo n).yld i H x H'->g x σ H' fun σ2 H2=>tb {D with nx:=N,ct:=N,bk:=D.nx} σ2 H2):=by
 refine⟨fun i m σ H=>m=n-i/\i<=n/\Pv i σ H,⟨n,by simp,Nat.zero_le _,h0⟩,?_⟩
 rintro i m σ H ⟨rfl,hi,p⟩
 by_cases hlt:i<n
 ·refine .inr ⟨hlt,Pv (i+1),fun σ' H' p'=>⟨n-(i+1),by omega,rfl,hlt,p'⟩,fun x H' y=>?_⟩
  obtain⟨e,y⟩:=y
  subst e y
  exact hs i σ _ hlt p
 ·have e:i=n:=by omega
  subst e
  exact .inl ⟨Nat.le_refl _,hd σ H p⟩
abbrev R2:=V->V->Hp->VK->Prop
def OpR(X:Cx)(f:Value->Value->Sem Value)(r:R2):Prop :=
 ∀(pins:List (Addr×Obj)) (s:Shared) (σ:St) (H:Hp) (x y:V) (v u:Value) (Q:VK),Inv X pins σ H s->RelV x v->RelV y u->r x y H Q->
  wpAny (model X.prog X.w) X.A (f v u) (EP X pins σ Q) X.xe s
def UnR(X:Cx)(f:Value->Sem Value)(r:V->Hp->VK->Prop):Prop :=
 ∀(pins:List (Addr×Obj)) (s:Shared) (σ:St) (H:Hp) (x:V) (v:Value) (Q:VK),Inv X pins σ H s->RelV x v->r x H Q->
  wpAny (model X.prog X.w) X.A (f v) (EP X pins σ Q) X.xe s
def CallR(X:Cx)(f:Value)(r:List V->Hp->VK->Prop):Prop :=
 ∀(pins:List (Addr×Obj)) (s:Shared) (σ:St) (H:Hp) (xs:List V) (us:List Value) (Q:VK),Inv X pins σ H s->Vals xs us->r xs H Q->
  wpAny (model X.prog X.w) X.A (call f us) (EP X pins σ Q) X.xe s
def tOp(r:R2)(ta tb:TE):TE:=fun σ H Q=>ta σ H fun x H1=>tb σ H1 fun y H2=>r x y H2 Q
def tUn(r:V->Hp->VK->Prop)(ta:TE):TE:=fun σ H Q=>ta σ H fun x H1=>r x H1 Q
def rI(C:Int->Int->Prop)(g:Int->Int->V):R2:=fun x y H Q=>∃i j,x=.int i/\y=.int j/\C i j/\Q (g i j) H
def rI0(g:Int->Int->V):R2:=fun x y H Q=>∃i j,x=.int i/\y=.int j/\Q (g i j) H
def rU(g:Int->V):V->Hp->VK->Prop:=fun x H Q=>∃i,x=.int i/\Q (g i) H
section
variable{X:Cx}{a b c:Expr}{ta tb tc:TE}{pos:Pos}
theorem binT(ha:PE X a ta)(hb:PE X b tb){pins:List (Addr×Obj)}{s:Shared}{σ:St}{H:Hp}{R:V->V->Hp->Prop}(I:Inv X pins σ H s)
  (h:ta σ H fun x H1=>tb σ H1 fun y H2=>R x y H2) {Q:Value->Shared->Prop} {f:Value->Value->Sem Value}
  (hf:∀v u s2 x y H2,Inv X pins σ H2 s2->RelV x v->RelV y u->R x y H2->wpAny (model X.prog X.w) X.A (f v u) Q X.xe s2) :
  wpAny (model X.prog X.w) X.A (eval a X.env) (fun v s₁=>wpAny (model X.prog X.w) X.A (eval b X.env) (fun u s₂=>wpAny (model X.prog X.w) X.A (f v u) Q X.xe s₂) X.xe s₁) X.xe s:=by
 refine thn (ha pins s σ H _ I h) fun v s1 ⟨x,H1,I1,r1,q1⟩=>?_
 refine thn (hb pins s1 σ H1 _ I1 q1) fun u s2 ⟨y,H2,I2,r2,q2⟩=>?_
 exact hf v u s2 x y H2 I2 r1 r2 q2
theorem l_{op:Operator}{r:R2}(ho:OpR X (binaryOp op) r)(ha:PE X a ta)(hb:PE X b tb):PE X (.BinOp a op b pos) (tOp r ta tb):=by
 intro pins s σ H Q I h
 exact wpAny_BinOp (binT ha hb I h fun v u s2 x y H2 I2 rx ry q=>ho pins s2 σ H2 x y v u Q I2 rx ry q)
theorem hD_{op:UnaryOp}{r:V->Hp->VK->Prop}(ho:UnR X (unaryOp op) r)(ha:PE X a ta):PE X (.UnaryOp op a pos) (tUn r ta):=by
 intro pins s σ H Q I h
 exact UnaryOp_ (thn (ha pins s σ H _ I h) fun v s1 ⟨x,H1,I1,r1,q1⟩=>ho pins s1 σ H1 x v Q I1 r1 q1)
theorem opI{f:Value->Value->Sem Value}{C:Int->Int->Prop}{g:Int->Int->Int}
  (rule:∀(i j:Int) (t u:Tok) (s:Shared) (Q:Value->Shared->Prop) (E:Value->Shared->Prop),C i j->Q (.int (g i j) s.toks) {s with toks:=s.toks+1}->wpAny (model X.prog X.w) X.A (f (.int i t) (.int j u)) Q E s) :
  OpR X f (rI C fun i j=>.int (g i j)):=by
 intro pins s σ H x y v u Q I rx ry h
 obtain⟨i,j,rfl,rfl,hc,q⟩:=h
 obtain⟨t,rfl⟩:=rx
 obtain⟨t',rfl⟩:=ry
 exact rule i j t t' s _ _ hc ⟨.int (g i j),H,I.tok _,⟨_,rfl⟩,q⟩
theorem opI0{f:Value->Value->Sem Value}{g:Int->Int->Int}
  (rule:∀(i j:Int) (t u:Tok) (s:Shared) (Q:Value->Shared->Prop) (E:Value->Shared->Prop),Q (.int (g i j) s.toks) {s with toks:=s.toks+1}->wpAny (model X.prog X.w) X.A (f (.int i t) (.int j u)) Q E s) :
  OpR X f (rI0 fun i j=>.int (g i j)):=by
 intro pins s σ H x y v u Q I rx ry h
 obtain⟨i,j,rfl,rfl,q⟩:=h
 obtain⟨t,rfl⟩:=rx
 obtain⟨t',rfl⟩:=ry
 exact rule i j t t' s _ _ ⟨.int (g i j),H,I.tok _,⟨_,rfl⟩,q⟩
theorem opB0{f:Value->Value->Sem Value}{g:Int->Int->Bool}
  (rule:∀(i j:Int) (t u:Tok) (s:Shared) (Q:Value->Shared->Prop) (E:Value->Shared->Prop),Q (.bool (g i j)) s->wpAny (model X.prog X.w) X.A (f (.int i t) (.int j u)) Q E s) :
  OpR X f (rI0 fun i j=>.bl (g i j)):=by
 intro pins s σ H x y v u Q I rx ry h
 obtain⟨i,j,rfl,rfl,q⟩:=h
 obtain⟨t,rfl⟩:=rx
 obtain⟨t',rfl⟩:=ry
 exact rule i j t t' s _ _ ⟨.bl (g i j),H,I,rfl,q⟩
def CDiv(i j:Int):Prop:=0<j/\j<1073741824
def CPow(i j:Int):Prop:=0<=j/\j<=1000000/\i.natAbs<2 ^ 64
def CMul(i j:Int):Prop:=(-(2 ^ 64)<i/\i<2 ^ 64)\/(-(2 ^ 64)<j/\j<2 ^ 64)
theorem CMul.ok{i j:Int}(h:CMul i j):IntMulOk i j:=by
 rcases h with⟨h1,h2⟩ | ⟨h1,h2⟩
 ·exact .of_left (intBits_le_64 h1 h2)
 ·exact .of_right (intBits_le_64 h1 h2)
theorem r_:OpR X (binaryOp .Add) (rI0 fun i j=>.int (i+j)):=opI0 fun _ _ _ _ _ _ _ q=>add_int q
theorem Q_:OpR X (binaryOp .Sub) (rI0 fun i j=>.int (i-j)):=opI0 fun _ _ _ _ _ _ _ q=>sub_int q
theorem F_:OpR X (binaryOp .Mult) (rI CMul fun i j=>.int (i*j)):=opI fun _ _ _ _ _ _ _ hc q=>mul_int q hc.ok
theorem bf_:OpR X (binaryOp .FloorDiv) (rI CDiv fun i j=>.int (i / j)):=opI fun i j _ _ _ _ _ hc q=>by
 have h1:(0:Int)<j:=hc.1
 have h2:j<1073741824:=hc.2
 exact floordiv_int (by omega) (by rw[Int.fdiv_eq_ediv_of_nonneg i (by omega)];exact q) (.inl (PyProof.noPylong_small (by omega)))
theorem I_:OpR X (binaryOp .Mod) (rI (fun _ j=>0<j) fun i j=>.int (i % j)):=opI fun i j _ _ _ _ _ hc q=>by
 have h1:(0:Int)<j:=hc
 exact mod_int' (by omega) (by rw[Int.fmod_eq_emod_of_nonneg i (by omega)];exact q)
theorem pZ_:OpR X (binaryOp .Pow) (rI CPow fun i j=>.int (i ^ j.toNat)):=opI fun _ _ _ _ _ _ _ hc q=>pow_int_small hc.1 hc.2.1 hc.2.2 q
theorem unI{f:Value->Sem Value}{g:Int->Int}
  (rule:∀(i:Int) (t:Tok) (s:Shared) (Q:Value->Shared->Prop) (E:Value->Shared->Prop),Q (.int (g i) s.toks) {s with toks:=s.toks+1}->wpAny (model X.prog X.w) X.A (f (.int i t)) Q E s) :
  UnR X f (rU fun i=>.int (g i)):=by
 intro pins s σ H x v Q I rx h
 obtain⟨i,rfl,q⟩:=h
 obtain⟨t,rfl⟩:=rx
 exact rule i t s _ _ ⟨.int (g i),H,I.tok _,⟨_,rfl⟩,q⟩
theorem du_:UnR X (unaryOp .USub) (rU fun i=>.int (-i)):=unI fun _ _ _ _ _ q=>neg_int q
end
def scal:V->V->Bool
 | .non,.non=>true | .non,.int _=>true | .int _,.non=>true | .non,.bl _=>true | .bl _,.non=>true | .non,.str _=>true | .str _,.non=>true
 | .int _,.int _=>true | .bl _,.bl _=>true | .str _,.str _=>true | .byt _,.byt _=>true
 | .int _,.str _=>true | .str _,.int _=>true | .bl _,.str _=>true | .str _,.bl _=>true
 | _,_=>false
def rEq:R2:=fun x y H Q=>scal x y=true/\Q (.bl (decide (x=y))) H
def rNe:R2:=fun x y H Q=>scal x y=true/\Q (.bl (!decide (x=y))) H
theorem mr_{i j:Int}:decide (V.int i=V.int j)=(i==j):=by
 rw[Bool.eq_iff_iff]
 simp
theorem oo_{i j:Bool}:decide (V.bl i=V.bl j)=(i==j):=by
 rw[Bool.eq_iff_iff]
 simp
theorem mq_{i j:Str}:decide (V.str i=V.str j)=(i==j):=by
 rw[Bool.eq_iff_iff]
 simp
theorem ms_{i j:Array UInt8}:decide (V.byt i=V.byt j)=(i.toList==j.toList):=by
 rw[Bool.eq_iff_iff]
 cases i
 cases j
 simp
section
variable{X:Cx}{a b c:Expr}{ta tb tc:TE}{pos:Pos}
theorem J_{pins:List (Addr×Obj)}{σ:St}{H:Hp}{s:Shared}{Q:VK}{k k':Bool}(I:Inv X pins σ H s)(q:Q (.bl k) H)(e:k=k'):EP X pins σ Q (.bool k') s:=by
 subst e
 exact⟨.bl k,H,I,rfl,q⟩
theorem ls_:OpR X (compareOp .Eq) rEq:=by
 intro pins s σ H x y v u Q I rx ry h
 obtain⟨hs,q⟩:=h
 cases x with
 | non =>
  cases rx
  cases y with
  | non=>cases ry;exact PySem.EqNone.eq_none_none (J_ I q (by simp))
  | bl j=>cases ry;exact PySem.EqNone.eq_none_bool (J_ I q (by simp))
  | int j=>obtain⟨t',rfl⟩:=ry;exact PySem.EqNone.eq_none_int (J_ I q (by simp))
  | str j=>obtain⟨t',rfl⟩:=ry;exact PySem.EqNone.eq_none_str (J_ I q (by simp))
  | _=>exact absurd (show false=true from hs) Bool.false_ne_true
 | bl i =>
  cases rx
  cases y with
  | non=>cases ry;exact PySem.EqNone.eq_bool_none (J_ I q (by simp))
  | bl j=>cases ry;exact eq_bool (J_ I q oo_)
  | str j=>obtain⟨t',rfl⟩:=ry;exact PySem.EqMixed.eq_bool_str (J_ I q (by simp))
  | _=>exact absurd (show false=true from hs) Bool.false_ne_true
 | int i =>
  obtain⟨t,rfl⟩:=rx
  cases y with
  | non=>cases ry;exact PySem.EqNone.eq_int_none (J_ I q (by simp))
  | int j=>obtain⟨t',rfl⟩:=ry;exact eq_int (J_ I q mr_)
  | str j=>obtain⟨t',rfl⟩:=ry;exact PySem.EqMixed.eq_int_str (J_ I q (by simp))
  | _=>exact absurd (show false=true from hs) Bool.false_ne_true
 | str i =>
  obtain⟨t,rfl⟩:=rx
  cases y with
  | non=>cases ry;exact PySem.EqNone.eq_str_none (J_ I q (by simp))
  | bl j=>cases ry;exact PySem.EqMixed.eq_str_bool (J_ I q (by simp))
  | int j=>obtain⟨t',rfl⟩:=ry;exact PySem.EqMixed.eq_str_int (J_ I q (by simp))
  | str j=>obtain⟨t',rfl⟩:=ry;exact eq_str (J_ I q mq_)
  | _=>exact absurd (show false=true from hs) Bool.false_ne_true
 | byt i =>
  obtain⟨t,rfl⟩:=rx
  cases y with
  | byt j=>obtain⟨t',rfl⟩:=ry;exact PySem.W.eq_bytes (J_ I q ms_)
  | _=>exact absurd (show false=true from hs) Bool.false_ne_true
 | _=>cases y <;> exact absurd (show false=true from hs) Bool.false_ne_true
theorem el_:OpR X (compareOp .NotEq) rNe:=by
 intro pins s σ H x y v u Q I rx ry h
 obtain⟨hs,q⟩:=h
 cases x with
 | non =>
  cases rx
  cases y with
  | non=>cases ry;exact PySem.EqNone.ne_none_none (J_ I q (by simp))
  | bl j=>cases ry;exact PySem.EqNone.ne_none_bool (J_ I q (by simp))
  | int j=>obtain⟨t',rfl⟩:=ry;exact PySem.EqNone.ne_none_int (J_ I q (by simp))
  | str j=>obtain⟨t',rfl⟩:=ry;exact PySem.EqNone.ne_none_str (J_ I q (by simp))
  | _=>exact absurd (show false=true from hs) Bool.false_ne_true
 | bl i =>
  cases rx
  cases y with
  | non=>cases ry;exact PySem.EqNone.ne_bool_none (J_ I q (by simp))
  | bl j=>cases ry;exact ne_bool (J_ I q (congrArg not oo_))
  | str j=>obtain⟨t',rfl⟩:=ry;exact PySem.EqMixed.ne_bool_str (J_ I q (by simp))
  | _=>exact absurd (show false=true from hs) Bool.false_ne_true
 | int i =>
  obtain⟨t,rfl⟩:=rx
  cases y with
  | non=>cases ry;exact PySem.EqNone.ne_int_none (J_ I q (by simp))
  | int j=>obtain⟨t',rfl⟩:=ry;exact ne_int (J_ I q (congrArg not mr_))
  | str j=>obtain⟨t',rfl⟩:=ry;exact PySem.EqMixed.ne_int_str (J_ I q (by simp))
  | _=>exact absurd (show false=true from hs) Bool.false_ne_true
 | str i =>
  obtain⟨t,rfl⟩:=rx
  cases y with
  | non=>cases ry;exact PySem.EqNone.ne_str_none (J_ I q (by simp))
  | bl j=>cases ry;exact PySem.EqMixed.ne_str_bool (J_ I q (by simp))
  | int j=>obtain⟨t',rfl⟩:=ry;exact PySem.EqMixed.ne_str_int (J_ I q (by simp))
  | str j=>obtain⟨t',rfl⟩:=ry;exact ne_str (J_ I q (congrArg not mq_))
  | _=>exact absurd (show false=true from hs) Bool.false_ne_true
 | byt i =>
  obtain⟨t,rfl⟩:=rx
  cases y with
  | byt j=>obtain⟨t',rfl⟩:=ry;exact PySem.W.ne_bytes (J_ I q (congrArg not ms_))
  | _=>exact absurd (show false=true from hs) Bool.false_ne_true
 | _=>cases y <;> exact absurd (show false=true from hs) Bool.false_ne_true
theorem oV_:OpR X (compareOp .Lt) (rI0 fun i j=>.bl (decide (i<j))):=opB0 fun _ _ _ _ _ _ _ q=>lt_int q
theorem gh_:OpR X (compareOp .LtE) (rI0 fun i j=>.bl (decide (i<=j))):=opB0 fun _ _ _ _ _ _ _ q=>le_int q
theorem lr_:OpR X (compareOp .Gt) (rI0 fun i j=>.bl (decide (j<i))):=opB0 fun _ _ _ _ _ _ _ q=>gt_int q
theorem oW_:OpR X (compareOp .GtE) (rI0 fun i j=>.bl (decide (j<=i))):=opB0 fun _ _ _ _ _ _ _ q=>ge_int q
theorem qb_:OpR X (compareOp .Is) (fun x y H Q=>y=.non/\Q (.bl (decide (x=.non))) H):=by
 intro pins s σ H x y v u Q I rx ry h
 obtain⟨rfl,q⟩:=h
 cases ry
 refine is_none_gen (J_ I q ?_)
 cases x <;> first
  | (cases rx;rfl)
  | (obtain⟨t,rfl⟩:=rx;rfl)
theorem oT_:OpR X (compareOp .IsNot) (fun x y H Q=>y=.non/\Q (.bl (!decide (x=.non))) H):=by
 intro pins s σ H x y v u Q I rx ry h
 obtain⟨rfl,q⟩:=h
 cases ry
 refine isnot_none_gen (J_ I q ?_)
 cases x <;> first
  | (cases rx;rfl)
  | (obtain⟨t,rfl⟩:=rx;rfl)
theorem nomark(b:Expr){op:CmpOp}(h:op≠.In:=by decide)(h2:op≠.NotIn:=by decide):behindInMarks op b=false:=by
 have e1:(op==CmpOp.In)=false:=by cases op <;> first | rfl | exact absurd rfl h
 have e2:(op==CmpOp.NotIn)=false:=by cases op <;> first | rfl | exact absurd rfl h2
 cases b <;> simp[behindInMarks,e1,e2]
theorem fw_{op:CmpOp}{r:R2}(ho:OpR X (compareOp op) r)(ha:PE X a ta)(hb:PE X b tb)(hm:behindInMarks op b=false):PE X (.Compare a [op] [b] pos) (tOp r ta tb):=by
 intro pins s σ H Q I h
 exact wpAny_Compare1 (binT ha hb I h fun v u s2 x y H2 I2 rx ry q=>ho pins s2 σ H2 x y v u Q I2 rx ry q) hm
def tTest(t:TE):TT:=fun σ H Q=>t σ H fun x H'=>∃k,x=.bl k/\Q k H'
theorem E_{op:CmpOp}{r:R2}(ho:OpR X (compareOp op) r)(ha:PE X a ta)(hb:PE X b tb)(hm:behindInMarks op b=false):PT X (.Compare a [op] [b] pos) (tTest (tOp r ta tb)):=by
 intro pins s σ H Q I h
 refine wpAny_isTrue_Compare1 (thn (ha pins s σ H _ I h) fun v s1 ⟨x,H1,I1,r1,q1⟩=>thn (hb pins s1 σ H1 _ I1 q1) fun u s2 ⟨y,H2,I2,r2,q2⟩ =>
  thn (ho pins s2 σ H2 x y v u _ I2 r1 r2 q2) fun c s3 ⟨z,H3,I3,r3,k,e,q3⟩=>?_) hm
 subst e
 cases r3
 exact wpAny_truthy_bool ⟨H3,I3,q3⟩
def nY_(r r':R2)(ta tb tc:TE):TE:=fun σ H Q=>ta σ H fun x H1=>tb σ H1 fun y H2=>r x y H2 fun z H3=>∃k,z=.bl k/\
 (if k=true then tc σ H3 fun w' H4=>r' y w' H4 Q else Q (.bl false) H3)
theorem iY_{op op':CmpOp}{r r':R2}(ho:OpR X (compareOp op) r)(ho':OpR X (compareOp op') r')(ha:PE X a ta)(hb:PE X b tb)(hc:PE X c tc)
  (hm:lastMarks [op,op'] [b,c]=false:=by with_unfolding_all rfl):PE X (.Compare a [op,op'] [b,c] pos) (nY_ r r' ta tb tc):=by
 intro pins s σ H Q I h
 refine Compare_chain (thn (ha pins s σ H _ I h) fun v s1 ⟨x,H1,I1,r1,q1⟩=>chain_link (thn (hb pins s1 σ H1 _ I1 q1) fun u s2 ⟨y,H2,I2,r2,q2⟩ =>
  thn (ho pins s2 σ H2 x y v u _ I2 r1 r2 q2) fun d s3 ⟨z,H3,I3,r3,k,e,q3⟩=>?_)) hm
 subst e
 cases r3
 refine wpAny_truthy_bool ?_
 cases k with
 | false=>exact ite_ff ⟨.bl false,H3,I3,rfl,q3⟩
 | true=>exact ite_tt (chain_last (thn (hc pins s3 σ H3 _ I3 q3) fun w' s4 ⟨z',H4,I4,r4,q4⟩=>ho' pins s4 σ H4 y z' u w' Q I4 r2 r4 q4))
theorem iO_{op op':CmpOp}{r r':R2}(ho:OpR X (compareOp op) r)(ho':OpR X (compareOp op') r')(ha:PE X a ta)(hb:PE X b tb)(hc:PE X c tc)
  (hm:lastMarks [op,op'] [b,c]=false:=by with_unfolding_all rfl):PT X (.Compare a [op,op'] [b,c] pos) (tTest (nY_ r r' ta tb tc)):=by
 intro pins s σ H Q I h
 refine isTrue_chain (thn (ha pins s σ H _ I h) fun v s1 ⟨x,H1,I1,r1,q1⟩=>test_link (thn (hb pins s1 σ H1 _ I1 q1) fun u s2 ⟨y,H2,I2,r2,q2⟩ =>
  thn (ho pins s2 σ H2 x y v u _ I2 r1 r2 q2) fun d s3 ⟨z,H3,I3,r3,k,e,q3⟩=>?_)) hm
 subst e
 cases r3
 refine wpAny_truthy_bool ?_
 cases k with
 | false =>
  obtain⟨k',e',q'⟩:=q3
  cases e'
  exact ite_ff ⟨H3,I3,q'⟩
 | true =>
  refine ite_tt (test_last (thn (hc pins s3 σ H3 _ I3 q3) fun w' s4 ⟨z',H4,I4,r4,q4⟩=>thn (ho' pins s4 σ H4 y z' u w' _ I4 r2 r4 q4) fun d' s5 ⟨z2,H5,I5,r5,k2,e2,q5⟩=>?_))
  subst e2
  cases r5
  exact wpAny_truthy_bool ⟨H5,I5,q5⟩
theorem line63:(sizeLine:Nat)<2 ^ 63:=by rw[sizeLine_eq];decide
theorem vals1{x:V}{us:List Value}(r:Vals [x] us):∃u,us=[u]/\RelV x u:=by
 cases r with
 | cons r1 r2=>cases r2;exact⟨_,rfl,r1⟩
theorem vals2{x y:V}{us:List Value}(r:Vals [x,y] us):∃u w',us=[u,w']/\RelV x u/\RelV y w':=by
 cases r with
 | cons r1 r2 =>
  cases r2 with
  | cons r3 r4=>cases r4;exact⟨_,_,rfl,r1,r3⟩
theorem nQ_:CallR X (.builtin "abs") (fun xs H Q=>∃i,xs=[.int i]/\Q (.int (if i<0 then -i else i)) H):=by
 intro pins s σ H xs us Q I r h
 obtain⟨i,rfl,q⟩:=h
 obtain⟨u,rfl,t,rfl⟩:=vals1 r
 exact call_abs_int fun u tk=>⟨.int (if i<0 then -i else i),H,I.tok _,⟨_,rfl⟩,q⟩
theorem mE_(hc:X.calm=true):CallR X (.builtin "max") (fun xs H Q=>∃i j,xs=[.int i,.int j]/\Q (.int (if j>i then j else i)) H):=by
 intro pins s σ H xs us Q I r h
 obtain⟨i,j,rfl,q⟩:=h
 obtain⟨u,w',rfl,⟨t,rfl⟩,⟨t',rfl⟩⟩:=vals2 r
 refine max_two_ints (I.ok.hd hc) fun h' tk k=>⟨_,H,I.kept k,?_,q⟩
 by_cases hj:j>i
 ·rw[if_pos hj,if_pos hj];exact⟨_,rfl⟩
 ·rw[if_neg hj,if_neg hj];exact⟨_,rfl⟩
theorem eb_(hc:X.calm=true):CallR X (.builtin "min") (fun xs H Q=>∃i j,xs=[.int i,.int j]/\Q (.int (if j<i then j else i)) H):=by
 intro pins s σ H xs us Q I r h
 obtain⟨i,j,rfl,q⟩:=h
 obtain⟨u,w',rfl,⟨t,rfl⟩,⟨t',rfl⟩⟩:=vals2 r
 refine min_two_ints (I.ok.hd hc) fun h' tk k=>⟨_,H,I.kept k,?_,q⟩
 by_cases hj:j<i
 ·rw[if_pos hj,if_pos hj];exact⟨_,rfl⟩
 ·rw[if_neg hj,if_neg hj];exact⟨_,rfl⟩
theorem mF_:CallR X (.type "int") (fun xs H Q=>(∃i,xs=[.int i]/\Q (.int i) H)\/∃k,xs=[.bl k]/\Q (.int (if k then 1 else 0)) H):=by
 intro pins s σ H xs us Q I r h
 rcases h with⟨i,rfl,q⟩ | ⟨k,rfl,q⟩
 ·obtain⟨u,rfl,t,rfl⟩:=vals1 r
  exact call_int_int ⟨.int i,H,I,⟨_,rfl⟩,q⟩
 ·obtain⟨u,rfl,r1⟩:=vals1 r
  cases r1
  exact call_int_bool ⟨.int (if k then 1 else 0),H,I.tok _,⟨_,rfl⟩,q⟩
end
structure ObjM(h:Heap)(x dx C:Addr)(mA:Str->Option Value):Prop where
 obj:h.get? x=some (PySem.W.instObj C dx)
 ns:h.Ns1 dx mA
 ne:dx≠x
theorem lP_{h:Heap}{dx:Addr}{mA:Str->Option Value}(n:h.Ns1 dx mA):∃od,h.get? dx=some od/\∀name,PySem.W.lookIn name od=some (mA name):=by
 obtain⟨o,es,ep,ho,hd,hk,_,hm⟩:=n
 refine⟨o,ho,fun name=>?_⟩
 have e:=hm name
 unfold nsFind findBy at e
 rw[<-Array.find?_toList] at e
 unfold PySem.W.lookIn
 rw[hd]
 dsimp only
 split
 ·rename_i y q
  rw[q] at e
  exact congrArg some e
 ·rename_i q
  rw[q] at e
  have a:es.toList.any (·.refKey)=false:=by
   rw[List.any_eq_false]
   intro y hy
   obtain⟨z,t,hkey⟩:=hk y (Array.mem_toList_iff.mp hy)
   simp[DictEntry.refKey,hkey]
  have a':¬ es.toList.any (·.refKey)=true:=by rw[a];exact Bool.false_ne_true
  rw[if_neg a']
  exact congrArg some e
theorem ObjM.look{h:Heap}{x dx C:Addr}{mA:Str->Option Value}(I:ObjM h x dx C mA):∃od,PySem.W.InstAt h x (PySem.W.instObj C dx) C (some od)/\∀name,PySem.W.lookIn name od=some (mA name) :=
 let ⟨od,ho,hl⟩:=lP_ I.ns
 ⟨od,⟨I.obj,rfl,rfl,ho⟩,hl⟩
section
variable{prog:Program}{w:World}{A:Around}{E:Value->Shared->Prop}{s:Shared}{K:PySem.W.Frag}{x dx C f:Addr}{mA:Str->Option Value}{name:Str}{v:Value}
end
theorem RelO.some_of{v:V}{o:Option Value}(r:RelO (some v) o):∃u,o=some u/\RelV v u:=by
 cases o with
 | none=>exact(show False from r).elim
 | some u=>exact⟨u,rfl,r⟩
section
variable{P:Program}{w:World}{H H':Hp}{h h':Heap}{a C dx:Addr}{fs fs':List (Str×V)}
theorem pk_(hok:HOk P w H h)(e:H a=some (.ins C dx fs)):∃mA,ObjM h a dx C mA/\(∀f,RelO (fs.lookup f) (mA f))/\PySem.Within mA (fs.map (·.1))/\fs.length<=1000/\H dx=some (.own a):=by
 obtain⟨d,z,ne,ob,mA,n,r,q⟩:=(show ObjOk P w H h a (.ins C dx fs) from hok a _ e)
 exact⟨mA,⟨ob,n,ne⟩,r,q,z,d⟩
end
structure Cls(K:PySem.W.Frag)(C:Addr):Prop where
 pg:PySem.W.plainGet K C Str.empty=true
 hd:PySem.W.hasDictIn K C=true
 po:PySem.W.plainOver K C=true
 sa:PySem.W.findIn K (.ref C) "__setattr__"=some (some (.builtin "object.__setattr__"))
theorem Cls.get{K:PySem.W.Frag}{C:Addr}(c:Cls K C)(f:Str):PySem.W.plainGet K C f=true:=c.pg
section
variable{X:Cx}{pins:List (Addr×Obj)}{σ:St}{H:Hp}{s:Shared}{a C dx:Addr}{fs:List (Str×V)}{f:Str}{v:V}{A:Around}{E:Value->Shared->Prop}
end
section
variable{X:Cx}{o e value:Expr}{f:Str}{pos pos' tpos:Pos}{ta tv:TE}
end
section
variable{X:Cx}{pins:List (Addr×Obj)}{σ:St}{H:Hp}{s:Shared}{A:Around}{E:Value->Shared->Prop}{Q:Value->Shared->Prop}{c:Value}{b:Bool}
inductive TyOf(K:PySem.W.Frag)(H:Hp):V->Value->Prop where
 | non:TyOf K H .non (.type "NoneType")
 | bl (x:Bool):TyOf K H (.bl x) (.type "bool")
 | int (i:Int):TyOf K H (.int i) (.type "int")
 | str (x:Str):TyOf K H (.str x) (.type "str")
 | flt (x:UInt64):TyOf K H (.flt x) (.type "float")
 | lst {a:Addr} {xs:List V} (e:H a=some (.lst xs)):TyOf K H (.ref a) (.type "list")
 | frz {a:Addr} {o:Obj} {xs:List V} (e:H a=some (.frz o (.lst xs))):TyOf K H (.ref a) (.type "list")
 | tup {a:Addr} {xs:List V} (e:H a=some (.tup xs)):TyOf K H (.ref a) (.type "tuple")
 | dK {a:Addr} {kvs:List (Key×V)} (e:H a=some (.dK kvs)):TyOf K H (.ref a) (.type "dict")
 | dT {a:Addr} {kvs:List (List Key×V)} (e:H a=some (.dT kvs)):TyOf K H (.ref a) (.type "dict")
 | ins {a C dx:Addr} {fs:List (Str×V)} (e:H a=some (.ins C dx fs)) (cl:Cls K C) (ha:PySem.W.findIn K (.ref C) "__class__"=some (some (.builtin "object.__class__")))
   (hn:PySem.W.specialIn K (.builtin "object.__class__") "__get__"=some (some (.builtin "getset_descriptor.__get__"))) (htk:PySem.W.takesIn K (.builtin "object.__class__")=some true)
   (hm:PySem.W.mroIn K C (.type "object")=some true):TyOf K H (.ref a) (.ref C)
theorem lW_{x:V}{u t:Value}(I:Inv X pins σ H s)(rx:RelV x u)(ty:TyOf X.K H x t)(e:PySem.W.kitOne X.K t c=some b)(h:∀tk,Q (.bool b) {s with toks:=tk}) :
  wpAny (model X.prog X.w) A (call (.builtin "isinstance") [u,c]) Q E s:=by
 cases ty with
 | non=>cases (show u=Value.none from rx);exact PySem.W.kia_one PySem.W.kitx_none I.kIn True.intro e (fun z=>nomatch z) h
 | bl y=>cases (show u=Value.bool y from rx);exact PySem.W.kia_one PySem.W.kitx_bool I.kIn True.intro e (fun z=>nomatch z) h
 | int i=>obtain⟨t,q⟩:=(show ∃t,u=Value.int i t from rx);cases q;exact PySem.W.kia_one PySem.W.kitx_int I.kIn True.intro e (fun z=>nomatch z) h
 | str y=>obtain⟨t,q⟩:=(show ∃t,u=Value.str y t from rx);cases q;exact PySem.W.kia_one PySem.W.kitx_str I.kIn True.intro e (fun z=>nomatch z) h
 | flt y=>obtain⟨t,q⟩:=(show ∃t,u=Value.float y t from rx);cases q;exact PySem.W.kia_one PySem.W.kitx_float I.kIn True.intro e (fun z=>nomatch z) h
 | @lst a xs ea =>
  cases (show u=Value.ref a from rx)
  obtain⟨_,_,n,_,h1⟩:=(show ObjOk X.prog X.w H s.heap a (.lst xs) from I.hok a _ ea)
  exact PySem.W.kia_one PySem.W.kitx_list I.kIn ⟨_,h1,rfl⟩ e (fun z=>nomatch z) h
 | @frz a ob xs ea =>
  cases (show u=Value.ref a from rx)
  obtain⟨_,_,_,n,_,h1⟩:=(show ObjOk X.prog X.w H s.heap a (.frz ob (.lst xs)) from I.hok a _ ea)
  exact PySem.W.kia_one PySem.W.kitx_list I.kIn ⟨_,h1,rfl⟩ e (fun z=>nomatch z) h
 | @tup a xs ea =>
  cases (show u=Value.ref a from rx)
  obtain⟨_,_,_,p⟩:=(show ObjOk X.prog X.w H s.heap a (.tup xs) from I.hok a _ ea)
  obtain⟨o,h1,h2,_⟩:=p
  exact PySem.W.kia_one PySem.W.kitx_tuple I.kIn ⟨o,h1,h2⟩ e (fun z=>nomatch z) h
 | @dK a kvs ea =>
  cases (show u=Value.ref a from rx)
  obtain⟨_,_,vs,_,p⟩:=(show ObjOk X.prog X.w H s.heap a (.dK kvs) from I.hok a _ ea)
  obtain⟨o,es,ep,h1,h2,_⟩:=p
  exact PySem.W.kia_one PySem.W.kitx_dict I.kIn ⟨o,h1,h2.1⟩ e (fun z=>nomatch z) h
 | @dT a kvs ea =>
  cases (show u=Value.ref a from rx)
  obtain⟨_,_,xs,_,o,es,ep,h1,h2,_⟩:=(show ObjOk X.prog X.w H s.heap a (.dT kvs) from I.hok a _ ea)
  exact PySem.W.kia_one PySem.W.kitx_dict I.kIn ⟨o,h1,h2.1⟩ e (fun z=>nomatch z) h
 | @ins a C dx fs ea cl ha hn htk hm =>
  cases (show u=Value.ref a from rx)
  obtain⟨mA,O,_⟩:=pk_ I.hok ea
  obtain⟨od,J,_⟩:=O.look
  exact PySem.W.kia_one (PySem.W.kitx_own (cl.get _) cl.hd ha hn htk hm) I.kIn J e (fun z=>nomatch z) h
end
structure Room(k:Nat)(A:Around):Prop where
 hd:A.handled=none
 dp:A.depth+3*k+5<recursionLimit
 un:A.units+16*k+200<cLine
 gd:A.guards=some []
theorem Room.mono{j k:Nat}{A:Around}(r:Room k A)(h:j<=k):Room j A:=⟨r.hd,by have:=r.dp;omega,by have:=r.un;omega,r.gd⟩
theorem Room.mo{j k:Nat}{A:Around}(r:Room k A)(h:j<=k:=by decide):Room j A:=r.mono h
theorem Room.deeper{k:Nat}{A:Around}(r:Room (k+1) A)(env:Env):Room k (A.deeper env) :=
 ⟨r.hd,by have:=r.dp;show A.depth+1+3*k+5<_;omega,by have:=r.un;show A.units+3+16*k+200<_;omega,r.gd⟩
theorem Room.depth{k:Nat}{A:Around}(r:Room k A):A.depth<recursionLimit:=by have:=r.dp;omega
theorem Room.units{k:Nat}{A:Around}(r:Room k A):A.units+64<cLine:=by have:=r.un;omega
def tNil:TA:=fun _ H Q=>Q [] H
def tCons(ta:TE)(tr:TA):TA:=fun σ H Q=>ta σ H fun x H1=>tr σ H1 fun xs H2=>Q (x::xs) H2
section
variable{X:Cx}{e:Expr}{es:List Expr}{te:TE}{t:TA}{pos:Pos}
theorem d_:PA X [] tNil:=fun _ _ _ _ H Q I h=>Calls.spliced_nil ⟨[],H,I,.nil,h⟩
theorem a_(ha:PE X e te)(hr:PA X es t)(hs:starEach (e::es) X.env=(false,eval e X.env)::starEach es X.env:=by rfl):PA X (e::es) (tCons te t):=by
 intro pos pins s σ H Q I h
 rw[hs]
 show wpAny _ _ (spliced ((false,eval e X.env)::backTo pos (starEach es X.env))) _ _ s
 refine Calls.spliced_cons (thn (ha pins s σ H _ I h) fun u s1 ⟨x,H1,I1,r1,q1⟩=>?_)
 exact thn (hr pos pins s1 σ H1 _ I1 q1) fun us s2 ⟨xs,H2,I2,r2,q2⟩=>⟨x::xs,H2,I2,.cons r1 r2,q2⟩
def tTup(t:TA):TE:=fun σ H Q=>t σ H fun xs H1=>xs.length<=sizeLine/\∀p,H1 p=none->Q (.ref p) (upd H1 p (.tup xs))
def tLst(t:TA):TE:=fun σ H Q=>t σ H fun xs H1=>xs.length<=sizeLine/\∀p,H1 p=none->Q (.ref p) (upd H1 p (.lst xs))
theorem aS_{x1}(h:PA X es t):PE X (.Tuple es x1 pos) (tTup t):=by
 intro pins s σ H Q I hq
 refine wpAny_Tuple_spliced (thn (h pos pins s σ H _ I hq) fun us s1 ⟨xs,H1,I1,r,z,q⟩=>⟨by rw[<-r.length];exact z,?_⟩)
 have hf:H1 s1.heap.objs.size=none:=I1.hok.fresh (Nat.le_refl _)
 refine⟨.ref s1.heap.objs.size,upd H1 s1.heap.objs.size (.tup xs),I1.laid (t':=s1.toks) (fun b u e=>Heap.get?_push_of_some _ e) (Nat.le_refl _) ?_,rfl,q _ hf⟩
 exact⟨z,us,r,⟨_,Heap.get?_push_size _ rfl,rfl,_,rfl⟩⟩
theorem P_(h:PA X es t):PE X (.List es pos) (tLst t):=by
 intro pins s σ H Q I hq
 refine wpAny_List_spliced (thn (h pos pins s σ H _ I hq) fun us s1 ⟨xs,H1,I1,r,z,q⟩=>⟨by rw[<-r.length];exact z,?_⟩)
 have hf:H1 s1.heap.objs.size=none:=I1.hok.fresh (Nat.le_refl _)
 refine⟨.ref s1.heap.objs.size,upd H1 s1.heap.objs.size (.lst xs),I1.laid (t':=s1.toks) (fun b u e=>Heap.get?_push_of_some _ e) (Nat.le_refl _) ?_,rfl,q _ hf⟩
 exact⟨z,us,0,r,Heap.get?_push_size _ rfl⟩
end
abbrev Sp:=List V->Hp->VK->XK->Prop
abbrev CXT:=List Env->Hp->Shared->XK->Value->Shared->Prop
structure Env0(P:Program)(w:World)(K:PySem.W.Frag)(mg:Str->Option Value)(base:Heap)(A:Around)(outer:List Env)(s:Shared)(H:Hp):Prop where
 frames:A.frames=some outer
 mod:Mod K mg base
 bs:∀b o,base.get? b=some o->s.heap.get? b=some o/\H b=none
 bsz:base.objs.size<=s.heap.objs.size
 funs:s.heap.FunFrames base outer
 frf:∀b∈frs outer,H b=none
 hok:HOk P w H s.heap
 bare:AllBare s.gens
def CE(outer:List Env)(P:Program)(w:World)(H:Hp)(s:Shared)(Q:VK)(u:Value)(s':Shared):Prop :=
 ∃v H',s'.os=s.os/\AllBare s'.gens/\Un (frs outer) [] H H' s.heap s'.heap/\HOk P w H' s'.heap/\RelV v u/\Q v H'
def CR(CX:CXT)(outer:List Env)(P:Program)(w:World)(H:Hp)(s:Shared)(Q:VK)(E:XK)(r:Result)(s':Shared):Prop :=
 match r with
 | .ok (.ret u)=>CE outer P w H s Q u s'
 | .ok _=>False
 | .error e=>CX outer H s E e s'
structure FnOk(P:Program)(w:World)(K:PySem.W.Frag)(mg:Str->Option Value)(base:Heap)(CX:CXT)(k:Nat)(f:Addr)(fd:FuncData)(ps:List Str)(sp:Sp):Prop where
 len:∀vs H Q E,sp vs H Q E->vs.length=ps.length
 run:∀(A:Around) (outer:List Env) (s:Shared) (H:Hp) (args:Args) (us:List Value) (vs:List V) (Q:VK) (E:XK),Room k A->Env0 P w K mg base A outer s H->BindsTo s fd args (ps.zip us)->Vals vs us->sp vs H Q E->
  codeAny (model P w) A (.call (.ref f) args) (CR CX outer P w H s Q E) s
section
variable{X:Cx}{pins:List (Addr×Obj)}{σ:St}{H:Hp}{s s':Shared}
theorem Inv.env0(I:Inv X pins σ H s):Env0 X.prog X.w X.K X.mg X.base X.A X.stack s H :=
 ⟨I.ok.frames,I.ok.mod,I.bs,Nat.le_trans I.ok.bsz I.sz,I.stack,I.stkFree,I.hok,I.bare⟩
theorem Inv.after{Q:VK}{u:Value}(I:Inv X pins σ H s)(h:CE X.stack X.prog X.w H s Q u s'):EP X pins σ Q u s':=by
 obtain⟨v,H',os,bare,un,hok,r,q⟩:=h
 obtain⟨hh,g,d,t,os'⟩:=s'
 obtain rfl:os'=s.os:=os
 exact⟨v,H',I.call (h':=hh) (g':=g) (d':=d) (t':=t) (ch:=[]) un hok bare (fun b z=>absurd z (by simp)),r,q⟩
end
def tCall(sp:Sp)(dvs:List V)(E:XK)(t:TA):TE:=fun σ H Q=>t σ H fun vs H1=>sp (vs++dvs) H1 Q E
def Binds(K:PySem.W.Frag)(fd:FuncData)(ps:List Str)(ds:List Value):Prop :=
 ∀(s:Shared) (us:List Value),K.In s.heap->(us++ds).length=ps.length->BindsTo s fd ⟨us,[]⟩ (ps.zip (us++ds))
theorem Binds.all{K:PySem.W.Frag}{fd:FuncData}{ps:List Str}(h:∀us:List Value,us.length=ps.length->bindArgs fd ⟨us,[]⟩=pure (ps.zip us)):Binds K fd ps []:=fun s us _ hl=>by
 rw[List.append_nil] at hl⊢
 exact .of_eq (h us hl)
def Passes(CX:CXT)(X:Cx)(E:XK):Prop:=∀(pins:List (Addr×Obj)) (σ:St) (H:Hp) (s:Shared) (e:Value) (s':Shared),Inv X pins σ H s->CX X.stack H s E e s'->X.xe e s'
section
variable{X:Cx}{CX:CXT}{k:Nat}{f C:Addr}{fd:FuncData}{ps:List Str}{sp:Sp}{dvs:List V}{ds:List Value}{E:XK}{x m:Str}{p pos apos:Pos}{e o:Expr}{es:List Expr}{ta:TE}{t:TA}
theorem pO_{pins:List (Addr×Obj)}{σ:St}{H:Hp}{s:Shared}{Q:VK}{us:List Value}{vs:List V}(F:FnOk X.prog X.w X.K X.mg X.base CX k f fd ps sp)(hr:Room k X.A)(hb:Binds X.K fd ps ds)(hd:Vals dvs ds)(hx:Passes CX X E)
  (I:Inv X pins σ H s) (r:Vals vs us) (h:sp (vs++dvs) H Q E):wpAny (model X.prog X.w) X.A (call (.ref f) us) (EP X pins σ Q) X.xe s:=by
 have r2:Vals (vs++dvs) (us++ds):=r.append hd
 have hl:(us++ds).length=ps.length:=by rw[<-r2.length];exact F.len _ _ _ _ h
 refine wpAny_call (codeAny_mono (F.run X.A X.stack s H ⟨us,[]⟩ (us++ds) (vs++dvs) Q E hr I.env0 (hb s us I.kIn hl) r2 h) fun r s' hq=>?_)
 cases r with
 | error e=>exact hx pins σ H s e s' I hq
 | ok fl =>
  cases fl with
  | ret u=>exact I.after hq
  | next=>exact False.elim hq
  | brk=>exact False.elim hq
  | cont=>exact False.elim hq
theorem oR_(F:FnOk X.prog X.w X.K X.mg X.base CX k f fd ps sp)(hr:Room k X.A)(hg:Gl X x)(hm:X.mg x=some (.ref f))(hk:PySem.W.keepIn X.K (.ref f)=true)(hb:Binds X.K fd ps ds)(hd:Vals dvs ds)(hx:Passes CX X E)
  (ha:PA X (e::es) t) (hdb:(x==("__debug__":Str))=false:=by decide) (he:starEach (e::es) X.env=(false,eval e X.env)::starEach es X.env:=by rfl) (hpl:(backTo pos (starEach es X.env)).any (·.1)=false:=by rfl) :
  PE X (.Call (.Name x p) (e::es) [] pos) (tCall sp dvs E t):=by
 intro pins s σ H Q I h
 refine wpAny_Call_Name_kw (ph_ I hg hm ?_ hdb)
 refine PySem.W.callWith_K (h₀:=X.base) I.ok.mod.kin hk (thn (ha pos pins s σ H _ I h) fun us s1 ⟨vs,H1,I1,r,q⟩=>⟨I1.kIn,?_⟩) he hpl
 exact pO_ F hr hb hd hx I1 r q
structure Mk(K:PySem.W.Frag)(C f:Addr):Prop where
 makes:PySem.W.makesIn K C=true
 init:PySem.W.findIn K (.ref C) "__init__"=some (some (.ref f))
 fn:PySem.W.isFn K (.ref f)=true
 kp:PySem.W.keepIn K (.ref C)=true
end
section
variable{X:Cx}{CX:CXT}{k:Nat}{f C:Addr}{fd:FuncData}{ps ks:List Str}{sp:Sp}{E:XK}{x m:Str}{p pos apos kpos:Pos}{e o:Expr}{es:List Expr}{kws:List Keyword}{te ta:TE}{t tk:TA}{nm:Option Str}
variable{g:List Value->List Value->List Value}{gV:List V->List V->List V}
end
structure FnScope(N P:List Str)(sc:Scope):Prop where
 kind:sc.kind=.function
 co:sc.isCoroutine=false
 gen:sc.isGenerator=false
 nd:N.Nodup
 pre:N.take P.length=P
 par:∀x∈P,sc.names.lookup x=some .local\/sc.names.lookup x=some .cell
 nofree:∀y∈sc.names,y.2≠.free
theorem gR_{kindOf:Str->Option NameKind}{x:Str}:∀ {binds:List (Str×Value)} {m:Str->Option Value},(∀v,(x,v)∉binds)->bindL kindOf binds m x=m x
 | [],_,_=>rfl
 | (n,v)::r,m,h=>by
  unfold bindL
  rw[gR_ fun w hw=>h w (List.mem_cons_of_mem _ hw)]
  split
  ·have:x≠n:=by rintro rfl;exact h v List.mem_cons_self
   simp[this]
  ·rfl
theorem gT_{kindOf:Str->Option NameKind}{x:Str}:∀ {binds:List (Str×Value)} {m:Str->Option Value},(∀v,(x,v)∉binds)->bindC kindOf binds m x=m x
 | [],_,_=>rfl
 | (n,v)::r,m,h=>by
  unfold bindC
  rw[gT_ fun w hw=>h w (List.mem_cons_of_mem _ hw)]
  split
  ·rfl
  ·have:x≠n:=by rintro rfl;exact h v List.mem_cons_self
   simp[this]
theorem gS_{kindOf:Str->Option NameKind}{x:Str}{v:Value}:∀ {P:List Str} {vs:List Value} {i:Nat} {m:Str->Option Value},P.Nodup->P[i]?=some x->vs[i]?=some v->kindOf x=some .local->
  bindL kindOf (P.zip vs) m x=some v
 | [],_,_,_,_,h,_,_=>by simp at h
 | _::_,[],_,_,_,_,h,_=>by simp at h
 | p::P,w::vs,0,m,nd,h1,h2,hk=>by
  simp at h1 h2;subst h1;subst h2
  show bindL kindOf ((p,w)::P.zip vs) m p=_
  unfold bindL
  rw[gR_ fun v hv=>(List.nodup_cons.mp nd).1 (List.of_mem_zip hv).1,if_pos hk]
  simp
 | p::P,w::vs,i+1,m,nd,h1,h2,hk=>by
  show bindL kindOf ((p,w)::P.zip vs) m x=_
  unfold bindL
  exact gS_ (i:=i) (List.nodup_cons.mp nd).2 (by simpa using h1) (by simpa using h2) hk
theorem gU_{kindOf:Str->Option NameKind}{x:Str}{v:Value}:∀ {P:List Str} {vs:List Value} {i:Nat} {m:Str->Option Value},P.Nodup->P[i]?=some x->vs[i]?=some v->kindOf x≠some .local->
  bindC kindOf (P.zip vs) m x=some v
 | [],_,_,_,_,h,_,_=>by simp at h
 | _::_,[],_,_,_,_,h,_=>by simp at h
 | p::P,w::vs,0,m,nd,h1,h2,hk=>by
  simp at h1 h2;subst h1;subst h2
  show bindC kindOf ((p,w)::P.zip vs) m p=_
  unfold bindC
  rw[gT_ fun v hv=>(List.nodup_cons.mp nd).1 (List.of_mem_zip hv).1,if_neg hk]
  simp
 | p::P,w::vs,i+1,m,nd,h1,h2,hk=>by
  show bindC kindOf ((p,w)::P.zip vs) m x=_
  unfold bindC
  exact gU_ (i:=i) (List.nodup_cons.mp nd).2 (by simpa using h1) (by simpa using h2) hk
def start(N:List Str)(vs:List V):St:=vs.map some++List.replicate (N.length-vs.length) none
def cxOf(CX:CXT)(P:Program)(w:World)(K:PySem.W.Frag)(mg:Str->Option Value)(base:Heap)(N:List Str)(qual:Str)(scope:Scope)(f:Addr)(cd:Value)(A:Around)(outer:List Env)(s:Shared)(H:Hp)(E:XK):Cx where
 prog:=P
 w:=w
 K:=K
 mg:=mg
 base:=base
 A:=A.deeper (envOfC qual scope s.heap.objs.size f cd)
 N:=N
 s₀:=s
 H₀:=H
 env:=envOfC qual scope s.heap.objs.size f cd
 outer:=outer
 stack:=envOfC qual scope s.heap.objs.size f cd::outer
 ex:=[]
 calm:=true
 fn:=fun _=>true
 pn:=[]
 xe:=fun e s'=>wpAny (model P w) (A.deeper (envOfC qual scope s.heap.objs.size f cd)) (leaving (envOfC qual scope s.heap.objs.size f cd) e) (fun _ s''=>CX outer H s E e s'') (fun e' s''=>CX outer H s E e' s'') s'
theorem jx_{sc:Scope}{n:Nat}{x:Str}(h:sc.names.lookup x=some .cell):∃c,(cellsFrom n sc.names []).lookup x=some c:=by
 have q:=PySem.W.cellsFrom_some sc.names n [] (.inl h)
 exact Option.isSome_iff_exists.mp q
theorem lY_{CX:CXT}{P:Program}{w:World}{K:PySem.W.Frag}{mg:Str->Option Value}{base:Heap}{N ps:List Str}{qual:Str}{scope:Scope}{f:Addr}{cd:Value}{A:Around}{outer:List Env}{s s1:Shared}{H:Hp}{E:XK}{us:List Value}{vs:List V}
  (S:FnScope N ps scope) (hd:A.handled=none) (e0:Env0 P w K mg base A outer s H) (hl:vs.length=ps.length) (r:Vals vs us)
  (x:InCallC s s.heap.objs.size (bindL (envOfC qual scope s.heap.objs.size f cd).kindOf (ps.zip us) fun _=>none) (cellsFrom (s.heap.objs.size+1) scope.names []) (bindC (envOfC qual scope s.heap.objs.size f cd).kindOf (ps.zip us) fun _=>none) s1) :
  Inv (cxOf CX P w K mg base N qual scope f cd A outer s H E) [] (start N vs) H s1:=by
 have hpl:ps.length<=N.length:=by have:=congrArg List.length S.pre;rw[List.length_take] at this;omega
 obtain⟨h1,tk,rfl,hk⟩:=x.done
 have noA:∀b:Addr,b∉(cxOf CX P w K mg base N qual scope f cd A outer s H E).ex:=fun b z=>absurd (show b∈([]:List Addr) from z) (by simp)
 refine⟨⟨e0.mod,S.kind,rfl,rfl,Nat.le_refl _,fun y z c h1 h2=>?_,fun y hy=>?_,fun y c _ h=>?_,fun _=>hd,Around.frames_deeper e0.frames,.inr ⟨rfl,rfl⟩,fun b z=>absurd z (noA b),e0.bs,e0.bsz,fun b _ _=>noA b,fun b z=>absurd z (noA b),e0.funs,e0.frf⟩,
  rfl,e0.bare,Un.kept hk,⟨_,x.toInCall.ns,fun i y v h1 h2 h3=>?_⟩,fun y c h=>⟨_,x.cell y c h⟩,e0.hok.fresh (Nat.le_refl _),fun y c h=>?_,fun p hp=>absurd (show p∈([]:List (Addr×Obj)) from hp) (by simp),e0.hok.kept hk,?_⟩
 ·exact name_of_addr x.apart (PySem.mem_of_lookup h1) (PySem.mem_of_lookup h2)
 ·have hy:scope.names.lookup y=some .cell\/scope.names.lookup y=some .free:=hy
  rcases hy with hy | hy
  ·exact jx_ hy
  ·exact absurd rfl (S.nofree _ (PySem.mem_of_lookup hy))
 ·exact Nat.le_of_lt (x.above y c (PySem.mem_of_lookup h))
 ·have hi:i<vs.length:=by
   unfold start at h2
   by_cases hi:i<vs.length
   ·exact hi
   ·rw[List.getElem?_append_right (by simpa using hi)] at h2
    rw[List.getElem?_replicate] at h2
    split at h2 <;> cases h2
  have ha:vs[i]?=some v:=by
   unfold start at h2
   rw[List.getElem?_append_left (by simpa using hi),List.getElem?_map] at h2
   cases e:vs[i]? with
   | none=>rw[e] at h2;cases h2
   | some a=>rw[e] at h2;cases h2;rfl
  obtain⟨u,hu,rv⟩:=r.get ha
  have hp:ps[i]?=some y:=by
   rw[<-S.pre,List.getElem?_take_of_lt (by omega)];exact h1
  have ndP:ps.Nodup:=by rw[<-S.pre];exact S.nd.sublist (List.take_sublist _ _)
  refine⟨u,rv,?_⟩
  rcases S.par y (List.mem_of_getElem? hp) with k | k
  ·exact .inl ⟨k,gS_ ndP hp hu k⟩
  ·obtain⟨c,e⟩:=jx_ (n:=s.heap.objs.size+1) k
   refine .inr ⟨.inl k,c,e,?_⟩
   have q:=x.cell y c e
   rw[gU_ ndP hp hu (by show scope.names.lookup y≠_;rw[k];decide)] at q
   exact q
 ·exact e0.hok.fresh (Nat.le_of_lt (x.above y c (PySem.mem_of_lookup h)))
 ·unfold start
  show _=N.length
  rw[List.length_append,List.length_map,List.length_replicate]
  omega
theorem qW_{CX:CXT}{P:Program}{w:World}{K:PySem.W.Frag}{mg:Str->Option Value}{base:Heap}{k:Nat}{f:Addr}{name qual:Str}{params:Arguments}{body:List Stmt}{scope:Scope}{dV kV doc pm cdv ct oc:Value}{an od:Option Addr}
  {osl:Array (Option Value)} {N ps:List Str} {sp:Sp} (lk:K.lookup f=some ⟨oc,od,.func (PySem.W.fnOf name qual params body scope dV kV doc pm an cdv ct),osl⟩) (hcd:PySem.W.codeIn K cdv qual=true) (S:FnScope N ps scope)
  (len:∀vs H Q E,sp vs H Q E->vs.length=ps.length)
  (hbody:∀(A:Around) (outer:List Env) (s:Shared) (H:Hp) (vs:List V) (Q:VK) (E:XK),Room k (A.deeper (envOfC qual scope s.heap.objs.size f cdv))->sp vs H Q E->
   ∃t,PSs (cxOf CX P w K mg base N qual scope f cdv A outer s H E) body t/\t {nx:=fun _ H'=>Q .non H',rt:=Q} (start N vs) H) :
  FnOk P w K mg base CX (k+1) f (PySem.W.fnOf name qual params body scope dV kV doc pm an cdv ct) ps sp:=by
 refine⟨len,fun A outer s H args us vs Q E hr e0 hb r hsp=>?_⟩
 have hl:=len _ _ _ _ hsp
 have KX:K.In s.heap:=e0.mod.kin.keeps fun b o e=>(e0.bs b o e).1
 have lim:s.heap.NoLimit:=e0.mod.nolimit.keeps fun b o e=>(e0.bs b o e).1
 have hkind:∀y∈ps.zip us,scope.names.lookup y.1=some .local\/(scope.names.lookup y.1=some .cell/\((cellsFrom (s.heap.objs.size+1) scope.names []).lookup y.1).isSome=true):=fun⟨n,v⟩ hy=>by
  rcases S.par n (List.of_mem_zip hy).1 with q | q
  ·exact .inl q
  ·exact .inr ⟨q,PySem.W.cellsFrom_some _ _ _ (.inl q)⟩
 refine codeAny_call_function hr.depth (KX _ _ lk) rfl S.co S.gen rfl (PySem.W.codeRec_of KX hcd) (hb _ _ _ _ ?_)
 refine wpAny_newFunctionEnv_cells S.kind hkind fun env he s1 x=>?_
 subst he
 refine⟨lim.keeps x.toInCall.keep,codeAny_func ?_⟩
 obtain⟨t,ht,hq⟩:=hbody A outer s H vs Q E (hr.deeper _) hsp
 have I:Inv (cxOf CX P w K mg base N qual scope f cdv A outer s H E) [] (start N vs) H s1:=lY_ S hr.hd e0 hl r x
 refine wpAny_mono (ht [] s1 (start N vs) H _ I hq) (fun fl s' hs=>?_) fun e s' hs=>hs
 have fin:∀ {σ':St} {H':Hp} {v:V} {u:Value},Inv (cxOf CX P w K mg base N qual scope f cdv A outer s H E) [] σ' H' s'->RelV v u->Q v H'->CE outer P w H s Q u s' :=
  fun {σ' H' v u} J rv q=>⟨v,H',J.os,J.bare,J.base,J.hok,rv,q⟩
 cases fl with
 | ret u =>
  obtain⟨v,σ',H',J,rv,q⟩:=hs
  exact fin J rv q
 | next =>
  obtain⟨σ',H',J,q⟩:=hs
  exact fin (v:=V.non) (u:=Value.none) J rfl q
 | brk =>
  obtain⟨_,_,_,q⟩:=hs
  exact False.elim q
 | cont =>
  obtain⟨_,_,_,q⟩:=hs
  exact False.elim q
section
variable{X:Cx}{x:Str}{p pos:Pos}{e:Expr}{es:List Expr}{t:TA}{id T:String}{r:List V->Hp->VK->Prop}
def tCB(r:List V->Hp->VK->Prop)(t:TA):TE:=fun σ H Q=>t σ H fun vs H1=>r vs H1 Q
theorem q_(hc:CallR X (.builtin id) r)(hg:Gl X x)(hm:X.mg x=none)(hv:bootBuiltins x=some (.builtin id))(ha:PA X (e::es) t)(hn:x≠"__name__":=by decide)(hdb:(x==("__debug__":Str))=false:=by decide)
  (he:starEach (e::es) X.env=(false,eval e X.env)::starEach es X.env:=by rfl) (hpl:(backTo pos (starEach es X.env)).any (·.1)=false:=by rfl):PE X (.Call (.Name x p) (e::es) [] pos) (tCB r t):=by
 intro pins s σ H Q I h
 refine wpAny_Call_Name_kw (aI_ I hg hm hv ?_ hn hdb)
 exact PyProof.Rows.callWith_builtin1 (thn (ha pos pins s σ H _ I h) fun us s1 ⟨vs,H1,I1,r1,q1⟩=>hc pins s1 σ H1 vs us Q I1 r1 q1) he hpl
theorem cA_(hc:CallR X (.type T) r)(hg:Gl X x)(hm:X.mg x=none)(hv:bootBuiltins x=some (.type T))(ha:PA X (e::es) t)(hn:x≠"__name__":=by decide)(hdb:(x==("__debug__":Str))=false:=by decide)
  (he:starEach (e::es) X.env=(false,eval e X.env)::starEach es X.env:=by rfl) (hpl:(backTo pos (starEach es X.env)).any (·.1)=false:=by rfl):PE X (.Call (.Name x p) (e::es) [] pos) (tCB r t):=by
 intro pins s σ H Q I h
 refine wpAny_Call_Name_kw (aI_ I hg hm hv ?_ hn hdb)
 exact PyProof.Rows.callWith_type1 (thn (ha pos pins s σ H _ I h) fun us s1 ⟨vs,H1,I1,r1,q1⟩=>hc pins s1 σ H1 vs us Q I1 r1 q1) he hpl
end
end L2
namespace HT
open PySem PyProof.Rows
section
open PySem.SeqAt
open PySem.AutoSeq1 (wpAny_loadPart')
open PySem.MeetsSeq PySem.MeetsSeq2 PySem.MeetsSeq3
end
section
variable{prog:Program}{w:World}{A:Around}{E:Value->Shared->Prop}{s:Shared}
def sIx(n d:Nat):Option Int->Nat
 | none=>d
 | some v=>if v<0 then (v+(n:Int)).toNat else min v.toNat n
theorem fm_(n d:Nat):sIx n d none=d:=rfl
theorem dN_(n d k:Nat):sIx n d (some (k:Int))=min k n:=by
 show(if (k:Int)<0 then ((k:Int)+(n:Int)).toNat else min (k:Int).toNat n)=min k n
 rw[if_neg (by omega),Int.toNat_natCast]
end
end HT
namespace L2
open PySem PySem.Spec PyProof.Rows
abbrev TO:=St->Hp->(Option Int->Hp->Prop)->Prop
def PO(X:Cx)(e:Option Expr)(t:TO):Prop :=
 ∀(pins:List (Addr×Obj)) (s:Shared) (σ:St) (H:Hp) (Q:Option Int->Hp->Prop),Inv X pins σ H s->t σ H Q->
  wpAny (model X.prog X.w) X.A (evalPart e X.env) (fun u s'=>∃o H',Inv X pins σ H' s'/\IsPart u o/\Q o H') X.xe s
def oF_:TO:=fun _ H Q=>Q none H
def tPart(t:TE):TO:=fun σ H Q=>t σ H fun x H1=>∃i,x=.int i/\Q (some i) H1
section
variable{X:Cx}{e:Expr}{te:TE}{lo hi:Option Expr}{tl th:TO}{pos p2:Pos}
theorem ft_:PO X none oF_:=by
 intro pins s σ H Q I h
 rw[evalPart_none]
 exact wpAny_pure ⟨none,H,I,.none,h⟩
theorem bu_(h:PE X e te):PO X (some e) (tPart te):=by
 intro pins s σ H Q I hw
 rw[evalPart_some]
 refine thn (h pins s σ H _ I hw) fun u s1 ⟨x,H1,I1,r1,q1⟩=>?_
 obtain⟨i,rfl,q⟩:=q1
 obtain⟨t,rfl⟩:=r1
 exact⟨some i,H1,I1,.int i t,q⟩
def SlR(X:Cx)(r:V->Option Int->Option Int->Hp->VK->Prop):Prop :=
 ∀(pins:List (Addr×Obj)) (s:Shared) (σ:St) (H:Hp) (x:V) (v vl vu:Value) (lo hi:Option Int) (sl:Addr) (Q:VK),Inv X pins σ H s->RelV x v->s.heap.IsSliceOf sl vl vu .none->IsPart vl lo->IsPart vu hi->r x lo hi H Q->
  ∃T id,typeLookup (.type T) "__getitem__"=pure (some (.builtin id))/\s.TypeIs v T/\wpAny (model X.prog X.w) X.A (getItem v (.ref sl)) (EP X pins σ Q) X.xe s
def tSl(r:V->Option Int->Option Int->Hp->VK->Prop)(te:TE)(tl th:TO):TE:=fun σ H Q=>te σ H fun x H1=>tl σ H1 fun l H2=>th σ H2 fun u H3=>r x l u H3 Q
theorem bQ_{r:V->Option Int->Option Int->Hp->VK->Prop}(hr:SlR X r)(he:PE X e te)(hl:PO X lo tl)(hu:PO X hi th):PE X (.Subscript e (.Slice lo hi none p2) pos) (tSl r te tl th):=by
 intro pins s σ H Q I h
 refine Subscript_ (thn (he pins s σ H _ I h) fun v s1 ⟨x,H1,I1,r1,q1⟩=>?_)
 refine wpAny_Slice (thn (hl pins s1 σ H1 _ I1 q1) fun vl s2 ⟨l,H2,I2,pl,q2⟩=>thn (hu pins s2 σ H2 _ I2 q2) fun vu s3 ⟨u,H3,I3,pu,q3⟩=>?_)
 rw[evalPart_none]
 refine wpAny_pure ?_
 have I4:Inv X pins σ H3 {s3 with heap:=s3.heap.push {cls:=.type "slice",data:=.fields #[vl,vu,.none]}}:=I3.kept (t':=s3.toks) fun b ob q=>Heap.get?_push_of_some _ q
 obtain⟨T,id,hT,ht,hg⟩:=hr pins {s3 with heap:=s3.heap.push {cls:=.type "slice",data:=.fields #[vl,vu,.none]}} σ H3 x v vl vu l u s3.heap.objs.size Q I4 r1 (Heap.IsSliceOf.new ..) pl pu q3
 show wpAny (model X.prog X.w) X.A (subscriptTail e (.Slice lo hi none p2) v (.ref s3.heap.objs.size)) (EP X pins σ Q) X.xe {s3 with heap:=s3.heap.push {cls:=.type "slice",data:=.fields #[vl,vu,.none]}}
 exact tail_any (ops:=[.ref s3.heap.objs.size,v]) ht hT hg (by with_unfolding_all rfl)
def cutV(xs:List V)(lo hi:Option Int):List V:=(xs.drop (HT.sIx xs.length 0 lo)).take (HT.sIx xs.length xs.length hi-HT.sIx xs.length 0 lo)
theorem if_(xs:List V)(lo hi:Option Int):(cutV xs lo hi).length<=xs.length:=by
 unfold cutV
 rw[List.length_take,List.length_drop]
 omega
end
def ixN(n:Nat)(i:Int):Option Nat:=if 0<=i then (if i<n then some i.toNat else none) else if -(n:Int)<=i then some (i+n).toNat else none
def atI{α:Type}(xs:List α)(i:Int):Option α:=(ixN xs.length i).bind fun j=>xs[j]?
theorem lU_{n:Nat}{i:Int}{j:Nat}(h:ixN n i=some j):seqIndex? i n=some j/\j<n/\-(n:Int)<=i/\i<n:=by
 unfold ixN at h
 by_cases h0:0<=i
 ·rw[if_pos h0] at h
  by_cases h1:i<n
  ·rw[if_pos h1] at h
   have e:i.toNat=j:=Option.some.inj h
   exact⟨by rw[seqIndex_of h0 h1,e],by omega,by omega,h1⟩
  ·rw[if_neg h1] at h;cases h
 ·rw[if_neg h0] at h
  by_cases h1 : -(n:Int)<=i
  ·rw[if_pos h1] at h
   have e:(i+n).toNat=j:=Option.some.inj h
   exact⟨by rw[seqIndex_neg (by omega) h1,e],by omega,h1,by omega⟩
  ·rw[if_neg h1] at h;cases h
theorem mI_{α:Type}{xs:List α}{i:Int}{v:α}(h:atI xs i=some v):∃j,seqIndex? i xs.length=some j/\xs[j]?=some v/\j<xs.length/\-(xs.length:Int)<=i/\i<xs.length:=by
 unfold atI at h
 cases e:ixN xs.length i with
 | none=>rw[e] at h;cases h
 | some j =>
  rw[e] at h
  obtain⟨h1,h2,h3,h4⟩:=lU_ e
  exact⟨j,h1,h,h2,h3,h4⟩
theorem ab_{α:Type}{xs:List α}{j:Nat}{v:α}(h:xs[j]?=some v):atI xs (j:Int)=some v:=by
 have hj:j<xs.length:=(List.getElem?_eq_some_iff.mp h).1
 have e:ixN xs.length (j:Int)=some j:=by
  unfold ixN
  rw[if_pos (by omega),if_pos (by omega)];simp
 unfold atI;rw[e];exact h
theorem jy_{α:Type}(xs:List α)(v:α):atI (xs++[v]) (-1)=some v:=by
 have hl:(xs++[v]).length=xs.length+1:=by simp
 have e:ixN (xs++[v]).length (-1)=some xs.length:=by
  unfold ixN
  rw[hl,if_neg (by decide),if_pos (by omega)]
  congr 1
  omega
 unfold atI
 rw[e]
 show(xs++[v])[xs.length]?=some v
 simp
def ei_(b:Expr):Prop:=∀o i,subscripted b false o i=operate [o,i] (getItem o i)
def IxR(X:Cx)(r:R2):Prop :=
 ∀(value slice:Expr) (pins:List (Addr×Obj)) (s:Shared) (σ:St) (H:Hp) (x y:V) (v u:Value) (Q:VK),Inv X pins σ H s->RelV x v->RelV y u->r x y H Q->
  subscripted slice false v u=operate [v,u] (getItem v u)->wpAny (model X.prog X.w) X.A (subscriptTail value slice v u) (EP X pins σ Q) X.xe s
def MtR(X:Cx)(id:String)(r:V->List V->Hp->VK->Prop):Prop :=
 ∀(pins:List (Addr×Obj)) (s:Shared) (σ:St) (H:Hp) (x:V) (xs:List V) (v:Value) (us:List Value) (Q:VK),Inv X pins σ H s->RelV x v->Vals xs us->r x xs H Q->
  wpAny (model X.prog X.w) X.A (call (.builtin id) (v::us)) (EP X pins σ Q) X.xe s
section
variable{X:Cx}{a b:Expr}{ta tb:TE}{pos:Pos}
theorem pW_{r:R2}(hr:IxR X r)(ha:PE X a ta)(hb:PE X b tb)(hs:ei_ b):PE X (.Subscript a b pos) (tOp r ta tb):=by
 intro pins s σ H Q I h
 exact Subscript_ (binT ha hb I h fun v u s2 x y H2 I2 rx ry q=>hr a b pins s2 σ H2 x y v u Q I2 rx ry q (hs _ _))
def rIxL(K:PySem.W.Frag):R2:=fun x y H Q=>∃p xs i v,x=.ref p/\y=.int i/\SqL K H p xs/\atI xs i=some v/\Q v H
def rIxT(K:PySem.W.Frag):R2:=fun x y H Q=>∃p xs i v,x=.ref p/\y=.int i/\SqT K H p xs/\atI xs i=some v/\Q v H
theorem pj_:IxR X (rIxL X.K):=by
 intro value slice pins s σ H x y v u Q I rx ry h hs
 obtain⟨p,xs,i,z,rfl,rfl,hq,he,q⟩:=h
 cases rx
 obtain⟨t,rfl⟩:=ry
 obtain⟨its,r,pl,hz⟩:=I.list hq
 obtain⟨j,h1,h2,h3,h4,h5⟩:=mI_ he
 obtain⟨w,ew,rw'⟩:=r.get h2
 have hl:=r.length
 have hn:=line63
 have fin:EP X pins σ Q w s:=⟨z,H,I,rw',q⟩
 by_cases h0:0<=i
 ·have hj:i.toNat=j:=by
   rw[seqIndex_of h0 h5] at h1
   exact Option.some.inj h1
  exact item_listR pl.isList h0 (by omega) (by rw[hj];simpa using ew) fin hs
 ·have hj:(i+(its.toArray.size:Int)).toNat=j:=by
   rw[seqIndex_neg (by omega) h4] at h1
   rw[List.size_toArray,<-hl]
   exact Option.some.inj h1
  exact subscriptTail_builtinR (x:=w) pl.isList.typeIs slot_list_getitem.lookup
   (wpAny_getItem_list_neg (Q:=fun r s'=>r=w/\EP X pins σ Q r s') pl.isList (by omega) (by rw[List.size_toArray] <;> omega) (by omega) (by rw[hj];simpa using ew) ⟨rfl,fin⟩) hs
theorem qx_:IxR X (rIxT X.K):=by
 intro value slice pins s σ H x y v u Q I rx ry h hs
 obtain⟨p,xs,i,z,rfl,rfl,hq,he,q⟩:=h
 cases rx
 obtain⟨t,rfl⟩:=ry
 obtain⟨its,r,pl,hz⟩:=I.tuple hq
 obtain⟨j,h1,h2,h3,h4,h5⟩:=mI_ he
 obtain⟨w,ew,rw'⟩:=r.get h2
 have hl:=r.length
 have hn:=line63
 have fin:EP X pins σ Q w s:=⟨z,H,I,rw',q⟩
 exact subscriptTail_builtinR (x:=w) pl.typeIs slot_tuple_getitem.lookup
  (getItem_tuple (j:=j) (Q:=fun r s'=>r=w/\EP X pins σ Q r s') pl (by omega) (by omega) (by rw[List.size_toArray,<-hl];exact h1) (by simpa using ew) ⟨rfl,fin⟩) hs
theorem kb_(its:List Value)(n j:Nat)(u:Value):Obj.mapSeq (·.setIfInBounds j u) {cls:=.type "list",data:=.seq its.toArray n}={cls:=.type "list",data:=.seq (its.set j u).toArray n}:=by
 simp[Obj.mapSeq]
theorem Inv.lst{pins:List (Addr×Obj)}{σ:St}{H:Hp}{s:Shared}{p:Addr}{xs:List V}(I:Inv X pins σ H s)(h:H p=some (.lst xs)) :
  ∃(its:List Value) (n:Nat),Vals xs its/\s.heap.get? p=some {cls:=.type "list",data:=.seq its.toArray n}/\xs.length<=sizeLine:=by
 obtain⟨z,its,n,r,e⟩:=I.hok p _ h
 exact⟨its,n,r,e,z⟩
theorem Inv.lstUpd{pins:List (Addr×Obj)}{σ:St}{H:Hp}{s:Shared}{p:Addr}{xs ys:List V}{its its':List Value}{n n':Nat}{f:Obj->Obj}(I:Inv X pins σ H s)(h:H p=some (.lst xs))
  (ho:s.heap.get? p=some {cls:=.type "list",data:=.seq its.toArray n}) (hf:f {cls:=.type "list",data:=.seq its.toArray n}={cls:=.type "list",data:=.seq its'.toArray n'}) (r:Vals ys its') (hz:ys.length<=sizeLine) (t:Nat) :
  Inv X pins σ (upd H p (.lst ys)) {s with heap:=s.heap.update p f,toks:=t}:=by
 have e:(s.heap.update p f).get? p=some {cls:=.type "list",data:=.seq its'.toArray n'}:=by
  rw[Heap.get?_update_self f ho (by rw[hf] <;> rfl),hf]
 refine I.write (x:=p) (e:=p) (by rw[h];trivial) (.inl rfl) (fun b u hb q=>(Heap.get?_update_other _ _ (Ne.symm hb)).trans q) ⟨_,e⟩ ?_
 exact⟨hz,its',n',r,e⟩
def rSetL:V->V->V->Hp->(Hp->Prop)->Prop:=fun o i v H Q=>∃p xs k j,o=.ref p/\i=.int k/\H p=some (.lst xs)/\ixN xs.length k=some j/\Q (upd H p (.lst (xs.set j v)))
theorem nb_:PSet X rSetL:=by
 intro pins s σ H o i v ov iv u Q I ro ri rv h
 obtain⟨p,xs,k,j,rfl,rfl,hp,hj,q⟩:=h
 cases ro
 obtain⟨t,rfl⟩:=ri
 obtain⟨its,n,r,ho,hz⟩:=I.lst hp
 obtain⟨h1,h2,h3,h4⟩:=lU_ hj
 have hl:=r.length
 have hn:=line63
 have I':Inv X pins σ (upd H p (.lst (xs.set j v))) {s with heap:=s.heap.update p (Obj.mapSeq (·.setIfInBounds j u))} :=
  I.lstUpd hp ho (kb_ its n j u) (r.set rv j) (by rw[List.length_set];exact hz) s.toks
 by_cases h0:0<=k
 ·have hk:k.toNat=j:=by
   rw[seqIndex_of h0 h4] at h1
   exact Option.some.inj h1
  exact PySem.W.ki_setAt ho h0 (by omega) (by rw[List.size_toArray,<-hl];exact h4) (by rw[hk];exact⟨_,I',q⟩)
 ·have hk:(k+(its.toArray.size:Int)).toNat=j:=by
   rw[seqIndex_neg (by omega) h3] at h1
   rw[List.size_toArray,<-hl]
   exact Option.some.inj h1
  exact PySem.W.ki_setBack ho (by omega) (by rw[List.size_toArray,<-hl];exact h3) (by omega) (by rw[hk];exact⟨_,I',q⟩)
theorem fY_(lo hi:Option Int)(n:Nat):(sliceBounds lo hi none n).1=((HT.sIx n 0 lo:Nat):Int)/\(sliceBounds lo hi none n).2.1=((HT.sIx n n hi:Nat):Int)/\(sliceBounds lo hi none n).2.2=1:=by
 refine⟨?_,?_,rfl⟩
 ·cases lo with
  | none=>simp[sliceBounds,HT.sIx]
  | some i =>
   simp only[sliceBounds,HT.sIx,Option.getD_none,show(1:Int)>0 by decide,if_true]
   by_cases h:i<0
   ·simp only[h,if_true] <;> omega
   ·simp only[h,if_false] <;> omega
 ·cases hi with
  | none=>simp[sliceBounds,HT.sIx]
  | some i =>
   simp only[sliceBounds,HT.sIx,Option.getD_none,show(1:Int)>0 by decide,if_true]
   by_cases h:i<0
   ·simp only[h,if_true] <;> omega
   ·simp only[h,if_false] <;> omega
theorem fe_(its:List Value)(lo hi:Option Int):slicePick its.toArray lo hi none=((its.drop (HT.sIx its.length 0 lo)).take (HT.sIx its.length its.length hi-HT.sIx its.length 0 lo)).toArray:=by
 obtain⟨h1,h2,h3⟩:=fY_ lo hi its.toArray.size
 unfold slicePick
 rw[h1,h2,h3]
 simp only[sliceRange_one,pick_run,List.size_toArray] <;> rfl
def rSlL(K:PySem.W.Frag):V->Option Int->Option Int->Hp->VK->Prop:=fun x lo hi H Q=>∃a xs,x=.ref a/\SqL K H a xs/\∀p,H p=none->Q (.ref p) (upd H p (.lst (cutV xs lo hi)))
theorem dB_:SlR X (rSlL X.K):=by
 intro pins s σ H x v vl vu lo hi sl Q I rx hs pl pu h
 obtain⟨a,xs,rfl,hx,q⟩:=h
 cases rx
 obtain⟨its,r,ht,hz⟩:=I.list hx
 have hlen:=r.length
 refine⟨"list",_,slot_list_getitem.lookup,ht.isList.typeIs,?_⟩
 refine wpAny_getItem_list_slice ht.isList hs pl pu .none (by simp) ?_ (by rw[List.size_toArray] <;> omega)
 rw[fe_,<-hlen]
 refine⟨.ref s.heap.objs.size,_,I.laid (t':=s.toks) (o:=.lst (cutV xs lo hi)) (fun b ob q=>Heap.get?_push_of_some _ q) (Nat.le_refl _) ?_,rfl,q _ (I.hok.fresh (Nat.le_refl _))⟩
 exact⟨Nat.le_trans (if_ xs lo hi) hz,_,0,(r.drop (HT.sIx xs.length 0 lo)).take (HT.sIx xs.length xs.length hi-HT.sIx xs.length 0 lo),Heap.get?_push_size _ rfl⟩
theorem gQ_:CallR X (.builtin "len") (fun xs H Q=>∃p ys,xs=[.ref p]/\(SqL X.K H p ys\/SqT X.K H p ys)/\Q (.int ys.length) H):=by
 intro pins s σ H xs us Q I r h
 obtain⟨p,ys,rfl,hq,q⟩:=h
 obtain⟨u,rfl,rx⟩:=vals1 r
 cases rx
 have hn:=line63
 rcases hq with hq | hq
 ·obtain⟨its,r',pl,hz⟩:=I.list hq
  have hlen:=r'.length
  exact Calls.call_len_list pl.isList (by simp only[List.size_toArray] <;> omega) ⟨.int ys.length,H,I.tok _,⟨s.toks+1,by rw[List.size_toArray,hlen]⟩,q⟩
 ·obtain⟨its,r',pl,hz⟩:=I.tuple hq
  have hlen:=r'.length
  exact len_tuple pl (by simp only[List.size_toArray] <;> omega) ⟨.int ys.length,H,I.tok _,⟨s.toks+1,by rw[List.size_toArray,hlen]⟩,q⟩
def tyV(K:PySem.W.Frag)(T:String)(x:V)(H:Hp):Prop:=match x with
 | .str _=>T="str"
 | .int _=>T="int"
 | .ref p=>(T="list"/\∃xs,SqL K H p xs)\/(T="tuple"/\∃o,K.lookup p=some o/\o.cls=.type "tuple"/\o.dict=none)\/
   (T="dict"/\((∃kvs,H p=some (.dK kvs))\/∃kvs,H p=some (.dT kvs)))\/(T="set"/\∃S n,H p=some (.set S n))
 | _=>False
theorem py_{pins:List (Addr×Obj)}{σ:St}{H:Hp}{s:Shared}{T:String}{x:V}{v:Value}(I:Inv X pins σ H s)(r:RelV x v)(ty:tyV X.K T x H) :
  s.TypeIs v T/\∀a,v=.ref a->∃ob,s.heap.get? a=some ob/\ob.dict=none:=by
 cases x with
 | str z =>
  obtain⟨t,rfl⟩:=r
  cases (show T="str" from ty)
  exact⟨typeIs_str s z t,fun _ e=>nomatch e⟩
 | int i =>
  obtain⟨t,rfl⟩:=r
  cases (show T="int" from ty)
  exact⟨typeIs_int s i t,fun _ e=>nomatch e⟩
 | ref p =>
  cases r
  rcases ty with⟨rfl,xs,hq⟩ | ⟨rfl,o,hk,hc,hd⟩ | ⟨rfl,hk⟩ | ⟨rfl,S,n,hk⟩
  ·obtain⟨its,_,pl,_⟩:=I.list hq
   refine⟨pl.isList.typeIs,fun a e=>?_⟩
   cases e
   obtain⟨o,n,e,c,hd,_⟩:=pl
   exact⟨o,e,hd⟩
  ·refine⟨⟨o,I.kIn p o hk,hc⟩,fun a e=>?_⟩
   cases e
   exact⟨o,I.kIn _ o hk,hd⟩
  ·have z:∃o,s.heap.get? p=some o/\o.ExactDict:=by
    rcases hk with⟨kvs,hk⟩ | ⟨kvs,hk⟩
    ·obtain⟨_,_,_,_,o,_,_,e,ex,_⟩:=I.hok p _ hk
     exact⟨o,e,ex⟩
    ·obtain⟨_,_,_,_,o,_,_,e,ex,_⟩:=I.hok p _ hk
     exact⟨o,e,ex⟩
   obtain⟨o,e,ex⟩:=z
   refine⟨⟨o,e,ex.1⟩,fun a e2=>?_⟩
   cases e2
   exact⟨o,e,ex.2.1⟩
  ·obtain⟨o,_,_,_,e,ex,_⟩:=I.hok p _ hk
   refine⟨⟨o,e,ex.1⟩,fun a e2=>?_⟩
   cases e2
   exact⟨o,e,ex.2.1⟩
 | _=>exact False.elim ty
def tBM(K:PySem.W.Frag)(T:String)(r:V->List V->Hp->VK->Prop)(to:TE)(t:TA):TE:=fun σ H Q=>to σ H fun x H1=>tyV K T x H1/\t σ H1 fun xs H2=>r x xs H2 Q
variable{o e:Expr}{es:List Expr}{to:TE}{t:TA}{name:Str}{apos cpos:Pos}{T id:String}{r:V->List V->Hp->VK->Prop}
theorem bv_(pa:PlainAttrs T)(slot:Slot T name id)(hty:typeOf (.builtin id)=pure (.type "method_descriptor"))(hm:MtR X id r)(ho:PE X o to)(ha:PA X (e::es) t)
  (hbase:attributeBase o name X.env (eval o X.env)=eval o X.env:=by rfl)
  (hfew:((backTo cpos (starEach (e::es) X.env)).all (fun x=>!x.1)&&(backToKw cpos (keywordEach [] X.env)).all (fun x=>x.1.isSome)
   && decide ((e::es).length+([]:List Keyword).length+(if ([]:List Keyword).isEmpty then 0 else 1)<30))=true:=by rfl)
  (hline:(apos.endLine==cpos.line)=true:=by rfl) (hs:starEach (e::es) X.env=(false,eval e X.env)::starEach es X.env:=by rfl) (hplain:(backTo cpos (starEach es X.env)).any (·.1)=false:=by rfl) :
  PE X (.Call (.Attribute o name apos) (e::es) [] cpos) (tBM X.K T r to t):=by
 intro pins s σ H Q I h
 refine wpAny_Call_method_late hbase hfew hline rfl (thn (ho pins s σ H _ I h) fun v s1 ⟨x,H1,I1,r1,ty,q1⟩=>?_)
 obtain⟨h1,h2⟩:=py_ I1 r1 ty
 refine⟨T,id,pa,slot,hty,h1,h2,?_⟩
 have hA:=ha cpos pins s1 σ H1 _ I1 q1
 rw[hs] at hA⊢
 refine Calls.callWith_builtin (by show(false || (backTo cpos (starEach es X.env)).any (·.1))=false;rw[hplain] <;> rfl) (Calls.evalArgs_plain ?_)
 exact thn hA fun us s2 ⟨vs,H2,I2,r2,q2⟩=>hm pins s2 σ H2 x vs v us Q I2 r1 r2 q2
end
def MtM(X:Cx)(id:String)(r:V->List V->Hp->VK->Prop):Prop :=
 ∀(pins:List (Addr×Obj)) (s:Shared) (σ:St) (H:Hp) (x:V) (xs:List V) (v:Value) (us:List Value) (Q:VK),Inv X pins σ H s->RelV x v->Vals xs us->r x xs H Q->
  wpAny (model X.prog X.w) X.A (call (.builtin id) (v::us)) (EP X pins σ Q) X.xe s
theorem Vals.one:∀ {x:V} {us:List Value},Vals [x] us->∃u,us=[u]/\RelV x u
 | _,_,.cons r .nil=>⟨_,rfl,r⟩
theorem Vals.two:∀ {x y:V} {us:List Value},Vals [x,y] us->∃u v,us=[u,v]/\RelV x u/\RelV y v
 | _,_,_,.cons r (.cons q .nil)=>⟨_,_,rfl,r,q⟩
theorem Vals.reverse{xs:List V}{us:List Value}(h:Vals xs us):Vals xs.reverse us.reverse:=by
 induction h with
 | nil=>exact .nil
 | cons r t ih=>rw[List.reverse_cons,List.reverse_cons];exact Vals.append ih (.cons r .nil)
theorem Vals.rep{xs:List V}{us:List Value}(h:Vals xs us):∀k:Nat,Vals (List.replicate k xs).flatten (List.replicate k us).flatten
 | 0=>.nil
 | k+1=>by
  rw[List.replicate_succ,List.replicate_succ,List.flatten_cons,List.flatten_cons]
  exact Vals.append h (Vals.rep h k)
theorem gH_(its:List Value):∀(k:Nat) (acc:List Value),
  List.foldl (fun x1 x2=>x1++x2) acc.toArray (List.replicate k its.toArray)=(acc++(List.replicate k its).flatten).toArray
 | 0,acc=>by simp
 | k+1,acc=>by
  have e:acc.toArray++its.toArray=(acc++its).toArray:=by simp
  have e2:(acc++its)++(List.replicate k its).flatten=acc++(List.replicate (k+1) its).flatten:=by
   rw[List.replicate_succ,List.flatten_cons,List.append_assoc]
  rw[<-e2,<-gH_ its k (acc++its),<-e,List.replicate_succ,List.foldl_cons]
section
variable{X:Cx}{pins:List (Addr×Obj)}{σ:St}{H:Hp}{s:Shared}{l b:Addr}{xs ys zs:List V}
theorem Inv.lset{its its':List Value}{n:Nat}{f:Array Value->Array Value}{t':Nat}(I:Inv X pins σ H s)(hH:H l=some (.lst xs))
  (e:s.heap.get? l=some {cls:=.type "list",data:=.seq its.toArray n}) (hf:f its.toArray=its'.toArray) (hv:Vals ys its') (hz:ys.length<=sizeLine) :
  Inv X pins σ (upd H l (.lst ys)) {s with heap:=s.heap.update l (Obj.mapSeq f),toks:=t'}:=by
 have q:=PySem.IsL.update e f
 rw[hf] at q
 refine I.write (x:=l) (e:=l) (by rw[hH];exact trivial) (.inl rfl) (fun b' u hb hu=>(Heap.get?_update_other s.heap (Obj.mapSeq f) (Ne.symm hb)).trans hu) ⟨_,q⟩ ?_
 exact⟨hz,its',_,hv,q⟩
theorem Inv.lnew{its:List Value}{t':Nat}(I:Inv X pins σ H s)(hv:Vals ys its)(hz:ys.length<=sizeLine) :
  Inv X pins σ (upd H s.heap.objs.size (.lst ys)) {s with heap:=s.heap.push {cls:=.type "list",data:=.seq its.toArray},toks:=t'} :=
 I.laid (fun _ _ q=>Heap.get?_push_of_some _ q) (Nat.le_refl _) ⟨hz,its,0,hv,Heap.get?_push_size _ rfl⟩
theorem Inv.fresh(I:Inv X pins σ H s):H s.heap.objs.size=none:=I.hok.fresh (Nat.le_refl _)
theorem Inv.lstM(I:Inv X pins σ H s)(hH:H l=some (.lst xs)):xs.length<=sizeLine/\∃(its:List Value) (n:Nat),Vals xs its/\xs.length=its.length/\s.heap.get? l=some {cls:=.type "list",data:=.seq its.toArray n}:=by
 obtain⟨z,its,n,r,e⟩:=I.hok l _ hH
 exact⟨z,its,n,r,r.length,e⟩
theorem je_{n:Nat}(h:n<=sizeLine):Builtin.List.listTooLong n=false:=by
 unfold Builtin.List.listTooLong
 exact decide_eq_false (by omega)
end
section
variable{X:Cx}
def oM_:V->List V->Hp->VK->Prop:=fun x vs H Q=>∃l xs y,x=.ref l/\vs=[y]/\H l=some (.lst xs)/\xs.length<sizeLine/\Q .non (upd H l (.lst (xs++[y])))
theorem H_:MtM X "list.append" oM_:=by
 intro pins s σ H x vs v us Q I rx rv h
 obtain⟨l,xs,y,rfl,rfl,hH,hz,q⟩:=h
 cases rx
 obtain⟨u,rfl,ru⟩:=rv.one
 obtain⟨z,its,n,r,hl,e⟩:=I.lstM hH
 refine call_meets F.slot_list_append ⟨_,e,rfl⟩ F.entry_list_append (F.args_list_append_2 _ _) (PySem.list_append l its.toArray n u (by rw[List.size_toArray];omega)) ⟨e,?_⟩
 refine⟨.non,_,I.lset (its':=its++[u]) hH e (by simp) (r.append (.cons ru .nil)) ?_,rfl,q⟩
 rw[List.length_append,List.length_singleton]
 omega
def oL_:V->List V->Hp->VK->Prop:=fun x vs H Q=>∃l b xs zs,x=.ref l/\vs=[.ref b]/\H l=some (.lst xs)/\H b=some (.lst zs)/\xs.length+zs.length<=sizeLine/\Q .non (upd H l (.lst (xs++zs)))
theorem lL_:MtM X "list.extend" oL_:=by
 intro pins s σ H x vs v us Q I rx rv h
 obtain⟨l,b,xs,zs,rfl,rfl,hH,hB,hz,q⟩:=h
 cases rx
 obtain⟨u,rfl,ru⟩:=rv.one
 cases ru
 obtain⟨z,its,n,r,hl,e⟩:=I.lstM hH
 obtain⟨z2,its2,n2,r2,hl2,e2⟩:=I.lstM hB
 have hsz:its.toArray.size+its2.toArray.size<=sizeLine:=by rw[List.size_toArray,List.size_toArray];omega
 have hlong:¬ (!its.toArray.isEmpty&&Builtin.List.listTooLong (its.toArray.size+its2.toArray.size))=true:=by
  rw[je_ hsz,Bool.and_false]
  exact Bool.false_ne_true
 refine call_meets F.slot_list_extend ⟨_,e,rfl⟩ F.entry_list_extend (F.args_list_extend_2 _ _)
  (AutoSeq1.list_extend_list_list_0 l its.toArray n b its2.toArray n2 hlong (by rw[List.size_toArray];omega) (by omega)) ⟨e,e2,?_⟩
 refine⟨.non,_,I.lset (its':=its++its2) hH e (by simp) (r.append r2) ?_,rfl,q⟩
 rw[List.length_append]
 omega
def rCat:R2:=fun x y H Q=>∃l b xs zs,x=.ref l/\y=.ref b/\H l=some (.lst xs)/\H b=some (.lst zs)/\xs.length+zs.length<=sizeLine/\∀p,H p=none->Q (.ref p) (upd H p (.lst (xs++zs)))
theorem of_:OpR X (binaryOp .Add) rCat:=by
 intro pins s σ H x y v u Q I rx ry h
 obtain⟨l,b,xs,zs,rfl,rfl,hH,hB,hz,q⟩:=h
 cases rx
 cases ry
 obtain⟨z,its,n,r,hl,e⟩:=I.lstM hH
 obtain⟨z2,its2,n2,r2,hl2,e2⟩:=I.lstM hB
 refine PySem.P.add_list e e2 ?_ (by rw[List.size_toArray,List.size_toArray];omega)
 have ea:its.toArray++its2.toArray=(its++its2).toArray:=by simp
 rw[ea]
 exact⟨.ref _,_,I.lnew (t':=s.toks) (r.append r2) (by rw[List.length_append];omega),rfl,q _ I.fresh⟩
def rRep:R2:=fun x y H Q=>∃l k xs,x=.ref l/\y=.int k/\H l=some (.lst xs)/\-(2 ^ 63)<=k/\k<2 ^ 63/\xs.length*k.toNat<=sizeLine/\
 ∀p,H p=none->Q (.ref p) (upd H p (.lst (List.replicate k.toNat xs).flatten))
theorem pf_{α:Type}(xs:List α)(k:Nat):(List.replicate k xs).flatten.length=k*xs.length:=by
 induction k with
 | zero=>simp
 | succ k ih=>rw[List.replicate_succ,List.flatten_cons,List.length_append,ih,Nat.succ_mul,Nat.add_comm]
theorem pY_:OpR X (binaryOp .Mult) rRep:=by
 intro pins s σ H x y v u Q I rx ry h
 obtain⟨l,k,xs,rfl,rfl,hH,h1,h2,hz,q⟩:=h
 cases rx
 obtain⟨t,rfl⟩:=ry
 obtain⟨z,its,n,r,hl,e⟩:=I.lstM hH
 have hlen:its.toArray.size*k.toNat<=sizeLine:=by rw[List.size_toArray,<-hl];exact hz
 have hcap:¬ its.toArray.size*k.toNat>(2 ^ 63-1) / 8:=by
  have:(sizeLine:Nat)<=(2 ^ 63-1) / 8:=by decide
  omega
 have hfit:¬ (!Builtin.List.listFitsIndex k)=true:=by
  rw[fitsIndex_both h1 h2]
  exact Bool.false_ne_true
 have hlong:¬ Builtin.List.listTooLong (its.toArray.size*k.toNat)=true:=by
  rw[je_ hlen]
  exact Bool.false_ne_true
 have hnew:List.foldl (fun x1 x2=>x1++x2) #[] (List.replicate (if its.toArray.isEmpty=true then 0 else k.toNat) its.toArray)=(List.replicate k.toNat its).flatten.toArray:=by
  have f0:∀m:Nat,List.foldl (fun x1 x2=>x1++x2) #[] (List.replicate m its.toArray)=(List.replicate m its).flatten.toArray:=fun m=>by
   have:=gH_ its m []
   rw[List.nil_append] at this
   exact this
  rw[f0]
  cases its with
  | nil=>simp
  | cons a r'=>rw[if_neg (by simp)]
 refine wpAny_binaryOp_repeat_ref (T:="list") (U:="int") (by decide) ⟨_,e,rfl⟩ (fun s'=>typeIs_int s' k t) noFill_list_mul F.fills_int_mul F.slot_int_rmul repeat_list F.slot_int_index.lookup
  (call_meets F.slot_int_rmul (typeIs_int s k t) F.entry_int_rmul (F.args_int_rmul_2 _ _) (int___rmul___int_list k t l its.toArray n)
   ⟨e,rfl,⟨_,e,rfl⟩,call_meets F.slot_list_mul ⟨_,e,rfl⟩ F.entry_list_mul (F.args_list_mul_2 _ _) (AutoListH.list___mul___list_int_3 l its.toArray n k t hfit hcap hlong) ⟨e,?_⟩⟩)
 rw[hnew]
 exact⟨.ref _,_,I.lnew (t':=s.toks) (r.rep k.toNat) (by rw[pf_,Nat.mul_comm];exact hz),rfl,q _ I.fresh⟩
end
section
variable{prog:Program}{w:World}{A:Around}{E:Value->Shared->Prop}{s:Shared}
end
section
variable{X:Cx}
end
end L2
namespace Att
open PySem PySem.W PySem.Calls PyProof.Rows
theorem dX_{P:Params}{h:Heap}:∀(ns:List Int) (vs:List Value),WellAll P h vs (ns.map WData.int)->IntsAre vs ns:=by
 intro ns
 induction ns with
 | nil =>
  intro vs w
  rw[List.map_nil] at w
  cases w
  exact .nil
 | cons n ns ih =>
  intro vs w
  rw[List.map_cons] at w
  cases w with
  | cons a b =>
   cases a
   exact .cons _ _ (ih _ b)
theorem kM_{l:OpenLaw}{n:Nat}(hn:l.most=some n){P:Params}{h:Heap}{args:List WData}{vals:List Value}
  (hpre:l.row.toRowW.claim.pre args=true) (hwl:WellAll P h vals args) :
  ∃a vs ns,vals=[Value.ref a]/\args=[WData.list (ns.map WData.int)]/\h.get? a=some {cls:=.type "list",data:=.seq vs.toArray}/\IntsAre vs ns/\ns.length<=n:=by
 have hsh:WShape.hasAll [] args [.list .int]=true:=(pre_splitW hpre).1
 have hc:l.pre.holds [] {args:=args}=true:=(pre_splitW hpre).2
 obtain⟨d,r,rfl,h1,h2⟩:=hasAllW_cons hsh
 obtain rfl:=hasAllW_nil h2
 obtain⟨xs,rfl,h3⟩:=hasW_list h1
 obtain⟨ns,rfl⟩:=items_int h3
 have hlen:ns.length<=n:=by
  unfold OpenLaw.pre at hc
  have h4:(WTm.not (.lt (.lit (.int (n:Int))) (.len (.arg 0)))).holds [] {args:=[.list (ns.map .int)]}=true:=by
   have h4:=(holds_andW hc).1
   rw[hn] at h4
   exact h4
  have h5:=condW_of h4 (w_not (w_lt w_lit (w_len_list (w_arg rfl))))
  rw[List.length_map] at h5
  refine Nat.le_of_not_lt fun q=>?_
  have q':(n:Int)<((ns.length:Nat):Int):=by omega
  first
   | (rw[decide_eq_true q'] at h5;exact absurd h5 (by decide))
   | (simp at h5;omega)
 cases hwl with
 | cons w1 w2 =>
  cases w2
  cases w1 with
  | list ho hall=>exact⟨_,_,ns,rfl,rfl,ho,dX_ ns _ hall,hlen⟩
theorem ll_(l:OpenLaw)(args:List WData):l.row.toRowW.claim.post args (.bool true) args=true :=
 postW_of (r:=l.row.toRowW) (X:=(true==true))
  (show WShape.has [] (.bool true) .bool=true by first | rfl | decide | simp[WShape.has,WShape.arms,WShape.armsAll])
  (show(WTm.eq .res (.lit (.bool true))).value [] {args:=args,res:=some (.bool true),after:=args}=some (.bool (true==true)) from w_eq_bool (w_res rfl) w_lit) rfl
theorem attach_call{l:OpenLaw}{n:Nat}{q:Program}{loose:List Str}{XP:(Str->Option Value)->Heap->Prop}{YP:World->Heap->Prop}{d:DefRec}
  (hn:l.most=some n) (hdf:d.params.defaults=[])
  (call:∀(w:World) (s₀ s₁:Shared) (mg mb:Str->Option Value) (fa:Addr) (o:Obj) (pm cd doc:Value) (a:Addr) (vs:List Value) (ns:List Int),
   Ground q loose [] XP w s₀ mg mb s₁.heap->YP w s₁.heap->
   s₁.heap.get? fa=some o->o.data=.func (docDef d.name d.params d.body d.scope pm cd doc)->s₁.heap.CodeRec cd d.name->mg d.name=some (.ref fa)->
   s₁.heap.get? a=some {cls:=.type "list",data:=.seq vs.toArray}->IntsAre vs ns->ns.length<=n->s₁.gens=#[]->
   codeAny (model l.prog w) callerA (.call (.ref fa) ⟨[.ref a],[]⟩) (fun r s'=>r=.ok (.ret (.bool true))/\OldK s₁.heap s'.heap/\s'.os=s₁.os/\AllBare s'.gens) s₁) :
  WalkO q loose XP YP l.row.toRowW d [] (fun f vs=>PySem.call f vs):=by
 intro w s₀ s₁ mg mb G Y fa o pm cd doc dV kV ho hd hcd hD hmg hg args vals as hpre hlay hrd hwl hlo
 obtain rfl:dV=.none:=Dflts.none hD hdf
 obtain rfl:kV=.none:=Dflts.noKw hD
 obtain⟨a,vs,ns,rfl,rfl,hobj,hints,hlen⟩:=kM_ hn hpre hwl
 refine enter_call (codeAny_mono (call w s₀ s₁ mg mb fa o pm cd doc a vs ns G Y ho (fd_plain hd) hcd hmg hobj hints hlen hg) fun r s' hq=>?_)
 obtain⟨rfl,h2,h3,h4⟩:=hq
 exact⟨.inl ⟨.bool true,.bool true,[],rfl,fun _=>rfl,.bool true,ll_ l _,fun _=>⟨List.Pairwise.nil,fun _ hm=>(nomatch hm)⟩⟩,h2,h3,h4⟩
section
variable{prog:Program}{w:World}{A:Around}{E:Value->Shared->Prop}{s:Shared}{K:Frag}
def ledger(h:Heap)(L d:Addr):List (Addr×Obj):=(List.range h.objs.size).filterMap fun a=>if a=L\/a=d then none else (h.get? a).map fun o=>(a,o)
end
end Att
namespace L2
open PySem PySem.Spec PyProof.Rows
theorem fS_{vs:List Value}{ns:List Int}(h:IntsAre vs ns):Vals (ns.map V.int) vs:=by
 induction h with
 | nil=>exact .nil
 | cons n t _ ih=>exact .cons ⟨t,rfl⟩ ih
def Only(H:Hp):Prop:=∀b,H b=none\/∃o xs,H b=some (.frz o (.lst xs))
theorem nz_{P:Program}{w:World}{K:PySem.W.Frag}{mg mb:Str->Option Value}{CX:CXT}{k:Nat}{fa a:Addr}{fd:FuncData}{x:Str}{sp:Sp}{s₁:Shared}{vs:List Value}{ns:List Int}
  (KX:K.In s₁.heap) (hns:s₁.heap.Ns mainGlobals mg) (hb:s₁.heap.Ns builtinsNs mb) (hbb:∀x:Str,x≠"__name__"->mb x=bootBuiltins x) (hlim:s₁.heap.NoLimit) (hg:s₁.gens=#[])
  (ha:s₁.heap.get? a=some {cls:=.type "list",data:=.seq vs.toArray}) (hi:IntsAre vs ns) (hl:ns.length<=sizeLine) (hr:Room k callerA)
  (F:∀base:Heap,K.In base->base.Ns mainGlobals mg->FnOk P w K mg base CX k fa fd [x] sp) (hbind:∀(s:Shared) (u:Value),BindsTo s fd ⟨[u],[]⟩ [(x,u)])
  (hsp:∀H:Hp,Only H->SqL K H a (ns.map V.int)->sp [.ref a] H (fun v _=>v=.bl true) fun _ _ _=>False)
  (hCX:∀H e s',CX [] H s₁ (fun _ _ _=>False) e s'->False) :
  codeAny (model P w) callerA (.call (.ref fa) ⟨[.ref a],[]⟩) (fun r s'=>r=.ok (.ret (.bool true))/\OldK s₁.heap s'.heap/\s'.os=s₁.os/\AllBare s'.gens) s₁:=by
 have rv:=fS_ hi
 have lenV:=hi.length
 have core:∀H:Hp,Only H->SqL K H a (ns.map V.int)->HOk P w H s₁.heap->(∀b,H b≠none->b=a)->(H a≠none->K.lookup a=none)->
   codeAny (model P w) callerA (.call (.ref fa) ⟨[.ref a],[]⟩) (fun r s'=>r=.ok (.ret (.bool true))/\OldK s₁.heap s'.heap/\s'.os=s₁.os/\AllBare s'.gens) s₁:=by
  intro H hO hS hok hA hK
  have base_of:∀ {b:Addr} {o:Obj},s₁.heap.get? b=some o->H b=none->(hidT s₁.heap H).get? b=some o:=fun e n=>nD_ e n
  have noA:∀ {b:Addr} {o:Obj} {es:Array DictEntry} {ep:Nat},s₁.heap.get? b=some o->o.data=.dict es ep->H b=none:=fun {b o es ep} e d=>by
   cases q:H b with
   | none=>rfl
   | some u =>
    have e':b=a:=hA b (by rw[q];simp)
    subst e'
    rw[ha] at e;cases e
    have d':Data.seq vs.toArray _=Data.dict es ep:=d
    cases d'
  have nsK:∀ {b:Addr} {m:Str->Option Value},s₁.heap.Ns b m->(hidT s₁.heap H).Ns b m:=fun {b m} ⟨o,es,ep,e,d,r⟩=>⟨o,es,ep,base_of e (noA e d),d,r⟩
  have hKb:K.In (hidT s₁.heap H):=fun b o e=>base_of (KX b o e) (by
   cases q:H b with
   | none=>rfl
   | some u =>
    have e':b=a:=hA b (by rw[q];simp)
    subst e'
    rw[hK (by rw[q];simp)] at e;cases e)
  have hM:Mod K mg (hidT s₁.heap H):=⟨hKb,nsK hns,⟨mb,nsK hb,hbb⟩,let ⟨mc,h1,h2⟩:=hlim;⟨mc,nsK h1,h2⟩⟩
  have e0:Env0 P w K mg (hidT s₁.heap H) callerA [] s₁ H:=⟨rfl,hM,fun b o e=>pb_ e,Nat.le_of_eq (ma_ _ _),trivial,fun b hb=>absurd (show b∈([]:List Addr) from hb) (by simp),hok,.of_eq hg⟩
  refine codeAny_mono ((F _ hKb (nsK hns)).run callerA [] s₁ H ⟨[.ref a],[]⟩ [.ref a] [.ref a] _ _ hr e0 (hbind s₁ (.ref a)) (.cons rfl .nil) (hsp H hO hS)) fun r s' h=>?_
  cases r with
  | error e=>exact(hCX H e s' h).elim
  | ok fl =>
   cases fl with
   | next=>exact False.elim h
   | brk=>exact False.elim h
   | cont=>exact False.elim h
   | ret u =>
    obtain⟨v,H',os,bare,un,hok',r',q⟩:=h
    have q':v=.bl true:=q
    subst q'
    obtain rfl:u=Value.bool true:=r'
    refine⟨rfl,OldK.of_keep fun b o e=>?_,os,bare⟩
    cases q:H b with
    | none=>exact un.keep b o e q (by intro z;exact absurd (show b∈([]:List Addr) from z) (by simp)) (by simp)
    | some u =>
     rcases hO b with z | ⟨ob,xs,z⟩
     ·rw[q] at z;cases z
     ·have z2:=un.frzs b ob _ z
      obtain⟨e1,_⟩:=hok b _ z
      obtain⟨e2,_⟩:=hok' b _ z2
      rw[e] at e1;cases e1
      exact e2
 cases hk:K.lookup a with
 | some o =>
  have e:=KX a o hk
  rw[ha] at e
  cases e
  refine core (fun _=>none) (fun _=>.inl rfl) (.inr ⟨_,vs.toArray,_,hk,rfl,rfl,rfl,by rw[List.size_toArray,lenV];exact hl,by simpa using rv⟩) (fun b u z=>by have z':(none:Option HO)=some u:=z;cases z') (fun b z=>absurd rfl z) fun z=>absurd rfl z
 | none =>
  refine core (fun b=>if b=a then some (.frz {cls:=.type "list",data:=.seq vs.toArray} (.lst (ns.map V.int))) else none) (fun b=>?_) (.inl (.inr ⟨{cls:=.type "list",data:=.seq vs.toArray},if_pos rfl⟩)) (fun b u z=>?_) (fun b z=>?_) fun _=>hk
  ·by_cases hb:b=a
   ·exact .inr ⟨_,_,if_pos hb⟩
   ·exact .inl (if_neg hb)
  ·by_cases hb:b=a
   ·have z':=(if_pos hb).symm.trans z
    cases z'
    subst hb
    exact⟨ha,by rw[List.length_map];exact hl,vs,_,rv,ha⟩
   ·have z':=(if_neg hb).symm.trans z
    cases z'
  ·by_cases hb:b=a
   ·exact hb
   ·exact absurd (if_neg hb) z
abbrev KOf{K:PySem.W.Frag}{h:Heap}(_:K.In h):PySem.W.Frag:=K
theorem oC_{l:PySem.W.OpenLaw}{n k:Nat}{q:Program}{loose:List Str}{XP:(Str->Option Value)->Heap->Prop}{YP:World->Heap->Prop}{d:DefRec}{K:Params->PySem.W.Frag}{CX:World->CXT}{sp:World->Sp}{x:Str}
  (hn:l.most=some n) (hn2:n<=sizeLine) (hdf:d.params.defaults=[]) (hr:Room k callerA)
  (hY:∀(w:World) (h:Heap),YP w h->(K w.params).In h)
  (F:∀(w:World) (mg:Str->Option Value) (fa:Addr) (h:Heap),(K w.params).In h->h.Ns mainGlobals mg->mg d.name=some (.ref fa)->
   ∃fd:FuncData,(∀(s:Shared) (u:Value),BindsTo s fd ⟨[u],[]⟩ [(x,u)])/\
    ∀base:Heap,(K w.params).In base->base.Ns mainGlobals mg->FnOk l.prog w (K w.params) mg base (CX w) k fa fd [x] (sp w))
  (hsp:∀(w:World) (H:Hp) (a:Addr) (ns:List Int),ns.length<=n->Only H->SqL (K w.params) H a (ns.map V.int)->sp w [.ref a] H (fun v _=>v=.bl true) fun _ _ _=>False)
  (hCX:∀(w:World) (H:Hp) (s:Shared) (e:Value) (s':Shared),CX w [] H s (fun _ _ _=>False) e s'->False) :
  PySem.W.WalkO q loose XP YP l.row.toRowW d [] (fun f vs=>PySem.call f vs):=by
 refine Att.attach_call hn hdf fun w s₀ s₁ mg mb fa o pm cd doc a vs ns G Y ho hd hcd hmg hobj hints hlen hg=>?_
 have KX:=hY w _ Y
 obtain⟨fd,hb,hF⟩:=F w mg fa _ KX G.T.g hmg
 exact nz_ KX G.T.g G.T.b G.T.builtins G.T.nolimit hg hobj hints (Nat.le_trans hlen hn2) hr hF hb (fun H hO hS=>hsp w H a ns hlen hO hS) fun H e s'=>hCX w H s₁ e s'
def bz_(s:Stmt):Arguments:=match s with
 | .FunctionDef _ a _ _ _ _ _ _ _ _=>a
 | _=>{posonlyargs:=[],args:=[],vararg:=none,kwonlyargs:=[],kw_defaults:=[],kwarg:=none,defaults:=[]}
def ai_(s:Stmt):List Stmt:=match s with
 | .FunctionDef _ _ b _ _ _ _ _ _ _=>b
 | _=>[]
def i_(s:Stmt):Scope:=match s with
 | .FunctionDef _ _ _ _ _ _ sc _ _ _=>sc
 | _=>{kind:=.function,names:=[],isGenerator:=false,isCoroutine:=false}
abbrev CX0:CXT:=fun _ _ _ _ _ _=>False
abbrev E0:XK:=fun _ _ _=>False
theorem pass0{X:Cx}:Passes CX0 X E0:=fun _ _ _ _ _ _ _ h=>h.elim
structure Fun(K:PySem.W.Frag)(x qual:Str)(st:Stmt)(f:Addr)(fd:FuncData):Prop where
 ex:∃(oc:Value) (od:Option Addr) (kV doc pm:Value) (an:Option Addr) (cdv ct:Value) (osl:Array (Option Value)),
  fd=PySem.W.fnOf x qual (bz_ st) (ai_ st) (i_ st) .none kV doc pm an cdv ct/\K.lookup f=some ⟨oc,od,.func fd,osl⟩/\PySem.W.codeIn K cdv qual=true
 kp:PySem.W.keepIn K (.ref f)=true
section
variable{P:Program}{w:World}{K:PySem.W.Frag}{mg:Str->Option Value}{base:Heap}
theorem Fun.ok{x qual:Str}{st:Stmt}{f:Addr}{fd:FuncData}{N ps:List Str}{k:Nat}{sp:Sp}(F:Fun K x qual st f fd)(S:FnScope N ps (i_ st))(len:∀vs H Q E,sp vs H Q E->vs.length=ps.length)
  (hbody:∀(cdv:Value) (A:Around) (outer:List Env) (s:Shared) (H:Hp) (vs:List V) (Q:VK) (E:XK),Room k (A.deeper (envOfC qual (i_ st) s.heap.objs.size f cdv))->sp vs H Q E->
   ∃t,PSs (cxOf CX0 P w K mg base N qual (i_ st) f cdv A outer s H E).nox (ai_ st) t/\t {nx:=fun _ H'=>Q .non H',rt:=Q} (start N vs) H):FnOk P w K mg base CX0 (k+1) f fd ps sp:=by
 obtain⟨oc,od,kV,doc,pm,an,cdv,ct,osl,rfl,lk,hcd⟩:=F.ex
 refine qW_ lk hcd S len fun A outer s H vs Q E hr hsp=>?_
 obtain⟨t,h,q⟩:=hbody cdv A outer s H vs Q E hr hsp
 exact⟨t,h.nox,q⟩
theorem Fun.binds{x qual:Str}{st:Stmt}{f:Addr}{fd:FuncData}{ps:List Str}(F:Fun K x qual st f fd)
  (h:∀(kV doc pm:Value) (an:Option Addr) (cdv ct:Value) (us:List Value),us.length=ps.length->bindArgs (PySem.W.fnOf x qual (bz_ st) (ai_ st) (i_ st) .none kV doc pm an cdv ct) ⟨us,[]⟩=pure (ps.zip us)):Binds K fd ps []:=by
 obtain⟨oc,od,kV,doc,pm,an,cdv,ct,osl,rfl,lk,hcd⟩:=F.ex
 exact .all (h kV doc pm an cdv ct)
theorem ol_{x qual:Str}{st:Stmt}{f:Addr}{oc:Value}{od an:Option Addr}{osl:Array (Option Value)}{kV doc pm cdv ct:Value}(l:K.lookup f=some ⟨oc,od,.func (PySem.W.fnOf x qual (bz_ st) (ai_ st) (i_ st) .none kV doc pm an cdv ct),osl⟩)
  (c:PySem.W.codeIn K cdv qual=true) (k:PySem.W.keepIn K (.ref f)=true):Fun K x qual st f (PySem.W.fnOf x qual (bz_ st) (ai_ st) (i_ st) .none kV doc pm an cdv ct):=⟨⟨oc,od,kV,doc,pm,an,cdv,ct,osl,rfl,l,c⟩,k⟩
end
theorem cD_{A:Around}{k:Nat}(hr:Room k A):A.units+1<cLine:=Nat.lt_of_le_of_lt (Nat.add_le_add_left (by decide:1<=64) _) hr.units
section
variable{X:Cx}
theorem pv(i:Nat){x:Str}{pos:Pos}(hN:X.N[i]?=some x:=by rfl)(hv:Vis X.env.scope x:=by first | exact Or.inl rfl | exact Or.inr (Or.inl rfl) | exact Or.inr (Or.inr rfl))(hd:(x==("__debug__":Str))=false:=by decide)
  (hcd:(x==("__classdict__":Str))=false:=by decide):PE X (.Name x pos) (tVar i):=pU_ hN hv hd hcd
end
theorem iteF{A B:Prop}(h:B):if false=true then A else B:=by
 rw[if_neg Bool.false_ne_true]
 exact h
theorem iteT{A B:Prop}(h:A):if true=true then A else B:=by
 rw[if_pos rfl]
 exact h
theorem ite2{c A B:Prop}[Decidable c](h1:c->A)(h2:¬ c->B):if c then A else B:=by
 by_cases h:c
 ·rw[if_pos h]
  exact h1 h
 ·rw[if_neg h]
  exact h2 h
theorem iteNS{c A B:Prop}[Decidable c](hc:c)(h:B):if (!decide c)=true then A else B:=by
 rw[decide_eq_true hc]
 exact iteF h
def Same(H H':Hp):Prop:=∀b o,H b=some o->H' b=some o
theorem Same.refl(H:Hp):Same H H:=fun _ _ h=>h
theorem Same.trans{H H1 H2:Hp}(a:Same H H1)(b:Same H1 H2):Same H H2:=fun c o h=>b c o (a c o h)
theorem Same.free{H H':Hp}(e:Same H H'){l:Addr}(h:H' l=Option.none):H l=Option.none:=by
 cases q:H l with
 | none=>rfl
 | some o =>
  rw[e l o q] at h
  cases h
theorem Same.seq{K:PySem.W.Frag}{H H':Hp}{a:Addr}{xs:List V}(e:Same H H')(h:SqL K H a xs):SqL K H' a xs:=by
 rcases h with(h | ⟨o,h⟩) | h
 ·exact .inl (.inl (e _ _ h))
 ·exact .inl (.inr ⟨o,e _ _ h⟩)
 ·exact .inr h
end L2
set_option maxHeartbeats 4000000
namespace Me
def look(f:List (Int×Int))(k:Int):Option Int:=(f.find? fun q=>decide (q.1=k)).map (·.2)
def put(f:List (Int×Int))(k v:Int):List (Int×Int) :=
 if (f.any fun p=>decide (p.1=k))=true then f.map (fun p=>if p.1=k then (p.1,v) else p) else f++[(k,v)]
def addTo(f:List (Int×Int))(k n:Int):List (Int×Int):=put f k ((look f k).getD 0+n)
def figs(p:Int×Int)(w:Int)(n:Nat)(acc:List (Int×Int)):List (Int×Int):=(List.range n).foldl (fun acc (d:Nat)=>addTo acc (p.1+(d:Int)*w) p.2) acc
def N_(f:List (Int×Int))(b:Nat)(w:Int):List (Int×Int):=f.foldl (fun acc p=>figs p w b acc) []
def waysW(b:Nat)(ws:List Int):List (Int×Int):=ws.foldl (fun f w=>N_ f b w) [(0,1)]
abbrev keys(f:List (Int×Int)):List Int:=f.map (·.1)
theorem X_(p:Int×Int)(w:Int)(n:Nat)(acc:List (Int×Int)):figs p w (n+1) acc=addTo (figs p w n acc) (p.1+(n:Int)*w) p.2:=by
 unfold figs
 rw[List.range_succ,List.foldl_append]
 rfl
theorem bx_{f:List (Int×Int)}{b i:Nat}{w:Int}{p:Int×Int}(h:f[i]?=some p):N_ (f.take (i+1)) b w=figs p w b (N_ (f.take i) b w):=by
 unfold N_
 rw[List.take_add_one,h,List.foldl_append]
 rfl
theorem cJ_{b i:Nat}{ws:List Int}{w:Int}(h:ws[i]?=some w):waysW b (ws.take (i+1))=N_ (waysW b (ws.take i)) b w:=by
 unfold waysW
 rw[List.take_add_one,h,List.foldl_append]
 rfl
theorem dV_(f:List (Int×Int))(k v:Int):keys (f.map fun p=>if p.1=k then (p.1,v) else p)=keys f:=by
 rw[keys,List.map_map]
 apply List.map_congr_left
 intro p _
 show(if p.1=k then (p.1,v) else p).1=p.1
 split <;> rfl
theorem jm_{f:List (Int×Int)}{k v:Int}:(keys f).Nodup->(keys (put f k v)).Nodup:=by
 intro nd
 unfold put
 split
 ·rw[dV_];exact nd
 ·rename_i h
  have hn:k∉keys f:=fun z=>h (by
   obtain⟨p,hp,e⟩:=List.mem_map.mp z
   exact List.any_eq_true.mpr ⟨p,hp,by simpa using e⟩)
  rw[keys,List.map_append]
  refine List.nodup_append.mpr ⟨nd,by simp,fun a ha b hb=>?_⟩
  have:b=k:=by simpa using hb
  rw[this]
  exact fun z=>hn (z▸ha)
theorem pi_{f:List (Int×Int)}{k v lo hi:Int}(h:∀x∈keys f,lo<=x/\x<=hi)(hk:lo<=k/\k<=hi):∀x∈keys (put f k v),lo<=x/\x<=hi:=by
 unfold put
 split
 ·rw[dV_];exact h
 ·intro x hx
  rw[keys,List.map_append] at hx
  rcases List.mem_append.mp hx with hx | hx
  ·exact h x hx
  ·have:x=k:=by simpa using hx
   rw[this];exact hk
structure Ok(f:List (Int×Int))(m:Int):Prop where
 nd:(keys f).Nodup
 bd:∀x∈keys f,-m<=x/\x<=m
theorem Ok.put{f:List (Int×Int)}{m k v:Int}(o:Ok f m)(h : -m<=k/\k<=m):Ok (put f k v) m:=⟨jm_ o.nd,pi_ o.bd h⟩
theorem Ok.nil{m:Int}:Ok [] m:=⟨by simp[keys],fun x h=>by simp[keys] at h⟩
theorem hh_{m x w:Int}{d b:Nat}(hx : -m<=x/\x<=m)(hw : -9<=w/\w<=9)(hb:b<=16)(hd:d<b) : -(m+135)<=x+(d:Int)*w/\x+(d:Int)*w<=m+135:=by
 have d0:(0:Int)<=d:=by omega
 have d15:(d:Int)<=15:=by omega
 have a1:(d:Int)*w<=d*9:=Int.mul_le_mul_of_nonneg_left hw.2 d0
 have a2:(d:Int)*(-9)<=d*w:=Int.mul_le_mul_of_nonneg_left hw.1 d0
 omega
theorem fK_{f:List (Int×Int)}{m w:Int}{p:Int×Int}{b:Nat}(hp : -m<=p.1/\p.1<=m)(hw : -9<=w/\w<=9)(hb:b<=16)(o:Ok f (m+135)):∀n,n<=b->Ok (figs p w n f) (m+135)
 | 0,_=>o
 | n+1,h=>by
  rw[X_]
  exact(fK_ hp hw hb o n (by omega)).put (hh_ hp hw hb (by omega))
theorem aT_{f:List (Int×Int)}{m w:Int}{b:Nat}(o:Ok f m)(hw : -9<=w/\w<=9)(hb:b<=16):∀i,Ok (N_ (f.take i) b w) (m+135)
 | 0=>Ok.nil
 | i+1=>by
  cases h:f[i]? with
  | none =>
   rw[List.take_add_one,h]
   simpa using aT_ o hw hb i
  | some p =>
   rw[bx_ h]
   exact fK_ (o.bd p.1 (List.mem_map.mpr ⟨p,List.mem_of_getElem? h,rfl⟩)) hw hb (aT_ o hw hb i) b (Nat.le_refl _)
theorem hF_{f:List (Int×Int)}{m w:Int}{b:Nat}(o:Ok f m)(hw : -9<=w/\w<=9)(hb:b<=16):Ok (N_ f b w) (m+135):=by
 have:=aT_ o hw hb f.length
 rwa [List.take_length] at this
theorem dt_{b:Nat}{ws:List Int}(hw:∀w∈ws,-9<=w/\w<=9)(hb:b<=16):∀i:Nat,Ok (waysW b (ws.take i)) (135*i)
 | 0 => ⟨by simp[waysW, keys], fun x h => by have : x = 0 := by simpa [waysW, keys] using h
                                             omega⟩
 | i+1=>by
  cases h:ws[i]? with
  | none =>
   rw[List.take_add_one,h]
   have o:=dt_ hw hb i
   simp only[Option.toList_none,List.append_nil]
   exact⟨o.nd,fun x hx=>by have:=o.bd x hx;omega⟩
  | some w =>
   rw[cJ_ h]
   have o:=hF_ (dt_ hw hb i) (hw w (List.mem_of_getElem? h)) hb
   have e:(135*((i+1:Nat):Int))=135*(i:Int)+135:=by omega
   rw[e]
   exact o
theorem dm_{b:Nat}{ws:List Int}(hw:∀w∈ws,-9<=w/\w<=9)(hb:b<=16):Ok (waysW b ws) (135*ws.length):=by
 have:=dt_ hw hb ws.length
 rwa [List.take_length] at this
theorem kJ_{α:Type}[DecidableEq α]:∀ {l m:List α},l.Nodup->(∀x∈l,x∈m)->l.length<=m.length
 | [],_,_,_=>Nat.zero_le _
 | x::l,m,nd,h=>by
  have hx:=h x (by simp)
  have hn:=(List.nodup_cons.mp nd).1
  have:=kJ_ (l:=l) (m:=m.erase x) (List.nodup_cons.mp nd).2 fun y hy=>(List.mem_erase_of_ne (show y≠x from fun e=>hn (by rw[<-e];exact hy))).mpr (h y (List.mem_cons_of_mem _ hy))
  rw[List.length_erase_of_mem hx] at this
  have hp:0<m.length:=List.length_pos_of_mem hx
  simp only[List.length_cons]
  omega
theorem Ok.len{f:List (Int×Int)}{m:Nat}(o:Ok f m):f.length<=2*m+1:=by
 have h:=kJ_ (l:=keys f) (m:=(List.range (2*m+1)).map fun(i:Nat)=>(i:Int)-m) o.nd fun x hx=>by
  have:=o.bd x hx
  refine List.mem_map.mpr ⟨(x+m).toNat,List.mem_range.mpr (by omega),by omega⟩
 simpa [keys] using h
theorem Y_:∀ {g:List (Int×Int)} {p:Int×Int},(keys g).Nodup->p∈g->look g p.1=some p.2
 | [],_,_,h=>by simp at h
 | q::g,p,nd,h=>by
  have hn:q.1∉keys g:=(List.nodup_cons.mp nd).1
  have nd':=(List.nodup_cons.mp nd).2
  rcases List.mem_cons.mp h with rfl | h
  ·simp[look,List.find?_cons]
  ·have hne:¬ q.1=p.1:=fun e=>hn (by rw[e];exact List.mem_map.mpr ⟨p,h,rfl⟩)
   have:=Y_ nd' h
   simpa [look,List.find?_cons,hne] using this
theorem jN_{f:List (Int×Int)}(nd:(keys f).Nodup){ns:List Int}(h:ns.Perm (keys f)):(ns.map fun n=>(n,(look f n).getD 0)).Perm f:=by
 have h1:=h.map fun n=>(n,(look f n).getD 0)
 have e:(keys f).map (fun n=>(n,(look f n).getD 0))=f:=by
  rw[keys,List.map_map]
  conv=>rhs;rw[<-List.map_id f]
  apply List.map_congr_left
  intro p hp
  show(p.1,(look f p.1).getD 0)=p
  rw[Y_ nd hp]
  rfl
 rw[e] at h1
 exact h1
theorem lc_{f:List (Int×Int)}{k v:Int}(h:k∉keys f):put f k v=f++[(k,v)]:=by
 unfold put
 rw[if_neg]
 intro z
 obtain⟨p,hp,e⟩:=List.any_eq_true.mp z
 exact h (List.mem_map.mpr ⟨p,hp,by simpa using e⟩)
def ji_(f more:List (Int×Int)):List (Int×Int):=more.foldl (fun acc p=>put acc p.1 p.2) f
theorem gw_:∀(more f:List (Int×Int)),(keys (f++more)).Nodup->ji_ f more=f++more
 | [],f,_=>by simp[ji_]
 | p::r,f,nd=>by
  have hp:p.1∉keys f:=by
   rw[keys,List.map_append] at nd
   have:=(List.nodup_append.mp nd).2.2
   exact fun z=>this p.1 z p.1 (by simp) rfl
  show ji_ (put f p.1 p.2) r=_
  rw[lc_ hp,gw_ r (f++[(p.1,p.2)]) (by simpa using nd)]
  simp
end Me
namespace Me
abbrev tot(f:List (Int×Int)):Int:=(f.map (·.2)).sum
theorem kZ_{f:List (Int×Int)}{k v:Int}(h:k∉keys f):(f.map fun p=>if p.1=k then (p.1,v) else p)=f:=by
 induction f with
 | nil=>rfl
 | cons p f ih =>
  have h1:p.1≠k:=fun z=>h (by simp[keys,z])
  have h2:k∉keys f:=fun z=>h (List.mem_cons_of_mem _ z)
  rw[List.map_cons,ih h2,if_neg h1]
theorem oO_{f:List (Int×Int)}{a x v:Int}(h:a∉keys f):put ((a,x)::f) a v=(a,v)::f:=by
 unfold put
 rw[if_pos (by simp),List.map_cons,kZ_ h,if_pos rfl]
theorem ng_{f:List (Int×Int)}{a x k v:Int}(h:a≠k):put ((a,x)::f) k v=(a,x)::put f k v:=by
 unfold put
 have e:(((a,x)::f).any fun p=>decide (p.1=k))=f.any fun p=>decide (p.1=k):=by
  rw[List.any_cons]
  simp[h]
 rw[e]
 split
 ·rw[List.map_cons,if_neg h]
 ·rfl
theorem bU_{f:List (Int×Int)}{a x:Int}:look ((a,x)::f) a=some x:=by simp[look]
theorem aU_{f:List (Int×Int)}{a x k:Int}(h:a≠k):look ((a,x)::f) k=look f k:=by simp[look,h]
theorem ee_{f:List (Int×Int)}{a x n:Int}(h:a∉keys f):addTo ((a,x)::f) a n=(a,x+n)::f:=by
 unfold addTo
 rw[bU_,oO_ h]
 rfl
theorem cH_{f:List (Int×Int)}{a x k n:Int}(h:a≠k):addTo ((a,x)::f) k n=(a,x)::addTo f k n:=by
 unfold addTo
 rw[aU_ h,ng_ h]
theorem ij_{k n:Int}:∀ {f:List (Int×Int)},(keys f).Nodup->tot (addTo f k n)=tot f+n
 | [],_=>by simp[addTo,put,look,tot]
 | (a,x)::f,nd=>by
  have nd1:a∉keys f:=(List.nodup_cons.mp nd).1
  have nd2:(keys f).Nodup:=(List.nodup_cons.mp nd).2
  by_cases e:a=k
  ·subst e
   rw[ee_ nd1]
   simp only[tot,List.map_cons,List.sum_cons]
   omega
  ·have ih:=ij_ (k:=k) (n:=n) nd2
   rw[cH_ e]
   simp only[tot,List.map_cons,List.sum_cons] at ih⊢
   omega
theorem ot_{k n:Int}(hn:0<=n):∀ {f:List (Int×Int)},(keys f).Nodup->(∀p∈f,0<=p.2)->∀p∈addTo f k n,0<=p.2
 | [],_,_=>by
  intro p hp
  have:p=(k,0+n):=by simpa [addTo,put,look] using hp
  rw[this]
  show 0<=0+n
  omega
 | (a,x)::f,nd,h=>by
  have nd1:a∉keys f:=(List.nodup_cons.mp nd).1
  have nd2:(keys f).Nodup:=(List.nodup_cons.mp nd).2
  have hx:0<=x:=h (a,x) (by simp)
  have hf:∀p∈f,0<=p.2:=fun p hp=>h p (by simp[hp])
  by_cases e:a=k
  ·subst e
   rw[ee_ nd1]
   intro p hp
   rcases List.mem_cons.mp hp with rfl | hp
   ·show 0<=x+n
    omega
   ·exact hf p hp
  ·rw[cH_ e]
   intro p hp
   rcases List.mem_cons.mp hp with rfl | hp
   ·exact hx
   ·exact ot_ hn nd2 hf p hp
theorem mM_{f:List (Int×Int)}{k n:Int}(nd:(keys f).Nodup):(keys (addTo f k n)).Nodup:=jm_ nd
structure Tw(f:List (Int×Int))(t:Int):Prop where
 nd:(keys f).Nodup
 nn:∀p∈f,0<=p.2
 tt:tot f=t
theorem Tw.add{f:List (Int×Int)}{t k n:Int}(o:Tw f t)(hn:0<=n):Tw (addTo f k n) (t+n):=⟨mM_ o.nd,ot_ hn o.nd o.nn,by rw[ij_ o.nd,o.tt]⟩
theorem Tw.figs{f:List (Int×Int)}{t w:Int}{p:Int×Int}(o:Tw f t)(hp:0<=p.2):∀n:Nat,Tw (figs p w n f) (t+n*p.2)
 | 0=>by
  have e:t+((0:Nat):Int)*p.2=t:=by simp
  rw[e];exact o
 | n+1=>by
  have e:t+((n+1:Nat):Int)*p.2=(t+n*p.2)+p.2:=by push_cast;rw[Int.add_mul];omega
  rw[X_,e]
  exact(Tw.figs o hp n).add hp
theorem Tw.more{b:Nat}{w:Int}:∀ {f:List (Int×Int)} {acc:List (Int×Int)} {t:Int},Tw acc t->(∀p∈f,0<=p.2)->Tw (f.foldl (fun acc p=>Me.figs p w b acc) acc) (t+b*tot f)
 | [],acc,t,o,_=>by
  have e:t+(b:Int)*tot []=t:=by simp[tot]
  rw[e];exact o
 | p::f,acc,t,o,h=>by
  have e:t+(b:Int)*tot (p::f)=(t+b*p.2)+b*tot f:=by
   simp only[tot,List.map_cons,List.sum_cons]
   rw[Int.mul_add];omega
  rw[e,List.foldl_cons]
  exact Tw.more (o.figs (h p (by simp)) b) (fun q hq=>h q (by simp[hq]))
theorem Tw.one{f:List (Int×Int)}{t w:Int}{b:Nat}(o:Tw f t):Tw (N_ f b w) (b*t):=by
 have z:Tw [] 0:=⟨by simp[keys],fun p hp=>by simp at hp,rfl⟩
 have h:=Tw.more (b:=b) (w:=w) z o.nn
 rw[o.tt] at h
 have e:(0:Int)+b*t=b*t:=by omega
 rw[e] at h
 exact h
theorem ik_(b:Nat):∀(ws:List Int) (f:List (Int×Int)) (t:Int),Tw f t->Tw (ws.foldl (fun f w=>N_ f b w) f) ((b:Int) ^ ws.length*t)
 | [],f,t,o=>by
  have e:(b:Int) ^ ([]:List Int).length*t=t:=by simp
  rw[e];exact o
 | w::ws,f,t,o=>by
  have e:(b:Int) ^ (w::ws).length*t=(b:Int) ^ ws.length*(b*t):=by
   rw[List.length_cons,Int.pow_succ,Int.mul_assoc]
  rw[e]
  exact ik_ b ws _ _ o.one
theorem eJ_(b:Nat)(ws:List Int):Tw (waysW b ws) ((b:Int) ^ ws.length):=by
 have z:Tw [(0,1)] 1:=⟨by simp[keys],fun p hp=>by
  have:p=(0,1):=by simpa using hp
  rw[this];decide,rfl⟩
 have h:=ik_ b ws _ _ z
 rw[Int.mul_one] at h
 exact h
theorem oi_:∀ {f:List (Int×Int)},(∀p∈f,0<=p.2)->0<=tot f/\∀p∈f,p.2<=tot f
 | [],_=>⟨by simp[tot],fun p hp=>by simp at hp⟩
 | q::f,h=>by
  obtain⟨i1,i2⟩:=oi_ (f:=f) fun p hp=>h p (by simp[hp])
  have hq:=h q (by simp)
  have e:tot (q::f)=q.2+tot f:=by simp[tot]
  rw[e]
  refine⟨by omega,fun p hp=>?_⟩
  rcases List.mem_cons.mp hp with rfl | hp
  ·omega
  ·have:=i2 p hp;omega
theorem mS_{b:Nat}{ws:List Int}(hb:b<=16)(hl:ws.length<=6)(k:Int):0<=(look (waysW b ws) k).getD 0/\(look (waysW b ws) k).getD 0<=16777216:=by
 have o:=eJ_ b ws
 obtain⟨h0,h1⟩:=oi_ o.nn
 rw[o.tt] at h1
 have hm:b ^ ws.length<=16 ^ 6:=Nat.le_trans (Nat.pow_le_pow_left hb _) (Nat.pow_le_pow_right (by decide) hl)
 have hm':((b:Int) ^ ws.length)<=16777216:=by
  have e:((b ^ ws.length:Nat):Int)=(b:Int) ^ ws.length:=Int.natCast_pow b ws.length
  rw[<-e]
  have:(16:Nat) ^ 6=16777216:=by decide
  omega
 cases e:(waysW b ws).find? fun q=>decide (q.1=k) with
 | none =>
  rw[look,e]
  exact⟨by decide,by decide⟩
 | some q =>
  have hq:=List.mem_of_find?_eq_some e
  rw[look,e]
  exact⟨o.nn q hq,Int.le_trans (h1 q hq) hm'⟩
theorem gy_{f g:List (Int×Int)}(h:f.Perm g)(nd:(keys g).Nodup)(k:Int):look f k=look g k:=by
 have ndf:(keys f).Nodup:=(h.map _).nodup_iff.mpr nd
 cases e:g.find? fun q=>decide (q.1=k) with
 | none =>
  have e2:f.find? (fun q=>decide (q.1=k))=none:=by
   rw[List.find?_eq_none] at e⊢
   exact fun x hx=>e x (h.mem_iff.mp hx)
  rw[look,look,e,e2]
 | some q =>
  have hq:=List.mem_of_find?_eq_some e
  have hk:q.1=k:=by simpa using List.find?_some e
  rw[<-hk,Y_ nd hq,Y_ ndf (h.mem_iff.mpr hq)]
def prodW(b:Nat)(rows:List (List Int))(t:Int):Int:=rows.foldl (fun m row=>m*(look (waysW b row) t).getD 0) 1
theorem jK_{b i:Nat}{rows:List (List Int)}{row:List Int}{t:Int}(h:rows[i]?=some row):prodW b (rows.take (i+1)) t=prodW b (rows.take i) t*(look (waysW b row) t).getD 0:=by
 unfold prodW
 rw[List.take_add_one,h,List.foldl_append]
 rfl
def evenL(b:Nat)(rows:List (List Int))(ks:List Int):List (Int×Int):=(ks.filter fun k=>decide (0<prodW b rows k)).map fun k=>(k,prodW b rows k)
theorem aW_(b:Nat)(rows:List (List Int))(ks:List Int):keys (evenL b rows ks)=ks.filter fun k=>decide (0<prodW b rows k):=by
 rw[keys,evenL,List.map_map]
 exact List.map_id' _
theorem mk_{b:Nat}{rows:List (List Int)}{ks:List Int}(nd:ks.Nodup):(keys (evenL b rows ks)).Nodup:=by
 rw[aW_]
 exact nd.sublist List.filter_sublist
theorem even_perm{b:Nat}{rows:List (List Int)}{ks ls:List Int}(h:ks.Perm ls):(evenL b rows ks).Perm (evenL b rows ls):=(h.filter _).map _
theorem nH_(b:Nat)(rows:List (List Int))(ks:List Int):(evenL b rows ks).length<=ks.length:=by
 rw[evenL,List.length_map]
 exact List.length_filter_le _ _
theorem nF_{b i:Nat}{rows:List (List Int)}{ks:List Int}{k:Int}(nd:ks.Nodup)(h:ks[i]?=some k)(hp:0<prodW b rows k):evenL b rows (ks.take (i+1))=put (evenL b rows (ks.take i)) k (prodW b rows k):=by
 have hk:k∉keys (evenL b rows (ks.take i)):=fun z=>by
  rw[aW_] at z
  have z1:=(List.mem_filter.mp z).1
  obtain⟨j,hj⟩:=List.mem_iff_getElem?.mp z1
  rw[List.getElem?_take] at hj
  split at hj
  ·rename_i hji
   have:=(List.getElem?_inj (by have:=(List.getElem?_eq_some_iff.mp hj).1;exact this) nd).mp (hj.trans h.symm)
   omega
  ·cases hj
 rw[lc_ hk,evenL,List.take_add_one,h,List.filter_append,List.map_append]
 congr 1
 show([k].filter _).map _=_
 rw[List.filter_cons_of_pos (by simpa using hp)]
 rfl
theorem pm_{b i:Nat}{rows:List (List Int)}{ks:List Int}{k:Int}(h:ks[i]?=some k)(hp:¬ 0<prodW b rows k):evenL b rows (ks.take (i+1))=evenL b rows (ks.take i):=by
 rw[evenL,evenL,List.take_add_one,h,List.filter_append,List.map_append]
 show _++([k].filter _).map _=_
 rw[List.filter_cons_of_neg (by simpa using hp)]
 simp
end Me
namespace Me
abbrev gv(f:List (Int×Int))(k:Int):Int:=(look f k).getD 0
theorem fF_{k n j:Int}:∀ {f:List (Int×Int)},(keys f).Nodup->gv (addTo f k n) j=gv f j+if k=j then n else 0
 | [],_=>by
  by_cases e:k=j <;> simp[gv,addTo,put,look,e]
 | (a,x)::f,nd=>by
  have nd1:a∉keys f:=(List.nodup_cons.mp nd).1
  have nd2:(keys f).Nodup:=(List.nodup_cons.mp nd).2
  by_cases e:a=k
  ·subst e
   rw[ee_ nd1]
   by_cases h:a=j
   ·subst h
    rw[gv,gv,bU_,bU_,if_pos rfl]
    rfl
   ·rw[gv,gv,aU_ h,aU_ h,if_neg h]
    omega
  ·rw[cH_ e]
   by_cases h:a=j
   ·subst h
    rw[gv,gv,bU_,bU_,if_neg (fun z=>e z.symm)]
    show x=x+0
    omega
   ·have ih:=fF_ (k:=k) (n:=n) (j:=j) nd2
    rw[gv,gv,aU_ h,aU_ h]
    exact ih
theorem ok_{f:List (Int×Int)}{k n j:Int}(nd:(keys f).Nodup)(hn:0<=n):gv f j<=gv (addTo f k n) j:=by
 rw[fF_ nd]
 split <;> omega
theorem bi_{p:Int×Int}{w:Int}{acc:List (Int×Int)}(nd:(keys acc).Nodup):∀n:Nat,(keys (figs p w n acc)).Nodup
 | 0=>nd
 | n+1=>by rw[X_];exact mM_ (bi_ nd n)
theorem ib_{p:Int×Int}{w j:Int}{acc:List (Int×Int)}(nd:(keys acc).Nodup)(hp:0<=p.2):∀n:Nat,gv acc j<=gv (figs p w n acc) j
 | 0=>Int.le_refl _
 | n+1=>by
  rw[X_]
  exact Int.le_trans (ib_ nd hp n) (ok_ (bi_ nd n) hp)
theorem jt_{p:Int×Int}{w:Int}{acc:List (Int×Int)}(nd:(keys acc).Nodup)(hp:0<=p.2):∀n:Nat,gv acc p.1+p.2<=gv (figs p w (n+1) acc) p.1
 | 0=>by
  rw[X_]
  have e:p.1+((0:Nat):Int)*w=p.1:=by simp
  rw[e,fF_ (bi_ nd 0),if_pos rfl]
  exact Int.le_refl _
 | n+1=>by
  rw[X_]
  exact Int.le_trans (jt_ nd hp n) (ok_ (bi_ nd (n+1)) hp)
theorem lM_{b:Nat}{w j:Int}:∀ {f acc:List (Int×Int)},(keys acc).Nodup->(∀p∈f,0<=p.2)->gv acc j<=gv (f.foldl (fun acc p=>figs p w b acc) acc) j
 | [],_,_,_=>Int.le_refl _
 | p::f,acc,nd,h=>by
  rw[List.foldl_cons]
  exact Int.le_trans (ib_ nd (h p (by simp)) b) (lM_ (bi_ nd b) fun q hq=>h q (by simp[hq]))
theorem jg_{b:Nat}{w:Int}{p:Int×Int}:∀ {f acc:List (Int×Int)},(keys acc).Nodup->(∀p∈f,0<=p.2)->p∈f->gv acc p.1+p.2<=gv (f.foldl (fun acc p=>figs p w (b+1) acc) acc) p.1
 | [],_,_,_,hp=>by simp at hp
 | q::f,acc,nd,h,hp=>by
  rw[List.foldl_cons]
  rcases List.mem_cons.mp hp with rfl | hp
  ·exact Int.le_trans (jt_ nd (h p (by simp)) b) (lM_ (bi_ nd (b+1)) fun q hq=>h q (by simp[hq]))
  ·have h1:=ib_ (w:=w) (j:=p.1) nd (h q (by simp)) (b+1)
   have h2:=jg_ (w:=w) (b:=b) (bi_ (p:=q) (w:=w) nd (b+1)) (fun q hq=>h q (by simp[hq])) hp
   omega
theorem mb_{f:List (Int×Int)}{k:Int}(h:1<=gv f k):(k,gv f k)∈f:=by
 cases e:f.find? fun q=>decide (q.1=k) with
 | none =>
  have z:gv f k=0:=by rw[gv,look,e];rfl
  omega
 | some q =>
  have hq:=List.mem_of_find?_eq_some e
  have hk:q.1=k:=by simpa using List.find?_some e
  have z:gv f k=q.2:=by rw[gv,look,e];rfl
  rw[z,<-hk]
  exact hq
theorem fP_{b:Nat}:∀(ws:List Int) (f:List (Int×Int)) (t:Int),Tw f t->1<=gv f 0->1<=gv (ws.foldl (fun f w=>N_ f (b+1) w) f) 0
 | [],_,_,_,h=>h
 | w::ws,f,t,o,h=>by
  rw[List.foldl_cons]
  refine fP_ ws _ _ o.one ?_
  have:=jg_ (w:=w) (b:=b) (acc:=[]) (by simp[keys]) o.nn (mb_ h)
  have e:gv [] 0=0:=rfl
  unfold N_
  have h2:gv f 0<=gv (f.foldl (fun acc p=>figs p w (b+1) acc) []) 0:=by
   have:=this
   simp only[e] at this
   omega
  omega
theorem fR_{b:Nat}(hb:1<=b)(ws:List Int):1<=gv (waysW b ws) 0:=by
 obtain⟨c,rfl⟩:∃c,b=c+1:=⟨b-1,by omega⟩
 exact fP_ ws [(0,1)] 1 ⟨by simp[keys],fun p hp=>by
  have:p=(0,1):=by simpa using hp
  rw[this];decide,rfl⟩ (by decide)
theorem iR_{b:Nat}(hb:1<=b):∀(rows:List (List Int)) (m:Int),0<m->0<rows.foldl (fun m row=>m*(look (waysW b row) 0).getD 0) m
 | [],_,h=>h
 | row::rows,m,h=>by
  rw[List.foldl_cons]
  exact iR_ hb rows _ (Int.mul_pos h (fR_ hb row))
theorem lh_{b:Nat}(hb:1<=b)(rows:List (List Int)):0<prodW b rows 0:=iR_ hb rows 1 (by decide)
theorem oB_(b:Nat)(row:List Int)(t:Int):0<=(look (waysW b row) t).getD 0:=by
 have o:=eJ_ b row
 cases e:(waysW b row).find? fun q=>decide (q.1=t) with
 | none=>rw[look,e];exact Int.le_refl _
 | some q=>rw[look,e];exact o.nn q (List.mem_of_find?_eq_some e)
theorem lg_{b:Nat}{t:Int}:∀(rows:List (List Int)) (m:Int),0<=m->0<=rows.foldl (fun m row=>m*(look (waysW b row) t).getD 0) m
 | [],_,h=>h
 | row::rows,m,h=>by
  rw[List.foldl_cons]
  exact lg_ rows _ (Int.mul_nonneg h (oB_ b row t))
theorem dQ_{b:Nat}{t:Int}:∀(rows:List (List Int)),rows.foldl (fun m row=>m*(look (waysW b row) t).getD 0) 0=0
 | []=>rfl
 | row::rows=>by
  rw[List.foldl_cons,Int.zero_mul]
  exact dQ_ rows
theorem aE_{f:List (Int×Int)}{t:Int}(h:t∉keys f):look f t=none:=by
 cases e:f.find? fun q=>decide (q.1=t) with
 | none=>rw[look,e];rfl
 | some q =>
  exfalso
  exact h (List.mem_map.mpr ⟨q,List.mem_of_find?_eq_some e,by simpa using List.find?_some e⟩)
theorem li_{b:Nat}{rows:List (List Int)}{row:List Int}{t:Int}(h:rows[0]?=some row)(ht:t∉keys (waysW b row)):prodW b rows t=0:=by
 cases rows with
 | nil=>cases h
 | cons r rows =>
  have e:r=row:=Option.some.inj h
  subst e
  unfold prodW
  rw[List.foldl_cons,aE_ ht]
  exact dQ_ rows
theorem gJ_{b:Nat}{rows:List (List Int)}{row:List Int}(h:rows[0]?=some row)(nd:(keys (waysW b row)).Nodup)(t:Int):(look (evenL b rows (keys (waysW b row))) t).getD 0=prodW b rows t:=by
 by_cases ht:t∈keys (evenL b rows (keys (waysW b row)))
 ·obtain⟨p,hp,e⟩:=List.mem_map.mp ht
  have e1:=Y_ (mk_ nd) hp
  rw[<-e,e1]
  obtain⟨k,_,hk⟩:=List.mem_map.mp hp
  rw[<-hk]
  rfl
 ·rw[aE_ ht]
  rw[aW_,List.mem_filter] at ht
  show 0=_
  by_cases h1:t∈keys (waysW b row)
  ·have h2:¬ 0<prodW b rows t:=fun z=>ht ⟨h1,decide_eq_true z⟩
   have h3:0<=prodW b rows t:=lg_ rows 1 (by decide)
   omega
  ·exact(li_ h h1).symm
theorem dY_{b:Nat}{rows:List (List Int)}{row:List Int}(hb:1<=b):0∈keys (evenL b rows (keys (waysW b row))):=by
 rw[aW_,List.mem_filter]
 exact⟨List.mem_map.mpr ⟨_,mb_ (fR_ hb row),rfl⟩,decide_eq_true (lh_ hb rows)⟩
theorem iv_{l m:List Int}(h:l.Perm m):l.sum=m.sum:=by
 induction h with
 | nil=>rfl
 | cons x _ ih=>rw[List.sum_cons,List.sum_cons,ih]
 | swap x y l=>simp only[List.sum_cons];omega
 | trans _ _ a b=>exact a.trans b
theorem eM_{f g:List (Int×Int)}(h:f.Perm g):tot f=tot g:=iv_ (h.map _)
end Me
namespace Ma
def ups(b n L:Nat):List Nat:=(List.range L).map fun j=>n / b ^ j % b
def dws(b n L i:Nat):List Nat:=(List.range i).map fun j=>n / b ^ (L-1-j) % b
theorem mT_(b n i:Nat):ups b n (i+1)=ups b n i++[n / b ^ i % b]:=by
 unfold ups;rw[List.range_succ,List.map_append];rfl
theorem fN_(b n L i:Nat):dws b n L (i+1)=dws b n L i++[n / b ^ (L-1-i) % b]:=by
 unfold dws;rw[List.range_succ,List.map_append];rfl
theorem oE_(b n L:Nat):(ups b n L).length=L:=by simp[ups]
theorem L_(b n L i:Nat):(dws b n L i).length=i:=by simp[dws]
theorem oD_(b n L:Nat):(ups b n L).reverse=dws b n L L:=by
 apply List.ext_getElem
 ·simp[ups,dws]
 ·intro i h1 h2
  simp[ups,dws]
theorem qJ_(b n i:Nat):n / b ^ i / b=n / b ^ (i+1):=by rw[Nat.div_div_eq_div_mul,Nat.pow_succ]
theorem hg_:∀(ps:List Nat),(∀p∈ps,1<=p/\p<=6)->ps.length<=ps.sum/\ps.sum<=6*ps.length
 | [],_=>by simp
 | p::r,h=>by
  have h1:=h p (by simp)
  have h2:=hg_ r fun q hq=>h q (List.mem_cons_of_mem _ hq)
  simp only[List.sum_cons,List.length_cons]
  omega
theorem eO_:∀(ps:List Nat),(ps.map fun(p:Nat)=>(p:Int)).sum=((ps.sum:Nat):Int)
 | []=>rfl
 | p::r=>by simp[eO_ r]
end Ma
namespace Ma
def cuts:List Nat->List Int->List (List Int)
 | [],_=>[]
 | p::ps,xs=>xs.take p::cuts ps (xs.drop p)
def psums(ps:List Nat)(xs:List Int):List Int:=(cuts ps xs).map List.sum
def ends:Nat->List Nat->List Nat
 | _,[]=>[]
 | o,p::ps=>(o+p)::ends (o+p) ps
theorem U_(ps:List Nat)(xs:List Int):(psums ps xs).length=ps.length:=by
 unfold psums
 rw[List.length_map]
 induction ps generalizing xs with
 | nil=>rfl
 | cons p ps ih=>simp[cuts,ih]
end Ma
namespace Ma
def wts(b n L:Nat)(ws:List Int):List Int:=List.zipWith (fun(d:Nat) (x:Int)=>(d:Int)*x) (dws b n L L) ws
theorem ha_(b n L:Nat)(ws:List Int)(h:ws.length=L):(wts b n L ws).length=L:=by
 unfold wts;rw[List.length_zipWith,L_,h,Nat.min_self]
theorem ox_{b n L:Nat}{ws:List Int}{i d:Nat}{x:Int}(h1:(dws b n L L)[i]?=some d)(h2:ws[i]?=some x):(wts b n L ws)[i]?=some ((d:Int)*x):=by
 unfold wts;rw[List.getElem?_zipWith,h1,h2]
theorem on_{b n L d:Nat}(hb:0<b)(h:d∈dws b n L L):d<b:=by
 unfold dws at h
 obtain⟨j,_,rfl⟩:=List.mem_map.mp h
 exact Nat.mod_lt _ hb
theorem ko_{b n L:Nat}{ws:List Int}(hb0:0<b)(hb:b<=16)(hw:∀x∈ws,-9<=x/\x<=9):∀y∈wts b n L ws,-1000<=y/\y<=1000:=by
 intro y hy
 unfold wts at hy
 obtain⟨i,hi⟩:=List.getElem?_of_mem hy
 rw[List.getElem?_zipWith] at hi
 cases h1:(dws b n L L)[i]? with
 | none=>rw[h1] at hi;simp at hi
 | some d =>
  cases h2:ws[i]? with
  | none=>rw[h1,h2] at hi;simp at hi
  | some x =>
   rw[h1,h2] at hi
   have e:(d:Int)*x=y:=by simpa using hi
   have hd:=on_ hb0 (List.mem_of_getElem? h1)
   have hx:=hw x (List.mem_of_getElem? h2)
   have d16:(d:Int)<=15:=by omega
   have d0:(0:Int)<=d:=by omega
   have a1:(d:Int)*x<=d*9:=Int.mul_le_mul_of_nonneg_left hx.2 d0
   have a2:(d:Int)*(-9)<=d*x:=Int.mul_le_mul_of_nonneg_left hx.1 d0
   omega
theorem A_(ps:List Nat):∀xs:List Int,(cuts ps xs).length=ps.length:=by
 induction ps with
 | nil=>intro xs;rfl
 | cons p ps ih=>intro xs;simp[cuts,ih]
theorem bW_(ps:List Nat):∀(xs:List Int) (i p:Nat),ps[i]?=some p->(cuts ps xs)[i]?=some ((xs.drop (ps.take i).sum).take p):=by
 induction ps with
 | nil=>intro xs i p h;simp at h
 | cons q ps ih =>
  intro xs i p h
  cases i with
  | zero=>simp at h;subst h;simp[cuts]
  | succ i =>
   have h':ps[i]?=some p:=by simpa using h
   have:=ih (xs.drop q) i p h'
   simp only[cuts,List.getElem?_cons_succ,this,List.take_succ_cons,List.sum_cons,List.drop_drop]
theorem bV_{ps:List Nat}:∀ {xs row:List Int},row∈cuts ps xs->∀x∈row,x∈xs:=by
 induction ps with
 | nil=>intro xs row h;simp[cuts] at h
 | cons p ps ih =>
  intro xs row h x hx
  rcases List.mem_cons.mp h with rfl | h
  ·exact List.mem_of_mem_take hx
  ·exact List.mem_of_mem_drop (ih h x hx)
theorem au_{ps:List Nat}(hp:∀p∈ps,p<=6):∀ {xs row:List Int},row∈cuts ps xs->row.length<=6:=by
 induction ps with
 | nil=>intro xs row h;simp[cuts] at h
 | cons p ps ih =>
  intro xs row h
  rcases List.mem_cons.mp h with rfl | h
  ·have:=hp p (by simp);rw[List.length_take];omega
  ·exact ih (fun q hq=>hp q (List.mem_cons_of_mem _ hq)) h
end Ma
namespace Ma
def maxL:List Int->Int
 | []=>0
 | [x]=>x
 | x::r=>max x (maxL r)
def minL:List Int->Int
 | []=>0
 | [x]=>x
 | x::r=>min x (minL r)
theorem s_:∀ns:List Int,0<ns.length->maxL ns∈ns/\∀n∈ns,n<=maxL ns
 | [],h=>by simp at h
 | [x],_=>by simp[maxL]
 | x::y::r,_=>by
  have ih:=s_ (y::r) (by simp)
  have e:maxL (x::y::r)=max x (maxL (y::r)):=rfl
  rw[e]
  refine⟨?_,fun n hn=>?_⟩
  ·rcases Int.le_total x (maxL (y::r)) with h | h
   ·rw[Int.max_eq_right h];exact List.mem_cons_of_mem _ ih.1
   ·rw[Int.max_eq_left h];simp
  ·rcases List.mem_cons.mp hn with rfl | hn
   ·exact Int.le_max_left _ _
   ·exact Int.le_trans (ih.2 n hn) (Int.le_max_right _ _)
theorem v_:∀ns:List Int,0<ns.length->minL ns∈ns/\∀n∈ns,minL ns<=n
 | [],h=>by simp at h
 | [x],_=>by simp[minL]
 | x::y::r,_=>by
  have ih:=v_ (y::r) (by simp)
  have e:minL (x::y::r)=min x (minL (y::r)):=rfl
  rw[e]
  refine⟨?_,fun n hn=>?_⟩
  ·rcases Int.le_total x (minL (y::r)) with h | h
   ·rw[Int.min_eq_left h];simp
   ·rw[Int.min_eq_right h];exact List.mem_cons_of_mem _ ih.1
  ·rcases List.mem_cons.mp hn with rfl | hn
   ·exact Int.min_le_left _ _
   ·exact Int.le_trans (Int.min_le_right _ _) (ih.2 n hn)
theorem dT_{ns:List Int}{m:Int}(h1:m∈ns)(h2:∀n∈ns,n<=m):m=maxL ns:=by
 have h:=s_ ns (List.length_pos_of_mem h1)
 exact Int.le_antisymm (h.2 m h1) (h2 _ h.1)
theorem dS_{ns:List Int}{m:Int}(h1:m∈ns)(h2:∀n∈ns,m<=n):m=minL ns:=by
 have h:=v_ ns (List.length_pos_of_mem h1)
 exact Int.le_antisymm (h2 _ h.1) (h.2 m h1)
end Ma
namespace Mq
def sm(f:Int->Int)(a:Int):Nat->Int
 | 0=>0
 | n+1=>sm f a n+f (a+n)
theorem fX_(f:Int->Int)(a:Int)(n:Nat):∀m:Nat,sm f a (n+m)=sm f a n+sm f (a+n) m
 | 0=>by simp[sm]
 | m+1=>by
  rw[<-Nat.add_assoc,sm,sm,fX_ f a n m]
  have e:a+((n+m:Nat):Int)=a+n+m:=by push_cast;omega
  rw[e]
  omega
theorem ay_{f:Int->Int}{a:Int}:∀ {n:Nat},(∀t,a<=t->t<a+n->f t=0)->sm f a n=0
 | 0,_=>rfl
 | n+1,h=>by
  rw[sm,ay_ (n:=n) fun t h1 h2=>h t h1 (by push_cast;omega),h (a+n) (by omega) (by push_cast;omega)]
  rfl
theorem cu_{f g:Int->Int}{a:Int}:∀ {n:Nat},(∀t,a<=t->t<a+n->f t=g t)->sm f a n=sm g a n
 | 0,_=>rfl
 | n+1,h=>by
  rw[sm,sm,cu_ (n:=n) fun t h1 h2=>h t h1 (by push_cast;omega),h (a+n) (by omega) (by push_cast;omega)]
theorem nZ_{f:Int->Int}{a h:Int}{n m:Nat}(hf:∀t,h<t->f t=0)(hn:h<a+n)(hm:h<a+m):sm f a n=sm f a m:=by
 have key:∀ {n m:Nat},n<=m->h<a+n->sm f a n=sm f a m:=fun {n m} hle hn=>by
  obtain⟨k,rfl⟩:=Nat.exists_eq_add_of_le hle
  rw[fX_,ay_ (f:=f) (a:=a+n) (n:=k) fun t h1 _=>hf t (by omega)]
  omega
 rcases Nat.le_total n m with z | z
 ·exact key z hn
 ·exact(key z hm).symm
theorem oH_{g:Int->Int}{a b:Int}{n m:Nat}(h1:a<=b)(h2:b+m<=a+n)(z1:∀t,a<=t->t<b->g t=0)(z2:∀t,b+m<=t->t<a+n->g t=0):sm g a n=sm g b m:=by
 obtain⟨k,rfl⟩:∃k:Nat,b=a+k:=⟨(b-a).toNat,by omega⟩
 obtain⟨r,rfl⟩:∃r:Nat,n=k+(m+r):=⟨n-k-m,by omega⟩
 rw[fX_,fX_,ay_ (f:=g) (a:=a) (n:=k) fun t h1 h2=>z1 t h1 h2,ay_ (f:=g) (a:=a+k+m) (n:=r) fun t h1 h2=>z2 t (by omega) (by push_cast;omega)]
 omega
def pr(fs:List (Int->Int))(a:Int)(n:Nat):Int:=fs.foldl (fun m f=>m*sm f a n) 1
theorem mh_{fs:List (Int->Int)}{a:Int}{n:Nat}:fs.foldl (fun m f=>m*sm f a n) 0=0:=by
 induction fs with
 | nil=>rfl
 | cons f r ih=>simpa using ih
theorem fr_{fs:List (Int->Int)}{a:Int}{n:Nat}{f:Int->Int}(hf:f∈fs)(h:sm f a n=0):pr fs a n=0:=by
 have key:∀(fs:List (Int->Int)) (c:Int),f∈fs->fs.foldl (fun m f=>m*sm f a n) c=0:=fun fs=>by
  induction fs with
  | nil=>intro c h;simp at h
  | cons q r ih =>
   intro c hq
   rcases List.mem_cons.mp hq with rfl | hq
   ·rw[List.foldl_cons,h,Int.mul_zero];exact mh_
   ·rw[List.foldl_cons];exact ih _ hq
 exact key fs 1 hf
theorem iT_{fs:List (Int->Int)}{a b:Int}{n m:Nat}(h:∀f∈fs,sm f a n=sm f b m):pr fs a n=pr fs b m:=by
 have key:∀(fs:List (Int->Int)) (c:Int),(∀f∈fs,sm f a n=sm f b m)->fs.foldl (fun m f=>m*sm f a n) c=fs.foldl (fun q f=>q*sm f b m) c:=fun fs=>by
  induction fs with
  | nil=>intro c _;rfl
  | cons q r ih =>
   intro c hq
   rw[List.foldl_cons,List.foldl_cons,hq q (by simp)]
   exact ih _ fun f hf=>hq f (by simp[hf])
 exact key fs 1 h
def gat(fs:List (Int->Int))(d:Nat)(t:Int):Int:=pr fs t (d+1)-pr fs (t+1) d
theorem pl_{fs:List (Int->Int)}{d r:Nat}{t low high:Int}(hs:∀f∈fs,∀u,high<u->f u=0)(ht:low<=t)(hr:(r:Int)=d\/(high-low<=r/\high-low<=d)):gat fs d t=gat fs r t:=by
 rcases hr with hr | ⟨h1,h2⟩
 ·rw[show d=r by omega]
 ·unfold gat
  rw[iT_ (fs:=fs) (a:=t) (b:=t) (n:=d+1) (m:=r+1) fun f hf=>nZ_ (h:=high) (hs f hf) (by push_cast;omega) (by push_cast;omega),
   iT_ (fs:=fs) (a:=t+1) (b:=t+1) (n:=d) (m:=r) fun f hf=>nZ_ (h:=high) (hs f hf) (by push_cast;omega) (by push_cast;omega)]
theorem qC_{fs:List (Int->Int)}{d:Nat}{t last:Int}{f:Int->Int}(hf:f∈fs)(h:∀u,last<u->f u=0)(ht:last<t):gat fs d t=0:=by
 unfold gat
 rw[fr_ hf (ay_ fun u h1 _=>h u (by omega)),fr_ hf (ay_ fun u h1 _=>h u (by omega))]
 rfl
theorem qD_{fs:List (Int->Int)}{d:Nat}{t l:Int}{f:Int->Int}(hf:f∈fs)(h:∀u,u<l->f u=0)(ht:t+d<l):gat fs d t=0:=by
 unfold gat
 rw[fr_ hf (ay_ fun u _ h2=>h u (by push_cast at h2;omega)),fr_ hf (ay_ fun u _ h2=>h u (by push_cast at h2;omega))]
 rfl
theorem pd_{fs:List (Int->Int)}{d:Nat}{low high maxl ming:Int}{fl fg:Int->Int}(hs:∀f∈fs,∀u,high<u->f u=0)(hl:fl∈fs)(hl':∀u,u<maxl->fl u=0)(hg:fg∈fs)(hg':∀u,ming<u->fg u=0)
  (o1:low<=maxl) (o2:ming<=high) (o3:low<=high) (o4:low<=ming) (o5:maxl<=high) {r:Nat} (hr:(r:Int)=if high-low<d then high-low else d) {first:Int} (hfirst:first=if maxl-r>low then maxl-r else low) :
  sm (gat fs d) low (high-low+1).toNat=sm (gat fs r) first (ming-first+1).toNat:=by
 have hr2:(r:Int)=d\/(high-low<=r/\high-low<=d):=by split at hr <;> omega
 have e:sm (gat fs d) low (high-low+1).toNat=sm (gat fs r) low (high-low+1).toNat:=cu_ fun t h1 _=>pl_ hs h1 hr2
 rw[e]
 have up:∀t,ming<t->gat fs r t=0:=fun t h=>qC_ hg hg' h
 have dn:∀t,t+r<maxl->gat fs r t=0:=fun t h=>qD_ hl hl' h
 have f1:low<=first:=by rw[hfirst];split <;> omega
 have f2:∀t,low<=t->t<first->t+r<maxl:=fun t a b=>by rw[hfirst] at b;split at b <;> omega
 by_cases hc:first<=ming+1
 ·exact oH_ f1 (by omega) (fun t a b=>dn t (f2 t a b)) fun t a b=>up t (by omega)
 ·rw[ay_ (f:=gat fs r) (a:=low) fun t a b=>?_,ay_ (f:=gat fs r) (a:=first) fun t a b=>up t (by omega)]
  by_cases q:t<first
  ·exact dn t (f2 t a q)
  ·exact up t (by omega)
end Mq
namespace Me
theorem pL_{f:Int->Int}(h:∀t,0<=f t/\f t<=16777216)(a:Int):∀n:Nat,0<=Mq.sm f a n/\Mq.sm f a n<=16777216*n
 | 0=>⟨Int.le_refl _,Int.le_refl _⟩
 | n+1=>by
  have ih:=pL_ h a n
  have:=h (a+n)
  simp only[Mq.sm]
  push_cast
  omega
end Me
namespace Mq
end Mq
namespace Me
open Mq
theorem lN_{l m:List Int}(h:l.Perm m)(hl:0<l.length):Ma.minL l=Ma.minL m:=by
 obtain⟨a1,a2⟩:=Ma.v_ l hl
 exact Ma.dS_ (h.mem_iff.mp a1) fun n hn=>a2 n (h.mem_iff.mpr hn)
theorem lO_{l m:List Int}(h:l.Perm m)(hl:0<l.length):Ma.maxL l=Ma.maxL m:=by
 obtain⟨a1,a2⟩:=Ma.s_ l hl
 exact Ma.dT_ (h.mem_iff.mp a1) fun n hn=>a2 n (h.mem_iff.mpr hn)
def ngr(row:List Int):List Int:=row.map fun x=>0-x
theorem ea_(ps:List Nat):∀ws:List Int,ws.length=ps.sum->(Ma.cuts ps ws).map List.length=ps:=by
 induction ps with
 | nil=>intro ws _;rfl
 | cons p ps ih =>
  intro ws h
  rw[List.sum_cons] at h
  rw[Ma.cuts,List.map_cons,ih (ws.drop p) (by rw[List.length_drop];omega),List.length_take]
  congr 1
  omega
end Me
namespace L2
open PySem PySem.Spec PyProof.Rows
section
variable{κ:Type}[DecidableEq κ]
def valV(kvs:List (κ×V))(k:κ):Option V:=(kvs.find? fun kv=>decide (kv.1=k)).map (·.2)
def putK(kvs:List (κ×V))(k:κ)(v:V):List (κ×V) :=
 if (kvs.any fun kv=>decide (kv.1=k))=true then kvs.map (fun kv=>if kv.1=k then (kv.1,v) else kv) else kvs++[(k,v)]
theorem bD_{p:κ×V}{r:List (κ×V)}{k:κ}(e:p.1=k):valV (p::r) k=some p.2:=by simp[valV,List.find?_cons,e]
theorem bE_{p:κ×V}{r:List (κ×V)}{k:κ}(e:¬ p.1=k):valV (p::r) k=valV r k:=by simp[valV,List.find?_cons,e]
theorem im_(k:κ):∀kvs:List (κ×V),(kvs.any fun kv=>decide (kv.1=k))=(valV kvs k).isSome
 | []=>rfl
 | p::r=>by
  rw[List.any_cons]
  by_cases e:p.1=k
  ·simp only[bD_ e,decide_eq_true e,Bool.true_or,Option.isSome_some]
  ·rw[bE_ e,decide_eq_false e,Bool.false_or];exact im_ k r
theorem ck_(kvs:List (κ×V))(k:κ)(v:V):(putK kvs k v).length<=kvs.length+1:=by
 unfold putK
 split
 ·rw[List.length_map];omega
 ·rw[List.length_append,List.length_cons,List.length_nil];omega
theorem RelO.isSome_eq{o:Option V}{u:Option Value}(r:RelO o u):o.isSome=u.isSome:=by
 cases o with
 | none=>cases u with
  | none=>rfl
  | some _=>exact(show False from r).elim
 | some _=>cases u with
  | none=>exact(show False from r).elim
  | some _=>rfl
theorem RelO.getD{o:Option V}{u:Option Value}{d:V}{d':Value}(r:RelO o u)(rd:RelV d d'):RelV (o.getD d) (u.getD d'):=by
 cases o with
 | none=>cases u with
  | none=>exact rd
  | some _=>exact(show False from r).elim
 | some _=>cases u with
  | none=>exact(show False from r).elim
  | some _=>exact r
theorem KV.val{kvs:List (κ×V)}{vs:List (κ×Value)}(r:KV kvs vs)(k:κ):RelO (valV kvs k) (valueAt vs k):=by
 unfold KV at r
 induction r with
 | nil=>exact True.intro
 | @cons p q ps qs h t ih =>
  obtain⟨h1,h2⟩:=h
  by_cases e:p.1=k
  ·have e':q.1=k:=h1.symm.trans e
   have b:valueAt (q::qs) k=some q.2:=by simp[valueAt,List.find?_cons,e']
   rw[bD_ e,b];exact h2
  ·have e':¬ q.1=k:=fun z=>e (h1.trans z)
   have b:valueAt (q::qs) k=valueAt qs k:=by simp[valueAt,List.find?_cons,e']
   rw[bE_ e,b];exact ih
theorem KV.any{kvs:List (κ×V)}{vs:List (κ×Value)}(r:KV kvs vs)(k:κ):(kvs.any fun kv=>decide (kv.1=k))=vs.any fun kv=>decide (kv.1=k):=by
 unfold KV at r
 induction r with
 | nil=>rfl
 | cons h t ih=>rw[List.any_cons,List.any_cons,ih,h.1]
theorem KV.repl{kvs:List (κ×V)}{vs:List (κ×Value)}(r:KV kvs vs)(k:κ){y:V}{u:Value}(ry:RelV y u) :
  KV (kvs.map fun kv=>if kv.1=k then (kv.1,y) else kv) (vs.map fun kv=>if kv.1=k then (kv.1,u) else kv):=by
 unfold KV at r⊢
 induction r with
 | nil=>exact .nil
 | @cons p q ps qs h t ih =>
  rw[List.map_cons,List.map_cons]
  refine .cons ?_ ih
  obtain⟨h1,h2⟩:=h
  by_cases e:p.1=k
  ·rw[if_pos e,if_pos (h1.symm.trans e)];exact⟨h1,ry⟩
  ·rw[if_neg e,if_neg (fun z=>e (h1.trans z))];exact⟨h1,h2⟩
theorem KV.put{kvs:List (κ×V)}{vs:List (κ×Value)}(r:KV kvs vs)(k:κ){y:V}{u:Value}(ry:RelV y u):KV (putK kvs k y) (stored vs k u):=by
 unfold putK stored
 rw[r.any k]
 by_cases e:(vs.any fun kv=>decide (kv.1=k))=true
 ·rw[if_pos e,if_pos e];exact r.repl k ry
 ·rw[if_neg e,if_neg e];exact Paired.snoc r ⟨rfl,ry⟩
theorem KV.keys{kvs:List (κ×V)}{vs:List (κ×Value)}(r:KV kvs vs):kvs.map (·.1)=vs.map (·.1):=by
 unfold KV at r
 induction r with
 | nil=>rfl
 | cons h t ih=>rw[List.map_cons,List.map_cons,ih,h.1]
theorem KV.length{kvs:List (κ×V)}{vs:List (κ×Value)}(r:KV kvs vs):kvs.length=vs.length:=Paired.length r
end
theorem hZ_{P:Program}{w:World}{k:Key}{u:Value}(r:RelV (kV k) u):(w_ P w).is k u=true:=by
 cases k with
 | inl i=>obtain⟨t,e⟩:=(show ∃t,u=Value.int i t from r);subst e;exact hY_ P w i t
 | inr x=>obtain⟨t,e⟩:=(show ∃t,u=Value.str x t from r);subst e;exact hX_ P w x t
theorem gF_{P:Program}{w:World}:∀ {ks:List Key} {us:List Value},Vals (ks.map kV) us->ItemsAre (w_ P w) ks us
 | [],_,r=>by rw[List.map_nil] at r;cases r;exact .nil
 | k::ks,_,r=>by
  rw[List.map_cons] at r
  cases r with
  | cons h t=>exact .cons (hZ_ h) (gF_ t)
abbrev KT(H:Hp):List (List Key×V)->List (List Key×Addr×Value)->Prop:=Paired fun p q=>p.1=q.1/\H q.2.1=some (.tup (p.1.map kV))/\RelV p.2 q.2.2
theorem KT.val{H:Hp}{kvs:List (List Key×V)}{xs:List (List Key×Addr×Value)}(r:KT H kvs xs)(k:List Key):RelO (valV kvs k) ((atKey xs k).map (·.2)):=by
 induction r with
 | nil=>exact True.intro
 | @cons p q ps qs h t ih =>
  obtain⟨h1,_,h2⟩:=h
  by_cases e:p.1=k
  ·have e':q.1=k:=h1.symm.trans e
   have b:atKey (q::qs) k=some q.2:=by simp[atKey,List.find?_cons,e']
   rw[bD_ e,b];exact h2
  ·have e':¬ q.1=k:=fun z=>e (h1.trans z)
   have b:atKey (q::qs) k=atKey qs k:=by simp[atKey,List.find?_cons,e']
   rw[bE_ e,b];exact ih
theorem KT.repl{H:Hp}{kvs:List (List Key×V)}{xs:List (List Key×Addr×Value)}(r:KT H kvs xs)(k:List Key){y:V}{u:Value}(ry:RelV y u) :
  KT H (kvs.map fun kv=>if kv.1=k then (kv.1,y) else kv) (xs.map (putAt k u)):=by
 induction r with
 | nil=>exact .nil
 | @cons p q ps qs h t ih =>
  rw[List.map_cons,List.map_cons]
  refine .cons ?_ ih
  obtain⟨h1,h2,h3⟩:=h
  unfold putAt
  by_cases e:p.1=k
  ·rw[if_pos e,if_pos (h1.symm.trans e)];exact⟨h1,h2,ry⟩
  ·rw[if_neg e,if_neg (fun z=>e (h1.trans z))];exact⟨h1,h2,h3⟩
theorem KT.put{H:Hp}{kvs:List (List Key×V)}{xs:List (List Key×Addr×Value)}(r:KT H kvs xs)(k:List Key){b:Addr}{y:V}{u:Value}(hb:H b=some (.tup (k.map kV)))(ry:RelV y u) :
  KT H (putK kvs k y) (storedH xs k b u):=by
 have e:(kvs.any fun kv=>decide (kv.1=k))=(atKey xs k).isSome:=by
  rw[im_,(r.val k).isSome_eq,Option.isSome_map]
 unfold putK storedH
 rw[e]
 by_cases q:(atKey xs k).isSome=true
 ·rw[if_pos q,if_pos q];exact r.repl k ry
 ·rw[if_neg q,if_neg q];exact Paired.snoc r ⟨rfl,hb,ry⟩
theorem KT.keeps{H H':Hp}{kvs:List (List Key×V)}{xs:List (List Key×Addr×Value)}(r:KT H kvs xs)(ht:∀b ys,H b=some (.tup ys)->H' b=some (.tup ys)):KT H' kvs xs :=
 Paired.mapP r fun _ _ z=>⟨z.1,ht _ _ z.2.1,z.2.2⟩
section
variable{P:Program}{w:World}{H:Hp}{h:Heap}{a:Addr}
theorem rd_of{u:HO}(ok:HOk P w H h)(e:Rd H a u):ObjOk P w H h a u:=e.ok ok
theorem eo_{kvs:List (Key×V)}(ok:HOk P w H h)(e:Rd H a (.dK kvs)):kvs.length<=sizeLine/\(a==sysModules)=false/\∃vs,KV kvs vs/\h.DictOf (w_ P w) a vs :=
 show ObjOk P w H h a (.dK kvs) from rd_of ok e
theorem mo_{kvs:List (Key×V)}(ok:HOk P w H h)(e:H a=some (.dK kvs)):kvs.length<=sizeLine/\(a==sysModules)=false/\∃vs,KV kvs vs/\h.DictOf (w_ P w) a vs:=eo_ ok (.inl e)
theorem gE_{ks:List Key}(ok:HOk P w H h)(e:H a=some (.tup (ks.map kV))):(tupleKind (w_ P w)).is h ks a:=by
 obtain⟨_,its,r,o,h1,h2,n,h3⟩:=(show ObjOk P w H h a (.tup (ks.map kV)) from ok a _ e)
 exact⟨o,its.toArray,n,h1,h2,h3,by simpa using gF_ r⟩
theorem ki_{kvs:List (List Key×V)}(ok:HOk P w H h)(e:Rd H a (.dT kvs)):kvs.length<=sizeLine/\(a==sysModules)=false/\
  ∃xs,KT H kvs xs/\h.DictOfH (tupleKind (w_ P w)) a xs:=by
 obtain⟨z,y,xs,r,o,es,ep,h1,h2,h3,h4,h5⟩:=(show ObjOk P w H h a (.dT kvs) from rd_of ok e)
 refine⟨z,y,xs,r,o,es,ep,h1,h2,h3,h4,fun x hx=>?_,h5⟩
 have all:∀ {l:List (List Key×V)} {m:List (List Key×Addr×Value)},KT H l m->∀x∈m,(tupleKind (w_ P w)).is h x.1 x.2.1:=by
  intro l m q
  induction q with
  | nil=>intro x hx;exact nomatch hx
  | @cons p q ps qs hq t ih =>
   intro x hx
   rcases List.mem_cons.mp hx with e | hx
   ·subst e
    exact gE_ ok (by rw[<-hq.1];exact hq.2.1)
   ·exact ih x hx
 exact all r x hx
theorem qY_{kvs:List (List Key×V)}(ok:HOk P w H h)(e:H a=some (.dT kvs)):kvs.length<=sizeLine/\(a==sysModules)=false/\
  ∃xs,KT H kvs xs/\h.DictOfH (tupleKind (w_ P w)) a xs:=ki_ ok (.inl e)
end
def DGet(H:Hp)(a:Addr)(y:V)(r:Option V):Prop :=
 (∃kvs k,Rd H a (.dK kvs)/\y=kV k/\r=valV kvs k)\/∃kvs k b,Rd H a (.dT kvs)/\y=.ref b/\H b=some (.tup (k.map kV))/\r=valV kvs k
def DPut(H:Hp)(a:Addr)(y v:V)(H':Hp):Prop :=
 (∃kvs k,H a=some (.dK kvs)/\y=kV k/\kvs.length<sizeLine/\H'=upd H a (.dK (putK kvs k v)))\/
 ∃kvs k b,H a=some (.dT kvs)/\y=.ref b/\H b=some (.tup (k.map kV))/\kvs.length<sizeLine/\H'=upd H a (.dT (putK kvs k v))
theorem DPut.k{H:Hp}{a:Addr}{kvs:List (Key×V)}{k:Key}{v:V}(e:H a=some (.dK kvs))(hl:kvs.length<sizeLine):DPut H a (kV k) v (upd H a (.dK (putK kvs k v))):=.inl ⟨kvs,k,e,rfl,hl,rfl⟩
section
variable{X:Cx}{pins:List (Addr×Obj)}{σ:St}{H:Hp}{s:Shared}{a:Addr}{y v:V}{u r:Value}{o:Option V}{A:Around}{E:Value->Shared->Prop}
theorem Inv.big(I:Inv X pins σ H s):sysModules<s.heap.objs.size:=by
 have h:mainGlobals<s.heap.objs.size:=(I.mod.glob.keeps I.bk).lt
 exact Nat.lt_trans (by decide) h
theorem mu_{Q:Value->Shared->Prop}(hu:A.units+1<cLine)(I:Inv X pins σ H s)(g:DGet H a y (some v))(ry:RelV y u)(h:∀w' s',Inv X pins σ H s'->RelV v w'->Q w' s') :
  wpAny (model X.prog X.w) A (getItem (.ref a) u) Q E s:=by
 rcases g with⟨kvs,k,e,ey,l⟩ | ⟨kvs,k,b,e,ey,eb,l⟩
 ·subst ey
  obtain⟨z,hd,vs,rel,dd⟩:=eo_ I.hok e
  obtain⟨w',hw,rw'⟩:=RelO.some_of (v:=v) (o:=valueAt vs k) (by rw[l];exact rel.val k)
  exact wpAny_getItem_of (hZ_ ry) dd.mapOf hw (h w' _ (I.tok _) rw')
 ·subst ey
  cases (show u=Value.ref b from ry)
  obtain⟨z,hd,xs,rel,dd⟩:=ki_ I.hok e
  obtain⟨w',hw,rw'⟩:=RelO.some_of (v:=v) (o:=(atKey xs k).map (·.2)) (by rw[l];exact rel.val k)
  obtain⟨p,hp,hp2⟩:=Option.map_eq_some_iff.mp hw
  refine wpAny_getItem_heap (tupleKind_room_in1 hu) (gE_ I.hok eb) dd hp ?_
  rw[hp2]
  exact h w' _ (I.tok _) rw'
theorem d_in{Q:Value->Shared->Prop}(hu:A.units+1<cLine)(I:Inv X pins σ H s)(g:DGet H a y o)(ry:RelV y u)(h:∀s',Inv X pins σ H s'->Q (.bool o.isSome) s') :
  wpAny (model X.prog X.w) A (compareOp .In u (.ref a)) Q E s:=by
 rcases g with⟨kvs,k,e,ey,l⟩ | ⟨kvs,k,b,e,ey,eb,l⟩
 ·subst ey
  obtain⟨z,hd,vs,rel,dd⟩:=eo_ I.hok e
  refine wpAny_in_of (hZ_ ry) hd dd.mapOf ?_
  rw[<-(rel.val k).isSome_eq,<-l]
  exact h _ (I.tok _)
 ·subst ey
  cases (show u=Value.ref b from ry)
  obtain⟨z,hd,xs,rel,dd⟩:=ki_ I.hok e
  refine wpAny_in_heap (tupleKind_room_in1 hu) (gE_ I.hok eb) hd dd ?_
  have q:=(rel.val k).isSome_eq
  rw[Option.isSome_map] at q
  rw[<-q,<-l]
  exact h _ (I.tok _)
theorem ie_{h':Heap}{t':Nat}{ob:HO}(I:Inv X pins σ H s)(mu:Mut (H a))(hs:Heap.SameBut a s.heap h')(he:∃q,h'.get? a=some q)(new:ObjOk X.prog X.w (upd H a ob) h' a ob) :
  Inv X pins σ (upd H a ob) {s with heap:=h',toks:=t'} :=
 I.write (x:=a) (e:=a) mu (.inl rfl) (fun b q hb z=>(hs.2 b hb).trans z) he new
theorem mp_{P:Program}{w:World}{H':Hp}{h':Heap}{kvs:List (Key×V)}{vs:List (Key×Value)}(z:kvs.length<=sizeLine)(hd:(a==sysModules)=false)(rel:KV kvs vs)(dd:h'.DictOf (w_ P w) a vs) :
  ObjOk P w H' h' a (.dK kvs):=⟨z,hd,vs,rel,dd⟩
theorem mt_{H':Hp}{Q:Unit->Shared->Prop}(hu:A.units+1<cLine)(I:Inv X pins σ H s)(g:DPut H a y v H')(ry:RelV y u)(rv:RelV v r)(h:∀s',Inv X pins σ H' s'->Q () s') :
  wpAny (model X.prog X.w) A (setItem (.ref a) u r) Q E s:=by
 rcases g with⟨kvs,k,e,ey,l,eH⟩ | ⟨kvs,k,b,e,ey,eb,l,eH⟩
 ·subst ey eH
  obtain⟨z,hd,vs,rel,dd⟩:=mo_ I.hok e
  have hz:vs.length<=sizeLine:=by rw[<-rel.length];exact z
  have hl:(putK kvs k v).length<=sizeLine:=by have:=ck_ kvs k v;omega
  refine wpAny_setItem_pairs (hsz:=hz) (hZ_ ry) dd fun h' dd' hs=>h _ ?_
  have he:∃q,h'.get? a=some q:=let ⟨q,_,_,hq,_⟩:=dd';⟨q,hq⟩
  exact ie_ I (by rw[e];exact True.intro) hs he (mp_ hl hd (rel.put k rv) dd')
 ·subst ey eH
  cases (show u=Value.ref b from ry)
  obtain⟨z,hd,xs,rel,dd⟩:=qY_ I.hok e
  have hz:xs.length<=sizeLine:=by rw[<-Paired.length rel];exact z
  have hl:(putK kvs k v).length<=sizeLine:=by have:=ck_ kvs k v;omega
  refine wpAny_setItem_heap (hsz:=hz) (tupleKind_room_in1 hu) (gE_ I.hok eb) dd fun h' dd' hs=>h _ ?_
  obtain⟨q,es,ep,hq,h2,h3,h4,_,h5⟩:=dd'
  refine ie_ I (by rw[e];exact True.intro) hs ⟨q,hq⟩ ⟨hl,hd,_,(rel.put k eb rv).keeps fun c ys ec=>?_,q,es,ep,hq,h2,h3,h4,h5⟩
  rw[j_ (hV_ ec e (fun z=>nomatch z))]
  exact ec
end
section
variable{X:Cx}{pins:List (Addr×Obj)}{σ:St}{H:Hp}{s:Shared}{a:Addr}{kvs:List (Key×V)}{k:Key}{u:Value}{A:Around}{E:Value->Shared->Prop}
end
def NoSl(i:Expr):Prop:=∀ov iv,subscripted i false ov iv=operate [ov,iv] (getItem ov iv)
theorem oG_{prog:Program}{w:World}{A:Around}{E:Value->Shared->Prop}{s:Shared}{env:Env}{value slice:Expr}{pos:Pos}{T id:String}{Q:Value->Shared->Prop}
  (hl:typeLookup (.type T) "__getitem__"=pure (some (.builtin id))) (hs:NoSl slice)
  (h:wpAny (model prog w) A (eval value env) (fun o s₁=>wpAny (model prog w) A (eval slice env) (fun i s₂=>s₂.TypeIs o T/\wpAny (model prog w) A (getItem o i) Q E s₂) E s₁) E s) :
  wpAny (model prog w) A (eval (.Subscript value slice pos) env) Q E s:=by
 refine Subscript_ (wpAny_mono h (fun o s₁ h₁=>wpAny_mono h₁ (fun i s₂ h₂=>?_) fun _ _ x=>x) fun _ _ x=>x)
 obtain⟨hT,h₂⟩:=h₂
 unfold subscriptTail
 refine wpAny_bind ?_
 rw[getitemInPython_of_ne hT.not_modules]
 refine wpAny_bind (wpAny_specialOf hT hl ?_)
 have fin:wpAny (model prog w) A (subscripted slice false o i) (fun r s₃=>wpAny (model prog w) A (letTemporaryGo value o r>>=fun _=>pure r) Q E s₃) E s₂:=by
  rw[hs o i]
  exact wpAny_operating (wpAny_mono h₂ (fun r s₃ h₃=>wpAny_bind (wpAny_letTemporaryGo (wpAny_pure h₃))) fun _ _ x=>x)
 first
  | exact wpAny_pure (wpAny_bind fin)
  | exact wpAny_bind (wpAny_pure (wpAny_bind fin))
  | exact wpAny_bind fin
theorem id_{X:Cx}{pins:List (Addr×Obj)}{σ:St}{H:Hp}{s:Shared}{a:Addr}{y:V}{o:Option V}(I:Inv X pins σ H s)(g:DGet H a y o):s.TypeIs (.ref a) "dict":=by
 rcases g with⟨kvs,k,e,_,_⟩ | ⟨kvs,k,b,e,_,_,_⟩
 ·obtain⟨_,_,vs,_,dd⟩:=eo_ I.hok e
  exact dd.typeIs
 ·obtain⟨_,_,xs,_,dd⟩:=ki_ I.hok e
  exact dd.typeIs
def tDGet(td ty:TE):TE:=fun σ H Q=>td σ H fun x H1=>ty σ H1 fun y H2=>∃a v,x=.ref a/\DGet H2 a y (some v)/\Q v H2
def tDIn(ty td:TE):TE:=fun σ H Q=>ty σ H fun y H1=>td σ H1 fun x H2=>∃a o,x=.ref a/\DGet H2 a y o/\Q (.bl o.isSome) H2
def sDPut(td ty tv:TE):TS:=fun D σ H=>tv σ H fun v H1=>td σ H1 fun x H2=>ty σ H2 fun y H3=>∃a H4,x=.ref a/\DPut H3 a y v H4/\D.nx σ H4
section
variable{X:Cx}{o i e value:Expr}{pos pos' tpos:Pos}{td ty tv:TE}
theorem ar_(hu:X.A.units+1<cLine)(ho:PE X o td)(hi:PE X i ty)(hs:NoSl i):PE X (.Subscript o i pos) (tDGet td ty):=by
 intro pins s σ H Q I h
 refine oG_ PySem.F.slot_dict_getitem.lookup hs (thn (ho pins s σ H _ I h) fun u s1 ⟨x,H1,I1,rx,q1⟩=>thn (hi pins s1 σ H1 _ I1 q1) fun iv s2 ⟨y,H2,I2,ry,a,v,ex,g,q2⟩=>?_)
 subst ex
 obtain rfl:u=Value.ref a:=rx
 exact⟨id_ I2 g,mu_ hu I2 g ry fun w' s3 I3 rw'=>⟨v,H2,I3,rw',q2⟩⟩
theorem oe_(hu:X.A.units+1<cLine)(hi:PE X i ty)(ho:PE X o td):PC X .In i o (tDIn ty td):=by
 intro pins s σ H Q I h
 refine thn (hi pins s σ H _ I h) fun iv s1 ⟨y,H1,I1,ry,q1⟩=>thn (ho pins s1 σ H1 _ I1 q1) fun u s2 ⟨x,H2,I2,rx,a,ov,ex,g,q2⟩=>?_
 subst ex
 obtain rfl:u=Value.ref a:=rx
 exact d_in hu I2 g ry fun s3 I3=>⟨.bl ov.isSome,H2,I3,rfl,q2⟩
theorem cX_(hu:X.A.units+1<cLine)(ho:PE X o td)(hi:PE X i ty)(hv:PE X value tv)(hs:swapsWith value (some (.Subscript o i pos')) pos.line X.env=pure false) :
  PS X (.Assign [.Subscript o i pos'] value pos) (sDPut td ty tv):=by
 intro pins s σ H D I h
 refine wpAny_Assign_Subscript (thn (hv pins s σ H _ I h) fun r s1 ⟨v,H1,I1,rv,q1⟩=>thn (ho pins s1 σ H1 _ I1 q1) fun u s2 ⟨x,H2,I2,rx,q2⟩=>thn (hi pins s2 σ H2 _ I2 q2) fun iv s3 ⟨y,H3,I3,ry,a,H4,ex,g,q3⟩=>?_) hs
 subst ex
 obtain rfl:u=Value.ref a:=rx
 exact mt_ hu I3 g ry rv fun s4 I4=>⟨σ,H4,I4,q3⟩
end
theorem ju_{P:Program}{w:World}{H:Hp}(h:Heap)(hb:sysModules<h.objs.size):ObjOk P w H (h.push {cls:=.type "dict",data:=.dict #[]}) h.objs.size (.dK []) :=
 ⟨Nat.zero_le _,beq_eq_false_iff_ne.mpr (Ne.symm (Nat.ne_of_lt hb)),[],.nil,Heap.DictOf.new h⟩
def pG_:TE:=fun _ H Q=>∀p,H p=none->Q (.ref p) (upd H p (.dK []))
section
variable{X:Cx}{pos:Pos}
theorem be_:PE X (.Dict [] [] pos) pG_:=fun pins s σ H Q I h =>
 wpAny_Dict_empty ⟨.ref s.heap.objs.size,_,I.laid (a:=s.heap.objs.size) (o:=.dK []) (t':=s.toks) (fun _ _ q=>Heap.get?_push_of_some _ q) (Nat.le_refl _) (ju_ s.heap I.big),rfl,h _ (I.hok.fresh (Nat.le_refl _))⟩
end
def kH_:List (TE×TE)->St->Hp->(List (V×V)->Hp->Prop)->Prop
 | [],_,H,Q=>Q [] H
 | (tk,tv)::r,σ,H,Q=>tk σ H fun x H1=>tv σ H1 fun y H2=>kH_ r σ H2 fun ps H3=>Q ((x,y)::ps) H3
abbrev VV:List (V×V)->List (Value×Value)->Prop:=Paired fun p q=>RelV p.1 q.1/\RelV p.2 q.2
def PPs(X:Cx)(pos:Pos)(keys:List (Option Expr))(values:List Expr)(trs:List (TE×TE)):Prop :=
 ∀(pins:List (Addr×Obj)) (s:Shared) (σ:St) (H:Hp) (Q:List (V×V)->Hp->Prop),Inv X pins σ H s->kH_ trs σ H Q->
  wpAny (model X.prog X.w) X.A (evalPairs (pairTrees keys values X.env pos)) (fun vs s'=>∃ps H',Inv X pins σ H' s'/\VV ps vs/\Q ps H') X.xe s
theorem lj_{X:Cx}{pos:Pos}:PPs X pos [] [] []:=fun pins s σ H Q I h=>pairTrees_nil_walk ⟨[],H,I,.nil,h⟩
theorem iU_{X:Cx}{pos:Pos}{k v:Expr}{ks:List (Option Expr)}{vs:List Expr}{tk tv:TE}{trs:List (TE×TE)}(hk:PE X k tk)(hv:PE X v tv)(hr:PPs X pos ks vs trs) :
  PPs X pos (some k::ks) (v::vs) ((tk,tv)::trs):=fun pins s σ H Q I h =>
 pairTrees_cons_walk (thn (hk pins s σ H _ I h) fun u s1 ⟨x,H1,I1,rx,q1⟩=>thn (hv pins s1 σ H1 _ I1 q1) fun w2 s2 ⟨y,H2,I2,ry,q2⟩ =>
  thn (hr pins s2 σ H2 _ I2 q2) fun ws s3 ⟨ps,H3,I3,rel,q3⟩=>⟨(x,y)::ps,H3,I3,.cons ⟨rx,ry⟩ rel,q3⟩)
def W_(kvs more:List (Key×V)):List (Key×V):=more.foldl (fun acc kv=>putK acc kv.1 kv.2) kvs
theorem KV.merge:∀ {more:List (Key×V)} {rs:List (Key×Value)} {kvs:List (Key×V)} {vs:List (Key×Value)},KV more rs->KV kvs vs->KV (W_ kvs more) (merged vs rs):=by
 intro more rs kvs vs r
 unfold KV at r
 induction r generalizing kvs vs with
 | nil=>intro q;exact q
 | @cons p q ps qs h t ih =>
  intro r0
  have e:KV (putK kvs p.1 p.2) (stored vs q.1 q.2):=by
   have:=r0.put p.1 h.2
   rw[<-h.1];exact this
  exact ih e
theorem bg_:∀(more kvs:List (Key×V)),(W_ kvs more).length<=kvs.length+more.length
 | [],kvs=>by show kvs.length<=kvs.length+0;omega
 | p::r,kvs=>by
  have h1:=bg_ r (putK kvs p.1 p.2)
  have h2:=ck_ kvs p.1 p.2
  show(W_ (putK kvs p.1 p.2) r).length<=_
  rw[List.length_cons];omega
theorem eG_{P:Program}{w:World}:∀ {kvs:List (Key×V)} {ws:List (Value×Value)},VV (kvs.map fun kv=>(kV kv.1,kv.2)) ws->∃rs,Carries (w_ P w) ws rs/\KV kvs rs
 | [],_,r=>by rw[List.map_nil] at r;cases r;exact⟨[],True.intro,.nil⟩
 | p::kvs,_,r=>by
  rw[List.map_cons] at r
  cases r with
  | @cons a b as bs h t =>
   obtain⟨rs,c,q⟩:=eG_ (P:=P) (w:=w) t
   obtain⟨b1,b2⟩:=b
   exact⟨(p.1,b2)::rs,⟨hZ_ h.1,rfl,c⟩,.cons ⟨rfl,h.2⟩ q⟩
def tDisp(trs:List (TE×TE)):TE:=fun σ H Q=>∀p,H p=none->kH_ trs σ (upd H p (.dK [])) fun ps H2=>H2 p=some (.dK [])/\∃kvs:List (Key×V),ps=kvs.map (fun kv=>(kV kv.1,kv.2))/\kvs.length<=15/\Q (.ref p) (upd H2 p (.dK (W_ [] kvs)))
theorem lp_{X:Cx}{pos:Pos}{keys:List (Option Expr)}{values:List Expr}{trs:List (TE×TE)}(h:PPs X pos keys values trs)(hall:keys.all (·.isSome)=true)(hl:keys.length=values.length)(h0:keys≠[])
  (h15:keys.length<=15):PE X (.Dict keys values pos) (tDisp trs):=by
 intro pins s σ H Q I q
 have hn:=I.hok.fresh (Nat.le_refl s.heap.objs.size)
 have I1:=I.laid (a:=s.heap.objs.size) (o:=.dK []) (h':=s.heap.push {cls:=.type "dict",data:=.dict #[]}) (t':=s.toks) (fun _ _ q=>Heap.get?_push_of_some _ q) (Nat.le_refl _) (ju_ s.heap I.big)
 refine wpAny_Dict_walk (knd:=w_ X.prog X.w) hall hl h0 h15 (thn (h pins _ σ _ _ I1 (q _ hn)) fun ws s2 ⟨ps,H2,I2,rel,e,kvs,ep,lk,q2⟩=>?_)
 subst ep
 obtain⟨rs,c,rk⟩:=eG_ (P:=X.prog) (w:=X.w) rel
 obtain⟨z,hd,vs0,r0,dd⟩:=mo_ I2.hok e
 cases r0
 refine⟨rs,c,dd,fun h' dd' hs=>⟨.ref s.heap.objs.size,_,?_,rfl,q2⟩⟩
 have hz:(W_ [] kvs).length<=sizeLine:=by
  have h1:=bg_ kvs []
  rw[List.length_nil] at h1
  rw[sizeLine_eq];omega
 have he:∃q,h'.get? s.heap.objs.size=some q:=let ⟨q,_,_,hq,_⟩:=dd';⟨q,hq⟩
 exact ie_ I2 (by rw[e];exact True.intro) hs he (mp_ hz hd (rk.merge .nil) dd')
structure M2(X:Cx)(o:Expr)(m:Str)(apos:Pos)(e f:Expr)(cpos:Pos):Prop where
 base:attributeBase o m X.env (eval o X.env)=eval o X.env
 few:((backTo cpos (starEach [e,f] X.env)).all (fun x=>!x.1)&&(backToKw cpos (keywordEach [] X.env)).all (fun x=>x.1.isSome)
  && decide (([e,f]:List Expr).length+([]:List Keyword).length+(if ([]:List Keyword).isEmpty then 0 else 1)<30))=true
 line:(apos.endLine==cpos.line)=true
 trees:backTo cpos (starEach [e,f] X.env)=[(false,eval e X.env),(false,eval f X.env)]
def IsD(H:Hp)(a:Addr):Prop:=(∃kvs,Rd H a (.dK kvs))\/∃kvs,Rd H a (.dT kvs)
theorem lX_{X:Cx}{pins:List (Addr×Obj)}{σ:St}{H:Hp}{s:Shared}{a:Addr}(I:Inv X pins σ H s)(d:IsD H a) :
  s.TypeIs (.ref a) "dict"/\(∀b,Value.ref a=.ref b->∃ob,s.heap.get? b=some ob/\ob.dict=none)/\(a==sysModules)=false:=by
 rcases d with⟨kvs,e⟩ | ⟨kvs,e⟩
 ·obtain⟨_,hd,vs,_,dd⟩:=eo_ I.hok e
  refine⟨dd.typeIs,fun b q=>?_,hd⟩
  cases q
  obtain⟨ob,_,_,h1,h2,_⟩:=dd
  exact⟨ob,h1,h2.2.1⟩
 ·obtain⟨_,hd,xs,_,dd⟩:=ki_ I.hok e
  refine⟨dd.typeIs,fun b q=>?_,hd⟩
  cases q
  obtain⟨ob,_,_,h1,h2,_⟩:=dd
  exact⟨ob,h1,h2.2.1⟩
section
variable{X:Cx}{pins:List (Addr×Obj)}{σ:St}{H:Hp}{s:Shared}{a:Addr}{y d:V}{u r:Value}{o:Option V}{A:Around}{E:Value->Shared->Prop}
theorem qK_{Q:Value->Shared->Prop}(hu:A.units+1<cLine)(I:Inv X pins σ H s)(g:DGet H a y o)(ry:RelV y u)(rd:RelV d r)(h:∀w' s',Inv X pins σ H s'->RelV (o.getD d) w'->Q w' s') :
  wpAny (model X.prog X.w) A (call (.builtin "dict.get") [.ref a,u,r]) Q E s:=by
 rcases g with⟨kvs,k,e,ey,l⟩ | ⟨kvs,k,b,e,ey,eb,l⟩
 ·subst ey
  obtain⟨z,hd,vs,rel,dd⟩:=eo_ I.hok e
  refine call_meetsIn PySem.F.slot_dict_get dd.typeIs PySem.F.entry_dict_get (PySem.F.args_dict_get_3 _ _ _) (meets_dict_get_default (w_ X.prog X.w) a (hZ_ ry) hd r) ⟨_,dd.mapOf,h _ _ (I.tok _) ?_⟩
  rw[l]
  exact(rel.val k).getD rd
 ·subst ey
  cases (show u=Value.ref b from ry)
  obtain⟨z,hd,xs,rel,dd⟩:=ki_ I.hok e
  refine call_meetsIn PySem.F.slot_dict_get dd.typeIs PySem.F.entry_dict_get (PySem.F.args_dict_get_3 _ _ _) (meetsH_dict_get_default (tupleKind (w_ X.prog X.w)) a b hd r) ⟨tupleKind_room_in1 hu,k,xs,gE_ I.hok eb,dd,h _ _ (I.tok _) ?_⟩
  rw[l]
  exact(rel.val k).getD rd
end
def pH_(td ty tx:TE):TE:=fun σ H Q=>td σ H fun x H1=>∃a,x=.ref a/\IsD H1 a/\ty σ H1 fun y H2=>tx σ H2 fun z H3=>∃o,DGet H3 a y o/\Q (o.getD z) H3
section
variable{X:Cx}{o e f:Expr}{apos cpos:Pos}{td ty tx:TE}
theorem bR_(hu:X.A.units+1<cLine)(ho:PE X o td)(he:PE X e ty)(hf:PE X f tx)(m:M2 X o "get" apos e f cpos):PE X (.Call (.Attribute o "get" apos) [e,f] [] cpos) (pH_ td ty tx):=by
 intro pins s σ H Q I h
 refine wpAny_Call_method m.base m.few m.line PySem.F.plainAttrs_dict PySem.F.slot_dict_get PySem.F.type_dict_get (thn (ho pins s σ H _ I h) fun u s1 ⟨x,H1,I1,rx,a,ex,d,q1⟩=>?_)
 subst ex
 obtain rfl:u=Value.ref a:=rx
 obtain⟨t1,t2,_⟩:=lX_ I1 d
 refine⟨t1,t2,?_⟩
 rw[m.trees]
 refine Calls.callWith_builtin rfl (Calls.evalArgs_plain (Calls.spliced_cons (thn (he pins s1 σ H1 _ I1 q1) fun iv s2 ⟨y,H2,I2,ry,q2⟩ =>
  Calls.spliced_cons (thn (hf pins s2 σ H2 _ I2 q2) fun fv s3 ⟨z,H3,I3,rz,ov,g,q3⟩=>Calls.spliced_nil ?_))))
 exact qK_ hu I3 g ry rz fun w' s4 I4 rw'=>⟨_,H3,I4,rw',q3⟩
end
section
variable{X:Cx}{pins:List (Addr×Obj)}{σ:St}{H:Hp}{s:Shared}{a:Addr}{kvs:List (Key×V)}{A:Around}{E:Value->Shared->Prop}
end
section
variable{X:Cx}{pins:List (Addr×Obj)}{σ:St}{H:Hp}{s:Shared}{a:Addr}{y:V}{u:Value}{A:Around}{E:Value->Shared->Prop}
end
section
variable{X:Cx}
end
section
variable{κ:Type}[DecidableEq κ]
end
theorem js_{al be:Type}{l:List al}{f:al->be->Sem (ForInStep be)}(R:List al->be->Prop):∀(pre rest:List al) (c:be),l=pre++rest->R pre c->
  (∀pre x post c,l=pre++x::post->R pre c->∃d,f x c=pure (.yield d)/\R (pre++[x]) d)->∃d,forIn rest c f=pure d/\R l d
 | pre,[],c,e,h0,_=>⟨c,rfl,by rw[e,List.append_nil];exact h0⟩
 | pre,x::rest,c,e,h0,h=>by
  obtain⟨d,e1,r1⟩:=h pre x rest c e h0
  obtain⟨d',e2,r2⟩:=js_ R (pre++[x]) rest d (by rw[e];simp) r1 h
  exact⟨d',by rw[List.forIn_cons,e1,pure_bind];exact e2,r2⟩
theorem jw_{scope:Scope}{env:Env}(h:∀y,(y,NameKind.free)∈scope.names->∃c,env.cells.lookup y=some c) :
  ∃cl,closureFor scope env=pure cl/\(∀y c,cl.lookup y=some c->env.cells.lookup y=some c)/\∀y,(y,NameKind.free)∈scope.names->∃c,cl.lookup y=some c:=by
 have key:=js_ (l:=scope.names) (be:=List (Str×Addr)) (f:=fun x r=>if (x.2==NameKind.free)=true then do let a <-cellOf env x.1;pure (ForInStep.yield ((x.1,a)::r)) else pure (ForInStep.yield r))
  (fun pre cs=>(∀y c,cs.lookup y=some c->env.cells.lookup y=some c)/\∀y,(y,NameKind.free)∈pre->∃c,cs.lookup y=some c) [] scope.names [] (by simp)
  ⟨fun y c e=>by simp at e,fun y hy=>by simp at hy⟩ (by
   rintro pre ⟨n,k⟩ post cs e ⟨r1,r2⟩
   by_cases hk:k=NameKind.free
   ·subst hk
    obtain⟨c,hc⟩:=h n (by rw[e];simp)
    refine⟨(n,c)::cs,?_,fun y d q=>?_,fun y hy=>?_⟩
    ·have hco:cellOf env n=pure c:=by unfold cellOf;rw[hc]
     simp only[beq_self_eq_true,if_true,hco,pure_bind]
    ·by_cases hy:y=n
     ·subst hy
      rw[List.lookup_cons,beq_self_eq_true] at q
      cases q;exact hc
     ·have hb:(y==n)=false:=by simpa using hy
      rw[List.lookup_cons,hb] at q
      exact r1 y d q
    ·by_cases hn:y=n
     ·exact⟨c,by rw[hn,List.lookup_cons,beq_self_eq_true]⟩
     ·have hb:(y==n)=false:=by simpa using hn
      rw[List.lookup_cons,hb]
      refine r2 y ?_
      rcases List.mem_append.mp hy with z | z
      ·exact z
      ·simp at z;exact absurd z hn
   ·refine⟨cs,?_,r1,fun y hy=>r2 y ?_⟩
    ·have hb:(k==NameKind.free)=false:=by simpa using hk
     simp only[hb,Bool.false_eq_true,if_false]
    ·rcases List.mem_append.mp hy with z | z
     ·exact z
     ·simp at z;exact absurd z.2.symm hk)
 obtain⟨cl,e,r⟩:=key
 refine⟨cl,?_,r⟩
 have e':closureFor scope env=forIn scope.names ([]:List (Str×Addr)) (fun x r=>if (x.2==NameKind.free)=true then do let a <-cellOf env x.1;pure (ForInStep.yield ((x.1,a)::r)) else pure (ForInStep.yield r)):=by
  simp only[closureFor,bind_pure]
 rw[e',e]
def Cx.cmp(X:Cx)(N:List Str)(scope:Scope)(cl:List (Str×Addr))(C:Addr)(s:Shared)(H:Hp)(fp:List Addr):Cx where
 prog:=X.prog
 w:=X.w
 K:=X.K
 mg:=X.mg
 base:=X.base
 A:=X.A
 N:=N
 s₀:=s
 H₀:=H
 env:=compEnvC scope cl C X.env
 outer:=X.stack
 stack:=X.stack
 ex:=fp
 fn:=fun _=>false
 calm:=X.calm
 pn:=[]
 xe:=fun _ _=>False
theorem jl_{names:List (Str×NameKind)}{q:Str->NameKind->Bool}{y:Str}:(names.map fun(n,k)=>if q n k=true then (n,NameKind.cell) else (n,k)).lookup y=(names.lookup y).map fun k=>if q y k=true then NameKind.cell else k:=by
 induction names with
 | nil=>rfl
 | cons p r ih =>
  obtain⟨n,k⟩:=p
  rw[List.map_cons]
  by_cases hy:y=n
  ·subst hy
   by_cases hq:q y k=true
   ·simp[List.lookup_cons,hq]
   ·simp[List.lookup_cons,hq]
  ·have hb:(y==n)=false:=by simpa using hy
   by_cases hq:q n k=true
   ·simp only[hq,if_true,List.lookup_cons,hb];exact ih
   ·simp only[hq,Bool.false_eq_true,if_false,List.lookup_cons,hb];exact ih
section
variable{X:Cx}{pins:List (Addr×Obj)}{σ:St}{H:Hp}{s:Shared}{fp:List Addr}{scope:Scope}{cl:List (Str×Addr)}{N:List Str}{C:Addr}
structure CmpScope(X:Cx)(N:List Str)(scope:Scope):Prop where
 kind:scope.kind=.function
 nocell:∀y∈scope.names,y.2≠.cell
 loc:∀y∈scope.names,y.2=.local->scope.names.lookup y.1=some .local
 fre:∀y,scope.names.lookup y=some .free->X.env.kindOf y=some .cell
 fre2:∀y,(y,NameKind.free)∈scope.names->X.env.kindOf y=some .cell
 nd:N.Nodup
 at0:∀y,scope.names.lookup y=some .free->(y,NameKind.free)∈scope.names
theorem qM_(S:CmpScope X N scope)(I:Inv X pins σ H s)(hf:∀b∈fp,FpOk X pins H b)(ho:∀b∈fp,∃o,s.heap.get? b=some o)(hcl:∀y c,cl.lookup y=some c->X.env.cells.lookup y=some c)
  (hcf:∀y,(y,NameKind.free)∈scope.names->∃c,cl.lookup y=some c) (hC:s.heap.objs.size<=C):(X.cmp N scope cl C s H fp).Ok where
 mod:=I.ok.mod
 kind:=S.kind
 glob:=I.ok.glob
 blt:=I.ok.blt
 above:=hC
 inj:=fun x y c h1 h2=>I.ok.inj x y c (hcl x c h1) (hcl y c h2)
 has:=fun y hy=>by
  have hy':(relabel scope X.env).names.lookup y=some .cell\/(relabel scope X.env).names.lookup y=some .free:=hy
  have e:(relabel scope X.env).names.lookup y=(scope.names.lookup y).map fun k=>if (k==.free&&X.env.scope.kind==.function&&X.env.kindOf y==some .cell)=true then NameKind.cell else k :=
   jl_ (q:=fun n k=>k==.free&&X.env.scope.kind==.function&&X.env.kindOf n==some .cell)
  rw[e] at hy'
  cases q:scope.names.lookup y with
  | none=>rw[q] at hy';simp at hy'
  | some k =>
   by_cases hk:k=NameKind.free
   ·subst hk
    exact hcf y (S.at0 y q)
   ·exfalso
    have hb:(k==NameKind.free)=false:=by simpa using hk
    rw[q] at hy'
    simp only[Option.map_some,hb,Bool.false_and,Bool.false_eq_true,if_false,Option.some.injEq] at hy'
    rcases hy' with z | z
    ·exact S.nocell _ (PySem.mem_of_lookup q) z
    ·exact hk z
 cab:=fun y c h _=>nomatch h
 hd:=I.ok.hd
 frames:=I.ok.frames
 stk:=.inl rfl
 exf:=fun b hb=>by
  obtain⟨o,e⟩:=ho b hb
  obtain⟨_,_,_,_,f4,_⟩:=hf b hb
  exact⟨Nat.ne_of_lt (Nat.lt_of_lt_of_le (Heap.lt_size e) hC),fun x c q=>f4 x c (hcl x c q)⟩
 bs:=I.bs
 bsz:=Nat.le_trans I.ok.bsz I.sz
 noex:=fun b o e hb=>by
  obtain⟨_,_,_,f3,_,_⟩:=hf b hb
  rcases f3 with z | z
  ·exact I.ok.noex b o e z
  ·exact absurd (Nat.lt_of_lt_of_le (Heap.lt_size e) (Nat.le_trans I.ok.bsz z)) (Nat.lt_irrefl _)
 exfs:=fun b hb z=>by
  obtain⟨_,f1,f2,_⟩:=hf b hb
  rcases List.mem_cons.mp (I.stkSub b z) with e | e
  ·exact f1 e
  ·exact f2 e
 funs:=I.stack
 frf:=I.stkFree
def aJ_(k:Nat)(fr:List Nat)(σ:St):St:=List.replicate k none++fr.map fun i=>(σ[i]?).join
structure CmpFree(X:Cx)(N:List Str)(scope:Scope)(k:Nat)(fr:List Nat):Prop where
 len:N.length=k+fr.length
 at1:∀(j i:Nat) (y:Str),fr[j]?=some i->N[k+j]?=some y->X.N[i]?=some y/\scope.names.lookup y=some .free
theorem mA_(S:CmpScope X N scope){k:Nat}{fr:List Nat}(F:CmpFree X N scope k fr)(I:Inv X pins σ H s)(hf:∀b∈fp,FpOk X pins H b)(ho:∀b∈fp,∃o,s.heap.get? b=some o)
  (hcl:∀y c,cl.lookup y=some c->X.env.cells.lookup y=some c) (hcf:∀y,(y,NameKind.free)∈scope.names->∃c,cl.lookup y=some c) (hC:s.heap.objs.size<=C)
  {s1:Shared} {m:Str->Option Value} {D:Addr} {oD:Obj} (hos:s1.os=s.os) (hg:s1.gens=s.gens) (kp:∀b o,s.heap.get? b=some o->s1.heap.get? b=some o) (hn:s1.heap.Ns C m)
  (hD:s1.heap.get? D=some oD) (hD0:s.heap.objs.size<=D) (hDC:D≠C) (hdc:∀v,oD.data≠.cell v) :
  Inv (X.cmp N scope cl C s H fp) [(D,oD)] (aJ_ k fr σ) H s1:=by
 have hfs:D∉frs X.stack:=fun z=>by
  obtain⟨_,o,q,_⟩:=I.stack.mem z
  exact absurd (Nat.lt_of_lt_of_le (Heap.lt_size q) hD0) (Nat.lt_irrefl _)
 refine⟨qM_ S I hf ho hcl hcf hC,hos,by rw[hg];exact I.bare,Un.kept kp,⟨m,hn,fun i x v e1 e2 e3=>?_⟩,fun y c e=>?_,I.hok.fresh hC,fun y c e=>I.freeC y c (hcl y c e),fun p hp=>?_,I.hok.kept kp,?_⟩
 ·
  unfold aJ_ at e2
  by_cases hi:i<k
  ·rw[List.getElem?_append_left (by simpa using hi),List.getElem?_replicate] at e2
   split at e2 <;> cases e2
  ·obtain⟨j,rfl⟩:∃j,i=k+j:=⟨i-k,by omega⟩
   rw[List.getElem?_append_right (by simp),List.length_replicate,Nat.add_sub_cancel_left,List.getElem?_map] at e2
   cases q:fr[j]? with
   | none=>rw[q] at e2;cases e2
   | some i' =>
    rw[q] at e2
    have e2':(σ[i']?).join=some v:=Option.some.inj e2
    obtain⟨a1,a2⟩:=F.at1 j i' x q e1
    have hk:=S.fre x a2
    obtain⟨m0,hn0,hl0⟩:=I.loc
    have hv:σ[i']?=some (some v):=by
     cases z:σ[i']? with
     | none=>rw[z] at e2';cases e2'
     | some w=>rw[z] at e2';rw[show w=some v from e2']
    obtain⟨u,r,l⟩:=hl0 i' x v a1 hv (.inr (.inl hk))
    refine⟨u,r,.inr ⟨.inl ?_,?_⟩⟩
    ·show(relabel scope X.env).names.lookup x=some .cell
     have e:(relabel scope X.env).names.lookup x=(scope.names.lookup x).map fun k=>if (k==.free&&X.env.scope.kind==.function&&X.env.kindOf x==some .cell)=true then NameKind.cell else k :=
      jl_ (q:=fun n k=>k==.free&&X.env.scope.kind==.function&&X.env.kindOf n==some .cell)
     rw[e,a2,hk,I.ok.kind]
     rfl
    ·obtain⟨c,hc⟩:=hcf x (S.at0 x a2)
     refine⟨c,hc,?_⟩
     rcases l with⟨z,_⟩ | ⟨_,c',hc',z⟩
     ·rw[hk] at z;cases z
     ·have ec:=hcl x c hc
      rw[hc'] at ec;cases ec
      obtain⟨o,ho,hd⟩:=z
      exact⟨o,kp _ _ ho,hd⟩
 ·obtain⟨v,o,q,d⟩:=I.cell y c (hcl y c e)
  exact⟨v,o,kp _ _ q,d⟩
 ·have hp':p=(D,oD):=by simpa [Cx.cmp] using hp
  subst hp'
  exact⟨hD,I.hok.fresh hD0,hDC,hfs,hdc⟩
 ·unfold aJ_
  show _=N.length
  rw[List.length_append,List.length_replicate,List.length_map,F.len]
abbrev lstO(its:List Value)(n:Nat):Obj:={cls:=.type "list",data:=.seq its.toArray n}
theorem jv_{σ':St}{H':Hp}{s':Shared}{D:Addr}{its:List Value}{n:Nat}{ys:List V}(I:Inv X pins σ H s)(hf:∀b∈fp,FpOk X pins H b)(J:Inv (X.cmp N scope cl C s H fp) [(D,lstO its n)] σ' H' s')(r:Vals ys its)
  (hz:ys.length<=sizeLine) (hD0:s.heap.objs.size<=D):H' D=none/\Inv X pins σ (upd H' D (.lst ys)) s':=by
 obtain⟨e1,hn,_,_,_⟩:=J.pin (D,lstO its n) (by simp[Cx.cmp])
 have e1:s'.heap.get? D=some (lstO its n):=e1
 have hn:H' D=none:=hn
 have u:=J.base
 have neD:∀b o,s.heap.get? b=some o->b≠D:=fun b o q=>Nat.ne_of_lt (Nat.lt_of_lt_of_le (Heap.lt_size q) hD0)
 have u':Un (frs X.stack) fp H (upd H' D (.lst ys)) s.heap s'.heap :=
  ⟨u.keep,u.slot,fun b o q z hx=>by rw[j_ (neD b o q)];exact u.free b o q z hx,u.there,fun b xs q=>by rw[j_ (f_ (u.tups b xs q) hn)];exact u.tups b xs q,
   fun b o x q=>by rw[j_ (f_ (u.frzs b o x q) hn)];exact u.frzs b o x q,fun b ps q=>by
    obtain⟨more,z⟩:=u.tbls b ps q
    exact⟨more,by rw[j_ (f_ z hn)];exact z⟩⟩
 have hok:HOk X.prog X.w (upd H' D (.lst ys)) s'.heap:=fun b o q=>by
  by_cases hb:b=D
  ·subst hb
   rw[c_] at q
   cases q
   exact⟨hz,its,n,r,e1⟩
  ·rw[j_ hb] at q
   exact(J.hok b o q).stay (fun c v _ z=>z) (fun c z=>by rw[j_ (f_ z hn)];exact z) fun c xs z=>by rw[j_ (f_ z hn)];exact z
 refine⟨hn,?_⟩
 have os:=J.os
 have bare:=J.bare
 obtain⟨hh,g,d,t,os'⟩:=s'
 obtain rfl:os'=s.os:=os
 exact I.call (h':=hh) (g':=g) (d':=d) (t':=t) (ch:=fp) u' hok bare fun b hb=>by
  obtain⟨_,f1,_,f3,f4,f5⟩:=hf b hb
  exact⟨f3,f1,f4,f5⟩
end
def PF(X:Cx)(ifs:List Expr)(t:TT):Prop :=
 ∀(pins:List (Addr×Obj)) (s:Shared) (σ:St) (H:Hp) (Q:Bool->Hp->Prop),Inv X pins σ H s->t σ H Q->
  wpAny (model X.prog X.w) X.A (forIn ifs true fun c r=>if r=true then do let ok <-isTrue c X.env (eval c X.env);pure (ForInStep.yield ok) else pure (ForInStep.yield r)) (TP X pins σ Q) X.xe s
def tTrue:TT:=fun _ H Q=>Q true H
theorem af_{X:Cx}:PF X [] tTrue:=fun _ _ _ H _ I h=>wpAny_tests_nil ⟨H,I,h⟩
theorem od_{X:Cx}{c:Expr}{tc:TT}(hc:PT X c tc):PF X [c] tc:=fun pins s σ H Q I h=>wpAny_tests_one (hc pins s σ H Q I h)
section
variable{prog:Program}{w:World}{A:Around}
theorem noE{al:Type}{t:Sem al}{Q:al->Shared->Prop}{E:Value->Shared->Prop}{s:Shared}(h:wpAny (model prog w) A t Q (fun _ _=>False) s):wpAny (model prog w) A t Q E s :=
 wpAny_mono h (fun _ _ x=>x) fun _ _ f=>f.elim
theorem nN_{R:Result->Shared->Prop}{s:Shared}{elt tg iter:Expr}{ifs:List Expr}{scope:Scope}{pos:Pos}{it acc:Value}{env:Env}(I:Nat->Shared->Prop)
  (turn:∀n s,I n s->wpAny (model prog w) A (pyNext it) (fun r s1=>(r=none/\R (.ok .next) s1)\/∃v,r=some v/\
   wpAny (model prog w) A (letOwnedTupleGo tg it v) (fun _ s2=>wpAny (model prog w) A (assign tg env v) (fun _ s3 =>
    wpAny (model prog w) A (forIn ifs true fun c r=>if r=true then do let ok <-isTrue c env (eval c env);pure (ForInStep.yield ok) else pure (ForInStep.yield r)) (fun ok s4 =>
     if ok=true then wpAny (model prog w) A (eval elt env) (fun x s5 =>
      wpAny (model prog w) A (call (.builtin "list.append") [acc,x]) (fun _ s6=>∃m,m<n/\I m s6) (fun _ _=>False) s5) (fun _ _=>False) s4
     else ∃m,m<n/\I m s4) (fun _ _=>False) s3) (fun _ _=>False) s2) (fun _ _=>False) s1) (fun _ _=>False) s)
  (n:Nat) (h:I n s):codeAny (model prog w) A (.compLoop (.ListComp elt [⟨tg,iter,ifs,0⟩] scope pos) 0 it acc env) R s:=by
 refine codeAny_loop rfl I (fun n s hI=>?_) n h
 show wpAny _ A ((compTurn (.ListComp elt [⟨tg,iter,ifs,0⟩] scope pos) 0 it acc env).onRaise (fun x=>do noteFrame x env;theTreesLotGoes x)) _ _ s
 refine wpAny_noted ?_
 rw[compTurn_list]
 refine wpAny_bind (wpAny_standAt (wpAny_bind (noE (thn (turn n s hI) fun r s1 h1=>?_))))
 rcases h1 with⟨rfl,h1⟩ | ⟨v,rfl,h1⟩
 ·exact wpAny_pure h1
 ·refine wpAny_bind (noE (thn h1 fun _ s2 h2=>wpAny_bind (noE (thn h2 fun _ s3 h3=>wpAny_bind (noE (thn h3 fun ok s4 h4=>?_))))))
  cases ok with
  | false=>exact wpAny_pure ⟨rfl,h4⟩
  | true=>exact wpAny_bind (wpAny_bind (noE (thn h4 fun x s5 h5=>wpAny_bind (noE (thn h5 fun _ s6 h6=>wpAny_pure (wpAny_pure ⟨rfl,h6⟩))))))
end
def GKeeps(k:Nat)(g:TG):Prop:=∀v σ H Q,g v σ H Q->g v σ H fun σ2 H2=>(σ2.length=σ.length/\∀i,k<=i->σ2[i]?=σ[i]?)/\Q σ2 H2
theorem md_{k i:Nat}(h:i<k):GKeeps k (gName i):=fun v σ H Q q=>⟨⟨List.length_set,fun j hj=>List.getElem?_set_ne (by omega)⟩,q⟩
def tComp(k:Nat)(fr:List Nat)(wi:TI)(g:TG)(tc:TT)(te:TE):TE:=fun σ H Q=>wi σ H fun J H1=>∃W:Nat->Nat->List V->Hp->Prop,(∃m,W 0 m [] H1)/\∀i m ys H,W i m ys H->
 (J.stop i H/\∀D,H D=none->Q (.ref D) (upd H D (.lst ys)))\/
 (J.go i H/\ys.length<sizeLine/\∃Nx:List V->Hp->Prop,(∀ys' H',Nx ys' H'->∃m',m'<m/\W (i+1) m' ys' H')/\
  ∀x H',J.yld i H x H'->g x (aJ_ k fr σ) H' fun σ2 H2=>tc σ2 H2 fun b H3=>if b=true then te σ2 H3 fun y H4=>Nx (ys++[y]) H4 else Nx ys H3)
section
variable{X:Cx}{pins:List (Addr×Obj)}{σ:St}{tg elt iter:Expr}{ifs:List Expr}{scope:Scope}{pos:Pos}{N:List Str}{k:Nat}{fr:List Nat}{wi:TI}{g:TG}{tc:TT}{te:TE}
theorem gM_(S:CmpScope X N scope)(F:CmpFree X N scope k fr)(hc:X.calm=true)
  (hg:∀cl C s H fp,PG (X.cmp N scope cl C s H fp) tg g) (hk:GKeeps k g) (hi:∀cl C s H fp,PF (X.cmp N scope cl C s H fp) ifs tc) (he:∀cl C s H fp,PE (X.cmp N scope cl C s H fp) elt te)
  {s2:Shared} {it:Addr} {fp:List Addr} {tn:Nat->Heap->Prop} {J:It} {H2:Hp} (I:Inv X pins σ H2 s2) (T:Turn X.prog X.w X.K tg J fp it tn) (st:tn 0 s2.heap) (f2:∀b∈fp,FpOk X pins H2 b)
  {W:Nat->Nat->List V->Hp->Prop} {m0:Nat} (w0:W 0 m0 [] H2) {Fin:List V->Hp->Prop}
  (turn:∀i m ys H,W i m ys H->(J.stop i H/\Fin ys H)\/
   (J.go i H/\ys.length<sizeLine/\∃Nx:List V->Hp->Prop,(∀ys' H',Nx ys' H'->∃m',m'<m/\W (i+1) m' ys' H')/\
    ∀x H',J.yld i H x H'->g x (aJ_ k fr σ) H' fun σ2 H2=>tc σ2 H2 fun b H3=>if b=true then te σ2 H3 fun y H4=>Nx (ys++[y]) H4 else Nx ys H3))
  {cl:List (Str×Addr)} (hcl:∀y c,cl.lookup y=some c->X.env.cells.lookup y=some c) (hcf:∀y,(y,NameKind.free)∈scope.names->∃c,cl.lookup y=some c)
  {RR:Value->Addr->Result->Shared->Prop} {E:Value->Shared->Prop}
  (hRR:∀D C s' its n ys H' σ',s2.heap.objs.size<=D->s2.heap.objs.size<=C->D≠C->Inv (X.cmp N scope cl C s2 H2 fp) [(D,lstO its n)] σ' H' s'->Vals ys its->ys.length<=sizeLine->Fin ys H'->RR (.ref D) C (.ok .next) s') :
  wpAny (model X.prog X.w) X.A (newList []) (fun acc s3=>wpAny (model X.prog X.w) X.A (newFunctionEnv scope X.env.globals cl [] X.env.qual none .none (some X.env)) (fun cenv s4 =>
   codeAny (model X.prog X.w) X.A (.compStart (.ListComp elt [⟨tg,iter,ifs,0⟩] scope pos) 0 (.ref it) acc {cenv with scope:=relabel scope X.env}) (RR acc cenv.locals) s4) E s3) E s2:=by
 refine wpAny_newObj_type (wpAny_newFunctionEnv S.nocell (by intro y hy;simp at hy) (fun h1 hns sb=>?_) S.kind)
 dsimp only at hns sb⊢
 generalize hG:s2.heap.push {cls:=.type "list",dict:=none,data:=.seq ([]:List Value).toArray}=G at hns sb⊢
 have hC:G.objs.size=s2.heap.objs.size+1:=by rw[<-hG,Heap.size_push]
 have hDC:s2.heap.objs.size≠G.objs.size:=by rw[hC];exact Nat.ne_of_lt (Nat.lt_succ_self _)
 have old:∀b o,s2.heap.get? b=some o->h1.get? b=some o:=fun b o e =>
  sb.extBut b o (by rw[hC];exact Nat.ne_of_lt (Nat.lt_succ_of_lt (Heap.lt_size e))) (Heap.get?_push_of_some _ (hG▸Heap.get?_push_of_some _ e))
 have hacc:h1.get? s2.heap.objs.size=some (lstO [] 0):=sb.extBut _ _ hDC (Heap.get?_push_of_some _ (hG▸Heap.get?_push_size _ rfl))
 have hfo:∀b∈fp,∃o,s2.heap.get? b=some o:=fun b hb=>let ⟨o,e,_⟩:=T.obj 0 _ st b hb;⟨o,e⟩
 have ltD:∀b∈fp,b≠s2.heap.objs.size:=fun b hb=>let ⟨o,e⟩:=hfo b hb;Nat.ne_of_lt (Heap.lt_size e)
 generalize hX:X.cmp N scope cl G.objs.size s2 H2 fp=X'
 have I0:Inv X' [(s2.heap.objs.size,lstO [] 0)] (aJ_ k fr σ) H2 {s2 with heap:=h1,toks:=s2.toks+([]:List (Str×Value)).length}:=by
  rw[<-hX]
  exact mA_ S F I f2 hfo hcl hcf (by rw[hC];exact Nat.le_succ _) rfl rfl old hns hacc (Nat.le_refl _) hDC fun v z=>by cases z
 have eP:X'.prog=X.prog:=by rw[<-hX];rfl
 have eW:X'.w=X.w:=by rw[<-hX];rfl
 have eK:X'.K=X.K:=by rw[<-hX];rfl
 have eA:X'.A=X.A:=by rw[<-hX];rfl
 have eC:X'.calm=true:=by rw[<-hX];exact hc
 have eE:X'.env=compEnvC scope cl G.objs.size X.env:=by rw[<-hX];rfl
 have eX:X'.xe=fun _ _=>False:=by rw[<-hX];rfl
 have eF:X'.ex=fp:=by rw[<-hX];rfl
 have eS:X'.s₀=s2:=by rw[<-hX];rfl
 have ePn:X'.pn=[]:=by rw[<-hX];rfl
 have T':Turn X'.prog X'.w X'.K tg J fp it tn:=by rw[eP,eW,eK];exact T
 have hg':PG X' tg g:=by rw[<-hX];exact hg _ _ _ _ _
 have hi':PF X' ifs tc:=by rw[<-hX];exact hi _ _ _ _ _
 have he':PE X' elt te:=by rw[<-hX];exact he _ _ _ _ _
 have stat:∀ {o:Obj} {H':Hp},(∀b∈fp,H' b=none)->∀b∈fp,FpOk X' [(s2.heap.objs.size,o)] H' b:=fun {o H'} hn b hb=>by
  have ok:=I0.ok
  obtain⟨z1,z2⟩:=ok.exf b (by rw[eF];exact hb)
  refine⟨hn b hb,z1,ok.exfs b (by rw[eF];exact hb),.inl (by rw[eF];exact hb),z2,fun p hp=>?_⟩
  rw[ePn] at hp
  have hp':p=(s2.heap.objs.size,o):=by simpa using hp
  rw[hp']
  exact fun z=>ltD b hb z.symm
 have back:∀ {pl:List (Addr×Obj)} {σ6:St} {H6:Hp} {s6:Shared},Inv X' pl σ6 H6 s6->(σ6.length=(aJ_ k fr σ).length/\∀i,k<=i->σ6[i]?=(aJ_ k fr σ)[i]?)->Inv X' pl (aJ_ k fr σ) H6 s6:=fun {pl σ6 H6 s6} I6 ⟨l1,l2⟩ =>
  I6.weak l1.symm fun i v e=>by
   by_cases hik:i<k
   ·unfold aJ_ at e
    rw[List.getElem?_append_left (by simpa using hik),List.getElem?_replicate] at e
    split at e <;> cases e
   ·rw[l2 i (by omega)];exact e
 have loop:codeAny (model X.prog X.w) X.A (.compLoop (.ListComp elt [⟨tg,iter,ifs,0⟩] scope pos) 0 (.ref it) (.ref s2.heap.objs.size) (compEnvC scope cl G.objs.size X.env))
   (RR (.ref s2.heap.objs.size) G.objs.size) {s2 with heap:=h1,toks:=s2.toks+([]:List (Str×Value)).length}:=by
  rw[<-eP,<-eW,<-eA,<-eE]
  refine nN_ (fun n s'=>∃i ys its nn H',Inv X' [(s2.heap.objs.size,lstO its nn)] (aJ_ k fr σ) H' s'/\Vals ys its/\ys.length<=sizeLine/\tn i s'.heap/\(∀b∈fp,H' b=none)/\W i n ys H') ?_ m0
   ⟨0,[],[],0,H2,I0,.nil,Nat.zero_le _,T.keep _ _ _ st fun b _ o e=>old b o e,fun b hb=>(f2 b hb).1,w0⟩
  rintro n s' ⟨i,ys,its,nn,H',I',rv,hz,st',fr',w'⟩
  rcases turn i n ys H' w' with⟨stop,fin⟩ | ⟨go,hlt,Nx,hN,step⟩
  ·refine thn (T'.done X' rfl rfl rfl eC i _ s' _ H' _ I' (stat fr') st' stop) fun r s1 ⟨hr,I1⟩=>.inl ⟨hr,?_⟩
   rw[<-hX] at I1
   exact hRR _ _ s1 its nn ys H' _ (Nat.le_refl _) (by rw[hC];exact Nat.le_succ _) hDC I1 rv hz fin
  ·refine thn (T'.item X' rfl rfl rfl eC i _ s' _ H' _ I' (stat fr') st' go) fun r s1 ⟨u,hr,h4⟩=>.inr ⟨u,hr,thn h4 fun _ s5 ⟨x,H5,I5,r5,y5,st5,fr5⟩=>?_⟩
   have I5':=I5.pinned (stat fr5) (T.obj _ _ st5)
   have hgx:=hg' _ s5 _ H5 x u _ I5' r5 (hk _ _ _ _ (step x H5 y5))
   rw[eX] at hgx
   refine thn hgx fun _ s6 ⟨σ6,H6,I6,l6,q6⟩=>?_
   have hix:=hi' _ s6 σ6 H6 _ I6 q6
   rw[eX] at hix
   have pinD:∀ {σ7:St} {H7:Hp} {s7:Shared},Inv X' ([(s2.heap.objs.size,lstO its nn)]++de_ fp s5.heap) σ7 H7 s7->s7.heap.get? s2.heap.objs.size=some (lstO its nn)/\H7 s2.heap.objs.size=none/\s2.heap.objs.size≠X'.env.locals:=fun I7=>by
    obtain⟨z1,z2,z3,_⟩:=I7.pin (s2.heap.objs.size,lstO its nn) (List.mem_append_right _ (List.mem_append_left _ (by simp)))
    exact⟨z1,z2,z3⟩
   have iter2:∀ {σ7:St} {H7:Hp} {s7:Shared},Inv X' ([(s2.heap.objs.size,lstO its nn)]++de_ fp s5.heap) σ7 H7 s7->tn (i+1) s7.heap/\∀b∈fp,H7 b=none:=fun {σ7 H7 s7} I7 =>
    ⟨T.keep _ _ _ st5 fun b hb o e=>(I7.pin (b,o) (List.mem_append_right _ (List.mem_append_right _ (bT_ hb e)))).1,fun b hb=>by
     obtain⟨o,e,d⟩:=T.obj _ _ st5 b hb
     exact(I7.pin (b,o) (List.mem_append_right _ (List.mem_append_right _ (bT_ hb e)))).2.1⟩
   refine thn hix fun ok s7 ⟨H7,I7,q7⟩=>?_
   cases ok with
   | false =>
    obtain⟨m',hm,w7⟩:=hN _ _ (show Nx ys H7 from q7)
    obtain⟨a1,a2⟩:=iter2 I7
    exact⟨m',hm,i+1,ys,its,nn,H7,back I7.unpinned l6,rv,hz,a1,a2,w7⟩
   | true =>
    have hex:=he' _ s7 σ6 H7 _ I7 (show te σ6 H7 _ from q7)
    rw[eX] at hex
    refine thn hex fun v s8 ⟨y,H8,I8,r8,q8⟩=>?_
    obtain⟨z1,z2,z3⟩:=pinD I8
    obtain⟨a1,a2⟩:=iter2 I8
    obtain⟨m',hm,w8⟩:=hN _ _ q8
    have hl:=rv.length
    refine append_at (hsz:=by show its.toArray.size<=sizeLine;rw[List.size_toArray];omega) z1 fun h9 sb9 hD9=>?_
    have I8':Inv X' (de_ fp s5.heap) (aJ_ k fr σ) H8 s8:=(back I8 l6).pins_of fun p hp=>I8.pin p (List.mem_append_right _ (List.mem_append_right _ hp))
    have I9:Inv X' (de_ fp s5.heap) (aJ_ k fr σ) H8 {s8 with heap:=h9}:=I8'.turned (t':=s8.toks) (it:=s2.heap.objs.size) (fun b o hb e=>(sb9.2 b hb).trans e) z2 z3 (.inr (by rw[eS];exact Nat.le_refl _))
     (fun y c e z=>by
      obtain⟨v',q⟩:=I0.cell y c e
      have hcl':cl.lookup y=some c:=by rw[eE] at e;exact e
      obtain⟨v2,q2⟩:=I.cell y c (hcl y c hcl')
      rw[z] at q2
      exact absurd q2.lt (Nat.lt_irrefl _))
     (fun p hp z=>by
      rw[ePn] at hp
      exact ltD p.1 (gu_ hp).1 z)
    have I9':Inv X' [(s2.heap.objs.size,lstO (its++[v]) (nn+1))] (aJ_ k fr σ) H8 {s8 with heap:=h9}:=I9.pins_of fun p hp=>by
     have hp':p=(s2.heap.objs.size,lstO (its++[v]) (nn+1)):=by simpa using hp
     rw[hp']
     refine⟨?_,z2,z3,?_,fun v z=>by cases z⟩
     ·show h9.get? _=_
      rw[hD9]
      simp[lstO]
     ·exact(I8.pin (s2.heap.objs.size,lstO its nn) (List.mem_append_right _ (List.mem_append_left _ (by simp)))).2.2.2.1
    refine⟨m',hm,i+1,ys++[y],its++[v],nn+1,H8,I9',rv.append (.cons r8 .nil),by rw[List.length_append];simp;omega,?_,a2,w8⟩
    exact T.keep _ _ _ a1 fun b hb o e=>(sb9.2 b (ltD b hb)).trans e
 exact codeAny_compStart_list loop (T.self _ 0 _ _ _ (T.keep _ _ _ st fun b _ o e=>old b o e) loop)
theorem mB_{s2 s':Shared}{fp:List Addr}{cl:List (Str×Addr)}{H2 H':Hp}{σ':St}{D C:Addr}{o:Obj}{u:HO}{h':Heap}{σ0:St}(I:Inv X pins σ H2 s2)(hC:s2.heap.objs.size<=C)(hDC:D≠C)
  (J:Inv (X.cmp N scope cl C s2 H2 fp) [(D,o)] σ' H' s') {s9:Shared} (I':Inv X pins σ0 (upd H' D u) s9) (sb:Heap.SameBut C s9.heap h'):Inv X pins σ0 (upd H' D u) {s9 with heap:=h'}:=by
 refine I'.turned (t':=s9.toks) (it:=C) (fun b o hb e=>(sb.2 b hb).trans e) (by rw[j_ (Ne.symm hDC)];exact J.free) (Nat.ne_of_gt (Nat.lt_of_lt_of_le I.lt hC)) (.inr (Nat.le_trans I.sz hC)) (fun y c e z=>?_) fun p hp z=>?_
 ·obtain⟨v,q⟩:=I.cell y c e
  exact absurd (Nat.lt_of_lt_of_le q.lt (by rw[z];exact hC)) (Nat.lt_irrefl _)
 ·exact absurd (Nat.lt_of_lt_of_le (Heap.lt_size (I.pin p hp).1) (by rw[z];exact hC)) (Nat.lt_irrefl _)
theorem fv_(S:CmpScope X N scope)(F:CmpFree X N scope k fr)(hc:X.calm=true)(hit:PI X tg iter wi)
  (hg:∀cl C s H fp,PG (X.cmp N scope cl C s H fp) tg g) (hk:GKeeps k g) (hi:∀cl C s H fp,PF (X.cmp N scope cl C s H fp) ifs tc) (he:∀cl C s H fp,PE (X.cmp N scope cl C s H fp) elt te)
  (hs:∀x,foldedSetIterable iter X.env x=pure x:=by intro _;rfl):PE X (.ListComp elt [⟨tg,iter,ifs,0⟩] scope pos) (tComp k fr wi g tc te):=by
 intro pins s σ H Q I h
 rw[eval_ListComp]
 obtain⟨cl,ecl,hcl,hcf⟩:=jw_ (scope:=scope) (env:=X.env) fun y hy=>I.ok.has y (.inl (S.fre2 y hy))
 refine wpAny_comprehension_free (use:=none) rfl hs ecl S.kind S.loc (thn (hit pins s σ H _ I h) fun v s1 h1=>thn h1 fun itv s2 h2=>?_)
 obtain⟨it,fp,tn,J,H2,e,I2,T,st2,f2,W,⟨m0,w0⟩,turn⟩:=h2
 subst e
 refine gM_ S F hc hg hk hi he I2 T st2 f2 w0 (Fin:=fun ys H'=>∀D,H' D=none->Q (.ref D) (upd H' D (.lst ys))) turn hcl hcf (RR:=fun acc C=>compPost (model X.prog X.w) X.A X.xe none (EP X pins σ Q) acc C) ?_
 intro D C s' its n ys H' σ' hD hC hDC J' rv hz fin
 obtain⟨hn,I'⟩:=jv_ I2 f2 J' rv hz hD
 obtain⟨m,hm,_⟩:=J'.loc
 exact⟨m,hm,fun h' sb=>⟨.ref D,_,mB_ I2 hC hDC J' I' sb,rfl,fin D hn⟩⟩
theorem le_{i:Nat}{y:Str}{py spos:Pos}(hN:X.N.Nodup)(hi':X.N[i]?=some y)(hx:Loc X.env.scope y)(S:CmpScope X N scope)(F:CmpFree X N scope k fr)(hc:X.calm=true)(hit:PI X tg iter wi)
  (hg:∀cl C s H fp,PG (X.cmp N scope cl C s H fp) tg g) (hk:GKeeps k g) (hi:∀cl C s H fp,PF (X.cmp N scope cl C s H fp) ifs tc) (he:∀cl C s H fp,PE (X.cmp N scope cl C s H fp) elt te)
  (hsw:swapsWith (.ListComp elt [⟨tg,iter,ifs,0⟩] scope pos) (some (.Name y py)) spos.line X.env=pure true)
  (hs:∀x,foldedSetIterable iter X.env x=pure x:=by intro _;rfl) (hf:X.fn y=true\/X.env.scope.names.lookup y=some .local:=by first | exact .inl rfl | exact .inr rfl | assumption) :
  PS X (.Assign [.Name y py] (.ListComp elt [⟨tg,iter,ifs,0⟩] scope pos) spos) (tAsg (tComp k fr wi g tc te) (gName i)):=by
 intro pins s σ H D0 I h
 obtain⟨cl,ecl,hcl,hcf⟩:=jw_ (scope:=scope) (env:=X.env) fun y hy=>I.ok.has y (.inl (S.fre2 y hy))
 rw[exec_Assign_Name_used _ _ _ _ hsw]
 refine wpAny_bind (wpAny_standAt (wpAny_bind ?_))
 show wpAny _ X.A (do let _ <-comprehension (.ListComp elt [⟨tg,iter,ifs,0⟩] scope pos) scope X.env _ (newList []) false (eval iter X.env) (some (assign (.Name y py) X.env))) _ _ s
 refine wpAny_bind (wpAny_mono (wpAny_comprehension_free (use:=some (assign (.Name y py) X.env)) (Q:=fun _ s'=>SP X pins D0 .next s') rfl hs ecl S.kind S.loc
  (thn (hit pins s σ H _ I h) fun v s1 h1=>thn h1 fun itv s2 h2=>?_)) (fun _ s' hq=>wpAny_pure (wpAny_pure hq)) fun _ _ e=>e)
 obtain⟨it,fp,tn,J,H2,e,I2,T,st2,f2,W,⟨m0,w0⟩,turn⟩:=h2
 subst e
 refine gM_ S F hc hg hk hi he I2 T st2 f2 w0 (Fin:=fun ys H'=>∀D,H' D=none->D0.nx (σ.set i (some (.ref D))) (upd H' D (.lst ys))) turn hcl hcf
  (RR:=fun acc C=>compPost (model X.prog X.w) X.A X.xe (some (assign (.Name y py) X.env)) (fun _ s'=>SP X pins D0 .next s') acc C) ?_
 intro D C s' its n ys H' σ' hD hC hDC J' rv hz fin
 obtain⟨hn,I'⟩:=jv_ I2 f2 J' rv hz hD
 obtain⟨m,hm,_⟩:=J'.loc
 show wpAny _ _ (assign (.Name y py) X.env (.ref D)) _ _ s'
 refine wpAny_assign_Name (fW_ I' hN hi' hx (v:=.ref D) rfl (fun s9 I9 ⟨a,sba,ha⟩=>?_) hf)
 have hCa:C≠a:=by
  rcases ha with z | z
  ·rw[z];exact Nat.ne_of_gt (Nat.lt_of_lt_of_le I2.lt hC)
  ·obtain⟨v,q⟩:=I2.cell y a z
   exact fun z=>absurd (Nat.lt_of_lt_of_le q.lt (by rw[<-z];exact hC)) (Nat.lt_irrefl _)
 exact⟨m,hm.sameBut sba hCa,fun h' sb=>⟨_,_,mB_ I2 hC hDC J' I9 sb,fin D hn⟩⟩
end
def cmpOk(sc scope:Scope)(NX N:List Str)(k:Nat)(fr:List Nat):Bool :=
 scope.names.all (fun p=>p.2 != .cell)&&(scope.names.all (fun p=>p.2 != .local || scope.names.lookup p.1==some .local)&&(scope.names.all (fun p=>p.2 != .free || sc.names.lookup p.1==some .cell) &&
  (decide N.Nodup&&(N.length==k+fr.length&&(fr.zip (N.drop k)).all fun q=>NX[q.1]?==some q.2&&scope.names.lookup q.2==some .free))))
theorem cmpS{X:Cx}{sc scope:Scope}{NX N:List Str}{k:Nat}{fr:List Nat}(hX:X.env.scope=sc)(hk:scope.kind=.function)(h:cmpOk sc scope NX N k fr=true):CmpScope X N scope:=by
 unfold cmpOk at h
 simp only[Bool.and_eq_true,List.all_eq_true,decide_eq_true_eq] at h
 obtain⟨h1,h2,h3,h4,h5,h6⟩:=h
 have f2:∀y,(y,NameKind.free)∈scope.names->X.env.kindOf y=some .cell:=fun y hy=>by
  have:=h3 _ hy
  show X.env.scope.names.lookup y=some .cell
  rw[hX]
  simpa using this
 refine⟨hk,fun y hy=>by simpa using h1 y hy,fun y hy e=>?_,fun y e=>f2 y (PySem.mem_of_lookup e),f2,h4,fun y e=>PySem.mem_of_lookup e⟩
 have:=h2 y hy
 rw[e] at this
 simpa using this
theorem cmpF{X:Cx}{sc scope:Scope}{NX N:List Str}{k:Nat}{fr:List Nat}(hN:X.N=NX)(h:cmpOk sc scope NX N k fr=true):CmpFree X N scope k fr:=by
 unfold cmpOk at h
 simp only[Bool.and_eq_true,List.all_eq_true,decide_eq_true_eq] at h
 obtain⟨h1,h2,h3,h4,h5,h6⟩:=h
 refine⟨by simpa using h5,fun j i y e1 e2=>?_⟩
 have hm:(i,y)∈fr.zip (N.drop k):=by
  refine List.mem_of_getElem? (i:=j) ?_
  rw[List.getElem?_zip_eq_some]
  exact⟨e1,by rw[List.getElem?_drop];exact e2⟩
 have:=h6 _ hm
 rw[hN]
 simpa using this
section
variable{X:Cx}{elt iter:Expr}{ifs:List Expr}{scope:Scope}{pos px:Pos}{wi:TI}{tc:TT}{te:TE}{x:Str}
theorem op_{sc scope:Scope}{NX N:List Str}{k:Nat}{fr:List Nat}(h:cmpOk sc scope NX N k fr=true):N.Nodup:=by
 unfold cmpOk at h
 simp only[Bool.and_eq_true,decide_eq_true_eq] at h
 exact h.2.2.2.1
theorem aC_(sc:Scope)(NX:List Str)(fs:List Str)(fr:List Nat)(hc:X.calm=true)(hit:PI X (.Name x px) iter wi)(hi:∀cl C s H fp,PF (X.cmp (x::fs) scope cl C s H fp) ifs tc)(he:∀cl C s H fp,PE (X.cmp (x::fs) scope cl C s H fp) elt te)
  (ok:cmpOk sc scope NX (x::fs) 1 fr=true) (hX:X.env.scope=sc:=by rfl) (hN:X.N=NX:=by rfl) (hk:scope.kind=.function:=by rfl) (hx:scope.names.lookup x=some .local:=by rfl)
  (hs:∀x,foldedSetIterable iter X.env x=pure x:=by intro _;rfl):PE X (.ListComp elt [⟨.Name x px,iter,ifs,0⟩] scope pos) (tComp 1 fr wi (gName 0) tc te) :=
 fv_ (cmpS hX hk ok) (cmpF hN ok) hc hit (fun cl C s H fp=>n_ (i:=0) (op_ ok) rfl (Or.inl (lookup_relabel_local hx)) (.inr (lookup_relabel_local hx))) (md_ (by decide)) hi he hs
theorem dP_(sc:Scope)(NX:List Str)(fs:List Str)(fr:List Nat){i:Nat}{y:Str}{py spos:Pos}(hNd:X.N.Nodup)(hi':X.N[i]?=some y)(hy:Loc X.env.scope y)(hc:X.calm=true)(hit:PI X (.Name x px) iter wi)
  (hi:∀cl C s H fp,PF (X.cmp (x::fs) scope cl C s H fp) ifs tc) (he:∀cl C s H fp,PE (X.cmp (x::fs) scope cl C s H fp) elt te)
  (ok:cmpOk sc scope NX (x::fs) 1 fr=true) (hsw:swapsWith (.ListComp elt [⟨.Name x px,iter,ifs,0⟩] scope pos) (some (.Name y py)) spos.line X.env=pure true)
  (hX:X.env.scope=sc:=by rfl) (hN:X.N=NX:=by rfl) (hk:scope.kind=.function:=by rfl) (hx:scope.names.lookup x=some .local:=by rfl)
  (hs:∀x,foldedSetIterable iter X.env x=pure x:=by intro _;rfl) (hf:X.fn y=true\/X.env.scope.names.lookup y=some .local:=by first | exact .inl rfl | exact .inr rfl | assumption) :
  PS X (.Assign [.Name y py] (.ListComp elt [⟨.Name x px,iter,ifs,0⟩] scope pos) spos) (tAsg (tComp 1 fr wi (gName 0) tc te) (gName i)) :=
 le_ hNd hi' hy (cmpS hX hk ok) (cmpF hN ok) hc hit (fun cl C s H fp=>n_ (i:=0) (op_ ok) rfl (Or.inl (lookup_relabel_local hx)) (.inr (lookup_relabel_local hx))) (md_ (by decide)) hi he hsw hs hf
end
theorem aX_{lo:Int}{n:Nat}{G:V->Hp->(List V->Hp->Prop)->List V->Prop}{Fin:List V->Hp->Prop}{H:Hp}(Pv:Nat->List V->Hp->Prop)(h0:Pv 0 [] H)
  (hs:∀i ys H,i<n->Pv i ys H->ys.length<sizeLine/\G (.int (lo+i)) H (Pv (i+1)) ys) (hd:∀ys H,Pv n ys H->Fin ys H) :
  ∃W:Nat->Nat->List V->Hp->Prop,(∃m,W 0 m [] H)/\∀i m ys H,W i m ys H->
   ((Itr lo n).stop i H/\Fin ys H)\/((Itr lo n).go i H/\ys.length<sizeLine/\∃Nx:List V->Hp->Prop,(∀ys' H',Nx ys' H'->∃m',m'<m/\W (i+1) m' ys' H')/\∀x H',(Itr lo n).yld i H x H'->G x H' Nx ys):=by
 refine⟨fun i m ys H=>m=n-i/\i<=n/\Pv i ys H,⟨n,by simp,Nat.zero_le _,h0⟩,?_⟩
 rintro i m ys H ⟨rfl,hi,p⟩
 by_cases hlt:i<n
 ·obtain⟨a1,a2⟩:=hs i ys H hlt p
  refine .inr ⟨hlt,a1,Pv (i+1),fun ys' H' p'=>⟨n-(i+1),by omega,rfl,hlt,p'⟩,fun x H' y=>?_⟩
  obtain⟨e,y⟩:=y
  subst e y
  exact a2
 ·have e:i=n:=by omega
  subst e
  exact .inl ⟨Nat.le_refl _,hd ys H p⟩
theorem V_{K:PySem.W.Frag}{a:Addr}{xs:List V}{G:V->Hp->(List V->Hp->Prop)->List V->Prop}{Fin:List V->Hp->Prop}{H:Hp}(Pv:Nat->List V->Hp->Prop)(h0:Pv 0 [] H)(hl:∀i ys H,i<=xs.length->Pv i ys H->SqL K H a xs)
  (hs:∀i x ys H,xs[i]?=some x->Pv i ys H->ys.length<sizeLine/\G x H (Pv (i+1)) ys) (hd:∀ys H,Pv xs.length ys H->Fin ys H) :
  ∃W:Nat->Nat->List V->Hp->Prop,(∃m,W 0 m [] H)/\∀i m ys H,W i m ys H->
   ((Itl K a).stop i H/\Fin ys H)\/((Itl K a).go i H/\ys.length<sizeLine/\∃Nx:List V->Hp->Prop,(∀ys' H',Nx ys' H'->∃m',m'<m/\W (i+1) m' ys' H')/\∀x H',(Itl K a).yld i H x H'->G x H' Nx ys):=by
 refine⟨fun i m ys H=>m=xs.length-i/\i<=xs.length/\Pv i ys H,⟨xs.length,by simp,Nat.zero_le _,h0⟩,?_⟩
 rintro i m ys H ⟨rfl,hi,p⟩
 have q:=hl i ys H hi p
 by_cases hlt:i<xs.length
 ·obtain⟨a1,a2⟩:=hs i xs[i] ys H (by simp[hlt]) p
  refine .inr ⟨⟨xs,xs[i],q,by simp[hlt]⟩,a1,Pv (i+1),fun ys' H' p'=>⟨xs.length-(i+1),by omega,rfl,hlt,p'⟩,fun x H' y=>?_⟩
  obtain⟨e,y⟩:=y
  subst e
  have hx:=y xs q
  rw[show xs[i]?=some xs[i] by simp[hlt]] at hx
  cases hx
  exact a2
 ·have e:i=xs.length:=by omega
  subst e
  exact .inl ⟨⟨xs,q,Nat.le_refl _⟩,hd ys H p⟩
section
variable{X:Cx}
theorem dq_:CallR X (.builtin "isinstance") (fun xs H Q=>∃x t c b,xs=[x,.ty c]/\TyOf X.K H x t/\PySem.W.kitOne X.K t (.type c)=some b/\Q (.bl b) H):=by
 intro pins s σ H xs us Q I r h
 obtain⟨x,t,c,b,rfl,ty,e,q⟩:=h
 obtain⟨u,v,rfl,rx,ry⟩:=vals2 r
 cases ry
 exact lW_ I rx ty e fun tk=>⟨.bl b,H,I.tok tk,rfl,q⟩
theorem seen{pins:List (Addr×Obj)}{σ:St}{H:Hp}{s:Shared}{l:Addr}{h':Heap}{tk:Nat}(I:Inv X pins σ H s)(hk:∀b o,b∉[s.heap.objs.size]->(s.heap.push {cls:=.type "list_iterator",data:=.fields #[.ref l,.int 0 0]}).get? b=some o->h'.get? b=some o) :
  Inv X pins σ H {s with heap:=h',toks:=tk}:=I.kept (old_kept hk)
theorem mJ_{bs:List Bool}:((List.range bs.length).all fun i=>(bs[i]?).getD true)=bs.all id:=by
 induction bs with
 | nil=>rfl
 | cons b r ih =>
  rw[List.length_cons,List.range_succ_eq_map,List.all_cons,List.all_map,List.all_cons]
  congr 1
theorem nP_(hc:X.calm=true):CallR X (.builtin "all") (fun xs H Q=>∃(p:Addr) (bs:List Bool),xs=[.ref p]/\SqL X.K H p (bs.map V.bl)/\Q (.bl (bs.all id)) H):=by
 intro pins s σ H xs us Q I r h
 obtain⟨p,bs,rfl,hq,q⟩:=h
 obtain⟨u,rfl,rx⟩:=vals1 r
 cases rx
 obtain⟨its,rv,pl,hz⟩:=I.list hq
 have hl:=pl.isList
 have hlt:p<s.heap.objs.size:=by obtain⟨_,e,_⟩:=hl;exact Heap.lt_size e
 have hn:its.toArray.size=bs.length:=by rw[List.size_toArray,<-rv.length,List.length_map]
 refine call_all_walk (wpAny_pyIter_list hl ?_)
 refine⟨_,_,_,_,_,_,fun i=>(bs[i]?).getD true,rfl,Walks.list (A:=X.A.in1) (I.ok.hd hc) s.heap.objs.size p (Nat.ne_of_lt hlt) its.toArray,⟨⟨_,Heap.get?_push_size _ rfl,rfl,rfl⟩,hl.push _⟩,?_,fun h' tk hk=>?_⟩
 ·intro i v s' Q' E' hP hQ
  have hv:its[i]?=some v:=by simpa using hP
  cases eb:bs[i]? with
  | none =>
   have:=rv.none_of (i:=i) (by rw[List.getElem?_map,eb];rfl)
   rw[this] at hv;cases hv
  | some b =>
   obtain⟨u,hu,ru⟩:=rv.get (i:=i) (x:=.bl b) (by rw[List.getElem?_map,eb];rfl)
   rw[hu] at hv;cases hv
   cases ru
   refine wpAny_truthy_bool ?_
   have e:(bs[i]?).getD true=b:=by rw[eb];rfl
   rw[<-e];exact hQ
 ·rw[hn,mJ_]
  exact⟨.bl _,H,(show Inv X pins σ H {s with heap:=h',toks:=tk} from seen I hk),rfl,q⟩
theorem fq_(ns:List Int):∀k,k<=ns.length->preSum (fun i=>(ns[i]?).getD 0) k=(ns.take k).sum
 | 0,_=>by simp[preSum]
 | k+1,h=>by
  have e:ns[k]?=some (ns[k]'(by omega)):=by simp
  rw[preSum,fq_ ns k (by omega),List.take_add_one,e,List.sum_append]
  simp
def DatV(P:Program)(w:World)(H:Hp)(x:V)(d:PyData):Prop:=∀(h:Heap) (v:Value),HOk P w H h->RelV x v->∃as,Reads h v d as
section
variable{P:Program}{w:World}{H:Hp}
theorem datI(i:Int):DatV P w H (.int i) (.int i):=fun h v _ r=>by obtain⟨t,rfl⟩:=r;exact⟨_,.int i t⟩
theorem dats{h:Heap}(ok:HOk P w H h){xs:List V}{its:List Value}{ds:List PyData}(a:Vals xs its)(b:Paired (DatV P w H) xs ds):∃as,ReadsAll h its ds as:=by
 induction a generalizing ds with
 | nil=>cases b;exact⟨_,.nil⟩
 | cons r t ih =>
  cases b with
  | cons q u =>
   obtain⟨as,h1⟩:=q _ _ ok r
   obtain⟨bs,h2⟩:=ih u
   exact⟨_,.cons h1 h2⟩
theorem datL{a:Addr}{xs:List V}{ds:List PyData}(e:H a=some (.lst xs))(r:Paired (DatV P w H) xs ds):DatV P w H (.ref a) (.list ds):=fun h v ok rv=>by
 cases rv
 obtain⟨_,its,n,rs,e1⟩:=ok a _ e
 obtain⟨as,h1⟩:=dats ok rs r
 exact⟨_,.list e1 rfl rfl (by simpa using h1)⟩
theorem datIs:∀ns:List Int,Paired (DatV P w H) (ns.map V.int) (ns.map PyData.int)
 | []=>.nil
 | n::r=>.cons (datI n) (datIs r)
end
theorem lays:∀ns:List Int,PyData.canLayAll0 (ns.map PyData.int)=true
 | []=>rfl
 | n::r=>by
  rw[List.map_cons,PyData.canLayAll0,lays r]
  rfl
theorem depths:∀ns:List Int,PyData.depthAll (ns.map PyData.int)=0
 | []=>rfl
 | n::r=>by
  rw[List.map_cons,PyData.depthAll,depths r]
  rfl
def rEqD(P:Program)(w:World)(neg:Bool):R2:=fun x y H Q=>∃dx dy,DatV P w H x dx/\DatV P w H y dy/\(dx.canLay0=true/\dy.canLay0=true/\dx.depth<=60)/\Q (.bl (if neg=true then !PyData.eqv dx dy else PyData.eqv dx dy)) H
theorem op_eqD(hu:X.A.units+64<cLine):OpR X (compareOp .Eq) (rEqD X.prog X.w false):=by
 intro pins s σ H x y v u Q I rx ry h
 obtain⟨dx,dy,h1,h2,⟨c1,c2,c3⟩,q⟩:=h
 obtain⟨as,r1⟩:=h1 _ _ I.hok rx
 obtain⟨bs,r2⟩:=h2 _ _ I.hok ry
 refine SeqAt.compareEq_reads r1 r2 c1 c2 ?_ ⟨.bl _,H,I,rfl,q⟩
 have:min dx.depth dy.depth<=dx.depth:=Nat.min_le_left _ _
 omega
theorem qa_(hu:X.A.units+64<cLine):OpR X (compareOp .NotEq) (rEqD X.prog X.w true):=by
 intro pins s σ H x y v u Q I rx ry h
 obtain⟨dx,dy,h1,h2,⟨c1,c2,c3⟩,q⟩:=h
 obtain⟨as,r1⟩:=h1 _ _ I.hok rx
 obtain⟨bs,r2⟩:=h2 _ _ I.hok ry
 refine SeqAt.compareNe_reads r1 r2 c1 c2 ?_ ⟨.bl _,H,I,rfl,q⟩
 have:min dx.depth dy.depth<=dx.depth:=Nat.min_le_left _ _
 omega
theorem po_{P:Program}{w:World}{neg:Bool}{x y:V}{H:Hp}{Q:VK}{d:PyData}(h1:DatV P w H x d)(h2:DatV P w H y d)(c1:d.canLay0=true)(c2:d.depth<=60)(q:Q (.bl (!neg)) H):rEqD P w neg x y H Q:=by
 refine⟨d,d,h1,h2,⟨c1,c1,c2⟩,?_⟩
 rw[SeqAt.eqv_refl d c1]
 cases neg <;> exact q
end
theorem jW_:typeLookup (.type "list_reverseiterator") "__len__"=pure none:=by rw[typeLookup_type,builtinLookup_eq_fast];kernel_rfl
theorem nC_:typeLookup (.type "list_reverseiterator") "__length_hint__"=pure (some (.builtin "list_reverseiterator.__length_hint__")):=by rw[typeLookup_type,builtinLookup_eq_fast];kernel_rfl
theorem fV_:isSubtype (.type "list_reverseiterator") (.type "list_reverseiterator")=pure true:=by rw[isSubtype_type];kernel_rfl
section
variable{prog:Program}{w:World}{A:Around}{s:Shared}
theorem hS_{E:Value->Shared->Prop}{J l:Addr}{i:Int}{Q:Bool->Shared->Prop}(hit:s.heap.IsRevIter J l i)(h:Q false s):wpAny (model prog w) A (Builtin.List.listLengthHint (.ref J)) Q E s:=by
 unfold Builtin.List.listLengthHint
 refine wpAny_bind (wpAny_specialOf hit.typeIs jW_ ?_)
 show wpAny _ A (specialOf (Value.ref J) (Str.ofString "__length_hint__")>>=_) _ _ _
 refine wpAny_bind (wpAny_specialOf hit.typeIs nC_ ?_)
 generalize hid:("list_reverseiterator.__length_hint__":String)=id0
 wp_delta
 rw[show splitId id0=some ("list_reverseiterator","__length_hint__") from by subst hid;decide +kernel]
 subst hid
 refine wpAny_bind (wpAny_isInstance (T:="list_reverseiterator") (b:=true) hit.typeIs fV_ ?_)
 refine wpAny_ite_split (fun hab=>absurd hab (by decide)) (fun _=>?_)
 refine wpAny_ite_split (fun _=>?_) (fun hab=>absurd (by decide +kernel) hab)
 refine wpAny_ite_split (fun hab=>absurd hab (by decide +kernel)) (fun _=>?_)
 exact wpAny_pure h
theorem kh_{R:Result->Shared->Prop}{J l:Addr}{items:Array Value}(hh:A.handled=none)(hne:l≠J)(hit:s.heap.IsRevIter J l ((items.size:Int)-1))(hl:s.heap.IsList l items)(hz:items.size<=sizeLine)(S:Addr)(res:Value)(c0:Nat)
  (hS:s.heap.get? S=some {cls:=.type "list",data:=.seq #[] c0}) (hSJ:S≠J) (hSl:S≠l)
  (hR:∀h' tk acc c',(∀b o,b≠S->b≠J->s.heap.get? b=some o->h'.get? b=some o)->h'.get? S=some {cls:=.type "list",dict:=none,data:=.seq acc c',slots:=#[]}->
   ItemsOf (fun i v=>items[items.size-1-i]?=some v) acc items.size->R (.ok (.ret res)) {s with heap:=h',toks:=tk}) :
  wpAny (model prog w) A.in1 (Builtin.List.listExtendWith (.ref S) (.ref J) res)
   (fun fin s'=>match fin with | .done f=>R (.ok f) s' | .again c'=>c'.quiet=true/\codeAny (model prog w) A c' R s') (fun e s'=>R (.error e) s') s:=by
 have W:=(Walks.listRev (prog:=prog) (w:=w) (A:=A.in1) hh J l hne items).toS
 have hSf:S∉[J,l]:=fun hm=>by
  rcases List.mem_cons.mp hm with e | hm
  ·exact hSJ e
  ·exact hSl (by simpa using hm)
 unfold Builtin.List.listExtendWith
 refine wpAny_bind (wpAny_typeOf hit.typeIs ?_)
 have h1:Builtin.List.listSameRef (.ref S) (.ref J)=false:=by simp[Builtin.List.listSameRef,hSJ]
 have h2:(Value.type "list_reverseiterator"==Value.type "list")=false:=by decide
 have h3:(Value.type "list_reverseiterator"==Value.type "tuple")=false:=by decide
 simp only[h1,h2,h3,Bool.or_false,Bool.false_eq_true,if_false]
 refine wpAny_bind (wpAny_pyIter_revIter hit ?_)
 refine wpAny_bind (wpAny_holding (hS_ hit ?_))
 refine wpAny_ite_split (fun hab=>absurd hab (by decide)) (fun _=>?_)
 refine wpAny_pure ⟨plainId_quiet F.plain_extend_loop _,?_⟩
 refine codeAny_extend_loopS W hz S hSf res items.size 0 s #[] c0 rfl (Nat.zero_le _) ⟨Nat.zero_le _,by simpa using hit,hl⟩ hS (ItemsOf.nil _) fun s' acc' c' hm hS' hacc=>?_
 rw[Moved.eq_with hm]
 refine hR s'.heap s'.toks acc' c' (fun b o hb hb2 e=>hm.heap b o (fun z=>?_) e) hS' hacc
 rcases List.mem_cons.mp z with z | z
 ·exact hb z
 ·exact hb2 (by simpa using z)
theorem nB_{R:Result->Shared->Prop}{J l:Addr}{items:Array Value}(hh:A.handled=none)(hne:l≠J)(hit:s.heap.IsRevIter J l ((items.size:Int)-1))(hl:s.heap.IsList l items)(hz:items.size<=sizeLine)(S:Addr)
  (hS:s.heap.get? S=some {cls:=.type "list",data:=.seq #[]}) (hSJ:S≠J) (hSl:S≠l)
  (hR:∀h' tk acc c',(∀b o,b≠S->b≠J->s.heap.get? b=some o->h'.get? b=some o)->h'.get? S=some {cls:=.type "list",dict:=none,data:=.seq acc c',slots:=#[]}->
   ItemsOf (fun i v=>items[items.size-1-i]?=some v) acc items.size->R (.ok (.ret .none)) {s with heap:=h',toks:=tk}) :
  wpAny (model prog w) A.in1 (Builtin.«list.__init__» ⟨[.ref S,.ref J],[]⟩)
   (fun fin s'=>match fin with | .done f=>R (.ok f) s' | .again c'=>c'.quiet=true/\codeAny (model prog w) A c' R s') (fun e s'=>R (.error e) s') s:=by
 show wpAny _ _ (do let old <-Builtin.List.listItems (.ref S);Builtin.List.listUpdate (.ref S) (fun _=>#[]);letGo old.toList.reverse;Builtin.List.listExtendWith (.ref S) (.ref J) .none) _ _ s
 refine wpAny_bind ?_
 unfold Builtin.List.listItems
 refine wpAny_bind (wpAny_seqItems hS rfl (wpAny_pure ?_))
 show wpAny _ _ (updateSeq S (fun _=>#[])>>=fun _=>letGo (#[]:Array Value).toList.reverse>>=fun _=>Builtin.List.listExtendWith (.ref S) (.ref J) .none) _ _ s
 refine wpAny_bind (wpAny_updateSeq hS rfl ?_)
 have g2:=Heap.get?_update_self (Obj.mapSeq (fun _=>(#[]:Array Value))) hS rfl
 have oth:∀b o,b≠S->s.heap.get? b=some o->(s.heap.update S (Obj.mapSeq (fun _=>(#[]:Array Value)))).get? b=some o :=
  fun b o hb e=>(Heap.get?_update_other _ _ (Ne.symm hb)).trans e
 refine wpAny_bind (wpAny_letGo ?_)
 refine kh_ hh hne (hit.at fun o e=>oth J o (Ne.symm hSJ) e) (hl.at fun o e=>oth l o (Ne.symm hSl) e) hz S .none _ g2 hSJ hSl fun h' tk acc' c' hk hS' hacc=>?_
 exact hR h' tk acc' c' (fun b o hb hb2 e=>hk b o hb hb2 (oth b o hb e)) hS' hacc
theorem ny_{E:Value->Shared->Prop}{Q:Value->Shared->Prop}{J l:Addr}{items:Array Value}(hh:A.handled=none)(hne:l≠J)(hit:s.heap.IsRevIter J l ((items.size:Int)-1))(hl:s.heap.IsList l items)(hz:items.size<=sizeLine)
  (hQ:∀h' tk acc c',(∀b o,b≠J->s.heap.get? b=some o->h'.get? b=some o)->h'.get? s.heap.objs.size=some {cls:=.type "list",dict:=none,data:=.seq acc c',slots:=#[]}->
   ItemsOf (fun i v=>items[items.size-1-i]?=some v) acc items.size->Q (.ref s.heap.objs.size) {s with heap:=h',toks:=tk}) :
  wpAny (model prog w) A (call (.type "list") [.ref J]) Q E s:=by
 have ltJ:J<s.heap.objs.size:=by obtain⟨o,e,_⟩:=hit;exact Heap.lt_size e
 have ltl:l<s.heap.objs.size:=by obtain⟨o,e,_⟩:=hl;exact Heap.lt_size e
 refine callType_codes (Q₁:=fun obj s1=>obj=.ref s.heap.objs.size/\s1={s with heap:=s.heap.push {cls:=.type "list",data:=.seq #[]}}) F.called_list (F.typeCall_list_1 _) F.entry_list_init
  (code_list_new _ ⟨rfl,rfl⟩) fun obj s1 h1=>?_
 obtain⟨rfl,rfl⟩:=h1
 have hS:(s.heap.push {cls:=.type "list",data:=.seq #[]}).get? s.heap.objs.size=some {cls:=.type "list",data:=.seq #[]}:=Heap.get?_push_size _ rfl
 refine⟨⟨_,hS,rfl⟩,F.args_list_init_2 _ _,nB_ (A:=A.in1) hh hne (hit.at fun o e=>Heap.get?_push_of_some _ e) (hl.at fun o e=>Heap.get?_push_of_some _ e) hz _ hS (Nat.ne_of_gt ltJ) (Nat.ne_of_gt ltl) fun h' tk acc' c' hk hS' hacc=>?_⟩
 exact⟨rfl,hQ h' tk acc' c' (fun b o hb e=>hk b o (Nat.ne_of_lt (Heap.lt_size e)) hb (Heap.get?_push_of_some _ e)) hS' hacc⟩
end
section
variable{X:Cx}{e:Expr}{te:TE}
def tLRev(K:PySem.W.Frag)(te:TE):TE:=fun σ H Q=>te σ H fun x H1=>∃a xs,x=.ref a/\SqL K H1 a xs/\∀p,H1 p=none->Q (.ref p) (upd H1 p (.lst xs.reverse))
theorem lV_{its:List Value}{acc:Array Value}(h:ItemsOf (fun i v=>its.toArray[its.toArray.size-1-i]?=some v) acc its.toArray.size):acc.toList=its.reverse:=by
 obtain⟨h0,h2⟩:=h
 have h1:acc.size=its.length:=by rw[h0];simp
 apply List.ext_getElem?
 intro i
 by_cases hi:i<acc.size
 ·have e:=h2 i acc[i] (by simp[hi])
  have e':its[its.length-1-i]?=some acc[i]:=by simpa using e
  rw[List.getElem?_reverse (by omega),e']
  simp[hi]
 ·rw[List.getElem?_eq_none (by simpa using hi),List.getElem?_eq_none (by rw[List.length_reverse];omega)]
theorem hE_{p1 p2 q1 q2:Pos}(hc:X.calm=true)(hm1:X.mg "list"=none)(hm2:X.mg "reversed"=none)(hg1:Gl X "list")(hg2:Gl X "reversed")(he:PE X e te)(h1:starEach [e] X.env=[(false,eval e X.env)]:=by rfl) :
  PE X (.Call (.Name "list" p1) [.Call (.Name "reversed" p2) [e] [] q2] [] q1) (tLRev X.K te):=by
 intro pins s σ H Q I h
 refine wpAny_Call_Name_kw (aI_ I hg1 hm1 boot_list ?_)
 refine PyProof.Rows.callWith_type1 ?_ rfl rfl
 show wpAny _ _ (spliced ((false,eval (.Call (.Name "reversed" p2) [e] [] q2) X.env)::backTo q1 (starEach [] X.env))) _ _ s
 refine Calls.spliced_cons ?_
 refine wpAny_Call_Name_kw (aI_ I hg2 hm2 boot_reversed ?_)
 refine PyProof.Rows.callWith_type1 ?_ h1 rfl
 rw[h1]
 show wpAny _ _ (spliced ((false,eval e X.env)::backTo q2 (starEach [] X.env))) _ _ s
 refine Calls.spliced_cons (thn (he pins s σ H _ I h) fun u s1 ⟨x,H1,I1,r1,q1⟩=>?_)
 obtain⟨a,xs,rfl,hq,q⟩:=q1
 cases r1
 obtain⟨its,rv,pl,hz⟩:=I1.list hq
 have hl:=pl.isList
 have hlen:=rv.length
 have ltl:a<s1.heap.objs.size:=by obtain⟨o,e,_⟩:=hl;exact Heap.lt_size e
 refine Calls.spliced_nil ?_
 refine call_reversed_list hl ?_
 refine Calls.spliced_nil ?_
 refine ny_ (items:=its.toArray) (I1.ok.hd hc) (Nat.ne_of_lt ltl) ⟨_,Heap.get?_push_size _ rfl,rfl,rfl⟩ (hl.at fun o e=>Heap.get?_push_of_some _ e) (by rw[List.size_toArray];omega) fun h' tk acc c' hk hS hacc=>?_
 have eS:(s1.heap.push (revObj a ((its.toArray.size:Int)-1))).objs.size=s1.heap.objs.size+1:=Heap.size_push ..
 have hnew:s1.heap.objs.size<=(s1.heap.push (revObj a ((its.toArray.size:Int)-1))).objs.size:=by rw[eS];exact Nat.le_succ _
 have ea:=lV_ hacc
 refine⟨.ref _,_,I1.laid (t':=tk) (o:=.lst xs.reverse) (fun b o e=>hk b o (Nat.ne_of_lt (Heap.lt_size e)) (Heap.get?_push_of_some _ e)) hnew ⟨by rw[List.length_reverse];exact hz,its.reverse,c',rv.reverse,?_⟩,rfl,q _ (I1.hok.fresh hnew)⟩
 rw[hS,<-ea]
end
section
variable{X:Cx}{pins:List (Addr×Obj)}{σ:St}{H:Hp}{s:Shared}{h':Heap}
theorem Inv.turnedNew{ch:List Addr}{T:Addr}{o:HO}{t':Nat}(I:Inv X pins σ H s)(k:∀b u,b∉ch->s.heap.get? b=some u->h'.get? b=some u)(hf:∀b∈ch,FpOk X pins H b)(hT:s.heap.objs.size<=T)
  (new:ObjOk X.prog X.w (upd H T o) h' T o):Inv X pins σ (upd H T o) {s with heap:=h',toks:=t'}:=by
 have hn:=I.hok.fresh hT
 have lt:∀b u,s.heap.get? b=some u->b≠T:=fun b u e=>Nat.ne_of_lt (Nat.lt_of_lt_of_le (Heap.lt_size e) hT)
 have tr:∀b u,H b=some u->b∉ch:=fun b u e hb=>by
  obtain⟨f0,_⟩:=hf b hb
  rw[e] at f0;cases f0
 refine I.step (g':=s.gens) (d':=s.drawn) (ch:=ch) (fun b hb=>?_) (fun b u _ _ hc e _=>k b u hc e) (fun b u _ _ hc e _=>⟨u.slots,k b u hc e⟩) (fun b u _ e n=>by rw[j_ (lt b u e)];exact n)
  (fun b u hc e=>⟨u,k b u hc e⟩) (fun b xs e=>by rw[j_ (f_ e hn)];exact e) (fun b u x e=>by rw[j_ (f_ e hn)];exact e) (fun b ps e=>⟨#[],by rw[j_ (f_ e hn),e];simp⟩) (fun m hm=>?_) (fun b u e=>?_) I.bare
 ·obtain⟨_,f1,_,f3,f4,f5⟩:=hf b hb
  exact⟨f3,f1,f4,f5⟩
 ·obtain⟨u,es,ep,hu,r⟩:=hm
  exact⟨u,es,ep,k _ u (fun z=>(hf _ z).2.1 rfl) hu,r⟩
 ·by_cases hb:b=T
  ·subst hb
   rw[c_] at e;cases e
   exact new
  ·rw[j_ hb] at e
   refine(I.hok b u e).stay (fun c v hc q=>k c v ?_ q) (fun c q=>by rw[j_ (f_ q hn)];exact q) fun c xs q=>by rw[j_ (f_ q hn)];exact q
   rcases hc with rfl | hc
   ·exact tr _ _ e
   ·exact tr _ _ hc
theorem Inv.turnedL{ch:List Addr}{t':Nat}(I:Inv X pins σ H s)(k:∀b u,b∉ch->s.heap.get? b=some u->h'.get? b=some u)(hf:∀b∈ch,FpOk X pins H b):Inv X pins σ H {s with heap:=h',toks:=t'}:=by
 have tr:∀b u,H b=some u->b∉ch:=fun b u e hb=>by
  obtain⟨f0,_⟩:=hf b hb
  rw[e] at f0;cases f0
 refine I.step (g':=s.gens) (d':=s.drawn) (ch:=ch) (fun b hb=>?_) (fun b u _ _ hc e _=>k b u hc e) (fun b u _ _ hc e _=>⟨u.slots,k b u hc e⟩) (fun _ _ _ _ n=>n)
  (fun b u hc e=>⟨u,k b u hc e⟩) (fun _ _ e=>e) (fun _ _ _ e=>e) (fun b ps e=>⟨#[],by rw[e];simp⟩) (fun m hm=>?_) (fun b u e=>?_) I.bare
 ·obtain⟨_,f1,_,f3,f4,f5⟩:=hf b hb
  exact⟨f3,f1,f4,f5⟩
 ·obtain⟨u,es,ep,hu,r⟩:=hm
  exact⟨u,es,ep,k _ u (fun z=>(hf _ z).2.1 rfl) hu,r⟩
 ·refine(I.hok b u e).stay (fun c v hc q=>k c v ?_ q) (fun _ q=>q) fun _ _ q=>q
  rcases hc with rfl | hc
  ·exact tr _ _ e
  ·exact tr _ _ hc
end
def Ite(K:PySem.W.Frag)(a:Addr):It :=
 ⟨fun i H=>∃xs x,SqL K H a xs/\xs[i]?=some x,fun i H v H'=>∃t x,v=.ref t/\H t=none/\(∀xs,SqL K H a xs->xs[i]?=some x)/\H'=upd H t (.tup [.int i,x]),fun i H=>∃xs,SqL K H a xs/\xs.length<=i⟩
theorem ky_{P:Program}{w:World}{K:PySem.W.Frag}{elts:List Expr}{x1}{pos:Pos}(a e it:Addr)(hne:e≠it):Turn P w K (.Tuple elts x1 pos) (Ite K a) [e,it] e (fun i h=>(∃old,IsEnum h e it i old)/\h.IsListIter it a i) where
 mem:=by simp
 obj:=fun i h st b hb=>by
  obtain⟨⟨old,h1⟩,o,h2,_,d⟩:=st
  rcases List.mem_cons.mp hb with rfl | hb
  ·exact⟨_,h1,fun v z=>by cases z⟩
  ·have z:b=it:=by simpa using hb
   subst z
   exact⟨o,h2,fun v z=>by rw[d] at z;cases z⟩
 keep:=fun i h h' st k=>by
  obtain⟨⟨old,h1⟩,h2⟩:=st
  exact⟨⟨old,k e (by simp) _ h1⟩,h2.at fun o q=>k it (by simp) o q⟩
 item:=by
  intro X hP hw hK hc i pins s σ H E I hf st hg
  subst hP hw hK
  obtain⟨⟨old,h1⟩,h2⟩:=st
  obtain⟨xs,x,hq,hx⟩:=hg
  obtain⟨its,rv,p,hz⟩:=I.list hq
  obtain⟨u,hu,ru⟩:=rv.get hx
  have e1:=Heap.lt_size h1
  refine wpAny_pyNext_enum_item h1 h2 p.isList (x:=u) (by simpa using hu) hne fun h' g1 g2 g3 g4 g5=>⟨_,rfl,?_⟩
  refine wpAny_letOwnedTupleGo_enum g1 fun h2' g6 g7=>?_
  have kk:∀b o,b∉[e,it]->s.heap.get? b=some o->h2'.get? b=some o:=fun b o hb q=>g7.extBut b o (fun z=>hb (by simp[z])) (g5 b o (fun z=>hb (by simp[z])) (fun z=>hb (by simp[z])) q)
  have tT:h2'.get? s.heap.objs.size=some {cls:=.type "tuple",data:=.seq #[.int i s.toks,u]}:=g7.extBut _ _ (Nat.ne_of_gt e1) g3
  have I1:=I.turnedNew (t':=s.toks+1) (T:=s.heap.objs.size) (o:=.tup [.int i,x]) kk hf (Nat.le_refl _) ⟨by show 2<=sizeLine;decide,[.int i s.toks,u],.cons ⟨_,rfl⟩ (.cons ru .nil),⟨_,tT,rfl,_,rfl⟩⟩
  have hn:H s.heap.objs.size=none:=I.hok.fresh (Nat.le_refl _)
  refine⟨.ref s.heap.objs.size,_,I1,rfl,⟨_,x,rfl,hn,fun ys hy=>by rw[I.list_inj hy hq];exact hx,rfl⟩,⟨⟨u,?_⟩,?_⟩,fun b hb=>?_⟩
  ·have z:((i+1:Nat):Int)=(i:Int)+1:=by omega
   rw[z];exact g6
  ·exact g2.extBut g7.extBut (Ne.symm hne)
  ·obtain⟨f0,_⟩:=hf b hb
   obtain⟨o,q⟩:∃o,s.heap.get? b=some o:=by
    rcases List.mem_cons.mp hb with rfl | hb
    ·exact⟨_,h1⟩
    ·have z:b=it:=by simpa using hb
     obtain⟨o,q,_⟩:=h2
     exact⟨o,by rw[z];exact q⟩
   rw[j_ (Nat.ne_of_lt (Heap.lt_size q))];exact f0
 done:=by
  intro X hP hw hK hc i pins s σ H E I hf st hg
  subst hP hw hK
  obtain⟨⟨old,h1⟩,h2⟩:=st
  obtain⟨xs,hq,hx⟩:=hg
  obtain⟨its,rv,p,hz⟩:=I.list hq
  have hl:=rv.length
  exact wpAny_pyNext_enum_end (I.ok.hd hc) h1 h2 p.isList (by simp;omega) fun h' eb=>⟨rfl,I.turnedL (t':=s.toks) (ch:=[e,it]) (fun b o hb q=>eb b o (fun z=>hb (by simp[z])) q) hf⟩
 self:=fun _ _ _ _ _ st h=>by
  obtain⟨⟨old,h1⟩,h2⟩:=st
  have hT:Shared.TypeIs _ (.ref e) "enumerate":=⟨_,h1,rfl⟩
  refine wpAny_pyIter_slot hT F.slot_enumerate_iter (wpAny_call_entry F.slot_enumerate_iter hT F.entry_enumerate_iter ?_ (F.args_enumerate_iter_1 _))
  show wpAny _ _ (ret (.ref e)) _ _ _
  exact wpAny_pure ⟨_,rfl,"enumerate",_,hT,F.slot_enumerate_next.lookup,h⟩
def Itz(K:PySem.W.Frag)(a b:Addr):It :=
 ⟨fun i H=>∃xs ys x y,SqL K H a xs/\SqL K H b ys/\xs[i]?=some x/\ys[i]?=some y,
  fun i H v H'=>∃t x y,v=.ref t/\H t=none/\(∀xs,SqL K H a xs->xs[i]?=some x)/\(∀ys,SqL K H b ys->ys[i]?=some y)/\H'=upd H t (.tup [x,y]),
  fun i H=>∃xs ys,SqL K H a xs/\SqL K H b ys/\(xs.length<=i\/ys.length<=i)⟩
theorem mV_{P:Program}{w:World}{K:PySem.W.Frag}{elts:List Expr}{x1}{pos:Pos}(a b z TI TO i1 i2:Addr)(D:ZipApart z TI TO i1 i2 a b):Turn P w K (.Tuple elts x1 pos) (Itz K a b) [z,TI,TO,i1,i2] z
  (fun i h=>IsZip h z TI TO .none/\IsPair h TI (.ref i1) (.ref i2)/\(∃u v,IsPair h TO u v)/\h.IsListIter i1 a i/\h.IsListIter i2 b i) where
 mem:=by simp
 obj:=fun i h st c hb=>by
  obtain⟨h1,h2,⟨u,v,h3⟩,⟨o4,h4,_,d4⟩,⟨o5,h5,_,d5⟩⟩:=st
  simp only[List.mem_cons,List.not_mem_nil,or_false] at hb
  rcases hb with rfl | rfl | rfl | rfl | rfl
  ·exact⟨_,h1,fun v z=>by cases z⟩
  ·exact⟨_,h2,fun v z=>by cases z⟩
  ·exact⟨_,h3,fun v z=>by cases z⟩
  ·exact⟨o4,h4,fun v z=>by rw[d4] at z;cases z⟩
  ·exact⟨o5,h5,fun v z=>by rw[d5] at z;cases z⟩
 keep:=fun i h h' st k=>by
  obtain⟨h1,h2,⟨u,v,h3⟩,h4,h5⟩:=st
  exact⟨k z (by simp) _ h1,k TI (by simp) _ h2,⟨u,v,k TO (by simp) _ h3⟩,h4.at fun o q=>k i1 (by simp) o q,h5.at fun o q=>k i2 (by simp) o q⟩
 item:=by
  intro X hP hw hK hc i pins s σ H E I hf st hg
  subst hP hw hK
  obtain⟨h1,h2,⟨u0,v0,h3⟩,h4,h5⟩:=st
  obtain⟨xs,ys,x,y,hqa,hqb,hx,hy⟩:=hg
  obtain⟨its,rv,p,hz⟩:=I.list hqa
  obtain⟨jts,rw',p',hz'⟩:=I.list hqb
  obtain⟨u,hu,ru⟩:=rv.get hx
  obtain⟨v,hv,rv'⟩:=rw'.get hy
  have e1:=Heap.lt_size h1
  have fpo:∀c∈[z,TI,TO,i1,i2],∃o,s.heap.get? c=some o:=fun c hb=>by
   obtain⟨o4,q4,_⟩:=h4
   obtain⟨o5,q5,_⟩:=h5
   simp only[List.mem_cons,List.not_mem_nil,or_false] at hb
   rcases hb with rfl | rfl | rfl | rfl | rfl
   ·exact⟨_,h1⟩
   ·exact⟨_,h2⟩
   ·exact⟨_,h3⟩
   ·exact⟨_,q4⟩
   ·exact⟨_,q5⟩
  refine wpAny_pyNext_zip_item D h1 h2 h3 h4 h5 p.isList p'.isList (x:=u) (y:=v) (by simpa using hu) (by simpa using hv) fun h' g1 g2 g3 g4 g5 g6 g7=>⟨_,rfl,?_⟩
  refine wpAny_letOwnedTupleGo_zip g1 fun h2' g8 g9=>?_
  have kk:∀c o,c∉[z,TI,TO,i1,i2]->s.heap.get? c=some o->h2'.get? c=some o:=fun c o hb q =>
   g9.extBut c o (fun q=>hb (by simp[q])) (g7 c o (fun q=>hb (by simp[q])) (fun q=>hb (by simp[q])) (fun q=>hb (by simp[q])) (fun q=>hb (by simp[q])) q)
  have tT:h2'.get? s.heap.objs.size=some {cls:=.type "tuple",data:=.seq #[u,v]}:=g9.extBut _ _ (Nat.ne_of_gt e1) g5
  have I1:=I.turnedNew (t':=s.toks) (T:=s.heap.objs.size) (o:=.tup [x,y]) kk hf (Nat.le_refl _) ⟨by show 2<=sizeLine;decide,[u,v],.cons ru (.cons rv' .nil),⟨_,tT,rfl,_,rfl⟩⟩
  have hn:H s.heap.objs.size=none:=I.hok.fresh (Nat.le_refl _)
  refine⟨.ref s.heap.objs.size,_,I1,rfl,⟨_,x,y,rfl,hn,fun zs hy'=>by rw[I.list_inj hy' hqa];exact hx,fun zs hy'=>by rw[I.list_inj hy' hqb];exact hy,rfl⟩,⟨g8,?_,⟨u,v,?_⟩,?_,?_⟩,fun c hb=>?_⟩
  ·exact g9.extBut _ _ D.TIz (g7 _ _ D.TIz D.TITO D.TIi1 D.TIi2 h2)
  ·exact g9.extBut _ _ D.TOz g2
  ·exact g3.extBut g9.extBut D.i1z
  ·exact g4.extBut g9.extBut D.i2z
  ·obtain⟨f0,_⟩:=hf c hb
   obtain⟨o,q⟩:=fpo c hb
   rw[j_ (Nat.ne_of_lt (Heap.lt_size q))];exact f0
 done:=by
  intro X hP hw hK hc i pins s σ H E I hf st hg
  subst hP hw hK
  obtain⟨h1,h2,⟨u0,v0,h3⟩,h4,h5⟩:=st
  obtain⟨xs,ys,hqa,hqb,hx⟩:=hg
  obtain⟨its,rv,p,hz⟩:=I.list hqa
  obtain⟨jts,rw',p',hz'⟩:=I.list hqb
  have hl:=rv.length
  have hl':=rw'.length
  refine wpAny_pyNext_zip_end (I.ok.hd hc) D h1 h2 h3 h4 h5 p.isList p'.isList ?_ fun h' eb=>⟨rfl,I.turnedL (t':=s.toks) (ch:=[z,TI,TO,i1,i2]) (fun c o hb q=>eb c o (fun q=>hb (by simp[q])) (fun q=>hb (by simp[q])) (fun q=>hb (by simp[q])) (fun q=>hb (by simp[q])) q) hf⟩
  rcases hx with hx | hx
  ·exact .inl (by simp;omega)
  ·exact .inr (by simp;omega)
 self:=fun _ _ _ _ _ st h=>wpAny_pyIter_zip st.1 h
section
variable{X:Cx}{l l2:Expr}{tl tl2:TE}{elts:List Expr}{p pos tpos:Pos}
def iEnum(K:PySem.W.Frag)(tl:TE):TI:=fun σ H R=>tl σ H fun x H1=>∃a,x=.ref a/\(∃xs,SqL K H1 a xs)/\R (Ite K a) H1
theorem lo_{x1}(hg:Gl X "enumerate")(hm:X.mg "enumerate"=none)(hl:PE X l tl)(hs:starEach [l] X.env=[(false,eval l X.env)]:=by rfl):PI X (.Tuple elts x1 tpos) (.Call (.Name "enumerate" p) [l] [] pos) (iEnum X.K tl):=by
 intro pins s σ H R I h
 refine Call_ (aI_ I hg hm boot_enumerate (PyProof.Rows.callWith_type1 ?_ hs rfl))
 rw[hs]
 show wpAny _ _ (spliced ((false,eval l X.env)::backTo pos (starEach [] X.env))) _ _ s
 refine Calls.spliced_cons (thn (hl pins s σ H _ I h) fun u s1 ⟨x,H1,I1,r1,q1⟩=>Calls.spliced_nil ?_)
 obtain⟨a,rfl,⟨xs,hq⟩,q⟩:=q1
 cases r1
 obtain⟨its,rv,pl,hz⟩:=I1.list hq
 refine call_enumerate_list pl.isList fun h' g1 g2 g3 g4=>?_
 have T:=ky_ (P:=X.prog) (w:=X.w) (K:=X.K) (elts:=elts) (x1:=x1) (pos:=tpos) a (s1.heap.objs.size+1) s1.heap.objs.size (Nat.ne_of_gt (Nat.lt_succ_self _))
 refine T.self _ 0 _ _ _ ⟨⟨_,g1⟩,g2⟩ ?_
 refine⟨s1.heap.objs.size+1,_,_,_,H1,rfl,I1.kept (t':=s1.toks) g4,T,⟨⟨_,g1⟩,g2⟩,fun b hb=>?_,q⟩
 have hb':s1.heap.objs.size<=b:=by
  rcases List.mem_cons.mp hb with rfl | hb
  ·exact Nat.le_succ _
  ·have z:b=s1.heap.objs.size:=by simpa using hb
   rw[z];exact Nat.le_refl _
 exact I1.fpOk hb' (I1.hok.fresh hb')
def iZip(K:PySem.W.Frag)(tl tl2:TE):TI:=fun σ H R=>tl σ H fun x H1=>tl2 σ H1 fun y H2=>∃a b,x=.ref a/\y=.ref b/\(∃xs,SqL K H2 a xs)/\(∃ys,SqL K H2 b ys)/\R (Itz K a b) H2
theorem ob_{x1}(hg:Gl X "zip")(hm:X.mg "zip"=none)(hl:PE X l tl)(hl2:PE X l2 tl2)(hs:starEach [l,l2] X.env=[(false,eval l X.env),(false,eval l2 X.env)]:=by rfl)(hs2:starEach [l2] X.env=[(false,eval l2 X.env)]:=by rfl) :
  PI X (.Tuple elts x1 tpos) (.Call (.Name "zip" p) [l,l2] [] pos) (iZip X.K tl tl2):=by
 intro pins s σ H R I h
 refine Call_ (aI_ I hg hm boot_zip (PyProof.Rows.callWith_type1 ?_ (by rw[hs,hs2]) (by rw[hs2];rfl)))
 rw[hs]
 show wpAny _ _ (spliced ((false,eval l X.env)::(false,eval l2 X.env)::backTo pos (starEach [] X.env))) _ _ s
 refine Calls.spliced_cons (thn (hl pins s σ H _ I h) fun u s1 ⟨x,H1,I1,r1,q1⟩=>Calls.spliced_cons (thn (hl2 pins s1 σ H1 _ I1 q1) fun u2 s2 ⟨y,H2,I2,r2,q2⟩=>Calls.spliced_nil ?_))
 obtain⟨a,b,rfl,rfl,⟨xs,hqa⟩,⟨ys,hqb⟩,q⟩:=q2
 cases r1
 cases r2
 obtain⟨its,rv,pl,hz⟩:=I2.list hqa
 obtain⟨jts,rv',pl',hz'⟩:=I2.list hqb
 have la:a<s2.heap.objs.size:=by obtain⟨_,e,_⟩:=pl.isList;exact Heap.lt_size e
 have lb:b<s2.heap.objs.size:=by obtain⟨_,e,_⟩:=pl'.isList;exact Heap.lt_size e
 refine call_zip_2 pl.isList pl'.isList fun h' g1 g2 g3 g4 g5 g6 g7=>?_
 have D:ZipApart (s2.heap.objs.size+4) (s2.heap.objs.size+2) (s2.heap.objs.size+3) s2.heap.objs.size (s2.heap.objs.size+1) a b:=zipApart_new la lb
 have T:=mV_ (P:=X.prog) (w:=X.w) (K:=X.K) (elts:=elts) (x1:=x1) (pos:=tpos) a b _ _ _ _ _ D
 refine T.self _ 0 _ _ _ ⟨g1,g2,⟨_,_,g3⟩,g4,g5⟩ ?_
 refine⟨s2.heap.objs.size+4,_,_,_,H2,rfl,I2.kept (t':=s2.toks) g7,T,⟨g1,g2,⟨_,_,g3⟩,g4,g5⟩,fun c hb=>?_,q⟩
 have hb':s2.heap.objs.size<=c:=by
  simp only[List.mem_cons,List.not_mem_nil,or_false] at hb
  rcases hb with rfl | rfl | rfl | rfl | rfl
  ·exact Nat.le_add_right _ _
  ·exact Nat.le_add_right _ _
  ·exact Nat.le_add_right _ _
  ·exact Nat.le_refl _
  ·exact Nat.le_add_right _ _
 exact I2.fpOk hb' (I2.hok.fresh hb')
end
theorem nL_{K:PySem.W.Frag}{a b:Addr}{xs ys:List V}{G:V->Hp->(List V->Hp->Prop)->List V->Prop}{Fin:List V->Hp->Prop}{H:Hp}(Pv:Nat->List V->Hp->Prop)(hlen:xs.length=ys.length)(h0:Pv 0 [] H)
  (hl:∀i zs H,i<=xs.length->Pv i zs H->SqL K H a xs/\SqL K H b ys) (hz:∀i zs H,i<xs.length->Pv i zs H->zs.length<sizeLine)
  (hs:∀i x y zs H t,xs[i]?=some x->ys[i]?=some y->Pv i zs H->H t=none->G (.ref t) (upd H t (.tup [x,y])) (Pv (i+1)) zs) (hd:∀zs H,Pv xs.length zs H->Fin zs H) :
  ∃W:Nat->Nat->List V->Hp->Prop,(∃m,W 0 m [] H)/\∀i m zs H,W i m zs H->
   ((Itz K a b).stop i H/\Fin zs H)\/((Itz K a b).go i H/\zs.length<sizeLine/\∃Nx:List V->Hp->Prop,(∀ys' H',Nx ys' H'->∃m',m'<m/\W (i+1) m' ys' H')/\∀x H',(Itz K a b).yld i H x H'->G x H' Nx zs):=by
 refine⟨fun i m zs H=>m=xs.length-i/\i<=xs.length/\Pv i zs H,⟨xs.length,by simp,Nat.zero_le _,h0⟩,?_⟩
 rintro i m zs H ⟨rfl,hi,p⟩
 obtain⟨q1,q2⟩:=hl i zs H hi p
 by_cases hlt:i<xs.length
 ·have e1:xs[i]?=some xs[i]:=by simp[hlt]
  have e2:ys[i]?=some (ys[i]'(by omega)):=by simp
  refine .inr ⟨⟨xs,ys,_,_,q1,q2,e1,e2⟩,hz i zs H hlt p,Pv (i+1),fun ys' H' p'=>⟨xs.length-(i+1),by omega,rfl,hlt,p'⟩,fun v H' y=>?_⟩
  obtain⟨t,x,y,rfl,ht,y1,y2,rfl⟩:=y
  exact hs i x y zs H t (y1 xs q1) (y2 ys q2) p ht
 ·have e:i=xs.length:=by omega
  subst e
  exact .inl ⟨⟨xs,ys,q1,q2,.inl (Nat.le_refl _)⟩,hd zs H p⟩
theorem jr_{K:PySem.W.Frag}{a:Addr}{xs:List V}{g:TG}{tb:TS}{D:Ends}{σ:St}{H:Hp}(Pv:Nat->St->Hp->Prop)(h0:Pv 0 σ H)(hl:∀i σ H,i<=xs.length->Pv i σ H->SqL K H a xs)
  (hs:∀i x σ H t,xs[i]?=some x->Pv i σ H->H t=none->g (.ref t) σ (upd H t (.tup [.int i,x])) fun σ2 H2=>tb {D with nx:=Pv (i+1),ct:=Pv (i+1),bk:=D.nx} σ2 H2) (hd:∀ σ H,Pv xs.length σ H->D.nx σ H) :
  ∃W:Nat->Nat->St->Hp->Prop,(∃m,W 0 m σ H)/\∀i m σ H,W i m σ H->
   ((Ite K a).stop i H/\D.nx σ H)\/((Ite K a).go i H/\∃N:St->Hp->Prop,(∀ σ' H',N σ' H'->∃m',m'<m/\W (i+1) m' σ' H')/\∀x H',(Ite K a).yld i H x H'->g x σ H' fun σ2 H2=>tb {D with nx:=N,ct:=N,bk:=D.nx} σ2 H2):=by
 refine⟨fun i m σ H=>m=xs.length-i/\i<=xs.length/\Pv i σ H,⟨xs.length,by simp,Nat.zero_le _,h0⟩,?_⟩
 rintro i m σ H ⟨rfl,hi,p⟩
 have q:=hl i σ H hi p
 by_cases hlt:i<xs.length
 ·refine .inr ⟨⟨xs,xs[i],q,by simp[hlt]⟩,Pv (i+1),fun σ' H' p'=>⟨xs.length-(i+1),by omega,rfl,hlt,p'⟩,fun v H' y=>?_⟩
  obtain⟨t,x,rfl,ht,y1,rfl⟩:=y
  exact hs i x σ H t (y1 xs q) p ht
 ·have e:i=xs.length:=by omega
  subst e
  exact .inl ⟨⟨xs,q,Nat.le_refl _⟩,hd σ H p⟩
section
variable{X:Cx}
theorem fI_{ns:List Int}{its:List Value}(rv:Vals (ns.map V.int) its){i:Nat}{v:Value}(hv:its[i]?=some v):∃n t,ns[i]?=some n/\v=.int n t:=by
 cases eb:ns[i]? with
 | none =>
  have:=rv.none_of (i:=i) (by rw[List.getElem?_map,eb];rfl)
  rw[this] at hv;cases hv
 | some b =>
  obtain⟨u,hu,ru⟩:=rv.get (i:=i) (x:=.int b) (by rw[List.getElem?_map,eb];rfl)
  rw[hu] at hv;cases hv
  obtain⟨t,rfl⟩:=ru
  exact⟨b,t,rfl,rfl⟩
theorem cG_(hc:X.calm=true):CallR X (.builtin "max") (fun xs H Q=>∃(p:Addr) (ns:List Int),xs=[.ref p]/\SqL X.K H p (ns.map V.int)/\0<ns.length/\Q (.int (Ma.maxL ns)) H):=by
 intro pins s σ H xs us Q I r h
 obtain⟨p,ns,rfl,hq,hne,q⟩:=h
 obtain⟨u,rfl,rx⟩:=vals1 r
 cases rx
 obtain⟨its,rv,pl,hz⟩:=I.list hq
 have hl:=pl.isList
 have hlt:p<s.heap.objs.size:=by obtain⟨_,e,_⟩:=hl;exact Heap.lt_size e
 have hn:its.toArray.size=ns.length:=by rw[List.size_toArray,<-rv.length,List.length_map]
 have hval:∀(i:Nat) (v:Value),its.toArray[i]?=some v->∃t,v=.int ((fun i=>(ns[i]?).getD 0) i) t:=fun i v hP=>by
  obtain⟨n,t,e,rfl⟩:=fI_ rv (i:=i) (v:=v) (by simpa using hP)
  exact⟨t,by simp[e]⟩
 refine call_max_walk (wpAny_pyIter_list hl ?_)
 refine⟨_,_,_,_,_,_,_,rfl,Walks.list (A:=X.A.in1) (I.ok.hd hc) s.heap.objs.size p (Nat.ne_of_lt hlt) its.toArray,⟨⟨_,Heap.get?_push_size _ rfl,rfl,rfl⟩,hl.push _⟩,fun b hb'=>?_,by omega,CmpOf.ints_gt (fun i=>(ns[i]?).getD 0) hval,fun v h' tk hP hk=>?_⟩
 ·show b<(s.heap.push _).objs.size
  rw[Heap.size_push]
  rcases List.mem_cons.mp hb' with rfl | hb'
  ·exact Nat.lt_succ_self _
  ·have e:b=p:=by simpa using hb'
   rw[e];exact Nat.lt_succ_of_lt hlt
 ·rw[hn] at hP
  have ab:=argBest_gt (fun i=>(ns[i]?).getD 0) (ns.length-1)
  obtain⟨n,t,e,rfl⟩:=fI_ rv (i:=argBest (fun i j=>decide ((ns[i]?).getD 0>(ns[j]?).getD 0)) (ns.length-1)) (v:=v) (by simpa using hP)
  have em:n=Ma.maxL ns:=Ma.dT_ (List.mem_of_getElem? e) fun m hm=>by
   obtain⟨j,hj⟩:=List.getElem?_of_mem hm
   have hjl:=(List.getElem?_eq_some_iff.mp hj).1
   have a2:=ab.2 j (by omega)
   simp only[hj,e,Option.getD_some] at a2
   exact a2
  subst em
  exact⟨.int _,H,(show Inv X pins σ H {s with heap:=h',toks:=tk} from seen I hk),⟨_,rfl⟩,q⟩
theorem bA_(hc:X.calm=true):CallR X (.builtin "min") (fun xs H Q=>∃(p:Addr) (ns:List Int),xs=[.ref p]/\SqL X.K H p (ns.map V.int)/\0<ns.length/\Q (.int (Ma.minL ns)) H):=by
 intro pins s σ H xs us Q I r h
 obtain⟨p,ns,rfl,hq,hne,q⟩:=h
 obtain⟨u,rfl,rx⟩:=vals1 r
 cases rx
 obtain⟨its,rv,pl,hz⟩:=I.list hq
 have hl:=pl.isList
 have hlt:p<s.heap.objs.size:=by obtain⟨_,e,_⟩:=hl;exact Heap.lt_size e
 have hn:its.toArray.size=ns.length:=by rw[List.size_toArray,<-rv.length,List.length_map]
 have hval:∀(i:Nat) (v:Value),its.toArray[i]?=some v->∃t,v=.int ((fun i=>(ns[i]?).getD 0) i) t:=fun i v hP=>by
  obtain⟨n,t,e,rfl⟩:=fI_ rv (i:=i) (v:=v) (by simpa using hP)
  exact⟨t,by simp[e]⟩
 refine call_min_walk (wpAny_pyIter_list hl ?_)
 refine⟨_,_,_,_,_,_,_,rfl,Walks.list (A:=X.A.in1) (I.ok.hd hc) s.heap.objs.size p (Nat.ne_of_lt hlt) its.toArray,⟨⟨_,Heap.get?_push_size _ rfl,rfl,rfl⟩,hl.push _⟩,fun b hb'=>?_,by omega,CmpOf.ints_lt (fun i=>(ns[i]?).getD 0) hval,fun v h' tk hP hk=>?_⟩
 ·show b<(s.heap.push _).objs.size
  rw[Heap.size_push]
  rcases List.mem_cons.mp hb' with rfl | hb'
  ·exact Nat.lt_succ_self _
  ·have e:b=p:=by simpa using hb'
   rw[e];exact Nat.lt_succ_of_lt hlt
 ·rw[hn] at hP
  have ab:=argBest_lt (fun i=>(ns[i]?).getD 0) (ns.length-1)
  obtain⟨n,t,e,rfl⟩:=fI_ rv (i:=argBest (fun i j=>decide ((ns[i]?).getD 0<(ns[j]?).getD 0)) (ns.length-1)) (v:=v) (by simpa using hP)
  have em:n=Ma.minL ns:=Ma.dS_ (List.mem_of_getElem? e) fun m hm=>by
   obtain⟨j,hj⟩:=List.getElem?_of_mem hm
   have hjl:=(List.getElem?_eq_some_iff.mp hj).1
   have a2:=ab.2 j (by omega)
   simp only[hj,e,Option.getD_some] at a2
   exact a2
  subst em
  exact⟨.int _,H,(show Inv X pins σ H {s with heap:=h',toks:=tk} from seen I hk),⟨_,rfl⟩,q⟩
end
theorem la_{k:Key}{v:Value}(h:keyIs k v=true):RelV (kV k) v:=by
 rcases G_ h with⟨i,t,rfl,rfl⟩ | ⟨x,t,rfl,rfl⟩ <;> exact⟨_,rfl⟩
theorem KV.at{kvs:List (Key×V)}{vs:List (Key×Value)}(r:KV kvs vs):∀ {i:Nat} {p:Key×V},kvs[i]?=some p->∃u,vs[i]?=some (p.1,u)/\RelV p.2 u:=by
 unfold KV at r
 induction r with
 | nil=>intro i p e;simp at e
 | @cons a b as bs h t ih =>
  intro i p e
  cases i with
  | zero =>
   simp at e
   subst e
   exact⟨b.2,by rw[h.1];rfl,h.2⟩
  | succ i=>simpa using ih (i:=i) (p:=p) (by simpa using e)
section
variable{X:Cx}{pins:List (Addr×Obj)}{σ:St}{H:Hp}{s:Shared}{a:Addr}{o:Obj}{kvs:List (Key×V)}
theorem Inv.freeze(I:Inv X pins σ H s)(e:H a=some (.dK kvs))(ho:s.heap.get? a=some o):Inv X pins σ (upd H a (.frz o (.dK kvs))) s :=
 I.write (x:=a) (e:=a) (t':=s.toks) (h':=s.heap) (by rw[e];trivial) (.inl rfl) (fun b q _ z=>z) ⟨o,ho⟩ ⟨ho,I.hok a _ e⟩
theorem Inv.thaw(I:Inv X pins σ H s)(e:H a=some (.frz o (.dK kvs)))(hb:∀o u,X.H₀ a≠some (.frz o u)):Inv X pins σ (upd H a (.dK kvs)) s:=by
 have ne:∀b,H b=none->b≠a:=fun b n z=>by rw[z,e] at n;cases n
 refine⟨I.ok,I.os,I.bare,⟨I.base.keep,I.base.slot,fun b ob q n hx=>?_,I.base.there,fun b xs q=>?_,fun b ob u q=>?_,fun b ps q=>?_⟩,I.loc,I.cell,?_,fun x c q=>?_,fun p hp=>?_,fun b u q=>?_,I.len⟩
 ·have:=I.base.free b ob q n hx
  rw[j_ (ne b this)];exact this
 ·have q':=I.base.tups b xs q
  rw[j_ (fun z=>by rw[z,e] at q';cases q')];exact q'
 ·have q':=I.base.frzs b ob u q
  rw[j_ (fun z=>hb ob u (by rw[<-z];exact q))];exact q'
 ·obtain⟨m,q'⟩:=I.base.tbls b ps q
  exact⟨m,by rw[j_ (fun z=>by rw[z,e] at q';cases q')];exact q'⟩
 ·rw[j_ (ne _ I.free)];exact I.free
 ·rw[j_ (ne _ (I.freeC x c q))];exact I.freeC x c q
 ·obtain⟨h1,h2,h3⟩:=I.pin p hp
  exact⟨h1,by rw[j_ (ne _ h2)];exact h2,h3⟩
 ·by_cases hba:b=a
  ·subst hba
   rw[c_] at q
   cases q
   exact(I.hok b _ e).2
  ·rw[j_ hba] at q
   refine(I.hok b u q).stay (fun _ _ _ z=>z) (fun c z=>?_) fun c xs z=>?_
   ·rw[j_ (fun y=>by rw[y,e] at z;cases z)];exact z
   ·rw[j_ (fun y=>by rw[y,e] at z;cases z)];exact z
def tThaw(H₀:Hp)(u:TS):TS:=fun D σ H=>∃a o kvs,H a=some (.frz o (.dK kvs))/\(∀o u,H₀ a≠some (.frz o u))/\u D σ (upd H a (.dK kvs))
theorem bd_{rest:List Stmt}{u:TS}(h:PSs X rest u):PSs X rest (tThaw X.H₀ u):=fun pins s σ H D I q=>by
 obtain⟨a,o,kvs,e,hb,q⟩:=q
 exact h pins s σ _ D (I.thaw e hb) q
end
def Itd(a:Addr)(o:Obj)(kvs:List (Key×V)):It :=
 ⟨fun i H=>H a=some (.frz o (.dK kvs))/\i<kvs.length,fun i H x H'=>H'=H/\∃k v,kvs[i]?=some (k,v)/\x=kV k,fun i H=>H a=some (.frz o (.dK kvs))/\kvs.length<=i⟩
theorem kz_{P:Program}{w:World}{K:PySem.W.Frag}{tg:Expr}{a it:Addr}{o:Obj}{kvs:List (Key×V)}{vs:List (Key×Value)}{ep:Nat}(rel:KV kvs vs)
  (da:∀h:Heap,h.get? a=some o->h.DictAt (w_ P w) a vs ep):Turn P w K tg (Itd a o kvs) [it] it (fun i h=>h.IsKeyIter it a i vs.length ep) where
 mem:=by simp
 obj:=fun i h st b hb=>by
  have e:b=it:=by simpa using hb
  subst e
  obtain⟨o,e,c,d⟩:=st
  exact⟨o,e,fun v z=>by rw[d] at z;cases z⟩
 keep:=fun i h h' st k=>st.at fun o e=>k it (by simp) o e
 item:=by
  intro X hP hw hK hc i pins s σ H E I hf st hg
  subst hP hw hK
  obtain⟨hq,hi⟩:=hg
  obtain⟨f0,f1,f2,f3,f4,f5⟩:=hf it (by simp)
  have hx:kvs[i]?=some kvs[i]:=by simp[hi]
  obtain⟨u,hu,ru⟩:=rel.at hx
  refine wpAny_pyNext_dict_item st (da _ (I.hok a _ hq).1) hu fun key h' hk st' sb=>?_
  have I1:Inv X pins σ H {s with heap:=h'}:=I.turned (t':=s.toks) (fun b o hb e=>(sb.2 b hb).trans e) f0 f1 f3 f4 f5
  obtain⟨oi,e,c,d⟩:=id st'
  exact⟨key,rfl,mc_ (s:={s with heap:=h'}) e c d (by decide) ⟨kV (kvs[i]).1,H,I1,la_ hk,⟨rfl,(kvs[i]).1,(kvs[i]).2,hx,rfl⟩,st',fun b hb=>(hf b hb).1⟩⟩
 done:=by
  intro X hP hw hK hc i pins s σ H E I hf st hg
  subst hP hw hK
  obtain⟨hq,hi⟩:=hg
  obtain⟨f0,f1,f2,f3,f4,f5⟩:=hf it (by simp)
  have hl:=rel.length
  exact wpAny_pyNext_dict_end (I.ok.hd hc) st (da _ (I.hok a _ hq).1) (by simp;omega) fun h' eb=>⟨rfl,I.turned (t':=s.toks) (fun b o hb e=>eb b o hb e) f0 f1 f3 f4 f5⟩
 self:=fun _ _ _ _ _ st h=>wpAny_pyIter_keyiter st h
def iDict(tl:TE):TI:=fun σ H R=>tl σ H fun x H1=>∃a kvs,x=.ref a/\H1 a=some (.dK kvs)/\∀o,R (Itd a o kvs) (upd H1 a (.frz o (.dK kvs)))
theorem cj_{X:Cx}{tg l:Expr}{tl:TE}(hl:PE X l tl):PI X tg l (iDict tl):=by
 intro pins s σ H R I h
 refine thn (hl pins s σ H _ I h) fun v s1 ⟨x,H1,I1,r1,q1⟩=>?_
 obtain⟨a,kvs,e,he,q⟩:=q1
 subst e
 cases r1
 obtain⟨z,hd,vs,rel,o,es,ep,ho,dd⟩:=mo_ I1.hok he
 refine wpAny_pyIter_dict hd (ep:=ep) ⟨o,es,ho,dd⟩ ?_
 have I2:=I1.freeze he ho
 refine⟨s1.heap.objs.size,[s1.heap.objs.size],_,_,_,rfl,I2.kept (t':=s1.toks) fun b o e=>Heap.get?_push_of_some _ e,kz_ (ep:=ep) rel fun h e=>⟨o,es,e,dd⟩,⟨_,Heap.get?_push_size _ rfl,rfl,rfl⟩,fun b hb=>?_,q o⟩
 have e:b=s1.heap.objs.size:=by simpa using hb
 subst e
 exact I2.fpOk (Nat.le_refl _) (I2.hok.fresh (Nat.le_refl _))
theorem bh_{a:Addr}{o:Obj}{kvs:List (Key×V)}{g:TG}{tb:TS}{D:Ends}{σ:St}{H:Hp}(Pv:Nat->St->Hp->Prop)(h0:Pv 0 σ H)(hl:∀i σ H,i<=kvs.length->Pv i σ H->H a=some (.frz o (.dK kvs)))
  (hs:∀i k v σ H,kvs[i]?=some (k,v)->Pv i σ H->g (kV k) σ H fun σ2 H2=>tb {D with nx:=Pv (i+1),ct:=Pv (i+1),bk:=D.nx} σ2 H2) (hd:∀ σ H,Pv kvs.length σ H->D.nx σ H) :
  ∃W:Nat->Nat->St->Hp->Prop,(∃m,W 0 m σ H)/\∀i m σ H,W i m σ H->
   ((Itd a o kvs).stop i H/\D.nx σ H)\/((Itd a o kvs).go i H/\∃N:St->Hp->Prop,(∀ σ' H',N σ' H'->∃m',m'<m/\W (i+1) m' σ' H')/\∀x H',(Itd a o kvs).yld i H x H'->g x σ H' fun σ2 H2=>tb {D with nx:=N,ct:=N,bk:=D.nx} σ2 H2):=by
 refine⟨fun i m σ H=>m=kvs.length-i/\i<=kvs.length/\Pv i σ H,⟨kvs.length,by simp,Nat.zero_le _,h0⟩,?_⟩
 rintro i m σ H ⟨rfl,hi,p⟩
 have q:=hl i σ H hi p
 by_cases hlt:i<kvs.length
 ·refine .inr ⟨⟨q,hlt⟩,Pv (i+1),fun σ' H' p'=>⟨kvs.length-(i+1),by omega,rfl,hlt,p'⟩,fun x H' y=>?_⟩
  obtain⟨e,k,v,hk,rfl⟩:=y
  subst e
  exact hs i k v σ _ hk p
 ·have e:i=kvs.length:=by omega
  subst e
  exact .inl ⟨⟨q,Nat.le_refl _⟩,hd σ H p⟩
end L2
namespace Srt
open PySem PyProof.Rows
structure Ok(a₀:Array Keyed)(p:Array (Nat×Nat×Nat))(st:SortSt):Prop where
 perm:(arrOf st).Perm a₀
 kind:kindOf st=oneType'
 failed:failedOf st=none
 pend:pendingOf st=p
abbrev IntK(x:Keyed):Prop:=∃n t,x.1=.int n t
section
variable{prog:Program}{w:World}{A:Around}{E:Value->Shared->Prop}{s:Shared}{a₀:Array Keyed}{p:Array (Nat×Nat×Nat)}{st:SortSt}
theorem Ok.size(h:Ok a₀ p st):(arrOf st).size=a₀.size:=h.perm.size_eq
theorem Ok.set(h:Ok a₀ p st){xs:Array Keyed}(hp:xs.Perm (arrOf st)):Ok a₀ p (setArr st xs):=⟨hp.trans h.perm,h.kind,h.failed,h.pend⟩
theorem Ok.keys(h:Ok a₀ p st)(h0:IntKeys a₀):IntKeys (arrOf st):=fun x hx=>h0 x ((Array.perm_iff_toList_perm.mp h.perm).mem_iff.mp hx)
theorem aa_{xs:Array Keyed}(h:IntKeys xs){i:Nat}(hi:i<xs.size):IntK xs[i]:=h _ (by simp)
theorem fQ_{x y:Keyed}{Q:Option Bool->SortSt->Prop}(hk:kindOf st=oneType')(hx:IntK x)(hy:IntK y)(h:∀r,Q (some r) st):wpS (model prog w) A E s (lt' x y) Q st:=by
 obtain⟨a,t,hx⟩:=hx
 obtain⟨b,u,hy⟩:=hy
 rw[lt'_eq]
 refine wpS_bind (wpS_get ?_)
 rw[hk,keyLt'_oneType,hx,hy]
 refine wpS_bind (wpS_lift (wpAny_attempt (oneLt_int ⟨rfl,?_⟩)))
 exact wpS_pure (h _)
theorem u_{arr:Array Keyed}{i:Nat}{Q:Keyed->SortSt->Prop}(hi:i<arr.size)(h:Q arr[i] st):wpS (model prog w) A E s (elem' arr i) Q st:=by
 rw[elem'_eq,getElem?_pos arr i hi]
 exact wpS_pure h
theorem av_{i j:Nat}{Q:Option Bool->SortSt->Prop}(ok:Ok a₀ p st)(h0:IntKeys a₀)(hi:i<a₀.size)(hj:j<a₀.size)(h:∀r,Q (some r) st):wpS (model prog w) A E s (ltAt' i j) Q st:=by
 rw[ltAt'_eq]
 refine wpS_bind (wpS_get ?_)
 have sz:=ok.size
 have hk:=ok.keys h0
 exact wpS_bind (u_ (by omega) (wpS_bind (u_ (by omega) (fQ_ ok.kind (aa_ hk _) (aa_ hk _) h))))
theorem aY_{i j:Nat}{Q:Unit->SortSt->Prop}(ok:Ok a₀ p st)(h:∀st',Ok a₀ p st'->Q () st'):wpS (model prog w) A E s (reverseSlice' i j) Q st:=by
 rw[reverseSlice'_eq]
 exact wpS_modify (h _ (ok.set (mirror_perm _ _ _ _)))
theorem mR_{i j:Nat}{Q:Unit->SortSt->Prop}(ok:Ok a₀ p st)(h:∀st',Ok a₀ p st'->Q () st'):wpS (model prog w) A E s (moveDown' i j) Q st:=by
 rw[moveDown'_eq]
 exact wpS_modify (h _ (ok.set (bubble_perm _ _ _)))
theorem kp_{lo nrem:Nat}{Q:Option Nat->SortSt->Prop}(h0:IntKeys a₀)(hn:lo+nrem<=a₀.size)(h1:1<=nrem)(ok:Ok a₀ p st)
  (h:∀m st',Ok a₀ p st'->1<=m->m<=nrem->Q (some m) st'):wpS (model prog w) A E s (countRun' lo nrem) Q st:=by
 rw[countRun'_eq]
 refine wpS_bind (wpS_mono (wpS_forRange (I:=fun x c st'=>c=(none,x)/\Ok a₀ p st') (Q:=fun c st'=>∃n,c=(none,n)/\1<=n/\n<=nrem/\Ok a₀ p st') ?step ?fin ⟨rfl,ok⟩) ?post)
 case step =>
  rintro x c st' hx1 hx2 ⟨rfl,ok'⟩
  refine wpS_bind (av_ ok' h0 (by omega) (by omega) fun r=>?_)
  cases r with
  | true=>exact wpS_pure ⟨x,rfl,hx1,by omega,ok'⟩
  | false=>exact wpS_pure ⟨rfl,ok'⟩
 case fin =>
  rintro c st' ⟨rfl,ok'⟩
  exact⟨max 1 nrem,rfl,by omega,by omega,ok'⟩
 case post =>
  rintro c st' ⟨n,rfl,hn1,hn2,ok'⟩
  dsimp only
  by_cases hnn:n=nrem
  ·rw[if_pos (by simpa using hnn)]
   exact wpS_pure (h n _ ok' hn1 hn2)
  ·rw[if_neg (by simpa using hnn)]
   by_cases hgt:n>1
   ·rw[if_pos hgt]
    refine wpS_bind (av_ ok' h0 (by omega) (by omega) fun r=>?_)
    cases r with
    | true=>exact wpS_pure (h n _ ok' hn1 hn2)
    | false =>
     dsimp only
     rw[if_neg Bool.false_ne_true]
     refine wpS_bind (aY_ ok' fun st4 ok4=>?_)
     refine wpS_bind (wpS_lift (wpAny_rule ⟨rfl,?_⟩))
     refine wpS_bind (wpS_mono (wpS_forRange (I:=fun x c st'=>(∃q,c=(none,x,q))/\Ok a₀ p st') (Q:=fun c st'=>∃m q,c=(none,m,q)/\1<=m/\m<=nrem/\Ok a₀ p st') ?_ ?_ ⟨⟨0,rfl⟩,ok4⟩) ?_)
     ·rintro x c st' hx1 hx2 ⟨⟨q,rfl⟩,ok'⟩
      dsimp only
      refine wpS_bind (av_ ok' h0 (by omega) (by omega) fun r=>?_)
      cases r with
      | true =>
       dsimp only
       by_cases hq:q>0
       ·rw[if_pos rfl,if_pos hq]
        exact wpS_bind (aY_ ok' fun st2 ok2=>wpS_pure ⟨⟨0,rfl⟩,ok2⟩)
       ·rw[if_pos rfl,if_neg hq]
        exact wpS_pure ⟨⟨0,rfl⟩,ok'⟩
      | false =>
       dsimp only
       rw[if_neg Bool.false_ne_true]
       refine wpS_bind (av_ ok' h0 (by omega) (by omega) fun r=>?_)
       cases r with
       | true=>exact wpS_pure ⟨x,q,rfl,by omega,by omega,ok'⟩
       | false=>exact wpS_pure ⟨⟨q+1,rfl⟩,ok'⟩
     ·rintro c st' ⟨⟨q,rfl⟩,ok'⟩
      exact⟨_,q,rfl,by omega,by omega,ok'⟩
     ·rintro c st' ⟨m,q,rfl,hm1,hm2,ok2⟩
      dsimp only
      by_cases hq:q>0
      ·rw[if_pos hq]
       refine wpS_bind (aY_ ok2 fun st3 ok3=>?_)
       refine wpS_bind (aY_ ok3 fun stY okY=>?_)
       refine wpS_bind (wpS_mono (wpS_forRange (I:=fun x c st'=>c=(none,x)/\Ok a₀ p st') (Q:=fun c st'=>∃n,c=(none,n)/\1<=n/\n<=nrem/\Ok a₀ p st') ?_ ?_ ⟨rfl,okY⟩) ?_)
       ·rintro x c st' hx1 hx2 ⟨rfl,ok'⟩
        refine wpS_bind (av_ ok' h0 (by omega) (by omega) fun r=>?_)
        cases r with
        | true=>exact wpS_pure ⟨x,rfl,by omega,by omega,ok'⟩
        | false=>exact wpS_pure ⟨rfl,ok'⟩
       ·rintro c st' ⟨rfl,ok'⟩
        exact⟨_,rfl,by omega,by omega,ok'⟩
       ·rintro c st' ⟨n,rfl,hn1,hn2,ok'⟩
        exact wpS_pure (h n _ ok' hn1 hn2)
      ·rw[if_neg hq]
       refine wpS_bind (aY_ ok2 fun stY okY=>?_)
       refine wpS_bind (wpS_mono (wpS_forRange (I:=fun x c st'=>c=(none,x)/\Ok a₀ p st') (Q:=fun c st'=>∃n,c=(none,n)/\1<=n/\n<=nrem/\Ok a₀ p st') ?_ ?_ ⟨rfl,okY⟩) ?_)
       ·rintro x c st' hx1 hx2 ⟨rfl,ok'⟩
        refine wpS_bind (av_ ok' h0 (by omega) (by omega) fun r=>?_)
        cases r with
        | true=>exact wpS_pure ⟨x,rfl,by omega,by omega,ok'⟩
        | false=>exact wpS_pure ⟨rfl,ok'⟩
       ·rintro c st' ⟨rfl,ok'⟩
        exact⟨_,rfl,by omega,by omega,ok'⟩
       ·rintro c st' ⟨n,rfl,hn1,hn2,ok'⟩
        exact wpS_pure (h n _ ok' hn1 hn2)
   ·rw[if_neg hgt]
    refine wpS_bind (wpS_lift (wpAny_rule ⟨rfl,?_⟩))
    refine wpS_bind (wpS_mono (wpS_forRange (I:=fun x c st'=>(∃q,c=(none,x,q))/\Ok a₀ p st') (Q:=fun c st'=>∃m q,c=(none,m,q)/\1<=m/\m<=nrem/\Ok a₀ p st') ?_ ?_ ⟨⟨0,rfl⟩,ok'⟩) ?_)
    ·rintro x c st' hx1 hx2 ⟨⟨q,rfl⟩,ok'⟩
     dsimp only
     refine wpS_bind (av_ ok' h0 (by omega) (by omega) fun r=>?_)
     cases r with
     | true =>
      dsimp only
      by_cases hq:q>0
      ·rw[if_pos rfl,if_pos hq]
       exact wpS_bind (aY_ ok' fun st2 ok2=>wpS_pure ⟨⟨0,rfl⟩,ok2⟩)
      ·rw[if_pos rfl,if_neg hq]
       exact wpS_pure ⟨⟨0,rfl⟩,ok'⟩
     | false =>
      dsimp only
      rw[if_neg Bool.false_ne_true]
      refine wpS_bind (av_ ok' h0 (by omega) (by omega) fun r=>?_)
      cases r with
      | true=>exact wpS_pure ⟨x,q,rfl,by omega,by omega,ok'⟩
      | false=>exact wpS_pure ⟨⟨q+1,rfl⟩,ok'⟩
    ·rintro c st' ⟨⟨q,rfl⟩,ok'⟩
     exact⟨_,q,rfl,by omega,by omega,ok'⟩
    ·rintro c st' ⟨m,q,rfl,hm1,hm2,ok2⟩
     dsimp only
     by_cases hq:q>0
     ·rw[if_pos hq]
      refine wpS_bind (aY_ ok2 fun st3 ok3=>?_)
      refine wpS_bind (aY_ ok3 fun stY okY=>?_)
      refine wpS_bind (wpS_mono (wpS_forRange (I:=fun x c st'=>c=(none,x)/\Ok a₀ p st') (Q:=fun c st'=>∃n,c=(none,n)/\1<=n/\n<=nrem/\Ok a₀ p st') ?_ ?_ ⟨rfl,okY⟩) ?_)
      ·rintro x c st' hx1 hx2 ⟨rfl,ok'⟩
       refine wpS_bind (av_ ok' h0 (by omega) (by omega) fun r=>?_)
       cases r with
       | true=>exact wpS_pure ⟨x,rfl,by omega,by omega,ok'⟩
       | false=>exact wpS_pure ⟨rfl,ok'⟩
      ·rintro c st' ⟨rfl,ok'⟩
       exact⟨_,rfl,by omega,by omega,ok'⟩
      ·rintro c st' ⟨n,rfl,hn1,hn2,ok'⟩
       exact wpS_pure (h n _ ok' hn1 hn2)
     ·rw[if_neg hq]
      refine wpS_bind (aY_ ok2 fun stY okY=>?_)
      refine wpS_bind (wpS_mono (wpS_forRange (I:=fun x c st'=>c=(none,x)/\Ok a₀ p st') (Q:=fun c st'=>∃n,c=(none,n)/\1<=n/\n<=nrem/\Ok a₀ p st') ?_ ?_ ⟨rfl,okY⟩) ?_)
      ·rintro x c st' hx1 hx2 ⟨rfl,ok'⟩
       refine wpS_bind (av_ ok' h0 (by omega) (by omega) fun r=>?_)
       cases r with
       | true=>exact wpS_pure ⟨x,rfl,by omega,by omega,ok'⟩
       | false=>exact wpS_pure ⟨rfl,ok'⟩
      ·rintro c st' ⟨rfl,ok'⟩
       exact⟨_,rfl,by omega,by omega,ok'⟩
      ·rintro c st' ⟨n,rfl,hn1,hn2,ok'⟩
       exact wpS_pure (h n _ ok' hn1 hn2)
theorem oA_{lo n ok:Nat}{Q:Bool->SortSt->Prop}(h0:IntKeys a₀)(hn:lo+n<=a₀.size)(hB:Ok a₀ p st)(h:∀st',Ok a₀ p st'->Q true st'):wpS (model prog w) A E s (binarySort' lo n ok) Q st:=by
 rw[binarySort'_eq]
 refine wpS_bind (wpS_mono (wpS_forRange (I:=fun k c st'=>c=(none,())/\Ok a₀ p st') (Q:=fun c st'=>c=(none,())/\Ok a₀ p st') ?step (fun _ _ z=>z) ⟨rfl,hB⟩) ?post)
 case post =>
  rintro c st' ⟨rfl,ok'⟩
  exact wpS_pure (h _ ok')
 case step =>
  rintro k c st' hk1 hk2 ⟨rfl,ok'⟩
  dsimp only
  refine wpS_bind (wpS_mono (wpS_forRange (I:=fun _ c st2=>(∃l r,c=(none,l,r)/\r<=k)/\Ok a₀ p st2) (Q:=fun c st2=>(∃l r,c=(none,l,r)/\r<=k)/\Ok a₀ p st2) ?_ (fun _ _ z=>z) ⟨⟨0,k,rfl,Nat.le_refl _⟩,ok'⟩) ?_)
  ·rintro x c st2 _ _ ⟨⟨l,r,rfl,hr⟩,ok2⟩
   dsimp only
   by_cases hlr:l>=r
   ·rw[if_pos hlr]
    exact wpS_pure ⟨⟨l,r,rfl,hr⟩,ok2⟩
   ·rw[if_neg hlr]
    refine wpS_bind (av_ ok2 h0 (by omega) (by omega) fun less=>?_)
    cases less with
    | true=>exact wpS_pure ⟨⟨l,(l+r) / 2,rfl,by omega⟩,ok2⟩
    | false=>exact wpS_pure ⟨⟨(l+r) / 2+1,r,rfl,hr⟩,ok2⟩
  ·rintro c st2 ⟨⟨l,r,rfl,hr⟩,ok2⟩
   dsimp only
   exact wpS_bind (mR_ ok2 fun st3 ok3=>wpS_pure ⟨rfl,ok3⟩)
end
end Srt
namespace Srt
open PySem PyProof.Rows
def me_:Bool->Keyed->Array Keyed->Nat->Nat->Nat->StateT SortSt Sem (Option Nat):=sortPriv% PySem.Builtin.gallop
section
variable{prog:Program}{w:World}{A:Around}{E:Value->Shared->Prop}{s:Shared}{st:SortSt}
theorem aN_{left:Bool}{key:Keyed}{arr:Array Keyed}{i:Nat}{Q:Option Bool->SortSt->Prop}(hk:kindOf st=oneType')(h0:IntKeys arr)(hkey:IntK key)(hi:i<arr.size)(h:∀r,Q (some r) st) :
  wpS (model prog w) A E s (elem' arr i>>=fun x=>if left=true then lt' x key else lt' key x>>=fun r=>pure (Option.map (fun x=>!x) r)) Q st:=by
 refine wpS_bind (u_ hi ?_)
 cases left with
 | true=>exact fQ_ hk (aa_ h0 hi) hkey h
 | false=>exact wpS_bind (fQ_ hk hkey (aa_ h0 hi) fun r=>wpS_pure (h _))
theorem ag_{left:Bool}{key:Keyed}{arr:Array Keyed}{base n hint:Nat}{Q:Option Nat->SortSt->Prop}(hk:kindOf st=oneType')(h0:IntKeys arr)(hkey:IntK key)(hb:base+n<=arr.size)(hh:hint<n)
  (h:∀k,k<=n->Q (some k) st):wpS (model prog w) A E s (me_ left key arr base n hint) Q st:=by
 unfold me_
 show wpS _ _ _ _ (_>>=_) _ _
 dsimp only
 refine wpS_bind (aN_ hk h0 hkey (by omega) fun right=>?_)
 cases right with
 | true =>
  dsimp only
  rw[if_pos rfl]
  refine wpS_bind (wpS_mono (wpS_forRange (I:=fun _ c st2=>(∃l r,c=(none,l,r))/\st=st2) (Q:=fun c st2=>(∃l r,c=(none,l,r))/\st=st2) ?_ (fun _ _ z=>z) ⟨⟨_,_,rfl⟩,rfl⟩) ?_)
  ·rintro x c st2 _ _ ⟨⟨l,r,rfl⟩,rfl⟩
   dsimp only
   by_cases hlr:r>=n-hint
   ·rw[if_pos hlr]
    exact wpS_pure ⟨⟨l,r,rfl⟩,rfl⟩
   ·rw[if_neg hlr]
    refine wpS_bind (aN_ hk h0 hkey (by omega) fun more=>?_)
    cases more with
    | true=>exact wpS_pure ⟨⟨_,_,rfl⟩,rfl⟩
    | false=>exact wpS_pure ⟨⟨_,_,rfl⟩,rfl⟩
  ·rintro c st2 ⟨⟨l,r,rfl⟩,rfl⟩
   dsimp only
   refine wpS_bind (wpS_mono (wpS_forRange (I:=fun _ c st2=>(∃l r,c=(none,l,r)/\r<=n)/\st=st2) (Q:=fun c st2=>(∃l r,c=(none,l,r)/\r<=n)/\st=st2) ?_ (fun _ _ z=>z) ⟨⟨_,_,rfl,by omega⟩,rfl⟩) ?_)
   ·rintro x c st2 _ _ ⟨⟨l,r,rfl,hr⟩,rfl⟩
    dsimp only
    by_cases hlr:l>=r
    ·rw[if_pos hlr]
     exact wpS_pure ⟨⟨l,r,rfl,hr⟩,rfl⟩
    ·rw[if_neg hlr]
     refine wpS_bind (aN_ hk h0 hkey (by omega) fun more=>?_)
     cases more with
     | true=>exact wpS_pure ⟨⟨l+(r-l) / 2+1,r,rfl,hr⟩,rfl⟩
     | false=>exact wpS_pure ⟨⟨l,l+(r-l) / 2,rfl,by omega⟩,rfl⟩
   ·rintro c st2 ⟨⟨l,r,rfl,hr⟩,rfl⟩
    exact wpS_pure (h _ hr)
 | false =>
  dsimp only
  rw[if_neg Bool.false_ne_true]
  refine wpS_bind (wpS_mono (wpS_forRange (I:=fun _ c st2=>(∃l r,c=(none,l,r))/\st=st2) (Q:=fun c st2=>(∃l r,c=(none,l,r))/\st=st2) ?_ (fun _ _ z=>z) ⟨⟨_,_,rfl⟩,rfl⟩) ?_)
  ·rintro x c st2 _ _ ⟨⟨l,r,rfl⟩,rfl⟩
   dsimp only
   by_cases hlr:r>=hint+1
   ·rw[if_pos hlr]
    exact wpS_pure ⟨⟨l,r,rfl⟩,rfl⟩
   ·rw[if_neg hlr]
    refine wpS_bind (aN_ hk h0 hkey (by omega) fun more=>?_)
    cases more with
    | true=>exact wpS_pure ⟨⟨_,_,rfl⟩,rfl⟩
    | false=>exact wpS_pure ⟨⟨_,_,rfl⟩,rfl⟩
  ·rintro c st2 ⟨⟨l,r,rfl⟩,rfl⟩
   dsimp only
   refine wpS_bind (wpS_mono (wpS_forRange (I:=fun _ c st2=>(∃l r,c=(none,l,r)/\r<=n)/\st=st2) (Q:=fun c st2=>(∃l r,c=(none,l,r)/\r<=n)/\st=st2) ?_ (fun _ _ z=>z) ⟨⟨_,_,rfl,by omega⟩,rfl⟩) ?_)
   ·rintro x c st2 _ _ ⟨⟨l,r,rfl,hr⟩,rfl⟩
    dsimp only
    by_cases hlr:l>=r
    ·rw[if_pos hlr]
     exact wpS_pure ⟨⟨l,r,rfl,hr⟩,rfl⟩
    ·rw[if_neg hlr]
     refine wpS_bind (aN_ hk h0 hkey (by omega) fun more=>?_)
     cases more with
     | true=>exact wpS_pure ⟨⟨l+(r-l) / 2+1,r,rfl,hr⟩,rfl⟩
     | false=>exact wpS_pure ⟨⟨l,l+(r-l) / 2,rfl,by omega⟩,rfl⟩
   ·rintro c st2 ⟨⟨l,r,rfl,hr⟩,rfl⟩
    exact wpS_pure (h _ hr)
end
end Srt
namespace Srt
open PySem PyProof.Rows
theorem addA{α:Type}{o A B X:List α}(h:o.Perm (A++B)):(o++X).Perm ((A++X)++B):=by
 refine(h.append_right X).trans ?_
 rw[List.append_assoc,List.append_assoc]
 exact List.perm_append_comm.append_left A
theorem addB{α:Type}{o A B X:List α}(h:o.Perm (A++B)):(o++X).Perm (A++(B++X)):=by
 rw[<-List.append_assoc]
 exact h.append_right X
abbrev Outs(a b:Array Keyed)(o:Array Keyed)(i j:Nat):Prop:=o.toList.Perm (a.toList.take i++b.toList.take j)
section
variable{a b o:Array Keyed}{i j k:Nat}
theorem bj_(a:Array Keyed)(i k:Nat):(a.extract i (i+k)).toList=(a.toList.drop i).take k:=by
 rw[Array.toList_extract,List.extract_eq_take_drop,Nat.add_sub_cancel_left]
theorem fM_(a:Array Keyed)(i:Nat):(a.extract i a.size).toList=a.toList.drop i:=by
 rw[Array.toList_extract,List.extract_eq_take_drop]
 exact List.take_of_length_le (by simp)
theorem Outs.pushA(h:Outs a b o i j)(hi:i<a.size):Outs a b (o.push a[i]) (i+1) j:=by
 unfold Outs at h⊢
 rw[Array.toList_push,List.take_add_one,show a.toList[i]?=some a[i] by simp[hi]]
 exact addA h
theorem Outs.pushB(h:Outs a b o i j)(hj:j<b.size):Outs a b (o.push b[j]) i (j+1):=by
 unfold Outs at h⊢
 rw[Array.toList_push,List.take_add_one,show b.toList[j]?=some b[j] by simp[hj]]
 exact addB h
theorem Outs.extA(h:Outs a b o i j)(k:Nat):Outs a b (o++a.extract i (i+k)) (i+k) j:=by
 unfold Outs at h⊢
 rw[Array.toList_append,bj_,List.take_add]
 exact addA h
theorem Outs.extB(h:Outs a b o i j)(k:Nat):Outs a b (o++b.extract j (j+k)) i (j+k):=by
 unfold Outs at h⊢
 rw[Array.toList_append,bj_,List.take_add]
 exact addB h
theorem Outs.done(h:Outs a b o i j):(o++a.extract i a.size++b.extract j b.size).toList.Perm (a.toList++b.toList):=by
 unfold Outs at h
 rw[Array.toList_append,Array.toList_append,fM_,fM_]
 have:=addB (X:=b.toList.drop j) (addA (X:=a.toList.drop i) h)
 rwa [List.take_append_drop,List.take_append_drop] at this
theorem Outs.last(h:Outs a b o i j):(o++b.extract j b.size++a.extract i a.size).toList.Perm (a.toList++b.toList):=by
 unfold Outs at h
 rw[Array.toList_append,Array.toList_append,fM_,fM_]
 have:=addA (X:=a.toList.drop i) (addB (X:=b.toList.drop j) h)
 rwa [List.take_append_drop,List.take_append_drop] at this
end
end Srt
namespace Srt
open PySem PyProof.Rows
def kL_:Nat->StateT SortSt Sem Unit:=sortPriv% PySem.Builtin.setMinGallop
def jh_:Array Keyed->Array Keyed->StateT SortSt Sem (Array Keyed):=sortPriv% PySem.Builtin.mergeLo
abbrev Still(a₀:Array Keyed)(p:Array (Nat×Nat×Nat))(x:Array Keyed)(st:SortSt):Prop:=Ok a₀ p st/\arrOf st=x
section
variable{prog:Program}{w:World}{A:Around}{E:Value->Shared->Prop}{s:Shared}{st:SortSt}{a₀ x₀:Array Keyed}{p:Array (Nat×Nat×Nat)}
theorem bC_{g:Nat}{Q:Unit->SortSt->Prop}(ok:Still a₀ p x₀ st)(h:∀st',Still a₀ p x₀ st'->Q () st'):wpS (model prog w) A E s (kL_ g) Q st:=by
 unfold kL_
 exact wpS_modify (h _ ⟨⟨ok.1.perm,ok.1.kind,ok.1.failed,ok.1.pend⟩,ok.2⟩)
abbrev LoOn(a b:Array Keyed)(m:Nat)(o:Array Keyed)(i j:Nat):Prop:=Outs a b o i j/\i+1<a.size/\j<b.size/\m<=i+j
theorem nbeq{a b:Nat}(h:¬ a=b):¬ (a==b)=true:=fun z=>h (beq_iff_eq.mp z)
theorem R_{α:Type}{x y:Nat}{a b:StateT SortSt Sem α}{Q:α->SortSt->Prop}(h1:x=y->wpS (model prog w) A E s a Q st)(h2:¬ x=y->wpS (model prog w) A E s b Q st):wpS (model prog w) A E s (if (x==y)=true then a else b) Q st:=by
 by_cases h:x=y
 ·rw[if_pos (beq_iff_eq.mpr h)];exact h1 h
 ·rw[if_neg (nbeq h)];exact h2 h
theorem bZ_{α:Type}{c:Prop}[Decidable c]{a b:StateT SortSt Sem α}{Q:α->SortSt->Prop}(h1:c->wpS (model prog w) A E s a Q st)(h2:¬ c->wpS (model prog w) A E s b Q st):wpS (model prog w) A E s (if c then a else b) Q st:=by
 by_cases h:c
 ·rw[if_pos h];exact h1 h
 ·rw[if_neg h];exact h2 h
theorem via1{T:Nat->Prop}{G:Prop}(key:∀g',T g')(main:(∀g',T g')->G):G:=main key
theorem via3{T:Array Keyed->Nat->Nat->Prop}{G:Prop}(P:Array Keyed->Nat->Prop)(key:∀o i k,P o i->T o i k)(main:(∀o i k,P o i->T o i k)->G):G:=main key
theorem hb_{a b:Array Keyed}{Q:Array Keyed->SortSt->Prop}(ok:Still a₀ p x₀ st)(ha:IntKeys a)(hb:IntKeys b)(ha1:1<=a.size)(hb1:1<=b.size)
  (h:∀o st',Still a₀ p x₀ st'->o.toList.Perm (a.toList++b.toList)->Q o st'):wpS (model prog w) A E s (jh_ a b) Q st:=by
 unfold jh_
 show wpS _ _ _ _ (_>>=_) _ _
 refine wpS_bind (wpS_lift (wpAny_rule ⟨rfl,?_⟩))
 refine wpS_bind (u_ (by lia) ?_)
 have o1:Outs a b #[b[0]] 0 1:=by
  have:Outs a b #[] 0 0:=by simp[Outs]
  exact this.pushB (by lia)
 refine R_ (fun h1=>wpS_pure (h _ _ ok o1.done)) (fun h1=>?_)
 refine R_ (fun h2=>wpS_pure (h _ _ ok o1.last)) (fun h2=>?_)
 refine wpS_bind (wpS_get ?_)
 refine wpS_bind (wpS_mono (wpS_forRange (I:=fun m c st'=>∃o i j g,c=(none,o,i,j,g)/\LoOn a b m o i j/\Still a₀ p x₀ st')
  (Q:=fun c st'=>∃r rest,c=(some r,rest)/\r.toList.Perm (a.toList++b.toList)/\Still a₀ p x₀ st') ?step ?fin ⟨_,_,_,_,rfl,⟨o1,by lia,by lia,by lia⟩,ok⟩) ?post)
 case fin =>
  rintro c st' ⟨o,i,j,g,rfl,⟨_,h3,h4,h5⟩,_⟩
  omega
 case post =>
  rintro c st' ⟨r,rest,rfl,hp,ok'⟩
  exact wpS_pure (h _ _ ok' hp)
 case step =>
  rintro m c st' _ hm ⟨o,i,j,g,rfl,on,ok'⟩
  refine wpS_bind (wpS_mono (wpS_forRange (I:=fun y c st2=>∃o i j ac bc,c=(none,o,i,j,ac,bc)/\LoOn a b (m+y) o i j/\Still a₀ p x₀ st2)
   (Q:=fun c st2=>(∃o i j ac bc,c=(none,o,i,j,ac,bc)/\LoOn a b (m+1) o i j/\Still a₀ p x₀ st2)\/∃r rest,c=(some r,rest)/\r.toList.Perm (a.toList++b.toList)/\Still a₀ p x₀ st2) ?step1 ?fin1 ⟨_,_,_,_,_,rfl,on,ok'⟩) ?post1)
  case fin1 =>
   rintro c st2 ⟨o,i,j,ac,bc,rfl,⟨q1,q2,q3,q4⟩,ok2⟩
   exact .inl ⟨_,_,_,_,_,rfl,⟨q1,q2,q3,by lia⟩,ok2⟩
  case step1 =>
   rintro y c st2 _ hy ⟨o,i,j,ac,bc,rfl,⟨q1,q2,q3,q4⟩,ok2⟩
   dsimp only
   refine wpS_bind (u_ (by lia) (wpS_bind (u_ (by lia) (wpS_bind (fQ_ ok2.1.kind (aa_ hb _) (aa_ ha _) fun r=>?_)))))
   cases r with
   | true =>
    dsimp only
    rw[if_pos rfl]
    refine wpS_bind (u_ (by lia) ?_)
    refine R_ (fun hz=>wpS_pure (.inr ⟨_,_,rfl,(q1.pushB (by lia)).done,ok2⟩)) (fun hz=>?_)
    split
    ·exact wpS_pure (.inl ⟨_,_,_,_,_,rfl,⟨q1.pushB (by lia),by lia,by lia,by lia⟩,ok2⟩)
    ·exact wpS_pure ⟨_,_,_,_,_,rfl,⟨q1.pushB (by lia),by lia,by lia,by lia⟩,ok2⟩
   | false =>
    dsimp only
    rw[if_neg Bool.false_ne_true]
    refine wpS_bind (u_ (by lia) ?_)
    refine R_ (fun hz=>wpS_pure (.inr ⟨_,_,rfl,(q1.pushA (by lia)).last,ok2⟩)) (fun hz=>?_)
    split
    ·exact wpS_pure (.inl ⟨_,_,_,_,_,rfl,⟨q1.pushA (by lia),by lia,by lia,by lia⟩,ok2⟩)
    ·exact wpS_pure ⟨_,_,_,_,_,rfl,⟨q1.pushA (by lia),by lia,by lia,by lia⟩,ok2⟩
  case post1 =>
   rintro c st2 (⟨o,i,j,ac,bc,rfl,on2,ok2⟩ | ⟨r,rest,rfl,hp,ok2⟩)
   ·dsimp only
    refine wpS_bind (wpS_lift (wpAny_rule ⟨rfl,?_⟩))
    refine wpS_bind (wpS_mono (wpS_forRange (I:=fun _ c st3=>∃o i j g ac bc,c=(none,o,i,j,g,ac,bc)/\LoOn a b (m+1) o i j/\Still a₀ p x₀ st3)
     (Q:=fun c st3=>(∃o i j g ac bc,c=(none,o,i,j,g,ac,bc)/\LoOn a b (m+1) o i j/\Still a₀ p x₀ st3)\/∃r rest,c=(some r,rest)/\r.toList.Perm (a.toList++b.toList)/\Still a₀ p x₀ st3) ?step2 (fun _ _ z=>.inl z) ⟨_,_,_,_,_,_,rfl,on2,ok2⟩) ?post2)
    case post2 =>
     rintro c st3 (⟨o,i,j,g,ac,bc,rfl,on3,ok3⟩ | ⟨r,⟨o,i,j,g,ac,bc⟩,rfl,hp,ok3⟩)
     ·dsimp only
      exact wpS_bind (bC_ ok3 fun st4 ok4=>wpS_pure ⟨_,_,_,_,rfl,on3,ok4⟩)
     ·exact wpS_pure ⟨_,_,rfl,hp,ok3⟩
    case step2 =>
     rintro y c st3 _ _ ⟨o,i,j,g,ac,bc,rfl,⟨q1,q2,q3,q4⟩,ok3⟩
     dsimp only
     refine via1 (T:=?T1) ?key1 ?main1
     case main1 =>
      intro key
      refine bZ_ (fun hg=>?_) (fun hg=>?_)
      ·generalize g-1=g'
       exact key g'
      ·with_reducible exact key g
     case key1 =>
      intro g'
      refine wpS_bind (bC_ ok3 fun st4 ok4=>?_)
      refine wpS_bind (u_ (by lia) ?_)
      refine wpS_bind (ag_ ok4.1.kind ha (aa_ hb _) (by lia) (by lia) fun k hk=>?_)
      refine bZ_ (fun hk0=>?_) (fun hk0=>?_)
      ·skip
       refine R_ (fun hz=>wpS_pure (.inr ⟨_,_,rfl,(q1.extA k).last,ok4⟩)) (fun hz=>?_)
       refine R_ (fun hz2=>wpS_pure (.inr ⟨_,_,rfl,(q1.extA k).done,ok4⟩)) (fun hz2=>?_)
       refine wpS_bind (u_ (by lia) ?_)
       refine R_ (fun hy=>wpS_pure (.inr ⟨_,_,rfl,(Outs.pushB (q1.extA k) (by lia)).done,ok4⟩)) (fun hy=>?_)
       refine wpS_bind (u_ (by lia) ?_)
       refine wpS_bind (ag_ ok4.1.kind hb (aa_ ha _) (by lia) (by lia) fun k1 hk1=>?_)
       refine bZ_ (fun hk2=>?_) (fun hk2=>?_)
       ·skip
        refine R_ (fun hy2=>wpS_pure (.inr ⟨_,_,rfl,((Outs.pushB (q1.extA k) (by lia)).extB k1).done,ok4⟩)) (fun hy2=>?_)
        refine wpS_bind (u_ (by lia) ?_)
        split
        ·exact wpS_pure (.inr ⟨_,_,rfl,(Outs.pushA ((Outs.pushB (q1.extA k) (by lia)).extB k1) (by lia)).last,ok4⟩)
        ·split
         ·exact wpS_pure (.inl ⟨_,_,_,_,_,_,rfl,⟨Outs.pushA ((Outs.pushB (q1.extA k) (by lia)).extB k1) (by lia),by lia,by lia,by lia⟩,ok4⟩)
         ·exact wpS_pure ⟨_,_,_,_,_,_,rfl,⟨Outs.pushA ((Outs.pushB (q1.extA k) (by lia)).extB k1) (by lia),by lia,by lia,by lia⟩,ok4⟩
       ·skip
        refine wpS_bind (u_ (by lia) ?_)
        split
        ·exact wpS_pure (.inr ⟨_,_,rfl,(Outs.pushA (Outs.pushB (q1.extA k) (by lia)) (by lia)).last,ok4⟩)
        ·split
         ·exact wpS_pure (.inl ⟨_,_,_,_,_,_,rfl,⟨Outs.pushA (Outs.pushB (q1.extA k) (by lia)) (by lia),by lia,by lia,by lia⟩,ok4⟩)
         ·exact wpS_pure ⟨_,_,_,_,_,_,rfl,⟨Outs.pushA (Outs.pushB (q1.extA k) (by lia)) (by lia),by lia,by lia,by lia⟩,ok4⟩
      ·skip
       refine wpS_bind (u_ (by lia) ?_)
       refine R_ (fun hy=>wpS_pure (.inr ⟨_,_,rfl,(Outs.pushB q1 (by lia)).done,ok4⟩)) (fun hy=>?_)
       refine wpS_bind (u_ (by lia) ?_)
       refine wpS_bind (ag_ ok4.1.kind hb (aa_ ha _) (by lia) (by lia) fun k1 hk1=>?_)
       refine bZ_ (fun hk2=>?_) (fun hk2=>?_)
       ·skip
        refine R_ (fun hy2=>wpS_pure (.inr ⟨_,_,rfl,((Outs.pushB q1 (by lia)).extB k1).done,ok4⟩)) (fun hy2=>?_)
        refine wpS_bind (u_ (by lia) ?_)
        split
        ·exact wpS_pure (.inr ⟨_,_,rfl,(Outs.pushA ((Outs.pushB q1 (by lia)).extB k1) (by lia)).last,ok4⟩)
        ·split
         ·exact wpS_pure (.inl ⟨_,_,_,_,_,_,rfl,⟨Outs.pushA ((Outs.pushB q1 (by lia)).extB k1) (by lia),by lia,by lia,by lia⟩,ok4⟩)
         ·exact wpS_pure ⟨_,_,_,_,_,_,rfl,⟨Outs.pushA ((Outs.pushB q1 (by lia)).extB k1) (by lia),by lia,by lia,by lia⟩,ok4⟩
       ·skip
        refine wpS_bind (u_ (by lia) ?_)
        split
        ·exact wpS_pure (.inr ⟨_,_,rfl,(Outs.pushA (Outs.pushB q1 (by lia)) (by lia)).last,ok4⟩)
        ·split
         ·exact wpS_pure (.inl ⟨_,_,_,_,_,_,rfl,⟨Outs.pushA (Outs.pushB q1 (by lia)) (by lia),by lia,by lia,by lia⟩,ok4⟩)
         ·exact wpS_pure ⟨_,_,_,_,_,_,rfl,⟨Outs.pushA (Outs.pushB q1 (by lia)) (by lia),by lia,by lia,by lia⟩,ok4⟩
   ·obtain⟨o,i,j,ac,bc⟩:=rest
    exact wpS_pure ⟨_,_,rfl,hp,ok2⟩
end
end Srt
namespace Srt
open PySem PyProof.Rows
def jj_:Array Keyed->Array Keyed->StateT SortSt Sem (Array Keyed):=sortPriv% PySem.Builtin.mergeHi
abbrev Behind(a b:Array Keyed)(o:Array Keyed)(i j:Nat):Prop:=o.toList.Perm (a.toList.drop i++b.toList.drop j)
section
variable{a b o:Array Keyed}{i j k:Nat}
theorem putA{α:Type}{o A B X:List α}(h:o.Perm (A++B)):(o++X).Perm ((X++A)++B):=by
 refine List.perm_append_comm.trans ?_
 rw[List.append_assoc]
 exact h.append_left X
theorem putB{α:Type}{o A B X:List α}(h:o.Perm (A++B)):(o++X).Perm (A++(X++B)):=by
 refine(h.append_right X).trans ?_
 rw[List.append_assoc]
 exact List.perm_append_comm.append_left A
theorem mj_(a:Array Keyed){k i:Nat}(h:k<=i):a.toList.drop k=(a.extract k i).toList++a.toList.drop i:=by
 obtain⟨d,rfl⟩:∃d,i=k+d:=⟨i-k,by lia⟩
 rw[bj_,<-List.drop_drop,List.take_append_drop]
theorem fL_(a:Array Keyed)(i:Nat):(a.extract 0 i).toList=a.toList.take i:=by
 have:=bj_ a 0 i
 rwa [Nat.zero_add] at this
theorem gL_(a:Array Keyed)(h0:1<=i)(hi:i<=a.size):a.toList.drop (i-1)=a[i-1]::a.toList.drop i:=by
 rw[List.drop_eq_getElem_cons (by simp;omega),show i-1+1=i by lia]
 simp
theorem Behind.pushA(h:Behind a b o i j)(h0:1<=i)(hi:i<=a.size):Behind a b (o.push a[i-1]) (i-1) j:=by
 unfold Behind at h⊢
 rw[Array.toList_push,gL_ a h0 hi]
 exact putA (X:=[a[i-1]]) h
theorem Behind.pushB(h:Behind a b o i j)(h0:1<=j)(hj:j<=b.size):Behind a b (o.push b[j-1]) i (j-1):=by
 unfold Behind at h⊢
 rw[Array.toList_push,gL_ b h0 hj]
 exact putB (X:=[b[j-1]]) h
theorem Behind.extA(h:Behind a b o i j)(hk:k<=i):Behind a b (o++(a.extract k i).reverse) k j:=by
 unfold Behind at h⊢
 rw[Array.toList_append,Array.toList_reverse,mj_ a hk]
 exact((List.reverse_perm _).append_left _).trans (putA h)
theorem Behind.extB(h:Behind a b o i j)(hk:k<=j):Behind a b (o++(b.extract k j).reverse) i k:=by
 unfold Behind at h⊢
 rw[Array.toList_append,Array.toList_reverse,mj_ b hk]
 exact((List.reverse_perm _).append_left _).trans (putB h)
theorem or_{α:Type}(A B:List α){o:List α}(h:o.Perm (A.drop i++B.drop j)):(A.take i++B.take j++o).Perm (A++B):=by
 refine(h.append_left _).trans ?_
 have:(A.take i++B.take j++(A.drop i++B.drop j)).Perm ((A.take i++A.drop i)++(B.take j++B.drop j)):=by
  rw[List.append_assoc,List.append_assoc]
  refine List.Perm.append_left _ ?_
  rw[<-List.append_assoc,<-List.append_assoc]
  exact List.perm_append_comm.append_right _
 rwa [List.take_append_drop,List.take_append_drop] at this
theorem Behind.done(h:Behind a b o i j):(a.extract 0 i++b.extract 0 j++o.reverse).toList.Perm (a.toList++b.toList):=by
 unfold Behind at h
 rw[Array.toList_append,Array.toList_append,fL_,fL_,Array.toList_reverse]
 exact or_ _ _ ((List.reverse_perm _).trans h)
theorem Behind.first(h:Behind a b o i j):(b.extract 0 j++a.extract 0 i++o.reverse).toList.Perm (a.toList++b.toList):=by
 unfold Behind at h
 rw[Array.toList_append,Array.toList_append,fL_,fL_,Array.toList_reverse]
 exact(List.perm_append_comm.append_right _).trans (or_ _ _ ((List.reverse_perm _).trans h))
end
section
variable{prog:Program}{w:World}{A:Around}{E:Value->Shared->Prop}{s:Shared}{st:SortSt}{a₀ x₀:Array Keyed}{p:Array (Nat×Nat×Nat)}
abbrev HiOn(a b:Array Keyed)(m:Nat)(o:Array Keyed)(i j:Nat):Prop:=Behind a b o i j/\(1<=i/\i<=a.size)/\(2<=j/\j<=b.size)/\m+i+j<=a.size+b.size
theorem hc_{a b:Array Keyed}{Q:Array Keyed->SortSt->Prop}(ok:Still a₀ p x₀ st)(ha:IntKeys a)(hb:IntKeys b)(ha1:1<=a.size)(hb1:1<=b.size)
  (h:∀o st',Still a₀ p x₀ st'->o.toList.Perm (a.toList++b.toList)->Q o st'):wpS (model prog w) A E s (jj_ a b) Q st:=by
 unfold jj_
 show wpS _ _ _ _ (_>>=_) _ _
 refine wpS_bind (wpS_lift (wpAny_rule ⟨rfl,?_⟩))
 refine wpS_bind (u_ (by lia) ?_)
 have o1:Behind a b #[a[a.size-1]] (a.size-1) b.size:=by
  have:Behind a b #[] a.size b.size:=by simp[Behind]
  exact this.pushA (by lia) (by lia)
 refine R_ (fun h1=>wpS_pure (h _ _ ok o1.done)) (fun h1=>?_)
 refine R_ (fun h2=>wpS_pure (h _ _ ok o1.first)) (fun h2=>?_)
 refine wpS_bind (wpS_get ?_)
 refine wpS_bind (wpS_mono (wpS_forRange (I:=fun m c st'=>∃i j o g,c=(none,i,j,o,g)/\HiOn a b m o i j/\Still a₀ p x₀ st')
  (Q:=fun c st'=>∃r rest,c=(some r,rest)/\r.toList.Perm (a.toList++b.toList)/\Still a₀ p x₀ st') ?step ?fin ⟨_,_,_,_,rfl,⟨o1,by lia,by lia,by lia⟩,ok⟩) ?post)
 case fin =>
  rintro c st' ⟨i,j,o,g,rfl,⟨_,h3,h4,h5⟩,_⟩
  omega
 case post =>
  rintro c st' ⟨r,rest,rfl,hp,ok'⟩
  exact wpS_pure (h _ _ ok' hp)
 case step =>
  rintro m c st' _ hm ⟨i,j,o,g,rfl,on,ok'⟩
  refine wpS_bind (wpS_mono (wpS_forRange (I:=fun y c st2=>∃i j o ac bc,c=(none,i,j,o,ac,bc)/\HiOn a b (m+y) o i j/\Still a₀ p x₀ st2)
   (Q:=fun c st2=>(∃i j o ac bc,c=(none,i,j,o,ac,bc)/\HiOn a b (m+1) o i j/\Still a₀ p x₀ st2)\/∃r rest,c=(some r,rest)/\r.toList.Perm (a.toList++b.toList)/\Still a₀ p x₀ st2) ?step1 ?fin1 ⟨_,_,_,_,_,rfl,on,ok'⟩) ?post1)
  case fin1 =>
   rintro c st2 ⟨i,j,o,ac,bc,rfl,⟨q1,q2,q3,q4⟩,ok2⟩
   exact .inl ⟨_,_,_,_,_,rfl,⟨q1,q2,q3,by lia⟩,ok2⟩
  case step1 =>
   rintro y c st2 _ hy ⟨i,j,o,ac,bc,rfl,⟨q1,q2,q3,q4⟩,ok2⟩
   dsimp only
   refine wpS_bind (u_ (by lia) (wpS_bind (u_ (by lia) (wpS_bind (fQ_ ok2.1.kind (aa_ hb _) (aa_ ha _) fun r=>?_)))))
   cases r with
   | true =>
    dsimp only
    rw[if_pos rfl]
    refine wpS_bind (u_ (by lia) ?_)
    refine R_ (fun hz=>wpS_pure (.inr ⟨_,_,rfl,(q1.pushA (by lia) (by lia)).done,ok2⟩)) (fun hz=>?_)
    split
    ·exact wpS_pure (.inl ⟨_,_,_,_,_,rfl,⟨q1.pushA (by lia) (by lia),by lia,by lia,by lia⟩,ok2⟩)
    ·exact wpS_pure ⟨_,_,_,_,_,rfl,⟨q1.pushA (by lia) (by lia),by lia,by lia,by lia⟩,ok2⟩
   | false =>
    dsimp only
    rw[if_neg Bool.false_ne_true]
    refine wpS_bind (u_ (by lia) ?_)
    refine R_ (fun hz=>wpS_pure (.inr ⟨_,_,rfl,(q1.pushB (by lia) (by lia)).first,ok2⟩)) (fun hz=>?_)
    split
    ·exact wpS_pure (.inl ⟨_,_,_,_,_,rfl,⟨q1.pushB (by lia) (by lia),by lia,by lia,by lia⟩,ok2⟩)
    ·exact wpS_pure ⟨_,_,_,_,_,rfl,⟨q1.pushB (by lia) (by lia),by lia,by lia,by lia⟩,ok2⟩
  case post1 =>
   rintro c st2 (⟨i,j,o,ac,bc,rfl,on2,ok2⟩ | ⟨r,rest,rfl,hp,ok2⟩)
   ·dsimp only
    refine wpS_bind (wpS_lift (wpAny_rule ⟨rfl,?_⟩))
    refine wpS_bind (wpS_mono (wpS_forRange (I:=fun _ c st3=>∃i j o g ac bc,c=(none,i,j,o,g,ac,bc)/\HiOn a b (m+1) o i j/\Still a₀ p x₀ st3)
     (Q:=fun c st3=>(∃i j o g ac bc,c=(none,i,j,o,g,ac,bc)/\HiOn a b (m+1) o i j/\Still a₀ p x₀ st3)\/∃r rest,c=(some r,rest)/\r.toList.Perm (a.toList++b.toList)/\Still a₀ p x₀ st3) ?step2 (fun _ _ z=>.inl z) ⟨_,_,_,_,_,_,rfl,on2,ok2⟩) ?post2)
    case post2 =>
     rintro c st3 (⟨i,j,o,g,ac,bc,rfl,on3,ok3⟩ | ⟨r,⟨i,j,o,g,ac,bc⟩,rfl,hp,ok3⟩)
     ·dsimp only
      exact wpS_bind (bC_ ok3 fun st4 ok4=>wpS_pure ⟨_,_,_,_,rfl,on3,ok4⟩)
     ·exact wpS_pure ⟨_,_,rfl,hp,ok3⟩
    case step2 =>
     rintro y c st3 _ _ ⟨i,j,o,g,ac,bc,rfl,⟨q1,q2,q3,q4⟩,ok3⟩
     dsimp only
     refine via1 (T:=?T1) ?key1 ?main1
     case main1 =>
      intro key
      refine bZ_ (fun hg=>?_) (fun hg=>?_)
      ·generalize g-1=g'
       exact key g'
      ·with_reducible exact key g
     case key1 =>
      intro g'
      refine wpS_bind (bC_ ok3 fun st4 ok4=>?_)
      refine wpS_bind (u_ (by lia) ?_)
      refine wpS_bind (ag_ ok4.1.kind ha (aa_ hb _) (by lia) (by lia) fun k hk=>?_)
      refine via3 (T:=?T2) (fun o2 i2=>Behind a b o2 i2 j/\1<=i2/\i2<=a.size/\m+1+i2+j<=a.size+b.size) ?key2 ?main2
      case main2 =>
       intro key
       refine bZ_ (fun hk0=>?_) (fun hk0=>?_)
       ·skip
        have x1:Behind a b (o++(a.extract k i).reverse) k j:=Behind.extA (k:=k) q1 (by lia)
        refine R_ (fun hz=>wpS_pure (.inr ⟨_,_,rfl,x1.done,ok4⟩)) (fun hz=>?_)
        have pk:1<=k/\k<=a.size/\m+1+k+j<=a.size+b.size:=by lia
        clear hz hk0
        generalize o++(a.extract k i).reverse=o2 at x1⊢
        generalize i-k=ka
        generalize k=i2 at x1 pk⊢
        exact key o2 i2 ka ⟨x1,pk⟩
       ·with_reducible exact key o i (i-k) ⟨q1,q2.1,q2.2,q4⟩
      case key2 =>
       rintro o2 i2 ka ⟨r1,r2,hi2,hmm⟩
       clear q1 q2 q4 hk
       refine wpS_bind (u_ (by lia) ?_)
       have y1:=r1.pushB (by lia) q3.2
       refine R_ (fun hy=>wpS_pure (.inr ⟨_,_,rfl,y1.first,ok4⟩)) (fun hy=>?_)
       have hj2:2<=j-1/\j-1<=b.size/\m+1+i2+(j-1)<=a.size+b.size:=by lia
       generalize o2.push b[j-1]=o3 at y1⊢
       clear r1 hy hmm q3
       generalize j-1=j2 at y1 hj2⊢
       refine wpS_bind (u_ (by lia) ?_)
       refine wpS_bind (ag_ ok4.1.kind hb (aa_ ha _) (by lia) (by lia) fun k1 hk1=>?_)
       refine via3 (T:=?T3) (fun o5 j5=>Behind a b o5 i2 j5/\2<=j5/\j5<=b.size/\m+1+i2+j5<=a.size+b.size) ?key3 ?main3
       case main3 =>
        intro key
        refine bZ_ (fun hk2=>?_) (fun hk2=>?_)
        ·skip
         have z1:=Behind.extB (k:=k1) y1 (by lia)
         refine R_ (fun hy2=>wpS_pure (.inr ⟨_,_,rfl,z1.first,ok4⟩)) (fun hy2=>?_)
         refine R_ (fun hy3=>wpS_pure (.inr ⟨_,_,rfl,z1.done,ok4⟩)) (fun hy3=>?_)
         have pt:2<=k1/\k1<=b.size/\m+1+i2+k1<=a.size+b.size:=by lia
         clear hy2 hy3 hk2
         generalize o3++(b.extract k1 j2).reverse=o5 at z1⊢
         generalize j2-k1=kb
         generalize k1=j5 at z1 pt⊢
         exact key o5 j5 kb ⟨z1,pt⟩
        ·with_reducible exact key o3 j2 (j2-k1) ⟨y1,hj2⟩
       case key3 =>
        rintro o5 j5 kb ⟨t1,t2,t3,t4⟩
        refine wpS_bind (u_ (by lia) ?_)
        have u1:=t1.pushA r2 hi2
        refine R_ (fun hz=>wpS_pure (.inr ⟨_,_,rfl,u1.done,ok4⟩)) (fun hz=>?_)
        have on5:HiOn a b (m+1) (o5.push a[i2-1]) (i2-1) j5:=⟨u1,⟨by lia,by lia⟩,⟨t2,t3⟩,by lia⟩
        split
        ·exact wpS_pure (.inl ⟨_,_,_,_,_,_,rfl,on5,ok4⟩)
        ·exact wpS_pure ⟨_,_,_,_,_,_,rfl,on5,ok4⟩
   ·obtain⟨i,j,o,ac,bc⟩:=rest
    exact wpS_pure ⟨_,_,rfl,hp,ok2⟩
end
end Srt
namespace Srt
open PySem PyProof.Rows
def Cov:List (Nat×Nat×Nat)->Nat->Nat->Prop
 | [],s,e=>s=e
 | q::r,s,e=>q.1=s/\1<=q.2.1/\Cov r (s+q.2.1) e
theorem Cov.le:∀ {l:List (Nat×Nat×Nat)} {s e:Nat},Cov l s e->s<=e
 | [],_,_,h=>by unfold Cov at h;omega
 | q::r,s,e,h=>by
  obtain⟨h1,h2,h3⟩:=h
  have:=h3.le
  omega
theorem Cov.snoc:∀ {l:List (Nat×Nat×Nat)} {s e n g:Nat},Cov l s e->1<=n->Cov (l++[(e,n,g)]) s (e+n)
 | [],_,_,_,_,h,hn=>by unfold Cov at h;subst h;exact⟨rfl,hn,rfl⟩
 | q::r,s,e,n,g,h,hn=>⟨h.1,h.2.1,h.2.2.snoc hn⟩
theorem Cov.two:∀ {l:List (Nat×Nat×Nat)} {s e i:Nat},Cov l s e->i+1<l.length->∃a n g m g',l[i]?=some (a,n,g)/\l[i+1]?=some (a+n,m,g')/\1<=n/\1<=m/\a+n+m<=e/\
  Cov ((l.set i (a,n+m,g)).eraseIdx (i+1)) s e
 | [],_,_,_,_,h=>by simp at h
 | [q],_,_,i,_,h=>by simp at h
 | q::q'::r,s,e,0,h,_=>by
  obtain⟨h1,h2,h3,h4,h5⟩:=h
  have:=h5.le
  obtain⟨a,n,g⟩:=q
  obtain⟨b,m,g'⟩:=q'
  simp only at h1 h2 h3 h4 h5 this
  subst h1 h3
  refine⟨_,_,_,_,_,rfl,rfl,h2,h4,by omega,rfl,by simp only;omega,?_⟩
  simp only
  rw[<-Nat.add_assoc]
  exact h5
 | q::q'::r,s,e,i+1,h,hi=>by
  obtain⟨a,n,g,m,g',e1,e2,h1,h2,h3,h4⟩:=h.2.2.two (i:=i) (by simp at hi⊢;omega)
  exact⟨a,n,g,m,g',by simpa using e1,by simpa using e2,h1,h2,h3,by simpa using ⟨h.1,h.2.1,h4⟩⟩
theorem Cov.mod:∀ {l:List (Nat×Nat×Nat)} {s e i g:Nat},Cov l s e->Cov (l.modify i fun q=>(q.1,q.2.1,g)) s e
 | [],_,_,i,_,h=>by cases i <;> simpa using h
 | q::r,s,e,0,g,h=>by simpa [Cov] using h
 | q::r,s,e,i+1,g,h=>by
  have:=h.2.2.mod (i:=i) (g:=g)
  simpa using ⟨h.1,h.2.1,this⟩
theorem wrote:∀(l:List Keyed) (x:Array Keyed) (d k:Nat),d+k+l.length<=x.size->
  ((l.zipIdx k).foldl (fun(y:Array Keyed) (q:Keyed×Nat)=>y.setIfInBounds (d+q.2) q.1) x).toList=x.toList.take (d+k)++l++x.toList.drop (d+k+l.length)
 | [],x,d,k,h=>by simp
 | q::l,x,d,k,h=>by
  simp only[List.length_cons] at h
  rw[List.zipIdx_cons,List.foldl_cons]
  have z:x.size=(x.setIfInBounds (d+k) q).size:=by simp
  have ih:=wrote l (x.setIfInBounds (d+k) q) d (k+1) (by rw[<-z];omega)
  rw[ih,Array.toList_setIfInBounds,List.drop_set_of_lt (by omega),show d+(k+1)=d+k+1 by omega,List.take_add_one,List.getElem?_set_self (by simp;omega)]
  rw[List.take_set,List.set_eq_of_length_le (by rw[List.length_take];omega)]
  simp only[List.length_cons,Option.toList_some,List.append_assoc,List.cons_append,List.nil_append]
  congr 4
  omega
theorem jB_{x o:Array Keyed}{i k:Nat}(hk:i+k<=x.size)(h:o.toList.Perm ((x.toList.drop i).take k)) :
  (o.toList.zipIdx.foldl (fun(y:Array Keyed) (q:Keyed×Nat)=>y.setIfInBounds (i+q.2) q.1) x).Perm x:=by
 have hl:o.toList.length=k:=by rw[h.length_eq];simp;omega
 rw[Array.perm_iff_toList_perm,wrote _ _ _ _ (by omega)]
 have e:x.toList=x.toList.take i++((x.toList.drop i).take k++x.toList.drop (i+k)):=by rw[<-List.drop_drop,List.take_append_drop,List.take_append_drop]
 conv=>rhs;rw[e]
 rw[Nat.add_zero,hl,List.append_assoc]
 exact(h.append_right _).append_left _
section
variable{prog:Program}{w:World}{A:Around}{E:Value->Shared->Prop}{s:Shared}{st:SortSt}{a₀ x₀:Array Keyed}{p:Array (Nat×Nat×Nat)}
theorem oz_{σ:Type}{M:Model}{x:σ}{Q:PUnit->σ->Prop}{st:σ}(h:Q ⟨⟩ x):wpS M A E s (set x:StateT σ Sem PUnit) Q st:=by
 unfold wpS
 rw[StateT.run_set]
 exact wpAny_pure ⟨rfl,h⟩
theorem jo_{x:Array Keyed}(h:IntKeys x)(i k:Nat):IntKeys (x.extract i (i+k)):=fun q hq=>by
 rw[bj_] at hq
 exact h q (List.mem_of_mem_drop (List.mem_of_mem_take hq))
theorem bY_{i e:Nat}{Q:Bool->SortSt->Prop}(h0:IntKeys a₀)(ok:Ok a₀ p st)(hc:Cov p.toList 0 e)(he:e<=a₀.size)(hi:i+1<p.size)
  (h:∀p' st',Ok a₀ p' st'->Cov p'.toList 0 e->p'.size+1=p.size->Q true st'):wpS (model prog w) A E s (mergeAt' i) Q st:=by
 obtain⟨sa,na,g,nb,g',e1,e2,h1,h2,h3,h4⟩:=hc.two (i:=i) (by simpa using hi)
 have hsz:=ok.size
 have hks:=ok.keys h0
 have p1:(pendingOf st)[i]?=some (sa,na,g):=by rw[ok.pend];simpa using e1
 have p2:(pendingOf st)[i+1]?=some (sa+na,nb,g'):=by rw[ok.pend];simpa using e2
 unfold mergeAt'
 show wpS _ _ _ _ (_>>=_) _ _
 refine wpS_bind (wpS_get ?_)
 rw[p1,p2]
 dsimp only
 refine wpS_bind (oz_ ?_)
 have ok1:Ok a₀ (((pendingOf st).setIfInBounds i (sa,na+nb,g)).eraseIdxIfInBounds (i+1)) (SortSt.mk' (kindOf st) (arrOf st) (((pendingOf st).setIfInBounds i (sa,na+nb,g)).eraseIdxIfInBounds (i+1)) (gallopOf st) (failedOf st)) :=
  ⟨ok.perm,ok.kind,ok.failed,rfl⟩
 have z1:(((pendingOf st).setIfInBounds i (sa,na+nb,g)).eraseIdxIfInBounds (i+1)).toList=(p.toList.set i (sa,na+nb,g)).eraseIdx (i+1):=by
  rw[ok.pend,Array.eraseIdxIfInBounds,dif_pos (by simpa using hi)]
  simp
 have c1:Cov (((pendingOf st).setIfInBounds i (sa,na+nb,g)).eraseIdxIfInBounds (i+1)).toList 0 e:=by rw[z1];exact h4
 have n1:(((pendingOf st).setIfInBounds i (sa,na+nb,g)).eraseIdxIfInBounds (i+1)).size+1=p.size:=by
  have:=congrArg List.length z1
  rw[List.length_eraseIdx_of_lt (by simpa using hi),List.length_set] at this
  simp only[Array.length_toList] at this
  omega
 refine wpS_bind (u_ (by show _<(arrOf st).size;omega) ?_)
 refine wpS_bind (ag_ ok1.kind hks (aa_ hks _) (by show _<=(arrOf st).size;omega) (by omega) fun k hk=>?_)
 dsimp only
 by_cases hz:na-k=0
 ·rw[if_pos (by simpa using hz)]
  exact wpS_pure (h _ _ ok1 c1 n1)
 rw[if_neg (by simpa using hz)]
 refine wpS_bind (u_ (by show _<(arrOf st).size;omega) ?_)
 refine wpS_bind (ag_ ok1.kind hks (aa_ hks _) (by show _<=(arrOf st).size;omega) (by omega) fun m hm=>?_)
 dsimp only
 by_cases hz2:m=0
 ·rw[if_pos (by simpa using hz2)]
  exact wpS_pure (h _ _ ok1 c1 n1)
 rw[if_neg (by simpa using hz2)]
 have ex:(arrOf st).extract (sa+k) (sa+na)=(arrOf st).extract (sa+k) (sa+k+(na-k)):=by congr 1;omega
 have kx:IntKeys ((arrOf st).extract (sa+k) (sa+na)):=by rw[ex];exact jo_ hks _ _
 have ky:IntKeys ((arrOf st).extract (sa+na) (sa+na+m)):=jo_ hks _ _
 have xy:((arrOf st).extract (sa+k) (sa+na)).toList++((arrOf st).extract (sa+na) (sa+na+m)).toList=((arrOf st).toList.drop (sa+k)).take (na-k+m):=by
  rw[ex,bj_,bj_,List.take_add,List.drop_drop]
  congr 3
  omega
 have fin:∀(o:Array Keyed) (st':SortSt),Still a₀ (((pendingOf st).setIfInBounds i (sa,na+nb,g)).eraseIdxIfInBounds (i+1)) (arrOf st) st'->o.toList.Perm (((arrOf st).extract (sa+k) (sa+na)).toList++((arrOf st).extract (sa+na) (sa+na+m)).toList)->
   Ok a₀ (((pendingOf st).setIfInBounds i (sa,na+nb,g)).eraseIdxIfInBounds (i+1)) (setArr st' (o.toList.zipIdx.foldl (fun(y:Array Keyed) (q:Keyed×Nat)=>y.setIfInBounds (sa+k+q.2) q.1) (arrOf st'))):=fun o st' ok2 hp=>by
  refine ok2.1.set ?_
  rw[xy] at hp
  rw[ok2.2]
  exact jB_ (by omega) hp
 have sx:1<=((arrOf st).extract (sa+k) (sa+na)).size:=by rw[Array.size_extract];omega
 have sy:1<=((arrOf st).extract (sa+na) (sa+na+m)).size:=by rw[Array.size_extract];omega
 by_cases hle:na-k<=m
 ·rw[if_pos hle]
  refine wpS_bind (hb_ ⟨ok1,rfl⟩ kx ky sx sy fun o st' ok2 hp=>?_)
  refine wpS_bind (wpS_modify (wpS_bind (wpS_get (wpS_pure ?_))))
  have ok3:=fin o st' ok2 hp
  have e3:=ok3.failed
  have:=h _ _ ok3 c1 n1
  rw[show(failedOf st').isNone=true by rw[ok2.1.failed];rfl]
  exact this
 ·rw[if_neg hle]
  refine wpS_bind (hc_ ⟨ok1,rfl⟩ kx ky sx sy fun o st' ok2 hp=>?_)
  refine wpS_bind (wpS_modify (wpS_bind (wpS_get (wpS_pure ?_))))
  have ok3:=fin o st' ok2 hp
  have:=h _ _ ok3 c1 n1
  rw[show(failedOf st').isNone=true by rw[ok2.1.failed];rfl]
  exact this
end
end Srt
namespace Srt
open PySem PyProof.Rows
section
variable{prog:Program}{w:World}{A:Around}{E:Value->Shared->Prop}{s:Shared}{st:SortSt}{a₀ x₀:Array Keyed}{p:Array (Nat×Nat×Nat)}
theorem Ok.setP(h:Ok a₀ p st)(p':Array (Nat×Nat×Nat)):Ok a₀ p' (setPending st p'):=⟨h.perm,h.kind,h.failed,rfl⟩
theorem mQ_{Q:Unit->SortSt->Prop}(h0:IntKeys a₀)(ok:Ok a₀ #[] st)(h:∀st',(arrOf st').Perm a₀->failedOf st'=none->Q () st'):wpS (model prog w) A E s sortRuns' Q st:=by
 rw[sortRuns'_eq]
 refine wpS_bind (wpS_get ?_)
 dsimp only
 simp only[ok.size]
 refine wpS_bind (wpS_mono (wpS_forRange (I:=fun _ c st'=>∃lo p,c=(none,lo)/\Ok a₀ p st'/\Cov p.toList 0 lo/\lo<=a₀.size) (Q:=fun c st'=>∃lo p,c=(none,lo)/\Ok a₀ p st'/\Cov p.toList 0 lo/\lo<=a₀.size) ?step (fun _ _ z=>z) ⟨0,#[],rfl,ok,rfl,by omega⟩) ?post)
 case step =>
  rintro x c st' _ hx ⟨lo,p,rfl,ok',hc,hlo⟩
  dsimp only
  by_cases hz:lo>=a₀.size
  ·rw[if_pos hz]
   exact wpS_pure ⟨lo,p,rfl,ok',hc,hlo⟩
  rw[if_neg hz]
  refine wpS_bind (kp_ h0 (by omega) (by omega) ok' fun m stX ok2 hm1 hm2=>?_)
  dsimp only
  by_cases hmr:m<minRun' a₀.size a₀.size 0
  ·rw[if_pos hmr]
   refine wpS_bind (wpS_lift (wpAny_rule ⟨rfl,?_⟩))
   refine wpS_bind (oA_ h0 (by omega) ok2 fun stX ok3=>?_)
   rw[if_neg (by decide)]
   refine wpS_bind (wpS_get ?_)
   cases hbk:(pendingOf stX).back? with
   | none =>
    dsimp only
    refine wpS_bind (wpS_modify (wpS_pure ⟨_,_,rfl,Ok.setP ok3 _,?_,by omega⟩))
    show Cov ((pendingOf stX).push _).toList 0 _
    rw[Array.toList_push,Ok.pend ok3]
    exact hc.snoc (by omega)
   | some q =>
    obtain⟨s1,n1,g1⟩:=q
    dsimp only
    refine wpS_bind (wpS_mono (wpS_forRange (I:=fun _ c st3=>c=(none,())/\∃p,Ok a₀ p st3/\Cov p.toList 0 lo) (Q:=fun c st3=>c=(none,())/\∃p,Ok a₀ p st3/\Cov p.toList 0 lo) ?_ (fun _ _ z=>z) ⟨rfl,_,ok3,hc⟩) ?_)
    ·rintro y c st3 _ _ ⟨rfl,p3,ok3,hc3⟩
     refine wpS_bind (wpS_get ?_)
     rw[ok3.pend]
     by_cases h2:p3.size>1
     ·rw[if_pos h2,getElem?_pos p3 (p3.size-2) (by omega)]
      generalize p3[p3.size-2]=q
      obtain⟨u,v,old⟩:=q
      dsimp only
      split
      ·exact wpS_pure ⟨rfl,p3,ok3,hc3⟩
      ·exact wpS_bind (bY_ h0 ok3 hc3 hlo (by omega) fun p4 st4 ok4 hc4 _=>wpS_pure ⟨rfl,p4,ok4,hc4⟩)
     ·rw[if_neg h2]
      exact wpS_pure ⟨rfl,p3,ok3,hc3⟩
    ·rintro c st3 ⟨rfl,p3,ok3,hc3⟩
     refine wpS_bind (wpS_modify (wpS_bind (wpS_modify (wpS_pure ⟨_,_,rfl,⟨ok3.perm,ok3.kind,ok3.failed,rfl⟩,?_,by omega⟩))))
     show Cov (((pendingOf st3).modify _ _).push _).toList 0 _
     rw[Array.toList_push,Array.toList_modify,ok3.pend]
     exact(Cov.mod hc3).snoc (by omega)
  ·rw[if_neg hmr]
   refine wpS_bind (wpS_get ?_)
   cases hbk:(pendingOf stX).back? with
   | none =>
    dsimp only
    refine wpS_bind (wpS_modify (wpS_pure ⟨_,_,rfl,Ok.setP ok2 _,?_,by omega⟩))
    show Cov ((pendingOf stX).push _).toList 0 _
    rw[Array.toList_push,Ok.pend ok2]
    exact hc.snoc (by omega)
   | some q =>
    obtain⟨s1,n1,g1⟩:=q
    dsimp only
    refine wpS_bind (wpS_mono (wpS_forRange (I:=fun _ c st3=>c=(none,())/\∃p,Ok a₀ p st3/\Cov p.toList 0 lo) (Q:=fun c st3=>c=(none,())/\∃p,Ok a₀ p st3/\Cov p.toList 0 lo) ?_ (fun _ _ z=>z) ⟨rfl,_,ok2,hc⟩) ?_)
    ·rintro y c st3 _ _ ⟨rfl,p3,ok3,hc3⟩
     refine wpS_bind (wpS_get ?_)
     rw[ok3.pend]
     by_cases h2:p3.size>1
     ·rw[if_pos h2,getElem?_pos p3 (p3.size-2) (by omega)]
      generalize p3[p3.size-2]=q
      obtain⟨u,v,old⟩:=q
      dsimp only
      split
      ·exact wpS_pure ⟨rfl,p3,ok3,hc3⟩
      ·exact wpS_bind (bY_ h0 ok3 hc3 hlo (by omega) fun p4 st4 ok4 hc4 _=>wpS_pure ⟨rfl,p4,ok4,hc4⟩)
     ·rw[if_neg h2]
      exact wpS_pure ⟨rfl,p3,ok3,hc3⟩
    ·rintro c st3 ⟨rfl,p3,ok3,hc3⟩
     refine wpS_bind (wpS_modify (wpS_bind (wpS_modify (wpS_pure ⟨_,_,rfl,⟨ok3.perm,ok3.kind,ok3.failed,rfl⟩,?_,by omega⟩))))
     show Cov (((pendingOf st3).modify _ _).push _).toList 0 _
     rw[Array.toList_push,Array.toList_modify,ok3.pend]
     exact(Cov.mod hc3).snoc (by omega)
 case post =>
  rintro c st' ⟨lo,p,rfl,ok',hc,hlo⟩
  dsimp only
  refine wpS_bind (wpS_mono (wpS_forRange (I:=fun _ c st3=>c=(none,())/\∃p,Ok a₀ p st3/\Cov p.toList 0 lo) (Q:=fun c st3=>c=(none,())/\∃p,Ok a₀ p st3/\Cov p.toList 0 lo) ?_ (fun _ _ z=>z) ⟨rfl,_,ok',hc⟩) ?_)
  ·rintro y c st3 _ _ ⟨rfl,p3,ok3,hc3⟩
   refine wpS_bind (wpS_get ?_)
   rw[ok3.pend]
   by_cases h2:p3.size<=1
   ·rw[if_pos h2]
    exact wpS_pure ⟨rfl,p3,ok3,hc3⟩
   ·rw[if_neg h2]
    have hi:∀(c:Prop) [Decidable c],(if c then p3.size-2-1 else p3.size-2)+1<p3.size:=fun c _=>by
     by_cases hc:c
     ·rw[if_pos hc];omega
     ·rw[if_neg hc];omega
    exact wpS_bind (bY_ h0 ok3 hc3 hlo (hi _) fun p4 st4 ok4 hc4 _=>wpS_pure ⟨rfl,p4,ok4,hc4⟩)
  ·rintro c st3 ⟨rfl,p3,ok3,hc3⟩
   exact wpS_pure (h _ ok3.perm ok3.failed)
end
end Srt
namespace Srt
open PySem PyProof.Rows
theorem ni_{vs:List Value}{ns:List Int}(hI:IntsAre vs ns){xs:Array Keyed}(hp:xs.Perm (pairsOf vs)):∃ns',IntsAre (xs.map (·.2)).toList ns'/\ns'.Perm ns:=by
 have hq:(xs.map (·.2)).toList.Perm vs:=by
  have h1:=(Array.perm_iff_toList_perm.mp hp).map (·.2)
  have h2:(pairsOf vs).toList.map (·.2)=vs:=by rw[pairsOf_toList];exact List.map_snd_zip (Nat.le_refl _)
  rw[h2] at h1
  rwa [Array.toList_map]
 refine⟨_,intsAre_map _ fun v hv=>hI.all v (hq.mem_iff.mp hv),?_⟩
 rw[<-hI.nums]
 exact hq.map numOf
section
variable{prog:Program}{w:World}{A:Around}{E:Value->Shared->Prop}{s:Shared}
theorem fG_{l:Addr}{vs:List Value}{ns:List Int}{n:Nat}{P:Fin->Shared->Prop}(at_:s.heap.get? l=some (seqObj "list" vs.toArray n))(hI:IntsAre vs ns)(hz:vs.length<=sizeLine)
  (h:∀(out:Array Value) (ns':List Int),IntsAre out.toList ns'->ns'.Perm ns->P (.done (.ret .none)) {s with heap:=sortedHeap s.heap l vs out}) :
  wpAny (model prog w) A (Builtin.«list.sort» ⟨[.ref l],[]⟩) P E s:=by
 have hlt:l<s.heap.objs.size:=Heap.lt_size at_
 have hsz:vs.toArray.size=vs.length:=by simp
 rw[list_sort_plain]
 obtain⟨e1,at1⟩:∃e1,(s.heap.update l (Obj.mapSeq fun _=>#[])).get? l=some (seqObj "list" #[] e1):=⟨_,get?_update_seq at_ (fun _=>#[])⟩
 refine wpAny_bind (listItems_at at_ rfl (wpAny_bind (listUpdate_at at_ rfl (wpAny_bind (seqEpoch_at at1 rfl (wpAny_bind (wpAny_newTuple (wpAny_bind (wpAny_newList (wpAny_holding ?_))))))) (by omega) (by simp))))
 have at2:(((s.heap.update l (Obj.mapSeq fun _=>#[])).push (seqObj "tuple" vs.toArray 0)).push (seqObj "list" #[] 0)).get? l=some (seqObj "list" #[] e1):=by
  refine Heap.get?_push_of_some _ (Heap.get?_push_of_some _ at1)
 show wpAny (model prog w) A _ P E {s with heap:=((s.heap.update l (Obj.mapSeq fun _=>#[])).push (seqObj "tuple" vs.toArray 0)).push (seqObj "list" #[] 0)}
 dsimp only
 have fin:∀st':SortSt,(arrOf st').Perm (pairsOf vs)->P (.done (.ret .none)) {s with heap:=sortedHeap s.heap l vs ((arrOf st').map (·.2))}:=fun st' hp=>by
  obtain⟨ns',h1,h2⟩:=ni_ hI hp
  exact h _ ns' h1 h2
 have big:∀st':SortSt,(arrOf st').Perm (pairsOf vs)->((arrOf st').map (·.2)).size<=sizeLine+1:=fun st' hp=>by
  rw[Array.size_map,hp.size_eq,pairsOf_size];omega
 by_cases h2:vs.toArray.size<2
 ·rw[if_pos h2,if_pos h2]
  refine wpAny_bind (wpAny_pure (show wpAny _ _ _ _ _ _ from ?_))
  rw[StateT.run_pure]
  refine wpAny_bind (wpAny_pure (wpAny_bind (seqEpoch_at at2 rfl (wpAny_bind (listUpdate_at at2 rfl ?_ (by simp) (big (SortSt.mk' general' (vs.toArray.zip vs.toArray) #[] 7 none) (Array.Perm.refl _)))))))
  simp only[bne_self_eq_false,Bool.false_eq_true,if_false]
  exact wpAny_pure (fin (SortSt.mk' general' (vs.toArray.zip vs.toArray) #[] 7 none) (Array.Perm.refl _))
 ·rw[if_neg h2,if_neg h2]
  obtain⟨v1,v2,r,rfl⟩:∃v1 v2 r,vs=v1::v2::r:=by
   rcases vs with _ | ⟨v1,_ | ⟨v2,r⟩⟩
   ·simp at h2
   ·simp at h2
   ·exact⟨v1,v2,r,rfl⟩
  rw[keyKind_ints hI]
  refine wpAny_bind (wpAny_pure (wpAny_bind (wpAny_mono (mQ_ (a₀:=pairsOf (v1::v2::r)) (st:=SortSt.mk' oneType' ((v1::v2::r).toArray.zip (v1::v2::r).toArray) #[] 7 none)
   (Q:=fun _ st'=>(arrOf st').Perm (pairsOf (v1::v2::r))/\failedOf st'=none) hI.intKeys ⟨Array.Perm.refl _,rfl,rfl,rfl⟩ fun st' a1 a2=>⟨a1,a2⟩) ?_ fun _ _ e=>e)))
  rintro⟨⟨⟩,st'⟩ s' ⟨rfl,hp,hf⟩
  dsimp only
  refine wpAny_bind (seqEpoch_at at2 rfl (wpAny_bind (listUpdate_at at2 rfl ?_ (by simp) (big st' hp))))
  rw[hf]
  simp only[bne_self_eq_false,Bool.false_eq_true,if_false]
  exact wpAny_pure (fin st' hp)
end
end Srt
namespace Srt
open PySem PyProof.Rows
section
variable{prog:Program}{w:World}{A:Around}{E:Value->Shared->Prop}{s:Shared}{T:String}{r d:Addr}{n:Nat}{P:Nat->Value->Prop}{OK:Heap->Prop}
theorem kg_{R:Result->Shared->Prop}(K:PySem.W.KdlSrc prog w T r d n P OK)(hh:A.handled=none)(hok:OK s.heap)(hn:n<=sizeLine)
  (h:∀h' tk acc c,(∀b o,s.heap.get? b=some o->h'.get? b=some o)->h'.get? s.heap.objs.size=some {cls:=.type "list",dict:=none,data:=.seq acc c,slots:=#[]}->ItemsOf P acc n->R (.ok (.ret (.ref s.heap.objs.size))) {s with heap:=h',toks:=tk}) :
  codeAny (model prog w) A (.builtin "proto.collect" ⟨[.ref r],[]⟩) R s:=by
 have lt:=K.there _ hok
 refine codeAny_builtin PySem.F.entry_proto_collect ?_
 rw[Around.under_plainId PySem.F.plain_proto_collect _]
 show wpAny _ A.in1 (newList []>>=fun l=>again (.builtin "list.__iadd__" ⟨[l,.ref r],[]⟩)) _ _ s
 refine wpAny_bind (wpAny_newObj_type (wpAny_pure ⟨plainId_quiet PySem.F.plain_list_iadd _,codeAny_builtin PySem.F.entry_list_iadd ?_⟩))
 rw[Around.under_plainId PySem.F.plain_list_iadd _]
 show wpAny _ A.in1 (Builtin.List.listExtendWith (.ref s.heap.objs.size) (.ref r) (.ref s.heap.objs.size)) _ _ _
 exact PySem.W.kdl_extend (R:=R) (s:={s with heap:=s.heap.push {cls:=.type "list",data:=.seq ([]:List Value).toArray}}) K hh (K.keep _ _ hok fun b _ o e=>Heap.get?_push_of_some _ e) s.heap.objs.size (Nat.ne_of_gt lt.1) (Nat.ne_of_gt lt.2) _ 0 (Heap.get?_push_size _ rfl)
  (fun h' tk acc c k hS hacc=>h h' tk acc c (fun b o e=>k b o (Nat.ne_of_lt (Heap.lt_size e)) (Heap.get?_push_of_some _ e)) hS hacc) hn
theorem ig_{Q:List Value->Shared->Prop}(K:PySem.W.KdlSrc prog w T r d n P OK)(hh:A.handled=none)(hok:OK s.heap)(hn:n<=sizeLine)
  (h:∀h' tk acc,(∀b o,s.heap.get? b=some o->h'.get? b=some o)->s.heap.objs.size<h'.objs.size->ItemsOf P acc n->Q acc.toList {s with heap:=h',toks:=tk}):wpAny (model prog w) A (collect (.ref r)) Q E s:=by
 unfold collect
 refine wpAny_bind (wpAny_runValue (kg_ K hh hok hn fun h' tk acc c k hS hacc=>?_))
 show wpAny _ A (load s.heap.objs.size>>=_) _ _ _
 exact wpAny_bind (wpAny_load hS (wpAny_pure (h h' tk acc k (Heap.lt_size hS) hacc)))
theorem hp_{h:Heap}{l:Addr}{vs:List Value}{out:Array Value}{c:Nat}(e:h.get? l=some (seqObj "list" vs.toArray c)) :
  (∃c',(sortedHeap h l vs out).get? l=some (seqObj "list" out c'))/\∀b o,b≠l->h.get? b=some o->(sortedHeap h l vs out).get? b=some o:=by
 unfold sortedHeap
 constructor
 ·exact⟨_,get?_update_seq (Heap.get?_push_of_some _ (Heap.get?_push_of_some _ (get?_update_seq e _))) _⟩
 ·intro b o hb q
  refine(Heap.get?_update_other _ _ (Ne.symm hb)).trans (Heap.get?_push_of_some _ (Heap.get?_push_of_some _ ?_))
  exact(Heap.get?_update_other _ _ (Ne.symm hb)).trans q
theorem jF_{ns:List Int}{Q:Value->Shared->Prop}(K:PySem.W.KdlSrc prog w T r d n P OK)(hh:A.handled=none)(hok:OK s.heap)(hn:n<=sizeLine)(hi:∀acc,ItemsOf P acc n->IntsAre acc.toList ns)
  (h:∀h' tk D c (out:Array Value) (ns':List Int),(∀b o,s.heap.get? b=some o->h'.get? b=some o)->s.heap.objs.size<=D->h'.get? D=some (seqObj "list" out c)->IntsAre out.toList ns'->ns'.Perm ns->Q (.ref D) {s with heap:=h',toks:=tk}) :
  wpAny (model prog w) A (call (.builtin "sorted") [.ref r]) Q E s:=by
 refine Calls.call_function_entry kind_sorted plain_sorted entry_sorted (args_sorted1 _) ?_
 unfold Builtin.«sorted»
 refine wpAny_bind (m:=checkCount "sorted" 1 1 _) (wpAny_pure (wpAny_bind (ig_ K (by exact hh) hok hn fun h1 tk acc k1 z1 hacc=>?_)))
 have hI:=hi acc hacc
 have hz:acc.toList.length<=sizeLine:=by rw[Array.length_toList,hacc.1];exact hn
 refine wpAny_bind (wpAny_newList ?_ (hsz:=hz))
 have at1:(h1.push (seqObj "list" acc.toList.toArray 0)).get? h1.objs.size=some (seqObj "list" acc.toList.toArray 0):=Heap.get?_push_size _ rfl
 refine wpAny_bind (wpAny_holding (wpAny_call_entry slot_list_sort ⟨_,at1,rfl⟩ entry_list_sort (fG_ at1 hI hz fun out ns' a1 a2=>⟨_,rfl,?_⟩) (args_list_sort _)))
 obtain⟨⟨c',g1⟩,g2⟩:=hp_ (out:=out) at1
 refine wpAny_pure ⟨_,rfl,h _ _ _ c' out ns' (fun b o e=>?_) ?_ g1 a1 a2⟩
 ·have e1:=k1 b o e
  exact g2 b o (Nat.ne_of_lt (Heap.lt_size e1)) (Heap.get?_push_of_some _ e1)
 ·exact Nat.le_of_lt z1
end
end Srt
namespace L2
open PySem PySem.Spec PyProof.Rows
theorem lR_{P:Program}{w:World}{vs:List (Key×Value)}{ns:List Int}(hk:vs.map (·.1)=ns.map Sum.inl){acc:Array Value}(h:ItemsOf (fun i v=>∃k x,vs[i]?=some (k,x)/\(w_ P w).is k v=true) acc vs.length):IntsAre acc.toList ns:=by
 have hl:vs.length=ns.length:=by simpa using congrArg List.length hk
 have at_:∀(i:Nat) (v:Value),acc.toList[i]?=some v->∃n t,ns[i]?=some n/\v=Value.int n t:=fun i v e=>by
  obtain⟨k,x,h1,h2⟩:=h.2 i v (by rw[<-Array.getElem?_toList];exact e)
  have h3:(vs.map (·.1))[i]?=some k:=by rw[List.getElem?_map,h1];rfl
  rw[hk,List.getElem?_map] at h3
  cases q:ns[i]? with
  | none=>rw[q] at h3;cases h3
  | some m =>
   rw[q] at h3
   have h4:Sum.inl m=k:=Option.some.inj h3
   subst h4
   have h5:keyIs (Sum.inl m) v=true:=h2
   rcases G_ h5 with⟨i',t,e1,e2⟩ | ⟨y,t,e1,_⟩
   ·cases e1;exact⟨m,t,rfl,e2⟩
   ·cases e1
 have all:∀v:Value,v∈acc.toList->∃n t,v=Value.int n t:=fun v hv=>by
  obtain⟨i,hi⟩:=List.getElem?_of_mem hv
  obtain⟨n,t,_,e⟩:=at_ i v hi
  exact⟨n,t,e⟩
 have hm:=intsAre_map _ all
 have e:acc.toList.map numOf=ns:=by
  apply List.ext_getElem?
  intro i
  rw[List.getElem?_map]
  cases q:acc.toList[i]? with
  | none =>
   have:acc.size<=i:=by simpa using q
   have hs:=h.1
   rw[List.getElem?_eq_none (by omega)]
   rfl
  | some v =>
   obtain⟨n,t,e1,e2⟩:=at_ i v q
   rw[e1,e2]
   rfl
 rw[e] at hm
 exact hm
section
variable{X:Cx}
theorem gN_(hc:X.calm=true):CallR X (.builtin "sorted") (fun xs H Q=>∃(a:Addr) (kvs:List (Key×V)) (ns:List Int),xs=[.ref a]/\Rd H a (.dK kvs)/\kvs.map (·.1)=ns.map Sum.inl/\
  ∀(l:Addr) (ns':List Int),H l=none->ns'.Perm ns->Q (.ref l) (upd H l (.lst (ns'.map V.int)))):=by
 intro pins s σ H xs us Q I r h
 obtain⟨a,kvs,ns,rfl,e,hk,q⟩:=h
 obtain⟨u,rfl,ru⟩:=vals1 r
 cases ru
 obtain⟨z,hd,vs,rel,o,es,ep,ho,dd⟩:=eo_ I.hok e
 have hkv:vs.map (·.1)=ns.map Sum.inl:=by rw[<-rel.keys];exact hk
 have hl:vs.length=ns.length:=by simpa using congrArg List.length hkv
 refine Srt.jF_ (ns:=ns) (PySem.W.kdl_dict (ep:=ep) (kvs:=vs) (knd:=w_ X.prog X.w) hd) (I.ok.hd hc) ⟨o,es,ho,dd⟩ (by rw[<-rel.length];exact z) (fun acc hacc=>lR_ hkv hacc) fun h' tk D c out ns' k hD hg hI hp=>?_
 have hz:(ns'.map V.int).length<=sizeLine:=by rw[List.length_map,hp.length_eq,<-hl,<-rel.length];exact z
 exact⟨.ref D,_,I.laid (a:=D) (o:=.lst (ns'.map V.int)) (t':=tk) k hD ⟨hz,out.toList,c,fS_ hI,by simpa using hg⟩,rfl,q D ns' (I.hok.fresh hD) hp⟩
end
end L2
namespace PySem
open Sem (wp)
theorem gz_:typeLookup (.type "list") "keys"=pure none:=by rw[typeLookup_type,builtinLookup_eq_fast];kernel_rfl
theorem hT_{prog:Program}{w:World}{A:Around}{E:Value->Shared->Prop}{s:Shared}{a:Addr}{o:Obj}{xs:Array Value}{k:Nat}{name:Str}{Q:Option Value->Shared->Prop}
  (hx:s.heap.get? a=some o) (hc:o.cls=.type "list") (hdat:o.data=.seq xs k) (hd:o.dict=none) (hmiss:typeLookup (.type "list") name=pure none) (hname:(["__module__","__name__","__qualname__","__doc__","__annotations__"]:List Str).contains name=false) (hA:A.handled=none)
  (h:∀h' tk,(∀b ob,s.heap.get? b=some ob->h'.get? b=some ob)->Q none {s with heap:=h',toks:=tk}) (hsz:name.length+100<=sizeLine:=by size_fits) :
  wpAny (model prog w) A (getAttr? (.ref a) name) Q E s:=by
 obtain⟨c,dct,dat,sl⟩:=o
 simp only at hc hdat hd
 subst hc hdat hd
 obtain⟨hp,g,d,tk,os⟩:=s
 have hT:∀tk',(⟨hp,g,d,tk',os⟩:Shared).TypeIs (.ref a) "list":=fun _=>⟨_,hx,rfl⟩
 have f1:=sub_AttributeError
 have f3:=F.slot_list_getattribute.lookup
 have f4:=F.slot_list_getattribute.bind (.ref a)
 have f5:=am_list_getattr_none
 unfold getAttr? getAttrBy? getAttrBy
 repeat (any_goals (first | assumption | exact hT _ | ((with_reducible show wpAny _ _ (call (Value.builtin "list.__getattribute__") _ _) _ _ _);refine call_meets F.slot_list_getattribute (hT _) am_entry_list_getattribute (F.args_list_getattribute_2 _ _) (meets_getattribute_miss_list a xs k sl name _ hmiss hname hsz) ⟨hx,hA,fun h' tk' e hx'=>?_⟩) | wp_step))
 obtain⟨t',u',he⟩:=hx'.there
 show wpAny _ _ (getattributeRaised _ _ _ _ _ _ _) _ _ _
 unfold getattributeRaised
 repeat (any_goals (first | assumption | wp_step))
 exact h _ _ hx'.keeps
end PySem
namespace PySem
open Sem (wp)
namespace F
theorem entry_dict_update_loop:entryFor table "dict.update.loop"=some Builtin.«dict.update.loop»:=entryFor_of_tree (by kernel_rfl)
theorem plain_dict_update_loop:plainId "dict.update.loop"=true:=by decide +kernel
end F
section
variable{prog:Program}{w:World}{A:Around}{R:Result->Shared->Prop}{I:Addr}{fp wr:List Addr}{G:Array GenState->Array GenState->Prop}{n:Nat}{P:Nat->Value->Prop}{St:Nat->Shared->Prop}
variable{K:Type}[DecidableEq K]{knd:KeyKind prog w K}
theorem jZ_(rs:List (K×Value)):(merged [] rs).length<=rs.length:=by
 have gen:∀(rs kvs:List (K×Value)),(merged kvs rs).length<=kvs.length+rs.length:=by
  intro rs
  induction rs with
  | nil=>intro kvs;simp[merged]
  | cons p r ih =>
   intro kvs
   have h:=ih (stored kvs p.1 p.2)
   have h2:(stored kvs p.1 p.2).length<=kvs.length+1:=by
    unfold stored
    split <;> simp
   show(merged (stored kvs p.1 p.2) r).length<=_
   simp only[List.length_cons]
   omega
 simpa using gen rs []
theorem cF_(W:WalksS prog w A.in1 I fp wr G n P St)(S:Addr)(hSf:S∉fp)(res:Value)(rs:List (K×Value))(hn:rs.length=n)(hz:n<=sizeLine)(s0:Shared)
  (hval:∀i v,P i v->∃k x,rs[i]?=some (k,x)/\∀h:Heap,(∀b o,b∉S::wr->s0.heap.get? b=some o->h.get? b=some o)->∃t o c key,v=.ref t/\h.get? t=some o/\o.cls=.type "tuple"/\o.data=.seq #[key,x] c/\knd.is k key=true) :
  ∀(k i:Nat) (tk:Tok) (s:Shared),n-i=k->i<=n->St i s->(∀b o,b∉S::wr->s0.heap.get? b=some o->s.heap.get? b=some o)->
   s.heap.DictOf knd S (merged [] (rs.take i))->
   (∀s',Moved (S::wr) G s s'->s'.heap.DictOf knd S (merged [] rs)->R (.ok (.ret res)) s')->
   codeAny (model prog w) A (.builtin "dict.update.loop" ⟨[.ref S,.ref I,.int (i:Int) tk,res],[]⟩) R s:=by
 have hSw:S∉wr:=fun h=>hSf (W.sub _ h)
 have hsub:∀b∈wr,b∈S::wr:=fun b hb=>List.mem_cons_of_mem _ hb
 intro k
 induction k with
 | zero =>
  intro i tk s hk hi hst h0 hS hR
  have hin:i=n:=by omega
  refine codeAny_builtin F.entry_dict_update_loop ?_
  rw[Around.under_plainId F.plain_dict_update_loop _]
  show wpAny _ A.in1 (pyNext (.ref I)>>=_) _ _ s
  refine wpAny_bind (W.done s _ _ (hin▸hst) fun s' hm=>?_)
  show wpAny _ A.in1 (Builtin.Dict.addKeywords S []>>=fun _=>ret res) _ _ s'
  refine wpAny_bind ?_
  unfold Builtin.Dict.addKeywords
  show wpAny _ A.in1 (pure ()) _ _ s'
  refine wpAny_pure (wpAny_pure (hR s' (hm.mono hsub) ?_))
  rw[hin,List.take_of_length_le (by omega)] at hS
  obtain⟨o,es,ep,ho,rest⟩:=hS
  exact⟨o,es,ep,hm.heap S _ hSw ho,rest⟩
 | succ k ih =>
  intro i tk s hk hi hst h0 hS hR
  have hlt:i<n:=by omega
  refine codeAny_builtin F.entry_dict_update_loop ?_
  rw[Around.under_plainId F.plain_dict_update_loop _]
  show wpAny _ A.in1 (pyNext (.ref I)>>=_) _ _ s
  refine wpAny_bind (W.item i s _ _ hlt hst fun v s' hP hst' hm=>?_)
  have h0':∀b o,b∉S::wr->s0.heap.get? b=some o->s'.heap.get? b=some o:=fun b o hb e=>hm.heap b o (fun z=>hb (hsub b z)) (h0 b o hb e)
  obtain⟨k',x,hr,ht⟩:=hval i v hP
  obtain⟨t,o,c,key,rfl,ho,hc,hd,hkey⟩:=ht s'.heap h0'
  have hS':s'.heap.DictOf knd S (merged [] (rs.take i)):=by
   obtain⟨o,es,ep,ho,rest⟩:=hS
   exact⟨o,es,ep,hm.heap S _ hSw ho,rest⟩
  have hT:s'.TypeIs (.ref t) "tuple":=⟨o,ho,hc⟩
  have hlen:(merged [] (rs.take i)).length<=sizeLine:=by
   have:=jZ_ (rs.take i)
   rw[List.length_take] at this
   omega
  refine wpAny_bind (wpAny_holding ?_)
  refine wpAny_bind (wpAny_tryCatch ?_)
  unfold Builtin.Dict.pairItems
  refine wpAny_bind (wpAny_typeOf hT ?_)
  refine wpAny_ite_split (fun _=>?_) (fun hab=>absurd (by decide) hab)
  repeat (any_goals (first | assumption | wp_step))
  rw[hd]
  refine wpAny_pure (wpAny_pure ?_)
  show wpAny _ _ (holding [key,x] (dictSet S key x)) _ _ _
  refine wpAny_holding (wpAny_dictSet_pairs hkey hS' (fun h' hD hsb=>?_) hlen)
  refine wpAny_pure ⟨plainId_quiet F.plain_dict_update_loop _,?_⟩
  have ei:rawInt ((i:Int)+1)=rawInt ((i+1:Nat):Int):=by push_cast;rfl
  rw[ei]
  have other:∀b o,b≠S->s'.heap.get? b=some o->h'.get? b=some o:=fun b o hb e=>(hsb.2 b hb).trans e
  refine ih (i+1) _ _ (by omega) hlt (W.frame _ s' _ _ hst' (Nat.le_succ _) fun b hb o e=>other b o (fun h:b=S=>hSf (by rw[<-h];exact hb)) e)
   (fun b o hb e=>other b o (fun h:b=S=>hb (by rw[h];exact List.mem_cons_self)) (h0' b o hb e)) ?_ fun s'' hm'' hS''=>?_
  ·rw[merged_take_succ [] rs i (k',x) hr]
   exact hD
  ·refine hR s'' (Moved.trans W.gtrans ((hm.mono hsub).then_heap (Nat.le_succ _) fun b o hb e=>?_) hm'') hS''
   exact other b o (fun h:b=S=>hb (by rw[h];exact List.mem_cons_self)) e
end
end PySem
namespace PySem
open Sem (wp)
section
variable{prog:Program}{w:World}{A:Around}{E:Value->Shared->Prop}{s:Shared}
variable{K:Type}[DecidableEq K]{knd:KeyKind prog w K}
theorem ec_{l:Addr}{items:Array Value}{c:Nat}{Q:Value->Shared->Prop}(hh:A.handled=none)(hl:s.heap.get? l=some {cls:=.type "list",data:=.seq items c})(hz:items.size<=sizeLine)(rs:List (K×Value))(hn:rs.length=items.size)
  (hval:∀(i:Nat) v,items[i]?=some v->∃k x,rs[i]?=some (k,x)/\∃t o c key,v=.ref t/\s.heap.get? t=some o/\o.cls=.type "tuple"/\o.data=.seq #[key,x] c/\knd.is k key=true)
  (hQ:∀h' tk,h'.DictOf knd s.heap.objs.size (merged [] rs)->(∀b o,s.heap.get? b=some o->h'.get? b=some o)->Q (.ref s.heap.objs.size) {s with heap:=h',toks:=tk}) :
  wpAny (model prog w) A (call (.type "dict") [.ref l]) Q E s:=by
 refine callType_codes (Q₁:=fun obj s₁=>obj=.ref s.heap.objs.size/\s₁={s with heap:=s.heap.push {cls:=.type "dict",data:=.dict #[]}}) F.kt_called_dict (F.kt_typeCall_dict_1 _) F.entry_dict_init (kt_code_dict_new _ ⟨rfl,rfl⟩) ?_
 rintro obj s₁ ⟨rfl,rfl⟩
 have hnew:(s.heap.push {cls:=.type "dict",data:=.dict #[]}).DictOf knd s.heap.objs.size []:=Heap.DictOf.new s.heap
 have hl1:(s.heap.push {cls:=.type "dict",data:=.dict #[]}).get? l=some {cls:=.type "list",data:=.seq items c}:=Heap.get?_push_of_some _ hl
 have hlS:l<s.heap.objs.size:=Heap.lt_size hl
 refine⟨hnew.typeIs,F.args_dict_init_2 _ _,?_⟩
 unfold Builtin.«dict.__init__»
 refine wpAny_bind ?_
 unfold Builtin.Dict.selfAndRest
 refine wpAny_bind (wpAny_notOrdered_dict hnew.typeIs ?_)
 show wpAny _ _ (pure (s.heap.objs.size,[Value.ref l])) _ _ _
 refine wpAny_pure ?_
 show wpAny _ _ (Builtin.Dict.updateFrom "dict.__init__" s.heap.objs.size (.ref l) [] .none) _ _ _
 unfold Builtin.Dict.updateFrom
 refine wpAny_bind (wpAny_typeOf (T:="list") ⟨_,hl1,rfl⟩ ?_)
 rw[if_pos (by decide)]
 refine wpAny_bind (hT_ hl1 rfl rfl rfl gz_ (by decide) (by simpa using hh) fun h1 tk1 k1=>?_)
 refine wpAny_ite_split (fun _=>?_) (fun hab=>absurd rfl hab)
 refine wpAny_bind (wpAny_rule ?_)
 have hl2:=k1 _ _ hl1
 refine wpAny_bind (wpAny_pyIter_list ⟨_,hl2,rfl,c,rfl⟩ ?_)
 refine wpAny_pure ⟨plainId_quiet F.plain_dict_update_loop _,?_⟩
 have hd1:(s.heap.push {cls:=.type "dict",data:=.dict #[]}).get? s.heap.objs.size=some {cls:=.type "dict",data:=.dict #[]}:=Heap.get?_push_size _ rfl
 have hd2:=k1 _ _ hd1
 have hz1:s.heap.objs.size<h1.objs.size:=Heap.lt_size hd2
 have lI:l≠h1.objs.size:=Nat.ne_of_lt (Nat.lt_trans hlS hz1)
 have hSf:s.heap.objs.size∉[h1.objs.size,l]:=by
  simp only[List.mem_cons,List.not_mem_nil,or_false,not_or]
  exact⟨Nat.ne_of_lt hz1,Nat.ne_of_gt hlS⟩
 have hh3:A.in1.in1.handled=none:=by simpa using hh
 have W:=(Walks.list (prog:=prog) (w:=w) (A:=A.in1.in1) hh3 h1.objs.size l lI items).toS
 have keep:∀b o,s.heap.get? b=some o->b∉s.heap.objs.size::[h1.objs.size]:=fun b o e z=>by
  have hb:=Heap.lt_size e
  simp only[List.mem_cons,List.not_mem_nil,or_false] at z
  rcases z with z | z
  ·rw[z] at hb;exact Nat.lt_irrefl _ hb
  ·rw[z] at hb;exact Nat.lt_irrefl _ (Nat.lt_trans hb hz1)
 refine cF_ (A:=A.in1) (knd:=knd) W s.heap.objs.size hSf .none rs hn hz s (fun i v hv=>?_) items.size 0 0 _ (by omega) (Nat.zero_le _) ⟨⟨_,Heap.get?_push_size _ rfl,rfl,rfl⟩,⟨_,Heap.get?_push_of_some _ hl2,rfl,c,rfl⟩⟩ (fun b o _ e=>Heap.get?_push_of_some _ (k1 _ _ (Heap.get?_push_of_some _ e))) ?_ fun s' hm hS=>?_
 ·obtain⟨k,x,hr,t,o,c',key,e1,e2,e3,e4,e5⟩:=hval i v hv
  exact⟨k,x,hr,fun h hk=>⟨t,o,c',key,e1,hk t o (keep t o e2) e2,e3,e4,e5⟩⟩
 ·obtain⟨o,es,ep,ho,rest⟩:=hnew
  exact⟨o,es,ep,Heap.get?_push_of_some _ (k1 _ _ ho),rest⟩
 ·rw[Moved.eq_with hm]
  refine⟨rfl,hQ s'.heap s'.toks hS fun b o e=>hm.heap b o (keep b o e) (Heap.get?_push_of_some _ (k1 _ _ (Heap.get?_push_of_some _ e)))⟩
end
end PySem
namespace L2
open PySem PySem.Spec PyProof.Rows
theorem Paired.at{α β:Type}{R:α->β->Prop}{as:List α}{bs:List β}{i:Nat}{a:α}(h:Paired R as bs)(e:as[i]?=some a):∃b,bs[i]?=some b/\R a b:=by
 induction h generalizing i with
 | nil=>simp at e
 | cons r _ ih =>
  cases i with
  | zero=>simp at e;subst e;exact⟨_,rfl,r⟩
  | succ i =>
   obtain⟨b,h1,h2⟩:=ih (i:=i) (by simpa using e)
   exact⟨b,by simpa using h1,h2⟩
theorem kr_:∀ {xs:List V} {us:List Value},xs.length=us.length->(∀(i:Nat) u,us[i]?=some u->∃x,xs[i]?=some x/\RelV x u)->Vals xs us
 | [],[],_,_=>.nil
 | [],_::_,h,_=>by simp at h
 | _::_,[],h,_=>by simp at h
 | x::xs,u::us,h,hv=>by
  obtain⟨y,e,r⟩:=hv 0 u rfl
  simp at e
  subst e
  exact .cons r (kr_ (by simpa using h) fun i v e=>by
   obtain⟨z,e1,r1⟩:=hv (i+1) v (by simpa using e)
   exact⟨z,by simpa using e1,r1⟩)
abbrev co_(H:Hp)(ts:List Addr)(kvs:List (Key×V)):Prop:=Paired (fun(t:Addr) (p:Key×V)=>H t=some (.tup [kV p.1,p.2])) ts kvs
theorem ja_{P:Program}{w:World}{H:Hp}{h:Heap}(ok:HOk P w H h):∀ {ts:List Addr} {kvs:List (Key×V)} {its:List Value},co_ H ts kvs->Vals (ts.map V.ref) its->
  ∃rs:List (Key×Value),KV kvs rs/\Paired (fun(u:Value) (r:Key×Value)=>∃t o c key,u=.ref t/\h.get? t=some o/\o.cls=.type "tuple"/\o.data=.seq #[key,r.2] c/\(w_ P w).is r.1 key=true) its rs
 | [],_,_,.nil,r=>by cases r;exact⟨[],.nil,.nil⟩
 | t::ts,p::kvs,its,.cons e hp,r=>by
  cases r with
  | cons r0 rr =>
   cases r0
   obtain⟨rs,a,b⟩:=ja_ ok hp rr
   obtain⟨_,its2,rv,tu⟩:=ok t _ e
   obtain⟨u1,u2,rfl,r1,r2⟩:=rv.two
   obtain⟨o,c,ho,hc,hd⟩:∃o c,h.get? t=some o/\o.cls=.type "tuple"/\o.data=.seq #[u1,u2] c:=by
    obtain⟨o,ho,hc,c,hd⟩:=tu
    exact⟨o,c,ho,hc,hd⟩
   exact⟨(p.1,u2)::rs,.cons ⟨rfl,r2⟩ a,.cons ⟨t,o,c,u1,rfl,ho,hc,hd,hZ_ r1⟩ b⟩
section
variable{X:Cx}{o:Expr}{td:TE}
theorem km_(hc:X.calm=true):CallR X (.type "dict") (fun xs H Q=>∃(l:Addr) (ts:List Addr) (kvs:List (Key×V)),xs=[.ref l]/\H l=some (.lst (ts.map V.ref))/\co_ H ts kvs/\
  ∀p,H p=none->Q (.ref p) (upd H p (.dK (W_ [] kvs)))):=by
 intro pins s σ H xs us Q I r h
 obtain⟨l,ts,kvs,rfl,e,hp,q⟩:=h
 obtain⟨u,rfl,ru⟩:=vals1 r
 cases ru
 obtain⟨z,its,n,rv,e1⟩:=I.hok l _ e
 obtain⟨rs,hk,hr⟩:=ja_ I.hok hp rv
 have hlen:rs.length=its.length:=hr.length.symm
 have hz:its.length<=sizeLine:=by rw[<-rv.length];exact z
 refine ec_ (knd:=w_ X.prog X.w) (I.ok.hd hc) e1 (by rw[List.size_toArray];exact hz) rs (by rw[List.size_toArray];exact hlen) (fun i v hv=>?_) fun h' tk dd k=>?_
 ·obtain⟨b,hb,t,o,c,key,x1,x2,x3,x4,x5⟩:=Paired.at (i:=i) (a:=v) hr (by simpa using hv)
  exact⟨b.1,b.2,hb,t,o,c,key,x1,x2,x3,x4,x5⟩
 ·have hm:=bg_ kvs []
  have hkl:=hk.length
  refine⟨.ref _,_,I.laid (a:=s.heap.objs.size) (o:=.dK (W_ [] kvs)) (t':=tk) k (Nat.le_refl _) (mp_ ?_ (beq_eq_false_iff_ne.mpr (Ne.symm (Nat.ne_of_lt I.big))) (KV.merge hk .nil) dd),rfl,q _ (I.hok.fresh (Nat.le_refl _))⟩
  simp only[List.length_nil] at hm
  omega
theorem eH_(hc:X.calm=true):CallR X (.type "list") (fun xs H Q=>∃(a:Addr) (kvs:List (Key×V)),xs=[.ref a]/\Rd H a (.dK kvs)/\∀p,H p=none->Q (.ref p) (upd H p (.lst (kvs.map fun q=>kV q.1)))):=by
 intro pins s σ H xs us Q I r h
 obtain⟨a,kvs,rfl,e,q⟩:=h
 obtain⟨u,rfl,ru⟩:=vals1 r
 cases ru
 obtain⟨z,hd,vs,rel,o,es,ep,ho,dd⟩:=eo_ I.hok e
 have hl:=rel.length
 refine PySem.W.kdl_call (PySem.W.kdl_dict (ep:=ep) (kvs:=vs) (knd:=w_ X.prog X.w) hd) (I.ok.hd hc) ⟨o,es,ho,dd⟩ (by rw[<-hl];exact z) fun h' tk acc c k hD hacc=>?_
 refine⟨.ref _,_,I.laid (a:=s.heap.objs.size) (o:=.lst (kvs.map fun q=>kV q.1)) (t':=tk) k (Nat.le_refl _) ⟨by rw[List.length_map];exact z,acc.toList,c,kr_ ?_ fun i u hu=>?_,by simpa using hD⟩,rfl,q _ (I.hok.fresh (Nat.le_refl _))⟩
 ·rw[List.length_map,show acc.toList.length=acc.size from Array.length_toList,hacc.1,hl]
 ·obtain⟨k',x,e1,e2⟩:=hacc.2 i u (by simpa using hu)
  have hi:i<kvs.length:=by rw[hl];exact(List.getElem?_eq_some_iff.mp e1).1
  have hk:(kvs[i]).1=k':=by
   obtain⟨u',hu',_⟩:=KV.at rel (i:=i) (p:=kvs[i]) (by simp[hi])
   rw[e1] at hu'
   exact(congrArg Prod.fst (Option.some.inj hu')).symm
  refine⟨kV k',by simp[hi,hk],la_ e2⟩
end
def intsD(f:List (Int×Int)):List (Key×V):=f.map fun p=>(Sum.inl p.1,V.int p.2)
theorem ks_(f:List (Int×Int))(k:Int):valV (intsD f) (Sum.inl k)=(Me.look f k).map V.int:=by
 induction f with
 | nil=>rfl
 | cons p r ih =>
  by_cases e:p.1=k
  ·have h1:valV (intsD (p::r)) (Sum.inl k)=some (V.int p.2):=bD_ (by show Sum.inl p.1=Sum.inl k;rw[e])
   rw[h1]
   simp[Me.look,List.find?_cons,e]
  ·have h1:valV (intsD (p::r)) (Sum.inl k)=valV (intsD r) (Sum.inl k):=bE_ (by intro z;exact e (Sum.inl.inj z))
   rw[h1,ih]
   simp[Me.look,List.find?_cons,e]
section
variable{X:Cx}
end
theorem iN_(f:List (Int×Int))(k v:Int):putK (intsD f) (Sum.inl k) (V.int v)=intsD (Me.put f k v):=by
 have e:((intsD f).any fun kv=>decide (kv.1=Sum.inl k))=f.any fun p=>decide (p.1=k):=by
  rw[intsD,List.any_map]
  congr 1
  funext p
  show decide (Sum.inl p.1=(Sum.inl k:Key))=decide (p.1=k)
  by_cases z:p.1=k
  ·simp[z]
  ·have z':¬ (Sum.inl p.1:Key)=Sum.inl k:=fun q=>z (Sum.inl.inj q)
   simp[z,z']
 unfold putK Me.put
 rw[e]
 split
 ·rw[intsD,List.map_map,intsD,List.map_map]
  apply List.map_congr_left
  intro p _
  show(if (Sum.inl p.1:Key)=Sum.inl k then (Sum.inl p.1,V.int v) else (Sum.inl p.1,V.int p.2))=(Sum.inl (if p.1=k then (p.1,v) else p).1,V.int (if p.1=k then (p.1,v) else p).2)
  by_cases z:p.1=k
  ·rw[if_pos (by rw[z]),if_pos z]
  ·rw[if_neg (fun q=>z (Sum.inl.inj q)),if_neg z]
 ·simp[intsD]
theorem eD_:∀(more f:List (Int×Int)),W_ (intsD f) (intsD more)=intsD (Me.ji_ f more)
 | [],f=>rfl
 | p::r,f=>by
  show W_ (putK (intsD f) (Sum.inl p.1) (V.int p.2)) (intsD r)=_
  rw[iN_,eD_ r]
  rfl
section
variable{X:Cx}
theorem aF_(hc:X.calm=true):CallR X (.builtin "sum") (fun xs H Q=>∃(p:Addr) (ns:List Int),xs=[.ref p]/\SqL X.K H p (ns.map V.int)/\Q (.int ns.sum) H):=by
 intro pins s σ H xs us Q I r h
 obtain⟨p,ns,rfl,hq,q⟩:=h
 obtain⟨u,rfl,rx⟩:=vals1 r
 cases rx
 obtain⟨its,rv,pl,hz⟩:=I.list hq
 have hl:=pl.isList
 have hlt:p<s.heap.objs.size:=by obtain⟨_,e,_⟩:=hl;exact Heap.lt_size e
 have hn:its.toArray.size=ns.length:=by rw[List.size_toArray,<-rv.length,List.length_map]
 refine call_sum_walkG (wpAny_pyIter_list hl ?_)
 refine⟨_,_,_,_,_,_,fun i=>(ns[i]?).getD 0,rfl,Walks.list (A:=X.A.in1) (I.ok.hd hc) s.heap.objs.size p (Nat.ne_of_lt hlt) its.toArray,⟨⟨_,Heap.get?_push_size _ rfl,rfl,rfl⟩,hl.push _⟩,fun b hb'=>?_,fun i v hP=>?_,fun h' tk t' hk=>?_⟩
 ·show b<(s.heap.push _).objs.size
  rw[Heap.size_push]
  rcases List.mem_cons.mp hb' with rfl | hb'
  ·exact Nat.lt_succ_self _
  ·have e:b=p:=by simpa using hb'
   rw[e];exact Nat.lt_succ_of_lt hlt
 ·have hv:its[i]?=some v:=by simpa using hP
  cases eb:ns[i]? with
  | none =>
   have:=rv.none_of (i:=i) (by rw[List.getElem?_map,eb];rfl)
   rw[this] at hv;cases hv
  | some b =>
   obtain⟨u,hu,ru⟩:=rv.get (i:=i) (x:=.int b) (by rw[List.getElem?_map,eb];rfl)
   rw[hu] at hv;cases hv
   obtain⟨t,rfl⟩:=ru
   exact⟨t,by simp[eb]⟩
 ·rw[hn,fq_ ns ns.length (Nat.le_refl _),List.take_length]
  exact⟨.int _,H,(show Inv X pins σ H {s with heap:=h',toks:=tk} from seen I hk),⟨_,rfl⟩,q⟩
def pE_(td:TE):TE:=fun σ H Q=>td σ H fun x H1=>∃a kvs,∃ns:List Int,x=.ref a/\H1 a=some (.dK kvs)/\kvs.map (·.2)=ns.map V.int/\Q (.int ns.sum) H1
theorem nk_{o:Expr}{td:TE}{p1 q1 apos cpos:Pos}(hc:X.calm=true)(hm1:X.mg "sum"=none)(hg1:Gl X "sum")(ho:PE X o td)(hbase:attributeBase o "values" X.env (eval o X.env)=eval o X.env:=by rfl)(hline:(apos.endLine==cpos.line)=true:=by rfl) :
  PE X (.Call (.Name "sum" p1) [.Call (.Attribute o "values" apos) [] [] cpos] [] q1) (pE_ td):=by
 intro pins s σ H Q I h
 refine wpAny_Call_Name_kw (aI_ I hg1 hm1 boot_sum ?_)
 refine PyProof.Rows.callWith_builtin1 ?_ rfl rfl
 show wpAny _ _ (spliced ((false,eval (.Call (.Attribute o "values" apos) [] [] cpos) X.env)::backTo q1 (starEach [] X.env))) _ _ s
 refine Calls.spliced_cons ?_
 refine wpAny_Call_method0_late hbase hline (thn (ho pins s σ H _ I h) fun v s1 ⟨x,H1,I1,r1,a,kvs,ns,ex,he,hns,q⟩=>?_)
 subst ex
 obtain rfl:v=Value.ref a:=r1
 obtain⟨t1,t2,_⟩:=lX_ I1 (.inl ⟨kvs,.inl he⟩)
 obtain⟨z,hd,vs,rel,dd⟩:=mo_ I1.hok he
 refine⟨"dict","dict.values",PySem.F.plainAttrs_dict,PySem.F.slot_dict_values,PySem.F.type_dict_values,t1,t2,Calls.callWith_builtin rfl (PySem.evalArgs_none ?_)⟩
 refine call_meetsIn PySem.F.slot_dict_values dd.typeIs PySem.F.entry_dict_values (PySem.F.args_dict_values_1 _) (meets_dict_values (w_ X.prog X.w) a hd) ⟨⟨_,dd⟩,?_⟩
 refine Calls.spliced_nil ?_
 obtain⟨ob,es,ep,hob,rest⟩:=dd
 have hob2:=Heap.get?_push_of_some {cls:=.type "dict_values",data:=.fields #[.ref a]} hob
 have hl:=rel.length
 have hln:kvs.length=ns.length:=by simpa using congrArg List.length hns
 have KS:=PySem.W.kdl_values (prog:=X.prog) (w:=X.w) (r:=s1.heap.objs.size) (d:=a) (ep:=ep) (kvs:=vs) (knd:=w_ X.prog X.w)
 have hok:(s1.heap.push {cls:=.type "dict_values",data:=.fields #[.ref a]}).IsValuesView s1.heap.objs.size a/\(s1.heap.push {cls:=.type "dict_values",data:=.fields #[.ref a]}).DictAt (w_ X.prog X.w) a vs ep:=⟨⟨_,Heap.get?_push_size _ rfl,rfl,rfl⟩,⟨ob,es,hob2,rest⟩⟩
 refine call_sum_walkG ?_
 obtain⟨oI,St,hit,W,st⟩:=KS.iter X.A.in1 {s1 with heap:=s1.heap.push {cls:=.type "dict_values",data:=.fields #[.ref a]}} (I1.ok.hd hc) hok
 refine hit _ _ ⟨_,_,_,_,_,_,fun i=>(ns[i]?).getD 0,rfl,W,st,fun b hb=>?_,fun i v hv=>?_,fun h' tk t' hk=>?_⟩
 ·show b<(Heap.push _ oI).objs.size
  rw[Heap.size_push]
  rcases List.mem_cons.mp hb with e | hb
  ·rw[e];exact Nat.lt_succ_self _
  ·rw[List.mem_singleton.mp hb];exact Nat.lt_succ_of_lt (KS.there _ hok).2
 ·obtain⟨k',e1⟩:=hv
  have hi:i<kvs.length:=by rw[hl];exact(List.getElem?_eq_some_iff.mp e1).1
  obtain⟨u',hu',ru⟩:=KV.at rel (i:=i) (p:=kvs[i]) (by simp[hi])
  rw[e1] at hu'
  have eu:v=u':=congrArg Prod.snd (Option.some.inj hu')
  have e2:(kvs.map (·.2))[i]?=(ns.map V.int)[i]?:=by rw[hns]
  have e3:(kvs.map (·.2))[i]?=some (kvs[i]).2:=by simp[hi]
  have e4:(ns.map V.int)[i]?=some (V.int ns[i]):=by simp[show i<ns.length by omega]
  rw[e3,e4] at e2
  have e5:=Option.some.inj e2
  rw[e5] at ru
  obtain⟨t,rfl⟩:=ru
  refine⟨t,?_⟩
  rw[eu]
  have e6:ns[i]?=some ns[i]:=List.getElem?_eq_getElem (show i<ns.length by omega)
  show Value.int ns[i] t=Value.int ((ns[i]?).getD 0) t
  rw[e6]
  rfl
 ·rw[<-hl,hln,fq_ ns ns.length (Nat.le_refl _),List.take_length]
  have hk2:∀b o,s1.heap.get? b=some o->h'.get? b=some o:=fun b o e=>hk b o (fun hI=>absurd (Heap.lt_size e) (by
   rw[List.mem_singleton.mp hI]
   show ¬ (s1.heap.push _).objs.size<_
   rw[Heap.size_push];omega)) (Heap.get?_push_of_some _ (Heap.get?_push_of_some _ e))
  exact⟨.int _,H1,I1.kept (t':=tk) (h':=h') hk2,⟨_,rfl⟩,q⟩
end
structure Def(P:Program)(w:World)(K:PySem.W.Frag)(mg:Str->Option Value)(base:Heap)(k:Nat)(x:Str)(ps:List Str)(sp:Sp):Prop where
 ex:∃f fd,FnOk P w K mg base CX0 k f fd ps sp/\mg x=some (.ref f)/\PySem.W.keepIn K (.ref f)=true/\Binds K fd ps []
section
variable{X:Cx}{k:Nat}{x:Str}{ps:List Str}{sp:Sp}{e a b c:Expr}{es:List Expr}{t:TA}{ta tb tc te:TE}{p pos:Pos}
theorem m_(D:Def X.prog X.w X.K X.mg X.base k x ps sp)(hr:Room k X.A)(hg:Gl X x)(ha:PA X (e::es) t)(hdb:(x==("__debug__":Str))=false:=by decide)
  (he:starEach (e::es) X.env=(false,eval e X.env)::starEach es X.env:=by rfl) (hpl:(backTo pos (starEach es X.env)).any (·.1)=false:=by rfl):PE X (.Call (.Name x p) (e::es) [] pos) (tCall sp [] E0 t):=by
 obtain⟨f,fd,G,h1,h2,h3⟩:=D.ex
 exact oR_ G hr hg h1 h2 h3 .nil pass0 ha hdb he hpl
theorem ixl(ha:PE X a ta)(hb:PE X b tb)(hs:ei_ b:=by intro _ _;rfl):PE X (.Subscript a b pos) (tOp (rIxL X.K) ta tb):=pW_ pj_ ha hb hs
theorem ixt(ha:PE X a ta)(hb:PE X b tb)(hs:ei_ b:=by intro _ _;rfl):PE X (.Subscript a b pos) (tOp (rIxT X.K) ta tb):=pW_ qx_ ha hb hs
theorem lenS(hm:X.mg "len"=none)(hg:Gl X "len")(ha:PE X a ta)(hs:starEach [a] X.env=[(false,eval a X.env)]:=by rfl) :
  PE X (.Call (.Name "len" p) [a] [] pos) (tCB (fun xs H Q=>∃p ys,xs=[.ref p]/\(SqL X.K H p ys\/SqT X.K H p ys)/\Q (.int ys.length) H) (tCons ta tNil)):=q_ gQ_ hg hm PySem.boot_len (a_ ha d_ hs) (he:=hs)
theorem ixlK(K:PySem.W.Frag)(hK:X.K=K)(ha:PE X a ta)(hb:PE X b tb)(hs:ei_ b:=by intro _ _;rfl):PE X (.Subscript a b pos) (tOp (rIxL K) ta tb):=by
 subst hK
 exact ixl ha hb hs
theorem ixtK(K:PySem.W.Frag)(hK:X.K=K)(ha:PE X a ta)(hb:PE X b tb)(hs:ei_ b:=by intro _ _;rfl):PE X (.Subscript a b pos) (tOp (rIxT K) ta tb):=by
 subst hK
 exact ixt ha hb hs
theorem iA_(K:PySem.W.Frag)(hK:X.K=K):SlR X (rSlL K):=by
 subst hK
 exact dB_
theorem fu_(K:PySem.W.Frag)(hK:X.K=K){k n:Nat}{u:TGs}(hc:X.calm=true)(h:PGs X es u)(hn:(assignEach es X.env).length=n:=by rfl)(hst:(assignEach es X.env).findIdx? (·.1)=none:=by rfl):PG X (.Tuple es k pos) (gTup K n u):=by
 subst hK
 exact df_ hc h hn hst
theorem jp_{K:PySem.W.Frag}:GKeeps 2 (gTup K 2 (gCons (gName 0) (gCons (gName 1) gNil))):=fun v σ H Q q=>by
 obtain⟨a,xs,e,h1,h2,v0,r0,e0,v1,r1,e1,e2,q⟩:=q
 exact⟨a,xs,e,h1,h2,v0,r0,e0,v1,r1,e1,e2,⟨by simp,fun i hi=>by rw[List.getElem?_set_ne (by omega),List.getElem?_set_ne (by omega)]⟩,q⟩
theorem nj_{y:Str}{T:String}(hm:X.mg y=none)(hv:bootBuiltins y=some (.type T))(hg:Gl X y:=by rfl)(hn:y≠"__name__":=by decide)(hd:(y==("__debug__":Str))=false:=by decide):PE X (.Name y pos) (tC (.ty T)) :=
 oS_ (v:=.ty T) hg hm hv rfl hn hd
theorem br_{K:PySem.W.Frag}{H:Hp}{q:Addr}{xs:List V}{i:Int}{v:V}{Q:VK}(h:H q=some (.lst xs))(e:atI xs i=some v)(k:Q v H):rIxL K (.ref q) (.int i) H Q:=⟨q,xs,i,v,rfl,rfl,SqL.of h,e,k⟩
theorem qO_{xs:List V}{i:Int}{Pr:V->Prop}(h0:0<=i)(h1:i<xs.length)(h:∀x∈xs,Pr x):∃v,atI xs i=some v/\Pr v:=by
 obtain⟨j,rfl⟩:∃j:Nat,i=j:=⟨i.toNat,by omega⟩
 have hj:j<xs.length:=by omega
 exact⟨xs[j],ab_ (by simp[hj]),h _ (List.getElem_mem hj)⟩
end
end L2
namespace Hv
open PySem L2
theorem sz{n:Nat}(h:n<=1000000):n<=sizeLine:=Nat.le_trans h (by decide)
theorem szl{n:Nat}(h:n<=1000000):n<sizeLine:=Nat.lt_of_le_of_lt h (by decide)
def Kp(fp:List Addr)(H H':Hp):Prop:=∀b o,H b=some o->b∉fp->H' b=some o
theorem Kp.refl{fp:List Addr}{H:Hp}:Kp fp H H:=fun _ _ h _=>h
theorem Kp.trans{fp:List Addr}{H H1 H2:Hp}(a:Kp fp H H1)(b:Kp fp H1 H2):Kp fp H H2:=fun c o h n=>b c o (a c o h n) n
theorem Kp.of{fp:List Addr}{H H':Hp}(a:Same H H'):Kp fp H H':=fun c o h _=>a c o h
theorem Kp.same{fp:List Addr}{H H1 H2:Hp}(a:Kp fp H H1)(b:Same H1 H2):Kp fp H H2:=fun c o h n=>b c o (a c o h n)
theorem h_{H:Hp}{a:Addr}{o:HO}(h:H a=none):Same H (upd H a o):=fun b u e=>by rw[j_ (f_ e h)];exact e
theorem t_{H H':Hp}{a:Addr}{o:HO}(s:Same H H')(h:H a=none):Same H (upd H' a o):=fun b u e=>by rw[j_ (f_ e h)];exact s b u e
theorem O_{fp:List Addr}{H H':Hp}{a:Addr}{o:HO}(s:Kp fp H H')(h:a∈fp\/H a=none):Kp fp H (upd H' a o):=fun b u e n=>by
 have:b≠a:=by
  rcases h with h | h
  ·exact fun z=>n (z▸h)
  ·exact f_ e h
 rw[j_ this];exact s b u e n
structure FrOk(b:Nat)(ps:List Nat)(ws:List Int):Prop where
 b2:2<=b
 b16:b<=16
 l2:2<=ps.length
 l4:ps.length<=4
 pr:∀p∈ps,1<=p/\p<=6
 wl:ws.length=ps.sum
 wr:∀x∈ws,-9<=x/\x<=9
abbrev natV(ps:List Nat):List V:=ps.map fun(p:Nat)=>V.int (p:Int)
theorem hW_(ps:List Nat):natV ps=(ps.map fun(p:Nat)=>(p:Int)).map V.int:=by simp[natV]
structure FrAt(H:Hp)(f a c:Addr)(b:Nat)(ps:List Nat)(ws:List Int):Prop where
 tp:H f=some (.tup [.int b,.ref a,.ref c])
 hp:H a=some (.lst (natV ps))
 hw:H c=some (.lst (ws.map V.int))
 ok:FrOk b ps ws
theorem FrAt.keep{H H':Hp}{f a c:Addr}{b:Nat}{ps:List Nat}{ws:List Int}(F:FrAt H f a c b ps ws)(s:Same H H'):FrAt H' f a c b ps ws:=⟨s _ _ F.tp,s _ _ F.hp,s _ _ F.hw,F.ok⟩
theorem FrOk.sum{b:Nat}{ps:List Nat}{ws:List Int}(F:FrOk b ps ws):2<=ps.sum/\ps.sum<=24:=by
 have h:=Ma.hg_ ps F.pr
 have h1:=F.l2
 have h2:=F.l4
 omega
theorem Kp.free{fp:List Addr}{H H':Hp}(s:Kp fp H H'){l:Addr}(h:H' l=none)(n:l∉fp):H l=none:=by
 cases q:H l with
 | none=>rfl
 | some o =>
  rw[s l o q n] at h
  cases h
theorem boot_isinstance:bootBuiltins "isinstance"=some (.builtin "isinstance"):=PyProof.Rows.boot_isinstance
theorem boot_int:bootBuiltins "int"=some (.type "int"):=PyProof.Rows.boot_int
theorem boot_bool:bootBuiltins "bool"=some (.type "bool"):=PyProof.Rows.boot_bool
theorem boot_list:bootBuiltins "list"=some (.type "list"):=PyProof.Rows.boot_list
theorem boot_tuple:bootBuiltins "tuple"=some (.type "tuple"):=PyProof.Rows.boot_tuple
theorem boot_all:bootBuiltins "all"=some (.builtin "all"):=PyProof.Rows.boot_all
theorem boot_sum:bootBuiltins "sum"=some (.builtin "sum"):=PyProof.Rows.boot_sum
theorem boot_max:bootBuiltins "max"=some (.builtin "max"):=PyProof.Rows.boot_max
theorem boot_min:bootBuiltins "min"=some (.builtin "min"):=PyProof.Rows.boot_min
structure Txt(mg:Str->Option Value):Prop where
 isi:mg "isinstance"=none
 int:mg "int"=none
 bool:mg "bool"=none
 list:mg "list"=none
 tuple:mg "tuple"=none
 all:mg "all"=none
 len:mg "len"=none
 sum:mg "sum"=none
 range:mg "range"=none
 max:mg "max"=none
 min:mg "min"=none
 rev:mg "reversed"=none
 zip:mg "zip"=none
 enum:mg "enumerate"=none
section
variable{K:PySem.W.Frag}
theorem qn_:PySem.W.kitOne K (.type "int") (.type "int")=some true:=by kernel_rfl
theorem qo_:PySem.W.kitOne K (.type "int") (.type "bool")=some false:=by kernel_rfl
theorem qq_:PySem.W.kitOne K (.type "bool") (.type "int")=some true:=by kernel_rfl
theorem qr_:PySem.W.kitOne K (.type "bool") (.type "bool")=some true:=by kernel_rfl
theorem qk_:PySem.W.kitOne K (.type "NoneType") (.type "int")=some false:=by kernel_rfl
theorem qj_:PySem.W.kitOne K (.type "str") (.type "int")=some false:=by kernel_rfl
theorem qm_:PySem.W.kitOne K (.type "list") (.type "int")=some false:=by kernel_rfl
theorem qi_:PySem.W.kitOne K (.type "tuple") (.type "int")=some false:=by kernel_rfl
theorem qp_:PySem.W.kitOne K (.type "dict") (.type "int")=some false:=by kernel_rfl
theorem ql_:PySem.W.kitOne K (.type "list") (.type "list")=some true:=by kernel_rfl
theorem qh_:PySem.W.kitOne K (.type "tuple") (.type "tuple")=some true:=by kernel_rfl
end
inductive Thing(H:Hp):V->Prop where
 | non:Thing H .non
 | bl (b:Bool):Thing H (.bl b)
 | int (i:Int):Thing H (.int i)
 | str (x:Str):Thing H (.str x)
 | lst {a:Addr} {xs:List V} (e:H a=some (.lst xs)):Thing H (.ref a)
 | tup {a:Addr} {xs:List V} (e:H a=some (.tup xs)):Thing H (.ref a)
 | dK {a:Addr} {kvs:List (Key×V)} (e:H a=some (.dK kvs)):Thing H (.ref a)
theorem Thing.keep{H H':Hp}{v:V}(t:Thing H v)(s:Same H H'):Thing H' v:=by
 cases t with
 | non=>exact .non
 | bl b=>exact .bl b
 | int i=>exact .int i
 | str x=>exact .str x
 | lst e=>exact .lst (s _ _ e)
 | tup e=>exact .tup (s _ _ e)
 | dK e=>exact .dK (s _ _ e)
def qy_:V->Bool
 | .int _=>true
 | _=>false
def betw(v:V)(lo hi:Int):Bool:=match v with
 | .int i=>decide (lo<=i)&&decide (i<=hi)
 | _=>false
def dv_:Sp:=fun vs H Q _=>∃v,vs=[v]/\Thing H v/\Q (.bl (qy_ v)) H
def eq_:Sp:=fun vs H Q _=>∃v lo hi,vs=[v,.int lo,.int hi]/\Thing H v/\Q (.bl (betw v lo hi)) H
def hm_:Sp:=fun vs H Q _=>∃a xs lo hi,vs=[.ref a,.int lo,.int hi]/\H a=some (.lst xs)/\xs.length<=1000/\(∀x∈xs,Thing H x)/\∀H',Same H H'->Q (.bl (xs.all fun x=>betw x lo hi)) H'
def dy_:Sp:=fun vs H Q _=>∃f a c b ps ws,vs=[.ref f]/\FrAt H f a c b ps ws/\∀H',Same H H'->Q (.bl true) H'
def S_:Sp:=fun vs H Q _=>∃f a c b ps ws,vs=[.ref f]/\FrAt H f a c b ps ws/\∀H',Same H H'->Q .non H'
def an_:Sp:=fun vs H Q _=>∃f a c b ps ws,vs=[.ref f]/\FrAt H f a c b ps ws/\∀H',Same H H'->Q (.int ((b ^ ps.sum:Nat):Int)) H'
def bn_:Sp:=fun vs H Q _=>∃f a c b ps ws,∃n:Nat,vs=[.ref f,.int n]/\FrAt H f a c b ps ws/\n<b ^ ps.sum/\∀H',Same H H'->Q .non H'
def ct_:Sp:=fun vs H Q _=>∃f a c b ps ws,∃n:Nat,vs=[.ref f,.int n]/\FrAt H f a c b ps ws/\n<b ^ ps.sum/\
 ∀r H',H r=none->Same H H'->H' r=some (.lst (natV (Ma.dws b n ps.sum ps.sum)))->Q (.ref r) H'
theorem mG_{ps:List Nat}{lo hi:Nat}(h:∀p∈ps,lo<=p/\p<=hi):((natV ps).all fun x=>betw x lo hi)=true:=by
 rw[List.all_eq_true]
 intro x hx
 obtain⟨p,hp,rfl⟩:=List.mem_map.mp hx
 have:=h p hp
 simp only[betw,Bool.and_eq_true,decide_eq_true_eq]
 omega
theorem mH_{ws:List Int}{lo hi:Int}(h:∀p∈ws,lo<=p/\p<=hi):((ws.map V.int).all fun x=>betw x lo hi)=true:=by
 rw[List.all_eq_true]
 intro x hx
 obtain⟨p,hp,rfl⟩:=List.mem_map.mp hx
 have:=h p hp
 simp only[betw,Bool.and_eq_true,decide_eq_true_eq]
 omega
theorem hf_{H:Hp}(ws:List Int):∀x∈ws.map V.int,Thing H x:=fun x hx=>by
 obtain⟨p,_,rfl⟩:=List.mem_map.mp hx
 exact .int p
theorem he_{H:Hp}(ps:List Nat):∀x∈natV ps,Thing H x:=fun x hx=>by
 obtain⟨p,_,rfl⟩:=List.mem_map.mp hx
 exact .int p
def top (i : Nat) : Stmt := PySem.Challenge.pw_likehalves_k22_whole_sums_of_frames.main.body.getD i (.Pass ⟨0, 0, 0, 0⟩)
abbrev kV_:Stmt:=top 7
abbrev sBetw:Stmt:=top 8
abbrev iH_:Stmt:=top 9
abbrev fn_:Stmt:=top 10
abbrev cP_:Stmt:=top 11
abbrev fo_:Stmt:=top 12
abbrev ch_:Stmt:=top 13
abbrev sCut:Stmt:=top 14
abbrev cS_:Stmt:=top 15
abbrev aQ_:Stmt:=top 16
abbrev dK_:Stmt:=top 17
abbrev hz_:Stmt:=top 18
abbrev cQ_:Stmt:=top 20
abbrev bN_:Stmt:=top 21
abbrev bP_:Stmt:=top 22
abbrev bp_:Stmt:=top 23
abbrev dH_:Stmt:=top 24
abbrev fk_:Stmt:=top 26
abbrev iG_:Stmt:=top 27
abbrev bM_:Stmt:=top 28
abbrev dG_:Stmt:=top 29
abbrev hA_:Stmt:=top 30
abbrev cV_:Stmt:=top 31
abbrev cU_:Stmt:=top 32
abbrev dJ_:Stmt:=top 33
abbrev fj_:Stmt:=top 34
abbrev hx_:Stmt:=top 35
abbrev bO_:Stmt:=top 36
abbrev dn_:Stmt:=top 38
abbrev iJ_:Stmt:=top 39
abbrev hy_:Stmt:=top 40
abbrev dd_:Stmt:=top 41
abbrev cO_:Stmt:=top 42
abbrev fl_:Stmt:=top 43
abbrev cf_:Stmt:=top 44
abbrev fi_:Stmt:=top 45
abbrev aP_:Stmt:=top 46
abbrev dL_:Stmt:=top 47
abbrev bq_:Stmt:=top 48
abbrev cx_:Stmt:=top 49
abbrev aL_:Stmt:=top 50
abbrev aH_:Stmt:=top 52
abbrev as_:Stmt:=top 53
abbrev Z_:Stmt:=top 54
abbrev ci_:Stmt:=top 55
abbrev aA_:Stmt:=top 56
abbrev aM_:Stmt:=top 57
abbrev dI_:Stmt:=top 58
abbrev cT_:Stmt:=top 59
abbrev dM_:Stmt:=top 60
abbrev cR_:Stmt:=top 61
abbrev kW_:Stmt:=top 63
abbrev sTake:Stmt:=top 64
abbrev iI_:Stmt:=top 65
abbrev sCopy:Stmt:=top 66
abbrev cg_:Stmt:=top 67
abbrev bc_:Stmt:=top 68
abbrev ah_:Stmt:=top 69
abbrev ak_:Stmt:=top 70
abbrev sLaw:Stmt:=top 71
section
variable{P:Program}{w:World}{K:PySem.W.Frag}{mg:Str->Option Value}{base:Heap}
theorem oJ_:FnScope ["thing"] ["thing"] (i_ kV_):=⟨rfl,rfl,rfl,by decide +kernel,rfl,by decide +kernel,by decide +kernel⟩
theorem nn_{f:Addr}{fd:FuncData}(F:Fun K "is_whole" "is_whole" kV_ f fd)(T:Txt mg):FnOk P w K mg base CX0 1 f fd ["thing"] dv_:=by
 refine F.ok oJ_ (fun vs H Q E h=>?_) (fun cdv A outer s H vs Q E hr h=>?_)
 ·obtain⟨v,rfl,_⟩:=h;rfl
 ·obtain⟨v,rfl,ty,k⟩:=h
  refine⟨_,g_ (o_ (iZ_ (q_ dq_ (by rfl) T.isi boot_isinstance (a_ (pv 0) (a_ (nj_ T.int boot_int) d_)))
   (iW_ (pV_ (q_ dq_ (by rfl) T.isi boot_isinstance (a_ (pv 0) (a_ (nj_ T.bool boot_bool) d_))))))),?_⟩
  cases ty with
  | non=>exact⟨_,rfl,_,_,_,_,rfl,.non,qk_,false,rfl,iteF k⟩
  | bl b=>exact⟨_,rfl,_,_,_,_,rfl,.bl b,qq_,true,rfl,iteT ⟨_,rfl,_,_,_,_,rfl,.bl b,qr_,true,rfl,k⟩⟩
  | int i=>exact⟨_,rfl,_,_,_,_,rfl,.int i,qn_,true,rfl,iteT ⟨_,rfl,_,_,_,_,rfl,.int i,qo_,false,rfl,k⟩⟩
  | str x=>exact⟨_,rfl,_,_,_,_,rfl,.str x,qj_,false,rfl,iteF k⟩
  | lst e=>exact⟨_,rfl,_,_,_,_,rfl,.lst e,qm_,false,rfl,iteF k⟩
  | tup e=>exact⟨_,rfl,_,_,_,_,rfl,.tup e,qi_,false,rfl,iteF k⟩
  | dK e=>exact⟨_,rfl,_,_,_,_,rfl,.dK e,qp_,false,rfl,iteF k⟩
theorem pN_:FnScope ["thing","least","greatest"] ["thing","least","greatest"] (i_ sBetw):=⟨rfl,rfl,rfl,by decide +kernel,rfl,by decide +kernel,by decide +kernel⟩
theorem oZ_{f:Addr}{fd:FuncData}(F:Fun K "is_between" "is_between" sBetw f fd)(D1:Def P w K mg base 1 "is_whole" ["thing"] dv_):FnOk P w K mg base CX0 2 f fd ["thing","least","greatest"] eq_:=by
 refine F.ok pN_ (fun vs H Q E h=>?_) (fun cdv A outer s H vs Q E hr h=>?_)
 ·obtain⟨v,lo,hi,rfl,_⟩:=h;rfl
 ·obtain⟨v,lo,hi,rfl,ty,k⟩:=h
  refine⟨_,g_ (o_ (iZ_ (m_ D1 hr (by rfl) (a_ (pv 0) d_)) (iW_ (iY_ gh_ gh_ (pv 1) (pv 0) (pv 2))))),?_⟩
  refine⟨_,rfl,v,rfl,ty,_,rfl,?_⟩
  cases v with
  | int i =>
   refine iteT ?_
   refine⟨_,rfl,_,rfl,_,_,rfl,rfl,_,rfl,?_⟩
   by_cases h1:lo<=i
   ·rw[decide_eq_true h1]
    refine iteT ⟨_,rfl,_,_,rfl,rfl,?_⟩
    have e:betw (.int i) lo hi=decide (i<=hi):=by simp[betw,h1]
    rw[e] at k
    exact k
   ·rw[decide_eq_false h1]
    refine iteF ?_
    have e:betw (.int i) lo hi=false:=by simp[betw,h1]
    rw[e] at k
    exact k
  | _=>exact iteF k
theorem oK_:FnScope ["thing","least","greatest"] ["thing","least","greatest"] (i_ iH_):=⟨rfl,rfl,rfl,by decide +kernel,rfl,by decide +kernel,by decide +kernel⟩
theorem nr_{f:Addr}{fd:FuncData}(F:Fun K "is_list_between" "is_list_between" iH_ f fd)(T:Txt mg)(D2:Def P w K mg base 2 "is_between" ["thing","least","greatest"] eq_):FnOk P w K mg base CX0 3 f fd ["thing","least","greatest"] hm_:=by
 refine F.ok oK_ (fun vs H Q E h=>?_) (fun cdv A outer s H vs Q E hr h=>?_)
 ·obtain⟨a,xs,lo,hi,rfl,_⟩:=h;rfl
 ·obtain⟨a,xs,lo,hi,rfl,ha,hlen,hth,k⟩:=h
  refine⟨_,g_ (o_ (iZ_ (q_ dq_ (by rfl) T.isi boot_isinstance (a_ (pv 0) (a_ (nj_ T.list boot_list) d_)))
   (iW_ (q_ (nP_ rfl) (by rfl) T.all boot_all (a_
    (aC_ (i_ iH_) ["thing","least","greatest"] ["least","greatest"] [1,2] rfl (M_ (pv 0)) (fun cl C s H fp=>af_) (fun cl C s H fp=>m_ D2 hr (by rfl) (a_ (pv 0) (a_ (pv 1) (a_ (pv 2) d_)))) (by decide +kernel)) d_))))),?_⟩
  refine⟨_,rfl,_,_,_,_,rfl,.lst ha,ql_,true,rfl,iteT ?_⟩
  refine⟨_,rfl,a,rfl,⟨_,SqL.of ha⟩,V_ (K:=K) (a:=a) (xs:=xs) (fun i ys H2=>ys=((xs.take i).map fun x=>V.bl (betw x lo hi))/\Same H H2) ⟨by simp,Same.refl _⟩ (fun i ys H2 _ p=>SqL.of (p.2 _ _ ha)) ?_ ?_⟩
  ·rintro i x ys H2 hx ⟨rfl,s2⟩
   have hil:i<xs.length:=(List.getElem?_eq_some_iff.mp hx).1
   refine⟨szl (by rw[List.length_map,List.length_take];omega),?_⟩
   refine⟨_,rfl,_,rfl,_,rfl,x,lo,hi,rfl,(hth x (List.mem_of_getElem? hx)).keep s2,?_,s2⟩
   rw[List.take_add_one,hx]
   simp
  ·rintro ys H2 ⟨rfl,s2⟩ D hD
   refine⟨D,xs.map fun x=>betw x lo hi,rfl,SqL.of ?_,?_⟩
   ·rw[c_,List.take_length,List.map_map]
    rfl
   ·have e:(xs.map fun x=>betw x lo hi).all id=xs.all fun x=>betw x lo hi:=by rw[List.all_map];rfl
    rw[e]
    exact k _ (t_ s2 (s2.free hD))
theorem kS_:FnScope ["thing"] ["thing"] (i_ fn_):=⟨rfl,rfl,rfl,by decide +kernel,rfl,by decide +kernel,by decide +kernel⟩
theorem jS_{f:Addr}{fd:FuncData}(F:Fun K "is_frame" "is_frame" fn_ f fd)(T:Txt mg)(D2:Def P w K mg base 2 "is_between" ["thing","least","greatest"] eq_)(D3:Def P w K mg base 3 "is_list_between" ["thing","least","greatest"] hm_) :
  FnOk P w K mg base CX0 4 f fd ["thing"] dy_:=by
 refine F.ok kS_ (fun vs H Q E h=>?_) (fun cdv A outer s H vs Q E hr h=>?_)
 ·obtain⟨g,a,c,b,ps,ws,rfl,_⟩:=h;rfl
 ·obtain⟨g,a,c,b,ps,ws,rfl,G,k⟩:=h
  have ok:=G.ok
  have hsum:=ok.sum
  refine⟨_,b_ (ae_ (PW.pt (hC_ (bl_ (bs_ (q_ dq_ (by rfl) T.isi boot_isinstance (a_ (pv 0) (a_ (nj_ T.tuple boot_tuple) d_))))) (dO_ (E_ el_ (lenS T.len (by rfl) (pv 0)) e_ (nomark _))))) (g_ (o_ bw_)) D_)
   (b_ (ae_ (bl_ (bs_ (m_ D2 hr.mo (by rfl) (a_ (ixt (pv 0) e_) (a_ e_ (a_ e_ d_)))))) (g_ (o_ bw_)) D_)
   (b_ (ae_ (PW.pt (hC_ (bl_ (bs_ (m_ D3 hr (by rfl) (a_ (ixt (pv 0) e_) (a_ e_ (a_ e_ d_)))))) (dO_ (bl_ (iO_ gh_ gh_ e_ (lenS T.len (by rfl) (ixt (pv 0) e_)) e_))))) (g_ (o_ bw_)) D_)
   (g_ (o_ (iZ_ (m_ D3 hr (by rfl) (a_ (ixt (pv 0) e_) (a_ (hD_ du_ e_) (a_ e_ d_))))
    (iW_ (fw_ ls_ (lenS T.len (by rfl) (ixt (pv 0) e_)) (q_ (aF_ rfl) (by rfl) T.sum boot_sum (a_ (ixt (pv 0) e_) d_)) (nomark _)))))))),?_⟩
  refine⟨_,rfl,_,_,_,_,rfl,.tup G.tp,qh_,true,rfl,iteF ?_⟩
  refine⟨_,rfl,g,_,rfl,.inr (SqT.of G.tp),rfl,_,rfl,iteNS rfl ?_⟩
  refine⟨_,rfl,_,_,_,_,rfl,rfl,SqT.of G.tp,rfl,⟨.int b,2,16,rfl,.int _,_,rfl,?_⟩⟩
  have e1:betw (.int b) 2 16=true:=by
   have h1:=ok.b2
   have h2:=ok.b16
   simp only[betw,Bool.and_eq_true,decide_eq_true_eq]
   omega
  rw[e1]
  refine iteF ?_
  refine⟨_,rfl,_,_,_,_,rfl,rfl,SqT.of G.tp,rfl,⟨a,_,1,6,rfl,G.hp,(by simp[natV];have:=ok.l4;omega),he_ ps,fun H1 s1=>⟨_,rfl,?_⟩⟩⟩
  have e2:((natV ps).all fun x=>betw x 1 6)=true:=mG_ (lo:=1) (hi:=6) ok.pr
  rw[e2]
  refine iteF ?_
  refine⟨_,rfl,_,_,_,_,rfl,rfl,SqT.of (s1 _ _ G.tp),rfl,⟨a,_,rfl,.inl (SqL.of (s1 _ _ G.hp)),_,_,rfl,rfl,_,rfl,?_⟩⟩
  have e3:((natV ps).length:Int)=ps.length:=by simp[natV]
  have l2:=ok.l2
  have l4:=ok.l4
  refine ite2 (fun _=>?_) (fun h=>absurd (decide_eq_true (by omega)) h)
  refine⟨_,_,rfl,rfl,_,rfl,?_⟩
  refine iteNS (by omega) ?_
  refine⟨_,rfl,_,_,_,_,rfl,rfl,SqT.of (s1 _ _ G.tp),rfl,⟨_,rfl,⟨c,_,-9,9,rfl,s1 _ _ G.hw,(by rw[List.length_map,ok.wl];omega),hf_ ws,fun H2 s2=>⟨_,rfl,?_⟩⟩⟩⟩
  have e4:((ws.map V.int).all fun x=>betw x (-9) 9)=true:=mH_ ok.wr
  rw[e4]
  refine iteT ?_
  have G2:=(G.keep s1).keep s2
  refine⟨_,rfl,_,_,_,_,rfl,rfl,SqT.of G2.tp,rfl,⟨c,_,rfl,.inl (SqL.of G2.hw),?_⟩⟩
  refine⟨_,rfl,_,_,_,_,rfl,rfl,SqT.of G2.tp,rfl,⟨a,ps.map fun(p:Nat)=>(p:Int),rfl,SqL.of (by rw[<-hW_];exact G2.hp),rfl,?_⟩⟩
  ·have e5:decide (V.int ((ws.map V.int).length:Int)=V.int (ps.map fun(p:Nat)=>(p:Int)).sum)=true:=by
    rw[decide_eq_true_eq,Ma.eO_,List.length_map,ok.wl]
   rw[e5]
   exact k H2 (s1.trans s2)
theorem hr_:FnScope ["thing"] ["thing"] (i_ cP_):=⟨rfl,rfl,rfl,by decide +kernel,rfl,by decide +kernel,by decide +kernel⟩
theorem gn_{f:Addr}{fd:FuncData}(F:Fun K "need_frame" "need_frame" cP_ f fd)(D4:Def P w K mg base 4 "is_frame" ["thing"] dy_):FnOk P w K mg base CX0 5 f fd ["thing"] S_:=by
 refine F.ok hr_ (fun vs H Q E h=>?_) (fun cdv A outer s H vs Q E hr h=>?_)
 ·obtain⟨g,a,c,b,ps,ws,rfl,_⟩:=h;rfl
 ·obtain⟨g,a,c,b,ps,ws,rfl,G,k⟩:=h
  refine⟨_,g_ (ae_ (bl_ (bs_ (m_ D4 hr (by rfl) (a_ (pv 0) d_)))) bt_ D_),?_⟩
  exact⟨_,rfl,g,a,c,b,ps,ws,rfl,G,fun H1 s1=>⟨_,rfl,iteF (k H1 s1)⟩⟩
theorem cv_:FnScope ["frame","many","place"] ["frame"] (i_ fo_):=⟨rfl,rfl,rfl,by decide +kernel,rfl,by decide +kernel,by decide +kernel⟩
theorem jT_{f:Addr}{fd:FuncData}(F:Fun K "how_many" "how_many" fo_ f fd)(T:Txt mg)(D5:Def P w K mg base 5 "need_frame" ["thing"] S_):FnOk P w K mg base CX0 6 f fd ["frame"] an_:=by
 refine F.ok cv_ (fun vs H Q E h=>?_) (fun cdv A outer s H vs Q E hr h=>?_)
 ·obtain⟨g,a,c,b,ps,ws,rfl,_⟩:=h;rfl
 ·obtain⟨g,a,c,b,ps,ws,rfl,G,k⟩:=h
  have ok:=G.ok
  have hsum:=ok.sum
  refine⟨_,b_ (y_ (m_ D5 hr (by rfl) (a_ (pv 0) d_)))
   (b_ (k_ (i:=1) cv_.nd rfl (Or.inl rfl) e_)
   (b_ (B_ PassesOwn.never rfl (C_ (by rfl) T.range (a_ (lenS T.len (by rfl) (ixt (pv 0) e_)) d_)) (n_ (i:=2) cv_.nd rfl (Or.inl rfl))
    (g_ (k_ (i:=1) cv_.nd rfl (Or.inl rfl) (l_ F_ (pv 1) (ixt (pv 0) e_)))))
   (g_ (o_ (pv 1))))),?_⟩
  refine⟨_,rfl,g,a,c,b,ps,ws,rfl,G,fun H1 s1=>?_⟩
  have G1:=G.keep s1
  refine⟨_,rfl,_,_,_,_,rfl,rfl,SqT.of G1.tp,rfl,⟨c,_,rfl,.inl (SqL.of G1.hw),_,rfl,(by rw[List.length_map,ok.wl];omega),(by rw[List.length_map,ok.wl];omega),?_⟩⟩
  have en:((ws.map V.int).length:Int).toNat=ps.sum:=by rw[List.length_map,ok.wl];omega
  rw[en]
  refine K_ (n:=ps.sum) (fun i σ H2=>H2=H1/\∃v,σ=[some (.ref g),some (.int ((b ^ i:Nat):Int)),v]) ⟨rfl,none,rfl⟩ ?_ ?_
  ·rintro i σ H2 hi ⟨rfl,v,rfl⟩
   refine⟨_,rfl,_,rfl,_,_,_,_,rfl,rfl,SqT.of G1.tp,rfl,⟨_,_,rfl,rfl,.inr ⟨by have:=ok.b16;omega,by have:=ok.b16;omega⟩,rfl,some (.int (0+(i:Int))),?_⟩⟩
   rw[Nat.pow_succ]
   push_cast
   rfl
  ·rintro σ H2 ⟨rfl,v,rfl⟩
   exact⟨_,rfl,k _ s1⟩
theorem gb_:FnScope ["frame","thing"] ["frame","thing"] (i_ ch_):=⟨rfl,rfl,rfl,by decide +kernel,rfl,by decide +kernel,by decide +kernel⟩
theorem fz_{f:Addr}{fd:FuncData}(F:Fun K "need_number" "need_number" ch_ f fd)(D2:Def P w K mg base 2 "is_between" ["thing","least","greatest"] eq_)(D6:Def P w K mg base 6 "how_many" ["frame"] an_) :
  FnOk P w K mg base CX0 7 f fd ["frame","thing"] bn_:=by
 refine F.ok gb_ (fun vs H Q E h=>?_) (fun cdv A outer s H vs Q E hr h=>?_)
 ·obtain⟨g,a,c,b,ps,ws,n,rfl,_⟩:=h;rfl
 ·obtain⟨g,a,c,b,ps,ws,n,rfl,G,hn,k⟩:=h
  refine⟨_,g_ (ae_ (bl_ (bs_ (m_ D2 hr.mo (by rfl) (a_ (pv 1) (a_ e_ (a_ (l_ Q_ (m_ D6 hr (by rfl) (a_ (pv 0) d_)) e_) d_)))))) bt_ D_),?_⟩
  refine⟨_,rfl,_,rfl,g,a,c,b,ps,ws,rfl,G,fun H1 s1=>⟨_,_,rfl,rfl,.int n,0,_,rfl,.int _,_,rfl,?_⟩⟩
  have e:betw (.int (n:Int)) 0 (((b ^ ps.sum:Nat):Int)-1)=true:=by
   simp only[betw,Bool.and_eq_true,decide_eq_true_eq]
   omega
  rw[e]
  exact iteF (k H1 s1)
theorem az_:FnScope ["frame","n","figures","rest","place"] ["frame","n"] (i_ cS_):=⟨rfl,rfl,rfl,by decide +kernel,rfl,by decide +kernel,by decide +kernel⟩
theorem gq_{f:Addr}{fd:FuncData}(F:Fun K "figures_of" "figures_of" cS_ f fd)(T:Txt mg)(D5:Def P w K mg base 5 "need_frame" ["thing"] S_)(D7:Def P w K mg base 7 "need_number" ["frame","thing"] bn_) :
  FnOk P w K mg base CX0 8 f fd ["frame","n"] ct_:=by
 refine F.ok az_ (fun vs H Q E h=>?_) (fun cdv A outer s H vs Q E hr h=>?_)
 ·obtain⟨g,a,c,b,ps,ws,n,rfl,_⟩:=h;rfl
 ·obtain⟨g,a,c,b,ps,ws,n,rfl,G,hn,k⟩:=h
  have ok:=G.ok
  have hsum:=ok.sum
  have b2:=ok.b2
  have b16:=ok.b16
  refine⟨_,b_ (y_ (m_ D5 hr.mo (by rfl) (a_ (pv 0) d_)))
   (b_ (y_ (m_ D7 hr (by rfl) (a_ (pv 0) (a_ (pv 1) d_))))
   (b_ (k_ (i:=2) az_.nd rfl (Or.inl rfl) (P_ d_))
   (b_ (k_ (i:=3) az_.nd rfl (Or.inl rfl) (pv 1))
   (b_ (B_ PassesOwn.never rfl (C_ (by rfl) T.range (a_ (lenS T.len (by rfl) (ixt (pv 0) e_)) d_)) (n_ (i:=4) az_.nd rfl (Or.inl rfl))
    (b_ (y_ (bv_ PySem.F.plainAttrs_list PySem.F.slot_list_append PySem.F.type_list_append H_ (pv 2) (a_ (l_ I_ (pv 3) (ixt (pv 0) e_)) d_)))
    (g_ (k_ (i:=3) az_.nd rfl (Or.inl rfl) (l_ bf_ (pv 3) (ixt (pv 0) e_))))))
   (g_ (o_ (hE_ rfl T.list T.rev (by rfl) (by rfl) (pv 2)))))))),?_⟩
  refine⟨_,rfl,g,a,c,b,ps,ws,rfl,G,fun H1 s1=>?_⟩
  have G1:=G.keep s1
  refine⟨_,rfl,_,rfl,g,a,c,b,ps,ws,n,rfl,G1,hn,fun H2 s2=>?_⟩
  have G2:=G1.keep s2
  refine⟨sz (by decide),fun l hl=>?_⟩
  have s3:Same H2 (upd H2 l (.lst [])):=h_ hl
  have G3:=G2.keep s3
  refine⟨_,rfl,_,rfl,_,_,_,_,rfl,rfl,SqT.of G3.tp,rfl,⟨c,_,rfl,.inl (SqL.of G3.hw),_,rfl,(by rw[List.length_map,ok.wl];omega),(by rw[List.length_map,ok.wl];omega),?_⟩⟩
  have en:((ws.map V.int).length:Int).toNat=ps.sum:=by rw[List.length_map,ok.wl];omega
  rw[en]
  refine K_ (n:=ps.sum) (fun i σ H4=>∃v,σ=[some (.ref g),some (.int n),some (.ref l),some (.int ((n / b ^ i:Nat):Int)),v]/\Same H2 H4/\H4 l=some (.lst (natV (Ma.ups b n i)))) ⟨none,(by rw[Nat.pow_zero,Nat.div_one];rfl),s3,c_⟩ ?_ ?_
  ·rintro i σ H4 hi ⟨v,rfl,s4,h4⟩
   have G4:=G2.keep s4
   refine⟨_,rfl,.inl ⟨rfl,_,SqL.of h4⟩,_,rfl,_,rfl,_,_,_,_,rfl,rfl,SqT.of G4.tp,rfl,⟨_,_,rfl,rfl,(by show(0:Int)<b;omega),l,_,_,rfl,rfl,h4,szl (by simp[natV,Ma.oE_];omega),?_⟩⟩
   have s5:Same H2 (upd H4 l (.lst (natV (Ma.ups b n i)++[V.int (((n / b ^ i:Nat):Int) % (b:Int))]))):=t_ s4 hl
   refine⟨_,rfl,_,rfl,_,_,_,_,rfl,rfl,SqT.of (G2.keep s5).tp,rfl,⟨_,_,rfl,rfl,⟨by show(0:Int)<b;omega,by show(b:Int)<1073741824;omega⟩,some (.int (0+(i:Int))),?_,s5,?_⟩⟩
   ·rw[<-Ma.qJ_]
    push_cast
    rfl
   ·rw[c_,Ma.mT_]
    simp[natV]
  ·rintro σ H4 ⟨v,rfl,s4,h4⟩
   refine⟨_,rfl,l,_,rfl,SqL.of h4,fun r hr'=>?_⟩
   refine k r _ ?_ ((s1.trans s2).trans (t_ s4 (s4.free hr'))) ?_
   ·exact(s1.trans (s2.trans s4)).free hr'
   ·rw[c_,<-Ma.oD_]
    simp[natV]
end
abbrev dh_(H:Hp)(qs:List Addr)(rows:List (List Int)):Prop:=Paired (fun q row=>H q=some (.lst (row.map V.int))) qs rows
theorem dh_.keepOn{H H':Hp}{qs:List Addr}{rows:List (List Int)}(s:∀b∈qs,∀row:List Int,H b=some (.lst (row.map V.int))->H' b=some (.lst (row.map V.int)))(h:dh_ H qs rows):dh_ H' qs rows:=by
 induction h with
 | nil=>exact .nil
 | cons h _ ih=>exact .cons (s _ (by simp) _ h) (ih fun b hb=>s b (List.mem_cons_of_mem _ hb))
theorem cy_{F:Addr->List Int->Prop}{qs:List Addr}{rows:List (List Int)}{i:Nat}{q:Addr}(h:Paired F qs rows)(e:qs[i]?=some q):∃row,rows[i]?=some row/\F q row:=Paired.at h e
def spCut:Sp:=fun vs H Q _=>∃f a c b ps ws,∃(r:Addr) (xs:List Int),vs=[.ref f,.ref r]/\FrAt H f a c b ps ws/\H r=some (.lst (xs.map V.int))/\
 ∀p qs H',Same H H'->H' p=some (.lst (qs.map V.ref))->dh_ H' qs (Ma.cuts ps xs)->Q (.ref p) H'
def ix_:Sp:=fun vs H Q _=>∃f a c b ps ws,∃n:Nat,vs=[.ref f,.int n]/\FrAt H f a c b ps ws/\n<b ^ ps.sum/\
 ∀r H',H r=none->Same H H'->H' r=some (.lst ((Ma.psums ps (Ma.wts b n ps.sum ws)).map V.int))->Q (.ref r) H'
theorem mw_{xs:List V}{i k:Nat}:cutV xs (some (i:Int)) (some ((i:Int)+(k:Int)))=(xs.drop i).take k:=by
 have e:(i:Int)+(k:Int)=((i+k:Nat):Int):=by omega
 unfold cutV
 rw[e,HT.dN_,HT.dN_]
 rcases Nat.le_total i xs.length with h | h
 ·rw[Nat.min_eq_left h]
  rcases Nat.le_total (i+k) xs.length with h2 | h2
  ·rw[Nat.min_eq_left h2,Nat.add_sub_cancel_left]
  ·rw[Nat.min_eq_right h2,List.take_of_length_le (by rw[List.length_drop];omega),List.take_of_length_le (by rw[List.length_drop];omega)]
 ·rw[Nat.min_eq_right h,List.drop_of_length_le (Nat.le_refl _),List.drop_of_length_le h]
  simp
section
variable{P:Program}{w:World}{K:PySem.W.Frag}{mg:Str->Option Value}{base:Heap}
theorem scCut:FnScope ["frame","row","pieces","start","length"] ["frame","row"] (i_ sCut):=⟨rfl,rfl,rfl,by decide +kernel,rfl,by decide +kernel,by decide +kernel⟩
theorem qd_{f:Addr}{fd:FuncData}(F:Fun K "cut_by_parts" "cut_by_parts" sCut f fd):FnOk P w K mg base CX0 1 f fd ["frame","row"] spCut:=by
 refine F.ok scCut (fun vs H Q E h=>?_) (fun cdv A outer s H vs Q E hr h=>?_)
 ·obtain⟨g,a,c,b,ps,ws,r,xs,rfl,_⟩:=h;rfl
 ·obtain⟨g,a,c,b,ps,ws,r,xs,rfl,G,hrow,k⟩:=h
  have nd:=scCut.nd
  have l4:=G.ok.l4
  refine⟨_,b_ (k_ (i:=2) nd rfl (Or.inl rfl) (P_ d_))
   (b_ (k_ (i:=3) nd rfl (Or.inl rfl) e_)
   (b_ (B_ PassesOwn.never rfl (M_ (ixt (pv 0) e_)) (n_ (i:=4) nd rfl (Or.inl rfl))
    (b_ (y_ (bv_ PySem.F.plainAttrs_list PySem.F.slot_list_append PySem.F.type_list_append H_ (pv 2) (a_ (bQ_ dB_ (pv 1) (bu_ (pv 3)) (bu_ (l_ r_ (pv 3) (pv 4)))) d_)))
    (g_ (k_ (i:=3) nd rfl (Or.inl rfl) (l_ r_ (pv 3) (pv 4))))))
   (g_ (o_ (pv 2))))),?_⟩
  refine⟨sz (by decide),fun p hp=>?_⟩
  have s1:Same H (upd H p (.lst [])):=h_ hp
  have G1:=G.keep s1
  refine⟨_,rfl,_,_,_,_,rfl,rfl,SqT.of G1.tp,rfl,a,rfl,⟨_,SqL.of G1.hp⟩,al_ (K:=K) (a:=a) (xs:=natV ps) (fun i σ H2=>∃(qs:List Addr) (v4:Option V),σ=[some (.ref g),some (.ref r),some (.ref p),some (.int (((ps.take i).sum:Nat):Int)),v4]/\
   Same H H2/\H2 p=some (.lst (qs.map V.ref))/\qs.length=i/\dh_ H2 qs ((Ma.cuts ps xs).take i)) ⟨[],none,rfl,s1,c_,rfl,.nil⟩ (fun i σ H2 _ h=>by obtain⟨_,_,_,s2,_⟩:=h;exact SqL.of (s2 _ _ G.hp)) ?_ ?_⟩
  ·rintro i x σ H2 hx ⟨qs,v4,rfl,s2,hp2,hl2,rows⟩
   have hi:i<ps.length:=by
    have:=(List.getElem?_eq_some_iff.mp hx).1
    simpa [natV] using this
   have e:ps[i]?=some ps[i]:=by simp[hi]
   have ex:x=V.int ((ps[i]:Nat):Int):=by
    have:(natV ps)[i]?=some (V.int ((ps[i]:Nat):Int)):=by simp[natV,hi]
    rw[this] at hx
    exact(Option.some.inj hx).symm
   subst ex
   have pr:p≠r:=Ne.symm (f_ hrow hp)
   refine⟨_,rfl,.inl ⟨rfl,_,SqL.of hp2⟩,_,rfl,_,rfl,_,rfl,_,rfl,_,rfl,_,_,rfl,rfl,_,rfl,r,_,rfl,SqL.of (s2 _ _ hrow),fun q hq=>?_⟩
   have pq:p≠q:=f_ hp2 hq
   refine⟨p,_,_,rfl,rfl,(by rw[j_ pq];exact hp2),szl (by rw[List.length_map];omega),?_⟩
   refine⟨_,rfl,_,rfl,_,_,rfl,rfl,qs++[q],some (.int ((ps[i]:Nat):Int)),?_,t_ (t_ s2 (s2.free hq)) hp,?_,by simp[hl2],?_⟩
   ·rw[List.take_add_one,e,List.sum_append]
    show[some (V.ref g),some (.ref r),some (.ref p),some (.int (((ps.take i).sum:Nat)+((ps[i]:Nat):Int))),_]=_
    simp
   ·rw[c_];simp
   ·rw[List.take_add_one,Ma.bW_ ps xs i ps[i] e]
    refine Paired.snoc (dh_.keepOn (H:=H2) (fun bb hb row z=>?_) rows) ?_
    ·have bp:bb≠p:=hV_ z hp2 (by
      intro e
      have e':row.map V.int=qs.map V.ref:=by injection e
      have m1:V.ref bb∈row.map V.int:=by rw[e'];exact List.mem_map.mpr ⟨bb,hb,rfl⟩
      obtain⟨_,_,m2⟩:=List.mem_map.mp m1
      cases m2)
     rw[j_ bp,j_ (f_ z hq)]
     exact z
    ·rw[j_ pq.symm,c_,mw_,<-List.map_drop,<-List.map_take]
  ·rintro σ H2 ⟨qs,v4,rfl,s2,hp2,hl2,rows⟩
   refine⟨_,rfl,k p qs H2 s2 hp2 ?_⟩
   have e:(natV ps).length=(Ma.cuts ps xs).length:=by rw[Ma.A_];simp[natV]
   rw[e,List.take_length] at rows
   exact rows
end
theorem kl_{X:Cx}(K:PySem.W.Frag)(hK:X.K=K)(hc:X.calm=true):CallR X (.builtin "sum") (fun xs H Q=>∃(p:Addr) (ns:List Int),xs=[.ref p]/\SqL K H p (ns.map V.int)/\Q (.int ns.sum) H):=by
 subst hK
 exact aF_ hc
section
variable{P:Program}{w:World}{K:PySem.W.Frag}{mg:Str->Option Value}{base:Heap}
theorem eu_:FnScope ["frame","n","figures","weighted"] ["frame","n"] (i_ aQ_):=⟨rfl,rfl,rfl,by decide +kernel,rfl,by decide +kernel,by decide +kernel⟩
theorem hK_{f:Addr}{fd:FuncData}(F:Fun K "part_sums" "part_sums" aQ_ f fd)(T:Txt mg)(D8:Def P w K mg base 8 "figures_of" ["frame","n"] ct_)(DC:Def P w K mg base 1 "cut_by_parts" ["frame","row"] spCut):FnOk P w K mg base CX0 9 f fd ["frame","n"] ix_:=by
 refine F.ok eu_ (fun vs H Q E h=>?_) (fun cdv A outer s H vs Q E hr h=>?_)
 ·obtain⟨g,a,c,b,ps,ws,n,rfl,_⟩:=h;rfl
 ·obtain⟨g,a,c,b,ps,ws,n,rfl,G,hn,k⟩:=h
  have nd:=eu_.nd
  have ok:=G.ok
  have hsum:=ok.sum
  have b2:=ok.b2
  have b16:=ok.b16
  have l4:=ok.l4
  have nd2:List.Nodup (["figure","weight"]:List Str):=by decide +kernel
  have hsmall:=Ma.ko_ (n:=n) (L:=ps.sum) (by omega:0<b) b16 ok.wr
  refine⟨_,b_ (k_ (i:=2) nd rfl (Or.inl rfl) (m_ D8 hr (by rfl) (a_ (pv 0) (a_ (pv 1) d_))))
   (b_ (le_ (i:=3) (N:=["figure","weight"]) (k:=2) (fr:=[]) nd rfl (Or.inl rfl) (cmpS (sc:=i_ aQ_) (NX:=["frame","n","figures","weighted"]) (k:=2) (fr:=[]) rfl rfl (by decide +kernel))
    (cmpF (sc:=i_ aQ_) (NX:=["frame","n","figures","weighted"]) rfl (by decide +kernel)) rfl (ob_ (by rfl) T.zip (pv 2) (ixt (pv 0) e_))
    (fun cl C s H fp=>fu_ K rfl rfl (z_ (n_ (i:=0) nd2 rfl (Or.inl rfl)) (z_ (n_ (i:=1) nd2 rfl (Or.inl rfl)) aB_))) jp_ (fun cl C s H fp=>af_) (fun cl C s H fp=>l_ F_ (pv 0) (pv 1)) (by rfl))
   (g_ (o_ (aC_ (i_ aQ_) ["frame","n","figures","weighted"] [] [] rfl (M_ (m_ DC hr.mo (by rfl) (a_ (pv 0) (a_ (pv 3) d_)))) (fun cl C s H fp=>af_)
    (fun cl C s H fp=>q_ (kl_ K rfl rfl) (by rfl) T.sum boot_sum (a_ (pv 0) d_)) (by decide +kernel))))),?_⟩
  refine⟨_,rfl,_,rfl,g,a,c,b,ps,ws,n,rfl,G,hn,fun r H1 hr1 s1 h1=>?_⟩
  have G1:=G.keep s1
  refine⟨_,rfl,_,rfl,_,_,_,_,rfl,rfl,SqT.of G1.tp,rfl,r,c,rfl,rfl,⟨_,SqL.of h1⟩,⟨_,SqL.of G1.hw⟩,nL_ (K:=K) (a:=r) (b:=c) (xs:=natV (Ma.dws b n ps.sum ps.sum)) (ys:=ws.map V.int)
   (fun i zs H'=>zs=((Ma.wts b n ps.sum ws).take i).map V.int/\Same H1 H') (by simp[natV,Ma.L_,ok.wl]) ⟨by simp,Same.refl _⟩ (fun i zs H' _ p=>⟨SqL.of (p.2 _ _ h1),SqL.of (p.2 _ _ G1.hw)⟩)
   (fun i zs H' hi p=>szl (by rw[p.1,List.length_map,List.length_take];simp[natV,Ma.L_] at hi;omega)) ?_ ?_⟩
  ·rintro i x y zs H' t hx hy ⟨rfl,s2⟩ ht
   obtain⟨d,hd,rfl⟩:∃d:Nat,(Ma.dws b n ps.sum ps.sum)[i]?=some d/\x=.int d:=by
    rw[natV,List.getElem?_map] at hx
    cases e:(Ma.dws b n ps.sum ps.sum)[i]? with
    | none=>rw[e] at hx;cases hx
    | some d=>rw[e] at hx;exact⟨d,rfl,(Option.some.inj hx).symm⟩
   obtain⟨x,hw,rfl⟩:∃x:Int,ws[i]?=some x/\y=.int x:=by
    rw[List.getElem?_map] at hy
    cases e:ws[i]? with
    | none=>rw[e] at hy;cases hy
    | some d=>rw[e] at hy;exact⟨d,rfl,(Option.some.inj hy).symm⟩
   have hx9:=ok.wr x (List.mem_of_getElem? hw)
   refine⟨t,_,rfl,SqT.of c_,rfl,_,_,rfl,_,_,rfl,rfl,_,rfl,_,rfl,_,_,rfl,rfl,.inr ⟨by omega,by omega⟩,?_,t_ s2 (s2.free ht)⟩
   rw[List.take_add_one,Ma.ox_ hd hw]
   simp
  rintro zs H' ⟨rfl,s2⟩ wl hwl
  have e1:(natV (Ma.dws b n ps.sum ps.sum)).length=(Ma.wts b n ps.sum ws).length:=by rw[Ma.ha_ _ _ _ _ ok.wl];simp[natV,Ma.L_]
  rw[e1,List.take_length]
  have s3:Same H1 (upd H' wl (.lst ((Ma.wts b n ps.sum ws).map V.int))):=t_ s2 (s2.free hwl)
  have G3:=G1.keep s3
  refine⟨_,rfl,_,rfl,g,a,c,b,ps,ws,wl,Ma.wts b n ps.sum ws,rfl,G3,c_,fun pl qs H4 s4 hpl rows=>⟨pl,rfl,⟨_,SqL.of hpl⟩,V_ (K:=K) (a:=pl) (xs:=qs.map V.ref)
   (fun i ys H5=>ys=((Ma.psums ps (Ma.wts b n ps.sum ws)).take i).map V.int/\H4=H5) ⟨by simp,rfl⟩ (fun i ys H5 _ p=>by rw[<-p.2];exact SqL.of hpl) ?_ ?_⟩⟩
  ·rintro i x ys H5 hx ⟨rfl,rfl⟩
   obtain⟨q,hq,rfl⟩:∃q,qs[i]?=some q/\x=.ref q:=by
    rw[List.getElem?_map] at hx
    cases e:qs[i]? with
    | none=>rw[e] at hx;cases hx
    | some d=>rw[e] at hx;exact⟨d,rfl,(Option.some.inj hx).symm⟩
   obtain⟨row,hrow,hq4⟩:=cy_ rows hq
   have hm:=List.mem_of_getElem? hrow
   have hlen:=Paired.length rows
   have hil:=(List.getElem?_eq_some_iff.mp hq).1
   rw[Ma.A_] at hlen
   refine⟨szl (by rw[List.length_map,List.length_take];omega),_,rfl,q,row,rfl,SqL.of hq4,?_,rfl⟩
   ·have e:(Ma.psums ps (Ma.wts b n ps.sum ws))[i]?=some row.sum:=by unfold Ma.psums;rw[List.getElem?_map,hrow];rfl
    rw[List.take_add_one,e]
    simp
  ·rintro ys H5 ⟨rfl,rfl⟩ r2 hr2
   have hlen:=Paired.length rows
   have e:(qs.map V.ref).length=(Ma.psums ps (Ma.wts b n ps.sum ws)).length:=by rw[Ma.U_,List.length_map,hlen,Ma.A_]
   rw[e,List.take_length]
   have S:=(s1.trans s3).trans s4
   exact k r2 _ (S.free hr2) (t_ S (S.free hr2)) c_
end
def spread(zs:List Int):Int:=Ma.maxL zs-Ma.minL zs
abbrev bX_(b n:Nat)(ps:List Nat)(ws:List Int):List Int:=Ma.psums ps (Ma.wts b n ps.sum ws)
theorem it_{b n:Nat}{ps:List Nat}{ws:List Int}(ok:FrOk b ps ws):0<(bX_ b n ps ws).length:=by
 have:=ok.l2
 rw[Ma.U_];omega
def eZ_:Sp:=fun vs H Q _=>∃f a c b ps ws,∃n:Nat,vs=[.ref f,.int n]/\FrAt H f a c b ps ws/\n<b ^ ps.sum/\∀H',Same H H'->Q (.int (spread (bX_ b n ps ws))) H'
def iy_:Sp:=fun vs H Q _=>∃f a c b ps ws,∃n:Nat,vs=[.ref f,.int n]/\FrAt H f a c b ps ws/\n<b ^ ps.sum/\∀H',Same H H'->Q (.bl (decide (spread (bX_ b n ps ws)=0))) H'
section
variable{P:Program}{w:World}{K:PySem.W.Frag}{mg:Str->Option Value}{base:Heap}
theorem ex_:FnScope ["frame","n","totals"] ["frame","n"] (i_ dK_):=⟨rfl,rfl,rfl,by decide +kernel,rfl,by decide +kernel,by decide +kernel⟩
theorem ly_{f:Addr}{fd:FuncData}(F:Fun K "misses_by" "misses_by" dK_ f fd)(T:Txt mg)(DP:Def P w K mg base 9 "part_sums" ["frame","n"] ix_):FnOk P w K mg base CX0 10 f fd ["frame","n"] eZ_:=by
 refine F.ok ex_ (fun vs H Q E h=>?_) (fun cdv A outer s H vs Q E hr h=>?_)
 ·obtain⟨g,a,c,b,ps,ws,n,rfl,_⟩:=h;rfl
 ·obtain⟨g,a,c,b,ps,ws,n,rfl,G,hn,k⟩:=h
  refine⟨_,b_ (k_ (i:=2) ex_.nd rfl (Or.inl rfl) (m_ DP hr (by rfl) (a_ (pv 0) (a_ (pv 1) d_))))
   (g_ (o_ (l_ Q_ (q_ (cG_ rfl) (by rfl) T.max boot_max (a_ (pv 2) d_)) (q_ (bA_ rfl) (by rfl) T.min boot_min (a_ (pv 2) d_))))),?_⟩
  refine⟨_,rfl,_,rfl,g,a,c,b,ps,ws,n,rfl,G,hn,fun r H1 _ s1 h1=>?_⟩
  exact⟨_,rfl,r,_,rfl,SqL.of h1,it_ G.ok,_,rfl,r,_,rfl,SqL.of h1,it_ G.ok,_,_,rfl,rfl,k H1 s1⟩
theorem nd_:FnScope ["frame","n"] ["frame","n"] (i_ hz_):=⟨rfl,rfl,rfl,by decide +kernel,rfl,by decide +kernel,by decide +kernel⟩
theorem oY_{f:Addr}{fd:FuncData}(F:Fun K "is_even" "is_even" hz_ f fd)(DM:Def P w K mg base 10 "misses_by" ["frame","n"] eZ_):FnOk P w K mg base CX0 11 f fd ["frame","n"] iy_:=by
 refine F.ok nd_ (fun vs H Q E h=>?_) (fun cdv A outer s H vs Q E hr h=>?_)
 ·obtain⟨g,a,c,b,ps,ws,n,rfl,_⟩:=h;rfl
 ·obtain⟨g,a,c,b,ps,ws,n,rfl,G,hn,k⟩:=h
  refine⟨_,g_ (o_ (fw_ ls_ (m_ DM hr (by rfl) (a_ (pv 0) (a_ (pv 1) d_))) e_ (nomark _))),?_⟩
  refine⟨_,rfl,_,rfl,g,a,c,b,ps,ws,n,rfl,G,hn,fun H1 s1=>⟨rfl,?_⟩⟩
  have e:decide (V.int (spread (bX_ b n ps ws))=V.int 0)=decide (spread (bX_ b n ps ws)=0):=by
   by_cases h:spread (bX_ b n ps ws)=0
   ·rw[h];simp
   ·rw[decide_eq_false h,decide_eq_false (fun z=>h (by injection z))]
  rw[e]
  exact k H1 s1
end
theorem boot_dict:bootBuiltins "dict"=some (.type "dict"):=PyProof.Rows.boot_dict
theorem boot_sorted:bootBuiltins "sorted"=some (.builtin "sorted"):=PyProof.Rows.boot_sorted
theorem ia_{f:List (Int×Int)}{i:Nat}{k:Key}{v:V}(h:(intsD f)[i]?=some (k,v)):∃p:Int×Int,f[i]?=some p/\k=Sum.inl p.1/\v=.int p.2:=by
 rw[intsD,List.getElem?_map] at h
 cases e:f[i]? with
 | none=>rw[e] at h;cases h
 | some p =>
  rw[e] at h
  have z:=Option.some.inj h
  exact⟨p,rfl,(congrArg Prod.fst z).symm,(congrArg Prod.snd z).symm⟩
theorem aq_{H:Hp}{a:Addr}{f:List (Int×Int)}{k:Int}(h:Rd H a (.dK (intsD f))):DGet H a (.int k) ((Me.look f k).map V.int):=.inl ⟨intsD f,Sum.inl k,h,rfl,(ks_ f k).symm⟩
theorem dp_(o:Option Int):(o.map V.int).getD (.int 0)=.int (o.getD 0):=by cases o <;> rfl
theorem dZ_{H:Hp}{a:Addr}{f:List (Int×Int)}{k v:Int}(h:H a=some (.dK (intsD f)))(hl:f.length<=100000):DPut H a (.int k) (.int v) (upd H a (.dK (intsD (Me.put f k v)))):=by
 rw[<-iN_]
 exact DPut.k (k:=Sum.inl k) h (szl (by rw[intsD,List.length_map];omega))
def dx_:Sp:=fun vs H Q _=>∃(a:Addr) (f:List (Int×Int)) (b:Nat) (w:Int) (m:Nat),vs=[.ref a,.int b,.int w]/\H a=some (.dK (intsD f))/\Me.Ok f m/\m<=1000/\b<=16/\(-9<=w/\w<=9)/\
 ∀p H',H p=none->Same H H'->H' p=some (.dK (intsD (Me.N_ f b w)))->Q (.ref p) H'
section
variable{P:Program}{w:World}{K:PySem.W.Frag}{mg:Str->Option Value}{base:Heap}
theorem ga_:FnScope ["ways","base","weight","longer","total","figure","reached"] ["ways","base","weight"] (i_ fk_):=⟨rfl,rfl,rfl,by decide +kernel,rfl,by decide +kernel,by decide +kernel⟩
theorem jR_{f:Addr}{fd:FuncData}(F:Fun K "with_one_more_figure" "with_one_more_figure" fk_ f fd)(T:Txt mg):FnOk P w K mg base CX0 1 f fd ["ways","base","weight"] dx_:=by
 refine F.ok ga_ (fun vs H Q E h=>?_) (fun cdv A outer s H vs Q E hr h=>?_)
 ·obtain⟨a,f,b,wt,m,rfl,_⟩:=h;rfl
 ·obtain⟨a,f,b,wt,m,rfl,ha,ok,hm,hb,hw,k⟩:=h
  have nd:=ga_.nd
  have hu:=cD_ hr
  refine⟨_,b_ (k_ (i:=3) nd rfl (Or.inl rfl) be_)
   (b_ (B_ PassesOwn.never rfl (cj_ (pv 0)) (n_ (i:=4) nd rfl (Or.inl rfl))
    (g_ (B_ PassesOwn.never rfl (C_ (by rfl) T.range (a_ (pv 1) d_)) (n_ (i:=5) nd rfl (Or.inl rfl))
     (b_ (k_ (i:=6) nd rfl (Or.inl rfl) (l_ r_ (pv 4) (l_ F_ (pv 5) (pv 2))))
     (g_ (cX_ hu (pv 3) (pv 6) (l_ r_ (bR_ hu (pv 3) (pv 6) e_ ⟨rfl,rfl,rfl,rfl⟩) (ar_ hu (pv 0) (pv 4) (fun _ _=>rfl))) rfl))))))
   (bd_ (g_ (o_ (pv 3))))),?_⟩
  intro l hl
  have nal:a≠l:=f_ ha hl
  refine⟨_,rfl,a,intsD f,rfl,(by rw[j_ nal];exact ha),fun o=>bh_ (fun i σ H2=>∃v4 v5 v6,σ=[some (.ref a),some (.int b),some (.int wt),some (.ref l),v4,v5,v6]/\H2 a=some (.frz o (.dK (intsD f)))/\Kp [a] H H2/\H2 l=some (.dK (intsD (Me.N_ (f.take i) b wt))))
   ⟨none,none,none,rfl,c_,O_ (O_ Kp.refl (.inr hl)) (.inl (by simp)),?_⟩ (fun i σ H2 _ h=>by obtain⟨_,_,_,_,z,_⟩:=h;exact z) ?_ ?_⟩
  ·rw[j_ nal.symm,c_];rfl
  ·rintro i kk v σ H2 hk ⟨v4,v5,v6,rfl,fa,kp,hl2⟩
   obtain⟨p,hp,rfl,rfl⟩:=ia_ hk
   have pm:=List.mem_of_getElem? hp
   have pb:=ok.bd p.1 (List.mem_map.mpr ⟨p,pm,rfl⟩)
   have o0:=Me.aT_ ok hw hb i
   refine⟨_,rfl,_,rfl,by omega,by omega,K_ (n:=(b:Int).toNat) (fun d σ H3=>∃v5 v6,σ=[some (.ref a),some (.int b),some (.int wt),some (.ref l),some (.int p.1),v5,v6]/\H3 a=some (.frz o (.dK (intsD f)))/\Kp [a] H H3/\H3 l=some (.dK (intsD (Me.figs p wt d (Me.N_ (f.take i) b wt)))))
    ⟨v5,v6,rfl,fa,kp,hl2⟩ ?_ ?_⟩
   ·rintro d σ H3 hd ⟨v5,v6,rfl,fa3,kp3,hl3⟩
    have hd':d<b:=by omega
    have od:=Me.fK_ pb hw hb o0 d (by omega)
    have hlen:=Me.Ok.len (m:=m+135) (by push_cast;exact od)
    refine⟨_,rfl,_,rfl,_,rfl,_,_,rfl,rfl,.inr ⟨by omega,by omega⟩,_,_,rfl,rfl,?_⟩
    refine⟨_,rfl,l,rfl,.inl ⟨_,.inl hl3⟩,_,rfl,_,aq_ (.inl hl3),_,rfl,_,rfl,a,.int p.2,rfl,?_,_,_,dp_ _,rfl,_,rfl,_,rfl,l,_,rfl,dZ_ hl3 (by omega),?_⟩
    ·have z:=aq_ (k:=p.1) (.inr ⟨o,fa3⟩)
     rw[Me.Y_ ok.nd pm] at z
     exact z
    ·refine⟨_,_,rfl,?_,O_ kp3 (.inr hl),?_⟩
     ·rw[j_ nal];exact fa3
     ·rw[c_,Me.X_]
      have e0:(0:Int)+(d:Int)=(d:Int):=Int.zero_add _
      rw[e0]
      rfl
   ·rintro σ H3 ⟨v5,v6,rfl,fa3,kp3,hl3⟩
    refine⟨_,_,_,rfl,fa3,kp3,?_⟩
    have eb:(b:Int).toNat=b:=by omega
    rw[eb] at hl3
    rw[Me.bx_ hp]
    exact hl3
  ·rintro σ H2 ⟨v4,v5,v6,rfl,fa,kp,hl2⟩
   have el:(intsD f).length=f.length:=by rw[intsD,List.length_map]
   rw[el,List.take_length] at hl2
   refine⟨a,o,intsD f,fa,(fun o' u z=>by
    have z':H a=some (.frz o' u):=z
    rw[ha] at z';cases z'),_,rfl,k l _ hl (fun x ob e=>?_) (by rw[j_ nal.symm];exact hl2)⟩
   by_cases hx:x=a
   ·rw[hx,c_,<-ha,<-hx];exact e
   ·rw[j_ hx];exact kp x ob e (by simpa using hx)
end
theorem eB_{H H':Hp}(s:Same H H'){ts:List Addr}{kvs:List (Key×V)}(h:co_ H ts kvs):co_ H' ts kvs:=Paired.mapP h fun _ _ e=>s _ _ e
theorem jM_{H:Hp}{t:Addr}{p:Key×V}(h:H t=some (.tup [kV p.1,p.2])){ts:List Addr}{kvs:List (Key×V)}(q:co_ H ts kvs):co_ H (ts++[t]) (kvs++[p]):=by
 induction q with
 | nil=>exact .cons h .nil
 | cons h0 _ ih=>exact .cons h0 ih
def eT_:Sp:=fun vs H Q _=>∃(b:Nat) (r:Addr) (ws:List Int),vs=[.int b,.ref r]/\H r=some (.lst (ws.map V.int))/\b<=16/\(∀x∈ws,-9<=x/\x<=9)/\ws.length<=6/\
 ∀p H' g,H p=none->Same H H'->H' p=some (.dK (intsD g))->g.Perm (Me.waysW b ws)->Q (.ref p) H'
theorem nU_{b i:Nat}{ws:List Int}(hw:∀x∈ws,-9<=x/\x<=9)(hb:b<=16):Me.Ok (Me.waysW b (ws.take i)) ((135*i:Nat):Int):=by
 have h:=Me.dt_ hw hb i
 push_cast
 exact h
section
variable{P:Program}{w:World}{K:PySem.W.Frag}{mg:Str->Option Value}{base:Heap}
theorem kN_:FnScope ["base","weights","ways","weight"] ["base","weights"] (i_ iG_):=⟨rfl,rfl,rfl,by decide +kernel,rfl,by decide +kernel,by decide +kernel⟩
theorem no_{f:Addr}{fd:FuncData}(F:Fun K "ways_of_weights" "ways_of_weights" iG_ f fd)(T:Txt mg)(ndict:mg "dict"=none)(nsorted:mg "sorted"=none)(DO:Def P w K mg base 1 "with_one_more_figure" ["ways","base","weight"] dx_) :
  FnOk P w K mg base CX0 2 f fd ["base","weights"] eT_:=by
 refine F.ok kN_ (fun vs H Q E h=>?_) (fun cdv A outer s H vs Q E hr h=>?_)
 ·obtain⟨b,r,ws,rfl,_⟩:=h;rfl
 ·obtain⟨b,r,ws,rfl,hrow,hb,hw,hlen,k⟩:=h
  have nd:=kN_.nd
  have hu:=cD_ hr
  refine⟨_,b_ (k_ (i:=2) nd rfl (Or.inr rfl) (lp_ (iU_ e_ e_ lj_) rfl rfl (by simp) (by decide)))
   (b_ (B_ PassesOwn.never rfl (M_ (pv 1)) (n_ (i:=3) nd rfl (Or.inl rfl)) (g_ (k_ (i:=2) nd rfl (Or.inr rfl) (m_ DO hr (by rfl) (a_ (pv 2) (a_ (pv 0) (a_ (pv 3) d_)))))))
   (g_ (o_ (cA_ (km_ rfl) (by rfl) ndict boot_dict (a_ (aC_ (i_ iG_) ["base","weights","ways","weight"] ["ways"] [2] rfl (M_ (q_ (gN_ rfl) (by rfl) nsorted boot_sorted (a_ (pv 2) d_)))
    (fun cl C s H fp=>af_) (fun cl C s H fp=>aS_ (a_ (pv 0) (a_ (ar_ hu (pv 1) (pv 0) (fun _ _=>rfl)) d_))) (by decide +kernel)) d_))))),?_⟩
  intro p0 hp0
  refine⟨c_,[(Sum.inl 0,.int 1)],rfl,by decide,?_⟩
  have s0:Same H (upd (upd H p0 (.dK [])) p0 (.dK (W_ [] [(Sum.inl 0,V.int 1)]))):=t_ (h_ hp0) hp0
  have u0:(upd (upd H p0 (.dK [])) p0 (.dK (W_ [] [(Sum.inl 0,V.int 1)]))) p0=some (.dK (intsD [(0,1)])):=c_
  generalize upd (upd H p0 (.dK [])) p0 (.dK (W_ [] [(Sum.inl 0,V.int 1)]))=H0 at s0 u0⊢
  refine⟨_,rfl,r,rfl,⟨_,SqL.of (s0 _ _ hrow)⟩,al_ (K:=K) (a:=r) (xs:=ws.map V.int) (fun i σ H2=>∃p v3,σ=[some (.int b),some (.ref r),some (.ref p),v3]/\Same H H2/\H p=none/\H2 p=some (.dK (intsD (Me.waysW b (ws.take i)))))
   ⟨p0,none,rfl,s0,hp0,u0⟩ (fun i σ H2 _ h=>by obtain⟨_,_,_,s2,_⟩:=h;exact SqL.of (s2 _ _ hrow)) ?_ ?_⟩
  ·rintro i x σ H2 hx ⟨p,v3,rfl,s2,np,hp⟩
   have hil:i<ws.length:=by have:=(List.getElem?_eq_some_iff.mp hx).1;simpa using this
   obtain⟨y,hy,rfl⟩:∃y:Int,ws[i]?=some y/\x=.int y:=by
    rw[List.getElem?_map] at hx
    cases e:ws[i]? with
    | none=>rw[e] at hx;cases hx
    | some d=>rw[e] at hx;exact⟨d,rfl,(Option.some.inj hx).symm⟩
   refine⟨_,rfl,_,rfl,_,rfl,p,_,b,y,135*i,rfl,hp,nU_ hw hb,by omega,hb,hw y (List.mem_of_getElem? hy),fun p' H3 np' s3 hp3=>⟨p',_,rfl,s2.trans s3,s2.free np',?_⟩⟩
   rw[Me.cJ_ hy]
   exact hp3
  rintro σ H2 ⟨p,v3,rfl,s2,np,hp⟩
  have oW:Me.Ok (Me.waysW b ws) ((135*ws.length:Nat):Int):=by
   have:=nU_ (i:=ws.length) hw hb
   rwa [List.take_length] at this
  rw[List.length_map,List.take_length] at hp
  have hWl:=oW.len
  generalize Me.waysW b ws=W at hp oW hWl k
  refine⟨_,rfl,p,intsD W,Me.keys W,rfl,.inl hp,by simp[intsD,Me.keys],fun l ns' hl hperm=>?_⟩
  have s3:=h_ (o:=.lst (ns'.map V.int)) hl
  have u3:(upd H2 l (.lst (ns'.map V.int))) l=some (.lst (ns'.map V.int)):=c_
  generalize upd H2 l (.lst (ns'.map V.int))=H3 at s3 u3⊢
  have hp3:=s3 _ _ hp
  have hnl:ns'.length=W.length:=by rw[hperm.length_eq];simp[Me.keys]
  refine⟨l,rfl,⟨_,SqL.of u3⟩,V_ (K:=K) (a:=l) (xs:=ns'.map V.int) (fun i ys H'=>∃ts,ys=ts.map V.ref/\ts.length=i/\Same H3 H'/\co_ H' ts (intsD ((ns'.take i).map fun n=>(n,(Me.look W n).getD 0))))
   ⟨[],rfl,rfl,Same.refl _,.nil⟩ (fun i ys H' _ h=>by obtain⟨_,_,_,s',_⟩:=h;exact SqL.of (s' _ _ u3)) ?_ ?_⟩
  ·rintro i x ys H' hx ⟨ts,rfl,htl,s',pa⟩
   have hil:i<ns'.length:=by have:=(List.getElem?_eq_some_iff.mp hx).1;simpa using this
   obtain⟨n,hn,rfl⟩:∃n:Int,ns'[i]?=some n/\x=.int n:=by
    rw[List.getElem?_map] at hx
    cases e:ns'[i]? with
    | none=>rw[e] at hx;cases hx
    | some d=>rw[e] at hx;exact⟨d,rfl,(Option.some.inj hx).symm⟩
   obtain⟨q,hq,eq⟩:=List.mem_map.mp (hperm.mem_iff.mp (List.mem_of_getElem? hn))
   have hlk:Me.look W n=some q.2:=by rw[<-eq];exact Me.Y_ oW.nd hq
   refine⟨szl (by rw[List.length_map];omega),_,rfl,_,rfl,_,rfl,p,.int q.2,rfl,?_,sz (by simp),fun t ht=>⟨ts++[t],by simp,by simp[htl],s'.trans (h_ ht),?_⟩⟩
   ·have z:=aq_ (k:=n) (.inl (s' _ _ hp3))
    rw[hlk] at z
    exact z
   ·rw[List.take_add_one,hn]
    have e2:intsD ((ns'.take i++(some n).toList).map fun n=>(n,(Me.look W n).getD 0))=intsD ((ns'.take i).map fun n=>(n,(Me.look W n).getD 0))++[(Sum.inl n,V.int q.2)]:=by
     simp[intsD,hlk]
    rw[e2]
    exact jM_ (p:=(Sum.inl n,V.int q.2)) c_ (eB_ (h_ ht) pa)
  rintro ys H' ⟨ts,rfl,htl,s',pa⟩ l2 hl2
  rw[List.length_map,List.take_length] at pa
  have hg:=Me.jN_ oW.nd hperm
  have gnd:(Me.keys (ns'.map fun n=>(n,(Me.look W n).getD 0))).Nodup:=(hg.map Prod.fst).nodup_iff.mpr oW.nd
  refine⟨l2,ts,_,rfl,c_,eB_ (h_ hl2) pa,fun q hq=>?_⟩
  have em:W_ [] (intsD (ns'.map fun n=>(n,(Me.look W n).getD 0)))=intsD (ns'.map fun n=>(n,(Me.look W n).getD 0)):=by
   have z:=eD_ (ns'.map fun n=>(n,(Me.look W n).getD 0)) []
   rw[Me.gw_ _ [] (by simpa using gnd)] at z
   exact z
  rw[em]
  have S:=s2.trans (s3.trans (s'.trans (h_ (o:=.lst (ts.map V.ref)) hl2)))
  exact k q _ _ (S.free hq) (S.trans (h_ hq)) c_ hg
end
abbrev ef_(H:Hp)(b:Nat)(qs:List Addr)(rows:List (List Int)):Prop:=Paired (fun q row=>∃g,H q=some (.dK (intsD g))/\g.Perm (Me.waysW b row)) qs rows
theorem ef_.keep{H H':Hp}{b:Nat}{qs:List Addr}{rows:List (List Int)}(s:Same H H')(h:ef_ H b qs rows):ef_ H' b qs rows:=L2.Paired.mapP h fun q row ⟨g,e,p⟩=>⟨g,s _ _ e,p⟩
abbrev mO_(H:Hp)(b:Nat)(qs:List Addr)(rows:List (List Int)):Prop:=Paired (fun q row=>∃g,Rd H q (.dK (intsD g))/\g.Perm (Me.waysW b row)) qs rows
def aZ_:Sp:=fun vs H Q _=>∃f a c b ps ws,vs=[.ref f]/\FrAt H f a c b ps ws/\∀(p:Addr) (qs:List Addr) (H':Hp),Same H H'->H p=none->H' p=some (.lst (qs.map V.ref))->ef_ H' b qs (Ma.cuts ps ws)->Q (.ref p) H'
def bG_:Sp:=fun vs H Q _=>∃(p:Addr) (qs:List Addr) (b:Nat) (rows:List (List Int)) (t:Int),vs=[.ref p,.int t]/\H p=some (.lst (qs.map V.ref))/\mO_ H b qs rows/\b<=16/\(∀row∈rows,(∀x∈row,-9<=x/\x<=9)/\row.length<=6)/\
 Q (.int (Me.prodW b rows t)) H
section
variable{P:Program}{w:World}{K:PySem.W.Frag}{mg:Str->Option Value}{base:Heap}
theorem hq_:FnScope ["frame"] ["frame"] (i_ bM_):=⟨rfl,rfl,rfl,by decide +kernel,rfl,by decide +kernel,by decide +kernel⟩
theorem gj_{f:Addr}{fd:FuncData}(F:Fun K "ways_of_parts" "ways_of_parts" bM_ f fd)(T:Txt mg)(DC:Def P w K mg base 1 "cut_by_parts" ["frame","row"] spCut)(DV:Def P w K mg base 2 "ways_of_weights" ["base","weights"] eT_) :
  FnOk P w K mg base CX0 3 f fd ["frame"] aZ_:=by
 refine F.ok hq_ (fun vs H Q E h=>?_) (fun cdv A outer s H vs Q E hr h=>?_)
 ·obtain⟨g,a,c,b,ps,ws,rfl,_⟩:=h;rfl
 ·obtain⟨g,a,c,b,ps,ws,rfl,G,k⟩:=h
  refine⟨_,g_ (o_ (aC_ (i_ bM_) ["frame"] ["frame"] [0] rfl (M_ (m_ DC hr.mo (by rfl) (a_ (pv 0) (a_ (ixt (pv 0) e_) d_))))
   (fun cl C s H fp=>af_) (fun cl C s H fp=>m_ DV hr (by rfl) (a_ (ixtK K rfl (pv 1) e_) (a_ (pv 0) d_))) (by decide +kernel))),?_⟩
  refine⟨_,rfl,_,rfl,_,_,_,_,rfl,rfl,SqT.of G.tp,rfl,g,a,c,b,ps,ws,c,ws,rfl,G,G.hw,fun p qs H2 s2 hp rows=>?_⟩
  have G2:=G.keep s2
  have hql:qs.length=ps.length:=by
   have e:qs.length=(Ma.cuts ps ws).length:=rows.length
   rw[e,Ma.A_]
  have l4:=G.ok.l4
  refine⟨p,rfl,⟨_,SqL.of hp⟩,V_ (K:=K) (a:=p) (xs:=qs.map V.ref) (fun i ys H'=>∃ts,ys=ts.map V.ref/\ts.length=i/\Same H2 H'/\ef_ H' b ts ((Ma.cuts ps ws).take i))
   ⟨[],rfl,rfl,Same.refl _,.nil⟩ (fun i ys H' _ h=>by obtain⟨_,_,_,s',_⟩:=h;exact SqL.of (s' _ _ hp)) ?_ ?_⟩
  ·rintro i x ys H' hx ⟨ts,rfl,htl,s',wa⟩
   have hil:i<qs.length:=by have:=(List.getElem?_eq_some_iff.mp hx).1;simpa using this
   obtain⟨q,hq,rfl⟩:∃q:Addr,qs[i]?=some q/\x=.ref q:=by
    rw[List.getElem?_map] at hx
    cases e:qs[i]? with
    | none=>rw[e] at hx;cases hx
    | some d=>rw[e] at hx;exact⟨d,rfl,(Option.some.inj hx).symm⟩
   obtain⟨row,hj,hrow⟩:=cy_ rows hq
   refine⟨szl (by rw[List.length_map];omega),_,rfl,_,_,_,_,rfl,rfl,SqT.of (G2.keep s').tp,rfl,_,rfl,b,q,row,rfl,s' _ _ hrow,G.ok.b16,fun x hx=>G.ok.wr x (Ma.bV_ (List.mem_of_getElem? hj) x hx),Ma.au_ (fun p hp=>(G.ok.pr p hp).2) (List.mem_of_getElem? hj),fun p' H3 gg np s3 hp3 hg=>⟨ts++[p'],by simp,by simp[htl],s'.trans s3,?_⟩⟩
   rw[List.take_add_one,hj]
   exact Paired.snoc (wa.keep s3) ⟨gg,hp3,hg⟩
  ·rintro ys H' ⟨ts,rfl,htl,s',wa⟩ l hl
   have e:(qs.map V.ref).length=(Ma.cuts ps ws).length:=by rw[List.length_map,Ma.A_];exact hql
   rw[e,List.take_length] at wa
   have sl:=h_ (o:=.lst (ts.map V.ref)) hl
   exact k l ts _ (s2.trans (s'.trans sl)) (s2.free (s'.free hl)) c_ (wa.keep sl)
theorem er_:FnScope ["ways_by_part","total","many","ways"] ["ways_by_part","total"] (i_ dG_):=⟨rfl,rfl,rfl,by decide +kernel,rfl,by decide +kernel,by decide +kernel⟩
theorem hH_{f:Addr}{fd:FuncData}(F:Fun K "ways_with" "ways_with" dG_ f fd):FnOk P w K mg base CX0 1 f fd ["ways_by_part","total"] bG_:=by
 refine F.ok er_ (fun vs H Q E h=>?_) (fun cdv A outer s H vs Q E hr h=>?_)
 ·obtain⟨p,qs,b,rows,t,rfl,_⟩:=h;rfl
 ·obtain⟨p,qs,b,rows,t,rfl,hp,wa,hb,hrs,k⟩:=h
  have nd:=er_.nd
  have hu:=cD_ hr
  refine⟨_,b_ (k_ (i:=2) nd rfl (Or.inl rfl) e_)
   (b_ (B_ PassesOwn.never rfl (M_ (pv 0)) (n_ (i:=3) nd rfl (Or.inl rfl))
    (g_ (k_ (i:=2) nd rfl (Or.inl rfl) (l_ F_ (pv 2) (bR_ hu (pv 3) (pv 1) e_ ⟨rfl,rfl,rfl,rfl⟩)))))
   (g_ (o_ (pv 2)))),?_⟩
  refine⟨_,rfl,p,rfl,⟨_,SqL.of hp⟩,al_ (K:=K) (a:=p) (xs:=qs.map V.ref) (fun i σ H'=>∃v3,σ=[some (.ref p),some (.int t),some (.int (Me.prodW b (rows.take i) t)),v3]/\H=H')
   ⟨none,rfl,rfl⟩ (fun i σ H' _ h=>by obtain⟨_,_,e⟩:=h;rw[<-e];exact SqL.of hp) ?_ ?_⟩
  ·rintro i x σ H' hx ⟨v3,rfl,rfl⟩
   obtain⟨q,hq,rfl⟩:∃q:Addr,qs[i]?=some q/\x=.ref q:=by
    rw[List.getElem?_map] at hx
    cases e:qs[i]? with
    | none=>rw[e] at hx;cases hx
    | some d=>rw[e] at hx;exact⟨d,rfl,(Option.some.inj hx).symm⟩
   obtain⟨row,hj,g,hg,perm⟩:=cy_ wa hq
   obtain⟨hw,hl⟩:=hrs row (List.mem_of_getElem? hj)
   have wok:=Me.dm_ (b:=b) hw hb
   obtain⟨v0,v1⟩:=Me.mS_ (b:=b) hb hl t
   have elk:=Me.gy_ perm wok.nd t
   have cm:CMul (Me.prodW b (rows.take i) t) ((Me.look g t).getD 0):=by rw[elk];exact .inr ⟨by omega,by omega⟩
   refine⟨_,rfl,_,rfl,q,rfl,.inl ⟨_,hg⟩,_,rfl,_,aq_ hg,Me.prodW b (rows.take i) t,(Me.look g t).getD 0,rfl,dp_ _,cm,some (.ref q),?_,rfl⟩
   rw[Me.jK_ hj,<-elk]
   rfl
  ·rintro σ H' ⟨v3,rfl,rfl⟩
   have e:(qs.map V.ref).length=rows.length:=by rw[List.length_map];exact wa.length
   rw[e,List.take_length]
   exact⟨_,rfl,k⟩
end
def bL_:Sp:=fun vs H Q _=>∃f a c b ps ws,vs=[.ref f]/\FrAt H f a c b ps ws/\∀(p:Addr) (g:List (Int×Int)) (H':Hp),H p=none->Same H H'->H' p=some (.dK (intsD g))->
 (∃row,(Ma.cuts ps ws)[0]?=some row/\g.Perm (Me.evenL b (Ma.cuts ps ws) (Me.keys (Me.waysW b row))))->Q (.ref p) H'
def cd_:Sp:=fun vs H Q _=>∃f a c b ps ws,∃t:Int,vs=[.ref f,.int t]/\FrAt H f a c b ps ws/\∀H',Same H H'->Q (.int (Me.prodW b (Ma.cuts ps ws) t)) H'
theorem cW_{H:Hp}{f a c:Addr}{b:Nat}{ps:List Nat}{ws:List Int}(G:FrAt H f a c b ps ws):∀row∈Ma.cuts ps ws,(∀x∈row,-9<=x/\x<=9)/\row.length<=6 :=
 fun row hr=>⟨fun x hx=>G.ok.wr x (Ma.bV_ hr x hx),Ma.au_ (fun p hp=>(G.ok.pr p hp).2) hr⟩
theorem ef_.rd{H:Hp}{b:Nat}{qs:List Addr}{rows:List (List Int)}(h:ef_ H b qs rows):mO_ H b qs rows:=L2.Paired.mapP h fun q row ⟨g,e,p⟩=>⟨g,.inl e,p⟩
section
variable{P:Program}{w:World}{K:PySem.W.Frag}{mg:Str->Option Value}{base:Heap}
theorem hv_:FnScope ["frame","s"] ["frame","s"] (i_ cU_):=⟨rfl,rfl,rfl,by decide +kernel,rfl,by decide +kernel,by decide +kernel⟩
theorem gs_{f:Addr}{fd:FuncData}(F:Fun K "count_even_with" "count_even_with" cU_ f fd)(D5:Def P w K mg base 5 "need_frame" ["thing"] S_)(D1:Def P w K mg base 1 "is_whole" ["thing"] dv_)
  (DP:Def P w K mg base 3 "ways_of_parts" ["frame"] aZ_) (DW:Def P w K mg base 1 "ways_with" ["ways_by_part","total"] bG_):FnOk P w K mg base CX0 6 f fd ["frame","s"] cd_:=by
 refine F.ok hv_ (fun vs H Q E h=>?_) (fun cdv A outer s H vs Q E hr h=>?_)
 ·obtain⟨g,a,c,b,ps,ws,t,rfl,_⟩:=h;rfl
 ·obtain⟨g,a,c,b,ps,ws,t,rfl,G,k⟩:=h
  refine⟨_,b_ (y_ (m_ D5 hr (by rfl) (a_ (pv 0) d_)))
   (b_ (ae_ (bl_ (bs_ (m_ D1 hr.mo (by rfl) (a_ (pv 1) d_)))) bt_ D_)
   (g_ (o_ (m_ DW hr.mo (by rfl) (a_ (m_ DP hr.mo (by rfl) (a_ (pv 0) d_)) (a_ (pv 1) d_)))))),?_⟩
  refine⟨_,rfl,g,a,c,b,ps,ws,rfl,G,fun H1 s1=>?_⟩
  have G1:=G.keep s1
  refine⟨_,rfl,.int t,rfl,.int _,_,rfl,iteF ?_⟩
  refine⟨_,rfl,g,a,c,b,ps,ws,rfl,G1,fun p qs H2 s2 hp hp2 wa=>⟨_,rfl,p,qs,b,Ma.cuts ps ws,t,rfl,hp2,wa.rd,G.ok.b16,cW_ G,k H2 (s1.trans s2)⟩⟩
theorem iF_:FnScope ["frame","ways_by_part","even","total","many"] ["frame"] (i_ hA_):=⟨rfl,rfl,rfl,by decide +kernel,rfl,by decide +kernel,by decide +kernel⟩
theorem lA_{f:Addr}{fd:FuncData}(F:Fun K "even_by_sums" "even_by_sums" hA_ f fd)(D5:Def P w K mg base 5 "need_frame" ["thing"] S_)(DP:Def P w K mg base 3 "ways_of_parts" ["frame"] aZ_)
  (DW:Def P w K mg base 1 "ways_with" ["ways_by_part","total"] bG_):FnOk P w K mg base CX0 6 f fd ["frame"] bL_:=by
 refine F.ok iF_ (fun vs H Q E h=>?_) (fun cdv A outer s H vs Q E hr h=>?_)
 ·obtain⟨g,a,c,b,ps,ws,rfl,_⟩:=h;rfl
 ·obtain⟨g,a,c,b,ps,ws,rfl,G,k⟩:=h
  have nd:=iF_.nd
  have hu:=cD_ hr
  refine⟨_,b_ (y_ (m_ D5 hr (by rfl) (a_ (pv 0) d_)))
   (b_ (k_ (i:=1) nd rfl (Or.inl rfl) (m_ DP hr.mo (by rfl) (a_ (pv 0) d_)))
   (b_ (k_ (i:=2) nd rfl (Or.inl rfl) be_)
   (b_ (B_ PassesOwn.never rfl (cj_ (ixl (pv 1) e_)) (n_ (i:=3) nd rfl (Or.inl rfl))
    (b_ (k_ (i:=4) nd rfl (Or.inl rfl) (m_ DW hr.mo (by rfl) (a_ (pv 1) (a_ (pv 3) d_))))
    (g_ (ae_ (E_ lr_ (pv 4) e_ (nomark _)) (g_ (cX_ hu (pv 2) (pv 3) (pv 4) rfl)) D_))))
   (bd_ (g_ (o_ (pv 2))))))),?_⟩
  refine⟨_,rfl,g,a,c,b,ps,ws,rfl,G,fun H1 s1=>?_⟩
  have G1:=G.keep s1
  refine⟨_,rfl,g,a,c,b,ps,ws,rfl,G1,fun p qs H2 s2 hp hp2 wa=>?_⟩
  intro l hl
  obtain⟨row,hrow⟩:∃row,(Ma.cuts ps ws)[0]?=some row:=⟨(Ma.cuts ps ws)[0]'(by rw[Ma.A_];have:=G.ok.l2;omega),by simp⟩
  obtain⟨q,hq⟩:∃q,qs[0]?=some q:=⟨qs[0]'(by have e:qs.length=(Ma.cuts ps ws).length:=wa.length;rw[e,Ma.A_];have:=G.ok.l2;omega),by simp⟩
  obtain⟨row',hrow',g0,hg0,perm⟩:=cy_ wa hq
  have er:row'=row:=by rw[hrow] at hrow';exact(Option.some.inj hrow').symm
  subst er
  obtain⟨hw0,hl0⟩:=cW_ G row' (List.mem_of_getElem? hrow)
  have wok:=Me.dm_ (b:=b) hw0 G.ok.b16
  have wln:=Me.Ok.len (m:=135*row'.length) (by push_cast at wok⊢;exact wok)
  have nd0:(Me.keys g0).Nodup:=(perm.map _).nodup_iff.mpr wok.nd
  have hgl:g0.length<=2000:=by rw[perm.length_eq];omega
  have s3:Same H2 (upd H2 l (.dK [])):=h_ hl
  have hql:q≠l:=f_ hg0 hl
  have hpl:p≠l:=f_ hp2 hl
  have hqp:q≠p:=hV_ hg0 hp2 (by intro z;cases z)
  have l3:(upd H2 l (.dK [])) l=some (.dK (intsD [])):=c_
  generalize upd H2 l (.dK [])=H3 at s3 l3⊢
  have q3:=s3 _ _ hg0
  have p3:=s3 _ _ hp2
  have at0:atI (qs.map V.ref) 0=some (.ref q):=ab_ (j:=0) (by rw[List.getElem?_map,hq];rfl)
  refine⟨_,rfl,p,_,0,.ref q,rfl,rfl,SqL.of p3,at0,q,intsD g0,rfl,q3,fun o=>bh_ (fun i σ H'=>∃v3 v4,σ=[some (.ref g),some (.ref p),some (.ref l),v3,v4]/\H' q=some (.frz o (.dK (intsD g0)))/\(∀x ob,x≠q->x≠l->H3 x=some ob->H' x=some ob)/\H' l=some (.dK (intsD (Me.evenL b (Ma.cuts ps ws) ((Me.keys g0).take i)))))
   ⟨none,none,rfl,c_,fun x ob hx _ e=>by rw[j_ hx];exact e,by rw[j_ hql.symm,l3];rfl⟩ (fun i σ H' _ h=>by obtain⟨_,_,_,z,_⟩:=h;exact z) ?_ ?_⟩
  ·rintro i kk v σ H' hk ⟨v3,v4,rfl,fq,kp,hl'⟩
   obtain⟨pr,hpr,rfl,rfl⟩:=ia_ hk
   have hki:(Me.keys g0)[i]?=some pr.1:=by rw[Me.keys,List.getElem?_map,hpr];rfl
   have p':=kp p _ hqp.symm hpl p3
   have wr:mO_ H' b qs (Ma.cuts ps ws):=L2.Paired.mapP wa fun q1 row1 ⟨g1,e1,pm1⟩=>by
    by_cases e:q1=q
    ·subst e
     have eg:intsD g1=intsD g0:=by rw[e1] at hg0;injection hg0 with hg0;injection hg0
     exact⟨g1,.inr ⟨o,by rw[eg];exact fq⟩,pm1⟩
    ·exact⟨g1,.inl (kp q1 _ e (f_ e1 hl) (s3 _ _ e1)),pm1⟩
   have hlen:=Me.nH_ b (Ma.cuts ps ws) ((Me.keys g0).take i)
   have hlen2:((Me.keys g0).take i).length<=2000:=by
    rw[List.length_take,Me.keys,List.length_map];omega
   refine⟨_,rfl,_,rfl,p,qs,b,Ma.cuts ps ws,pr.1,rfl,p',wr,G.ok.b16,cW_ G,?_⟩
   refine⟨_,rfl,_,_,rfl,rfl,_,rfl,ite2 (fun h=>?_) (fun h=>?_)⟩
   ·have h':0<Me.prodW b (Ma.cuts ps ws) pr.1:=of_decide_eq_true h
    refine⟨_,rfl,_,rfl,_,rfl,l,_,rfl,dZ_ hl' (by omega),_,_,rfl,?_,fun x ob h1 h2 e=>?_,?_⟩
    ·rw[j_ hql];exact fq
    ·rw[j_ h2];exact kp x ob h1 h2 e
    ·rw[c_,Me.nF_ nd0 hki h']
   ·have h':¬ 0<Me.prodW b (Ma.cuts ps ws) pr.1:=fun z=>h (decide_eq_true z)
    refine⟨_,_,rfl,fq,kp,?_⟩
    rw[Me.pm_ hki h']
    exact hl'
  ·rintro σ H' ⟨v3,v4,rfl,fq,kp,hl'⟩
   have el:(intsD g0).length=(Me.keys g0).length:=by rw[intsD,Me.keys,List.length_map,List.length_map]
   rw[el,List.take_length] at hl'
   have S3:=s1.trans (s2.trans s3)
   have lH:H l=none:=s1.free (s2.free hl)
   refine⟨q,o,intsD g0,fq,(fun o' u z=>?_),_,rfl,k l _ _ lH (fun x ob e=>?_) (by rw[j_ hql.symm];exact hl') ⟨row',hrow,Me.even_perm (perm.map _)⟩⟩
   ·have z':H q=some (.frz o' u):=z
    have:=S3 _ _ z'
    rw[q3] at this;cases this
   ·by_cases hx:x=q
    ·have:=S3 _ _ e
     rw[hx] at this
     rw[hx,c_,<-this,q3]
    ·rw[j_ hx];exact kp x ob hx (f_ e lH) (S3 _ _ e)
end
structure St7(H:Hp)(s q:Addr)(ds:List Int):Prop where
 hs:∃c:Int,H s=some (.lst [.ref q,.int c])
 hq:H q=some (.lst (ds.map V.int))
 ne:0<ds.length
theorem St7.keep{H H':Hp}{s q:Addr}{ds:List Int}(S:St7 H s q ds)(t:Same H H'):St7 H' s q ds:=⟨let ⟨c,e⟩:=S.hs;⟨c,t _ _ e⟩,t _ _ S.hq,S.ne⟩
theorem St7.off{H:Hp}{s q l:Addr}{ds:List Int}(S:St7 H s q ds)(h:H l=none):l∉[s]:=fun z=>by
 obtain⟨c,e⟩:=S.hs
 have z':l=s:=by simpa using z
 rw[z',e] at h;cases h
theorem St7.offq{H:Hp}{s q l:Addr}{ds:List Int}(S:St7 H s q ds)(h:H l=none):q≠l:=f_ S.hq h
theorem St7.upd{H:Hp}{s q l:Addr}{o:HO}{ds:List Int}(S:St7 H s q ds)(h:l∉[s])(hq:q≠l):St7 (L2.upd H l o) s q ds :=
 ⟨let ⟨c,e⟩:=S.hs;⟨c,by rw[j_ (show s≠l from fun z=>h (by simp[z]))];exact e⟩,by rw[j_ hq];exact S.hq,S.ne⟩
def eU_:Sp:=fun vs H Q _=>∃(s q:Addr) (ds:List Int) (m:Int),vs=[.ref s,.int m]/\St7 H s q ds/\0<m/\∀(r:Int) (H':Hp),0<=r->r<m->St7 H' s q ds->Kp [s] H H'->Q (.int r) H'
theorem cn_{ns:List Int}{i:Int}{Pr:Int->Prop}(h0:0<=i)(h1:i<ns.length)(h:∀n∈ns,Pr n):∃n,atI (ns.map V.int) i=some (.int n)/\Pr n:=by
 obtain⟨v,e,n,rfl,hn⟩:=qO_ (xs:=ns.map V.int) (Pr:=fun v=>∃n,v=.int n/\Pr n) h0 (by rw[List.length_map];exact h1) (fun x hx=>by
  obtain⟨n,hn,rfl⟩:=List.mem_map.mp hx
  exact⟨n,rfl,h n hn⟩)
 exact⟨n,e,hn⟩
def fb_:Sp:=fun vs H Q _=>∃(s q:Addr) (ds:List Int) (L:Int),vs=[.ref s,.int L]/\St7 H s q ds/\1<=L/\L<=6/\
 ∀f a c b ps ws H',St7 H' s q ds->Kp [s] H H'->FrAt H' f a c b ps ws->H f=none->H a=none->H c=none->Q (.ref f) H'
section
variable{P:Program}{w:World}{K:PySem.W.Frag}{mg:Str->Option Value}{base:Heap}
theorem pM_:FnScope ["store","many"] ["store","many"] (i_ sTake):=⟨rfl,rfl,rfl,by decide +kernel,rfl,by decide +kernel,by decide +kernel⟩
theorem oX_{f:Addr}{fd:FuncData}(F:Fun K "_law_take" "_law_take" sTake f fd)(T:Txt mg):FnOk P w K mg base CX0 1 f fd ["store","many"] eU_:=by
 refine F.ok pM_ (fun vs H Q E h=>?_) (fun cdv A outer s H vs Q E hr h=>?_)
 ·obtain⟨a,q,ds,m,rfl,_⟩:=h;rfl
 ·obtain⟨a,q,ds,m,rfl,S,hm,k⟩:=h
  obtain⟨c,hs⟩:=S.hs
  refine⟨_,b_ (lf_ (l_ r_ (ixl (pv 0) e_) e_) (pT_ (pv 0) e_ nb_))
   (g_ (o_ (l_ I_ (ixl (ixl (pv 0) e_) (l_ I_ (l_ Q_ (ixl (pv 0) e_) e_) (lenS T.len (by rfl) (ixl (pv 0) e_)))) (pv 1)))),?_⟩
  refine⟨_,rfl,_,_,_,_,rfl,rfl,SqL.of hs,rfl,_,_,rfl,rfl,_,rfl,a,_,_,_,rfl,rfl,hs,rfl,?_⟩
  have u1:(upd H a (.lst [.ref q,.int (c+1)])) a=some (.lst [.ref q,.int (c+1)]):=c_
  have nqa:q≠a:=hV_ S.hq hs (by
   intro z
   have z':ds.map V.int=[.ref q,.int c]:=by injection z
   cases ds with
   | nil=>cases z'
   | cons d r=>cases z')
  have k1:Kp [a] H (upd H a (.lst [.ref q,.int (c+1)])):=O_ Kp.refl (.inl (by simp))
  have q1:(upd H a (.lst [.ref q,.int (c+1)])) q=some (.lst (ds.map V.int)):=by rw[j_ nqa];exact S.hq
  have ew:[V.ref q,V.int c].set (Int.toNat 1) (V.int (c+1))=[.ref q,.int (c+1)]:=rfl
  dsimp only
  rw[ew]
  generalize upd H a (.lst [.ref q,.int (c+1)])=H1 at u1 k1 q1⊢
  have hn:=S.ne
  have el:(((ds.map V.int).length:Nat):Int)=(ds.length:Int):=by simp
  refine⟨_,rfl,_,_,_,_,rfl,rfl,SqL.of u1,rfl,_,rfl,_,_,_,_,rfl,rfl,SqL.of u1,rfl,_,_,rfl,rfl,_,rfl,_,_,_,_,rfl,rfl,SqL.of u1,rfl,q,_,rfl,.inl (SqL.of q1),_,_,rfl,rfl,(by show(0:Int)<_;omega),?_⟩
  obtain⟨n,en,_⟩:=cn_ (ns:=ds) (i:=(c+1-1) % (((ds.map V.int).length:Nat):Int)) (Pr:=fun _=>True) (Int.emod_nonneg _ (by omega)) (by rw[el];exact Int.emod_lt_of_pos _ (by omega)) (fun _ _=>trivial)
  refine br_ q1 en ⟨_,rfl,_,_,rfl,rfl,hm,?_⟩
  exact k _ H1 (Int.emod_nonneg _ (by omega)) (Int.emod_lt_of_pos _ hm) ⟨⟨_,u1⟩,q1,S.ne⟩ k1
theorem kT_:FnScope ["store","most","x","base","many","size","parts","way","weights","k","y","some"] ["store","most"] (i_ iI_):=⟨rfl,rfl,rfl,by decide +kernel,rfl,by decide +kernel,by decide +kernel⟩
theorem ns_{f:Addr}{fd:FuncData}(F:Fun K "_law_frame" "_law_frame" iI_ f fd)(T:Txt mg)(D1:Def P w K mg base 1 "_law_take" ["store","many"] eU_):FnOk P w K mg base CX0 2 f fd ["store","most"] fb_:=by
 refine F.ok kT_ (fun vs H Q E h=>?_) (fun cdv A outer s H vs Q E hr h=>?_)
 ·obtain⟨a,q,ds,L,rfl,_⟩:=h;rfl
 ·obtain⟨d,q,ds,L,rfl,S,hL1,hL6,k⟩:=h
  have nd:=kT_.nd
  refine⟨_,b_ (k_ (i:=2) nd rfl (Or.inr rfl) (m_ D1 hr (by rfl) (a_ (pv 0) (a_ e_ d_))))
   (b_ (k_ (i:=3) nd rfl (Or.inl rfl) (ixl (P_ (a_ e_ (a_ e_ (a_ e_ (a_ e_ (a_ (l_ r_ e_ (l_ I_ (pv 2) e_)) d_)))))) (m_ D1 hr (by rfl) (a_ (pv 0) (a_ e_ d_)))))
   (b_ (k_ (i:=4) nd rfl (Or.inl rfl) (l_ r_ e_ (l_ I_ (l_ bf_ (pv 2) e_) e_)))
   (b_ (k_ (i:=5) nd rfl (Or.inr rfl) (l_ r_ e_ (m_ D1 hr (by rfl) (a_ (pv 0) (a_ (pv 1) d_)))))
   (b_ (dP_ (i_ iI_) ["store","most","x","base","many","size","parts","way","weights","k","y","some"] ["size","store","most","x"] [5,0,1,2] (i:=6) nd rfl (Or.inl rfl) rfl
    (C_ (by rfl) T.range (a_ (pv 4) d_))
    (fun cl C s H fp=>af_) (fun cl C s H fp=>ixlK K rfl (P_ (a_ (pv 1) (a_ (l_ r_ e_ (m_ D1 hr (by rfl) (a_ (pv 2) (a_ (pv 3) d_)))) d_))) (l_ I_ (l_ bf_ (pv 4) e_) e_)) (by decide +kernel) (by rfl))
   (b_ (k_ (i:=7) nd rfl (Or.inl rfl) (m_ D1 hr (by rfl) (a_ (pv 0) (a_ e_ d_))))
   (b_ (k_ (i:=8) nd rfl (Or.inl rfl) (P_ d_))
   (b_ (B_ PassesOwn.never rfl (C_ (by rfl) T.range (a_ (q_ (aF_ rfl) (by rfl) T.sum boot_sum (a_ (pv 6) d_)) d_)) (n_ (i:=9) nd rfl (Or.inl rfl))
    (b_ (k_ (i:=10) nd rfl (Or.inl rfl) (m_ D1 hr (by rfl) (a_ (pv 0) (a_ e_ d_))))
    (b_ (k_ (i:=11) nd rfl (Or.inl rfl) (P_ (a_ e_ (a_ (l_ Q_ (l_ I_ (pv 10) e_) e_) (a_ (l_ Q_ (l_ I_ (pv 10) e_) e_) (a_ (l_ r_ (l_ I_ (pv 9) e_) e_)
      (a_ (ixl (P_ (a_ e_ (a_ (hD_ du_ e_) d_))) (l_ I_ (pv 10) e_)) (a_ (l_ Q_ e_ (l_ F_ (l_ I_ (pv 9) e_) e_)) (a_ (l_ I_ (pv 10) e_) d_)))))))))
    (g_ (y_ (bv_ PySem.F.plainAttrs_list PySem.F.slot_list_append PySem.F.type_list_append H_ (pv 8) (a_ (ixl (pv 11) (pv 7)) d_)))))))
   (g_ (o_ (aS_ (a_ (pv 3) (a_ (pv 6) (a_ (pv 8) d_))))))))))))),?_⟩
  refine⟨_,rfl,d,q,ds,10007,rfl,S,by decide,fun x H1 x0 x1 S1 k1=>?_⟩
  refine⟨_,rfl,_,_,rfl,rfl,(by show(0:Int)<15;decide),_,_,rfl,rfl,sz (by simp),fun l1 hl1=>⟨_,rfl,d,q,ds,5,rfl,S1.keep (h_ hl1),by decide,fun r2 H2 a2 b2 S2 k2=>?_⟩⟩
  have xm:0<=x % 15/\x % 15<15:=⟨Int.emod_nonneg _ (by decide),Int.emod_lt_of_pos _ (by decide)⟩
  obtain⟨bi,eb,hb⟩:=cn_ (ns:=[2,3,10,16,2+x % 15]) (Pr:=fun n=>2<=n/\n<=16) a2 b2 (by simp;omega)
  obtain⟨b,rfl⟩:∃b:Nat,bi=b:=⟨bi.toNat,by omega⟩
  refine br_ (k2 l1 _ c_ (S1.off hl1)) eb ?_
  have K2:Kp [d] H H2:=k1.trans ((Kp.of (h_ hl1)).trans k2)
  refine⟨_,rfl,_,_,rfl,rfl,⟨by decide,by decide⟩,_,_,rfl,rfl,(by show(0:Int)<3;decide),_,_,rfl,rfl,?_⟩
  have mm:0<=x / 15 % 3/\x / 15 % 3<3:=⟨Int.emod_nonneg _ (by decide),Int.emod_lt_of_pos _ (by decide)⟩
  refine⟨_,rfl,_,rfl,d,q,ds,L,rfl,S2,by omega,fun sz0 H3 a3 b3 S3 k3=>⟨_,_,rfl,rfl,?_⟩⟩
  have K3:Kp [d] H H3:=K2.trans k3
  refine⟨_,rfl,_,rfl,by omega,by omega,aX_ (lo:=0) (n:=(2+x / 15 % 3).toNat) (fun i ys H6=>∃ps:List Nat,ys=natV ps/\ps.length=i/\(∀x∈ps,1<=x/\x<=6)/\St7 H6 d q ds/\Kp [d] H H6)
   ⟨[],rfl,rfl,fun x hx=>by simp at hx,S3,K3⟩ ?_ ?_⟩
  ·rintro i ys H6 hi ⟨ps,rfl,hl,hp,S6,K6⟩
   refine⟨szl (by simp[natV];omega),_,rfl,_,rfl,_,rfl,d,q,ds,L,rfl,S6,by omega,fun r H7 a7 b7 S7 k7=>⟨_,_,rfl,rfl,sz (by simp),fun m hm=>?_⟩⟩
   refine⟨_,rfl,_,_,rfl,rfl,⟨by decide,by decide⟩,_,_,rfl,rfl,(by show(0:Int)<2;decide),?_⟩
   obtain⟨z,ez,hz⟩:=cn_ (ns:=[1+sz0,1+r]) (i:=x / 45 % 2) (Pr:=fun n=>1<=n/\n<=6) (Int.emod_nonneg _ (by decide)) (Int.emod_lt_of_pos _ (by decide)) (by simp;omega)
   refine br_ c_ ez ⟨ps++[z.toNat],?_,by simp[hl],fun y hy=>?_,S7.keep (h_ hm),(K6.trans k7).same (h_ hm)⟩
   ·simp[natV]
    omega
   ·rcases List.mem_append.mp hy with hy | hy
    ·exact hp y hy
    ·have:y=z.toNat:=by simpa using hy
     omega
  rintro ys H6 ⟨ps,rfl,hl,hp,S6,K6⟩ a ha
  have hna:a∉[d]:=S6.off ha
  have hsum:=Ma.hg_ ps hp
  refine⟨_,rfl,d,q,ds,7,rfl,S6.keep (h_ ha),by decide,fun wv H9 w0 w1 S9 k9=>⟨sz (by decide),fun l hl9=>?_⟩⟩
  have h9:H9 a=some (.lst (natV ps)):=k9 a _ c_ hna
  have K9:Kp [d] H H9:=K6.trans ((Kp.of (h_ ha)).trans k9)
  have s9:Same H9 (upd H9 l (.lst [])):=h_ hl9
  have nl:l∉[d]:=S9.off hl9
  have al:a≠l:=f_ h9 hl9
  have ql:q≠l:=S9.offq hl9
  refine⟨_,rfl,a,ps.map fun(p:Nat)=>(p:Int),rfl,SqL.of (by rw[<-hW_];exact s9 _ _ h9),_,rfl,?_⟩
  rw[Ma.eO_]
  refine⟨by omega,by omega,?_⟩
  have en':(((ps.sum:Nat):Int)).toNat=ps.sum:=by omega
  rw[en']
  refine K_ (n:=ps.sum) (fun i σ H6=>∃(ws:List Int) (v9 v10 v11:Option V),σ=[some (.ref d),some (.int L),some (.int x),some (.int b),some (.int (2+x / 15 % 3)),some (.int (1+sz0)),some (.ref a),some (.int wv),some (.ref l),v9,v10,v11]/\St7 H6 d q ds/\Kp [d] H H6/\H6 a=some (.lst (natV ps))/\
   H6 l=some (.lst (ws.map V.int))/\ws.length=i/\∀x∈ws,-9<=x/\x<=9) ⟨[],none,none,none,rfl,S9.keep s9,K9.same s9,s9 _ _ h9,c_,rfl,fun x hx=>by simp at hx⟩ ?_ ?_
  ·rintro i σ H10 hi ⟨ws,v9,v10,v11,rfl,S10,K10,h10,hl10,hw10,hr10⟩
   refine⟨_,rfl,d,q,ds,10007,rfl,S10,by decide,fun y G1 y0 y1 F1 j1=>?_⟩
   have m19:0<=y % 19/\y % 19<19:=⟨Int.emod_nonneg _ (by decide),Int.emod_lt_of_pos _ (by decide)⟩
   have m3:0<=y % 3/\y % 3<3:=⟨Int.emod_nonneg _ (by decide),Int.emod_lt_of_pos _ (by decide)⟩
   have m2:0<=y % 2/\y % 2<2:=⟨Int.emod_nonneg _ (by decide),Int.emod_lt_of_pos _ (by decide)⟩
   have m4:0<=y % 4/\y % 4<4:=⟨Int.emod_nonneg _ (by decide),Int.emod_lt_of_pos _ (by decide)⟩
   have i9:0<=(0+(i:Int)) % 9/\(0+(i:Int)) % 9<9:=⟨Int.emod_nonneg _ (by decide),Int.emod_lt_of_pos _ (by decide)⟩
   have i2:0<=(0+(i:Int)) % 2/\(0+(i:Int)) % 2<2:=⟨Int.emod_nonneg _ (by decide),Int.emod_lt_of_pos _ (by decide)⟩
   refine⟨_,rfl,_,_,rfl,rfl,(by show(0:Int)<19;decide),_,_,rfl,rfl,?_⟩
   refine⟨_,rfl,_,_,rfl,rfl,(by show(0:Int)<3;decide),_,_,rfl,rfl,?_⟩
   refine⟨_,rfl,_,_,rfl,rfl,(by show(0:Int)<9;decide),_,_,rfl,rfl,?_⟩
   refine⟨_,rfl,sz (by simp),fun m5 hm5=>⟨_,rfl,_,_,rfl,rfl,(by show(0:Int)<2;decide),?_⟩⟩
   obtain⟨z,ez,hz⟩:=cn_ (ns:=[9,-9]) (i:=y % 2) (Pr:=fun n => -9<=n/\n<=9) m2.1 m2.2 (by simp)
   refine br_ c_ ez ?_
   have sm5:=h_ (o:=.lst [.int 9,.int (-9)]) hm5
   generalize upd G1 m5 (.lst [.int 9,.int (-9)])=G2 at sm5⊢
   have F2:=F1.keep sm5
   refine⟨_,rfl,_,_,rfl,rfl,(by show(0:Int)<2;decide),_,_,rfl,rfl,.inr ⟨by decide,by decide⟩,_,_,rfl,rfl,?_⟩
   refine⟨_,rfl,_,_,rfl,rfl,(by show(0:Int)<4;decide),sz (by simp),fun m hm=>?_⟩
   have J1:Kp [d] H10 G2:=j1.same sm5
   have sm:=h_ (o:=.lst [.int 1,.int (y % 19-9),.int (y % 3-1),.int ((0+(i:Int)) % 9+1),.int z,.int (1-(0+(i:Int)) % 2*2),.int (y % 4)]) hm
   have um:(upd G2 m (.lst [.int 1,.int (y % 19-9),.int (y % 3-1),.int ((0+(i:Int)) % 9+1),.int z,.int (1-(0+(i:Int)) % 2*2),.int (y % 4)])) m=some (.lst ([1,y % 19-9,y % 3-1,(0+(i:Int)) % 9+1,z,1-(0+(i:Int)) % 2*2,y % 4].map V.int)):=c_
   generalize upd G2 m (.lst [.int 1,.int (y % 19-9),.int (y % 3-1),.int ((0+(i:Int)) % 9+1),.int z,.int (1-(0+(i:Int)) % 2*2),.int (y % 4)])=G3 at sm um⊢
   have F3:=F2.keep sm
   have la:G3 a=some (.lst (natV ps)):=sm _ _ (J1 a _ h10 hna)
   have ll:G3 l=some (.lst (ws.map V.int)):=sm _ _ (J1 l _ hl10 nl)
   have K3':Kp [d] H G3:=(K10.trans J1).same sm
   obtain⟨v,ev,hv⟩:=cn_ (ns:=[1,y % 19-9,y % 3-1,(0+(i:Int)) % 9+1,z,1-(0+(i:Int)) % 2*2,y % 4]) (i:=wv) (Pr:=fun n => -9<=n/\n<=9) w0 w1 (by simp;omega)
   refine⟨_,rfl,.inl ⟨rfl,_,SqL.of ll⟩,_,rfl,_,rfl,_,_,_,_,rfl,rfl,SqL.of um,ev,⟨l,_,_,rfl,rfl,ll,szl (by rw[List.length_map];omega),ws++[v],_,_,_,rfl,F3.upd nl ql,O_ K3' (.inr (K9.free hl9 nl)),?_,?_,by simp[hw10],fun y hy=>?_⟩⟩
   ·rw[j_ al];exact la
   ·rw[c_];simp
   ·rcases List.mem_append.mp hy with hy | hy
    ·exact hr10 y hy
    ·have:y=v:=by simpa using hy
     rw[this];exact hv
  ·rintro σ H10 ⟨ws,v9,v10,v11,rfl,S10,K10,h10,hl10,hw10,hr10⟩
   refine⟨_,rfl,_,rfl,_,rfl,sz (by simp),fun f' hf'=>?_⟩
   have sf:=h_ (o:=.tup [.int b,.ref a,.ref l]) hf'
   exact k f' a l b ps ws _ (S10.keep sf) (K10.same sf) ⟨c_,sf _ _ h10,sf _ _ hl10,⟨by omega,by omega,by omega,by omega,hp,hw10,hr10⟩⟩ (K10.free hf' (S10.off hf')) (K6.free ha hna) (K9.free hl9 nl)
end
def hn_(K:PySem.W.Frag):Sp:=fun vs H Q _=>∃(a:Addr) (ns:List Int),vs=[.ref a,.int 300]/\SqL K H a (ns.map V.int)/\ns.length<=63/\
 ∀(l:Addr) (H':Hp) (ds:List Int),H l=none->Same H H'->H' l=some (.lst (ds.map V.int))->0<ds.length->Q (.ref l) H'
theorem pe_{xs:List V}{lo hi:Option Int}{x:V}(h:x∈cutV xs lo hi):x∈xs:=List.mem_of_mem_drop (List.mem_of_mem_take h)
theorem pg_{xs:List V}{lo hi:Option Int}:(cutV xs lo hi).length<=xs.length:=by
 unfold cutV
 rw[List.length_take,List.length_drop]
 omega
theorem cm_(a:Int){m:Int}(h:0<m):0<=a % m/\a % m<m:=⟨Int.emod_nonneg _ (by omega),Int.emod_lt_of_pos _ h⟩
section
variable{P:Program}{w:World}{K:PySem.W.Frag}{mg:Str->Option Value}{base:Heap}
theorem kU_:FnScope ["script","many","drawn","base","k","cell","number","one"] ["script","many"] (i_ kW_):=⟨rfl,rfl,rfl,by decide +kernel,rfl,by decide +kernel,by decide +kernel⟩
theorem nt_{f:Addr}{fd:FuncData}(F:Fun K "_law_draws" "_law_draws" kW_ f fd)(T:Txt mg)(nabs:mg "abs"=none):FnOk P w K mg base CX0 1 f fd ["script","many"] (hn_ K):=by
 refine F.ok kU_ (fun vs H Q E h=>?_) (fun cdv A outer s H vs Q E hr h=>?_)
 ·obtain⟨a,ns,rfl,_⟩:=h;rfl
 ·obtain⟨a0,ns,rfl,hS,hlen,k⟩:=h
  have nd:=kU_.nd
  refine⟨_,b_ (k_ (i:=2) nd rfl (Or.inl rfl) (P_ d_))
   (b_ (k_ (i:=3) nd rfl (Or.inl rfl) e_)
   (b_ (B_ PassesOwn.never rfl (lo_ (by rfl) T.enum (bQ_ dB_ (pv 0) ft_ (bu_ e_))) (df_ rfl (z_ (n_ (i:=4) nd rfl (Or.inl rfl)) (z_ (n_ (i:=5) nd rfl (Or.inl rfl)) aB_)))
    (b_ (k_ (i:=6) nd rfl (Or.inl rfl) (q_ nQ_ (by rfl) nabs PyProof.Rows.boot_abs (a_ (pv 5) d_)))
    (b_ (k_ (i:=3) nd rfl (Or.inl rfl) (l_ I_ (l_ r_ (l_ F_ (pv 3) e_) (pv 6)) e_))
    (g_ (ae_ (E_ oW_ (pv 6) (l_ pZ_ e_ e_) (nomark _))
     (g_ (iQ_ PassesOwn.never (PW.pt (pQ_ (E_ lr_ (pv 6) e_ (nomark _)) (oN_ (E_ oV_ (lenS T.len (by rfl) (pv 2)) (pv 1) (nomark _)))))
      (b_ (y_ (bv_ PySem.F.plainAttrs_list PySem.F.slot_list_append PySem.F.type_list_append H_ (pv 2) (a_ (l_ I_ (pv 6) e_) d_)))
      (g_ (k_ (i:=6) nd rfl (Or.inl rfl) (l_ bf_ (pv 6) e_))))))
     (b_ (k_ (i:=7) nd rfl (Or.inl rfl) (l_ I_ (l_ F_ (l_ r_ (l_ r_ (l_ I_ (pv 6) e_) (pv 4)) e_) e_) e_))
     (b_ (k_ (i:=7) nd rfl (Or.inl rfl) (l_ I_ (l_ F_ (pv 7) (pv 7)) e_))
     (b_ (y_ (bv_ PySem.F.plainAttrs_list PySem.F.slot_list_append PySem.F.type_list_append H_ (pv 2) (a_ (l_ I_ (l_ bf_ (pv 7) e_) e_) d_)))
     (b_ (k_ (i:=7) nd rfl (Or.inl rfl) (l_ I_ (l_ r_ (l_ r_ (l_ F_ (pv 7) e_) (l_ F_ e_ (pv 4))) e_) e_))
     (b_ (k_ (i:=7) nd rfl (Or.inl rfl) (l_ I_ (l_ F_ (pv 7) (pv 7)) e_))
     (g_ (y_ (bv_ PySem.F.plainAttrs_list PySem.F.slot_list_append PySem.F.type_list_append H_ (pv 2) (a_ (l_ I_ (l_ bf_ (pv 7) e_) e_) d_))))))))))))))
   (b_ (B_ PassesOwn.never rfl (C_ (by rfl) T.range (a_ (l_ Q_ (pv 1) (lenS T.len (by rfl) (pv 2))) d_)) (n_ (i:=4) nd rfl (Or.inl rfl))
    (b_ (k_ (i:=7) nd rfl (Or.inl rfl) (l_ I_ (l_ r_ (l_ r_ (pv 3) (l_ F_ e_ (pv 4))) e_) e_))
    (b_ (k_ (i:=7) nd rfl (Or.inl rfl) (l_ I_ (l_ F_ (pv 7) (pv 7)) e_))
    (b_ (k_ (i:=7) nd rfl (Or.inl rfl) (l_ I_ (l_ r_ (l_ F_ (pv 7) e_) (pv 4)) e_))
    (g_ (y_ (bv_ PySem.F.plainAttrs_list PySem.F.slot_list_append PySem.F.type_list_append H_ (pv 2) (a_ (l_ I_ (l_ bf_ (l_ I_ (l_ F_ (pv 7) (pv 7)) e_) e_) e_) d_))))))))
   (g_ (o_ (pv 2)))))),?_⟩
  refine⟨sz (by decide),fun l hl=>?_⟩
  have s1:Same H (upd H l (.lst [])):=h_ hl
  have u1:(upd H l (.lst [])) l=some (.lst (([]:List Int).map V.int)):=c_
  have hS1:SqL K (upd H l (.lst [])) a0 (ns.map V.int):=s1.seq hS
  generalize upd H l (.lst [])=H1 at s1 u1 hS1⊢
  refine⟨_,rfl,_,rfl,a0,_,rfl,hS1,fun p hp=>?_⟩
  have hints:∀x∈cutV (ns.map V.int) none (some 63),∃n:Int,x=V.int n:=fun x hx=>by
   obtain⟨n,_,rfl⟩:=List.mem_map.mp (pe_ hx)
   exact⟨n,rfl⟩
  have hcl:(cutV (ns.map V.int) none (some 63)).length<=63:=by
   have:=pg_ (xs:=ns.map V.int) (lo:=none) (hi:=some 63)
   rw[List.length_map] at this
   omega
  generalize cutV (ns.map V.int) none (some 63)=xs at hints hcl⊢
  have s2:Same H (upd H1 p (.lst xs)):=s1.trans (h_ hp)
  have u2:(upd H1 p (.lst xs)) p=some (.lst xs):=c_
  have npl:l≠p:=f_ u1 hp
  have l2:(upd H1 p (.lst xs)) l=some (.lst (([]:List Int).map V.int)):=by rw[j_ npl];exact u1
  generalize upd H1 p (.lst xs)=H2 at s2 u2 l2⊢
  refine⟨p,rfl,⟨_,SqL.of u2⟩,jr_ (K:=K) (a:=p) (xs:=xs) (fun i σ H'=>∃(ds:List Int) (bs:Int) (v4 v5 v6 v7:Option V),σ=[some (.ref a0),some (.int 300),some (.ref l),some (.int bs),v4,v5,v6,v7]/\Same H H'/\
   H' p=some (.lst xs)/\H' l=some (.lst (ds.map V.int))/\ds.length<=300+2*i/\0<=bs/\bs<2147483629) ⟨[],7,none,none,none,none,rfl,s2,u2,l2,by simp,by decide,by decide⟩ (fun i σ H' _ h=>by obtain⟨_,_,_,_,_,_,_,_,h,_⟩:=h;exact SqL.of h) ?_ ?_⟩
  ·rintro i x σ H' t hx ⟨ds,bs,v4,v5,v6,v7,rfl,s6,hp6,hl6,hd6,b0,b1⟩ ht
   have hi:i<xs.length:=(List.getElem?_eq_some_iff.mp hx).1
   obtain⟨n,rfl⟩:=hints x (List.mem_of_getElem? hx)
   have s7:Same H' (upd H' t (.tup [.int i,.int n])):=h_ ht
   refine⟨t,_,rfl,SqT.of c_,rfl,_,_,rfl,_,_,rfl,rfl,?_⟩
   have sG:=s6.trans s7
   have pG:=s7 _ _ hp6
   have lG:=s7 _ _ hl6
   generalize upd H' t (.tup [.int i,.int n])=G at sG pG lG⊢
   refine⟨_,rfl,n,rfl,?_⟩
   have m0:0<=(if n<0 then -n else n):=by split <;> omega
   generalize (if n<0 then -n else n)=m at m0⊢
   refine⟨_,rfl,_,_,rfl,rfl,.inr ⟨by decide,by decide⟩,_,rfl,_,_,rfl,rfl,_,_,rfl,rfl,(by show(0:Int)<2147483629;decide),?_⟩
   obtain⟨c0,c1⟩:=cm_ (bs*31+m) (m:=2147483629) (by decide)
   dsimp only
   generalize (bs*31+m) % 2147483629=bt at c0 c1⊢
   refine⟨_,rfl,_,_,rfl,rfl,⟨by decide,by decide,by decide⟩,_,_,rfl,rfl,_,rfl,ite2 (fun _=>?_) (fun _=>?_)⟩
   ·refine⟨fun mu σ H'=>∃(es:List Int) (m:Int),σ=[some (.ref a0),some (.int 300),some (.ref l),some (.int bt),some (.int i),some (.int n),some (.int m),v7]/\mu=300-es.length/\Same H H'/\H' p=some (.lst xs)/\H' l=some (.lst (es.map V.int))/\es.length<=300+2*i,
     ⟨_,ds,m,rfl,rfl,sG,pG,lG,hd6⟩,?_⟩
    rintro mu σ H2 ⟨es,m2,rfl,rfl,s8,hp8,hl8,hd8⟩
    have fin:∃(ds:List Int) (bs:Int) (v4 v5 v6 v7':Option V),[some (.ref a0),some (.int 300),some (.ref l),some (.int bt),some (.int i),some (.int n),some (.int m2),v7]=[some (.ref a0),some (.int 300),some (.ref l),some (.int bs),v4,v5,v6,v7']/\Same H H2/\
      H2 p=some (.lst xs)/\H2 l=some (.lst (ds.map V.int))/\ds.length<=300+2*(i+1)/\0<=bs/\bs<2147483629:=⟨es,bt,_,_,_,_,rfl,s8,hp8,hl8,by omega,c0,c1⟩
    refine⟨_,rfl,_,_,rfl,rfl,_,rfl,ite2 (fun _=>?_) (fun _=>fin)⟩
    refine⟨_,rfl,l,_,rfl,.inl (SqL.of hl8),_,rfl,_,_,rfl,rfl,_,rfl,ite2 (fun hlt=>?_) (fun _=>fin)⟩
    have hlt':es.length<300:=by
     have z:=of_decide_eq_true hlt
     rw[List.length_map] at z
     omega
    refine⟨fun σ' H'=>∃(e:Int) (m:Int),σ'=[some (.ref a0),some (.int 300),some (.ref l),some (.int bt),some (.int i),some (.int n),some (.int m),v7]/\Same H H'/\H' p=some (.lst xs)/\H' l=some (.lst ((es++[e]).map V.int)),
     fun σ' H' ⟨e,m,h1,h2,h3,h4⟩=>⟨300-(es++[e]).length,by simp;omega,es++[e],m,h1,rfl,h2,h3,h4,by simp;omega⟩,?_⟩
    refine⟨_,rfl,.inl ⟨rfl,_,SqL.of hl8⟩,_,rfl,_,_,rfl,rfl,(by show(0:Int)<10007;decide),l,_,_,rfl,rfl,hl8,szl (by rw[List.length_map];omega),?_⟩
    refine⟨_,rfl,_,_,rfl,rfl,⟨by decide,by decide⟩,m2 % 10007,m2 / 10007,rfl,t_ s8 hl,?_,?_⟩
    ·rw[j_ npl.symm];exact hp8
    ·rw[c_];simp
   ·
    refine⟨_,rfl,_,_,rfl,rfl,(by show(0:Int)<2147483647;decide),_,rfl,_,_,rfl,rfl,_,_,rfl,rfl,_,_,rfl,rfl,.inr ⟨by decide,by decide⟩,_,_,rfl,rfl,(by show(0:Int)<2147483647;decide),?_⟩
    obtain⟨x0,x1⟩:=cm_ ((m % 2147483647+i+1)*48271) (m:=2147483647) (by decide)
    dsimp only
    generalize (m % 2147483647+(i:Int)+1)*48271 % 2147483647=one at x0 x1⊢
    refine⟨_,rfl,_,rfl,_,_,rfl,rfl,.inl ⟨by omega,by omega⟩,_,_,rfl,rfl,(by show(0:Int)<2147483629;decide),?_⟩
    obtain⟨y0,y1⟩:=cm_ (one*one) (m:=2147483629) (by decide)
    dsimp only
    generalize one*one % 2147483629=two at y0 y1⊢
    refine⟨_,rfl,.inl ⟨rfl,_,SqL.of lG⟩,_,rfl,_,_,rfl,rfl,⟨by decide,by decide⟩,_,_,rfl,rfl,(by show(0:Int)<10007;decide),l,_,_,rfl,rfl,lG,szl (by rw[List.length_map];omega),?_⟩
    have l8:(upd G l (.lst (ds.map V.int++[V.int (two / 8 % 10007)]))) l=some (.lst ((ds++[two / 8 % 10007]).map V.int)):=by rw[c_];simp
    have p8:(upd G l (.lst (ds.map V.int++[V.int (two / 8 % 10007)]))) p=some (.lst xs):=by rw[j_ npl.symm];exact pG
    have s8:Same H (upd G l (.lst (ds.map V.int++[V.int (two / 8 % 10007)]))):=t_ sG hl
    dsimp only
    generalize upd G l (.lst (ds.map V.int++[V.int (two / 8 % 10007)]))=G8 at l8 p8 s8⊢
    refine⟨_,rfl,_,_,rfl,rfl,.inr ⟨by decide,by decide⟩,_,rfl,_,_,rfl,rfl,.inl ⟨by decide,by decide⟩,_,_,rfl,rfl,_,_,rfl,rfl,_,_,rfl,rfl,(by show(0:Int)<2147483563;decide),?_⟩
    obtain⟨z0,z1⟩:=cm_ (two*40692+2*i+1) (m:=2147483563) (by decide)
    dsimp only
    generalize (two*40692+2*(i:Int)+1) % 2147483563=three at z0 z1⊢
    refine⟨_,rfl,_,rfl,_,_,rfl,rfl,.inl ⟨by omega,by omega⟩,_,_,rfl,rfl,(by show(0:Int)<2147483647;decide),?_⟩
    dsimp only
    generalize three*three % 2147483647=four
    refine⟨_,rfl,.inl ⟨rfl,_,SqL.of l8⟩,_,rfl,_,_,rfl,rfl,⟨by decide,by decide⟩,_,_,rfl,rfl,(by show(0:Int)<10007;decide),l,_,_,rfl,rfl,l8,szl (by rw[List.length_map,List.length_append];simp;omega),?_⟩
    refine⟨ds++[two / 8 % 10007]++[four / 8 % 10007],bt,_,_,_,_,rfl,t_ s8 hl,?_,?_,by simp;omega,c0,c1⟩
    ·rw[j_ npl.symm];exact p8
    ·rw[c_];simp
  ·rintro σ H6 ⟨ds,bs,v4,v5,v6,v7,rfl,s6,hp6,hl6,hd6,b0,b1⟩
   have el:(((ds.map V.int).length:Nat):Int)=(ds.length:Int):=by simp
   refine⟨_,rfl,_,rfl,l,_,rfl,.inl (SqL.of hl6),_,_,rfl,rfl,_,rfl,?_⟩
   rw[el]
   refine⟨by omega,by omega,?_⟩
   refine K_ (n:=(300-(ds.length:Int)).toNat) (fun j σ H'=>∃(es:List Int) (v4 v5 v6 v7:Option V),σ=[some (.ref a0),some (.int 300),some (.ref l),some (.int bs),v4,v5,v6,v7]/\Same H H'/\H' l=some (.lst (es.map V.int))/\es.length=ds.length+j)
    ⟨ds,_,_,_,_,rfl,s6,hl6,rfl⟩ ?_ ?_
   ·rintro j σ H' hj ⟨es,w4,w5,w6,w7,rfl,s8,hl8,hd8⟩
    refine⟨_,rfl,_,rfl,_,_,rfl,rfl,.inl ⟨by decide,by decide⟩,_,_,rfl,rfl,_,_,rfl,rfl,_,_,rfl,rfl,(by show(0:Int)<2147483629;decide),?_⟩
    obtain⟨x0,x1⟩:=cm_ (bs+7919*(0+(j:Int))+13) (m:=2147483629) (by decide)
    dsimp only
    generalize (bs+7919*(0+(j:Int))+13) % 2147483629=one at x0 x1⊢
    refine⟨_,rfl,_,rfl,_,_,rfl,rfl,.inl ⟨by omega,by omega⟩,_,_,rfl,rfl,(by show(0:Int)<2147483647;decide),?_⟩
    obtain⟨y0,y1⟩:=cm_ (one*one) (m:=2147483647) (by decide)
    dsimp only
    generalize one*one % 2147483647=two at y0 y1⊢
    refine⟨_,rfl,_,_,rfl,rfl,.inr ⟨by decide,by decide⟩,_,rfl,_,_,rfl,rfl,_,_,rfl,rfl,(by show(0:Int)<2147483563;decide),?_⟩
    obtain⟨z0,z1⟩:=cm_ (two*69621+(0+(j:Int))) (m:=2147483563) (by decide)
    dsimp only
    generalize (two*69621+(0+(j:Int))) % 2147483563=three at z0 z1⊢
    refine⟨_,rfl,.inl ⟨rfl,_,SqL.of hl8⟩,_,rfl,_,rfl,_,_,rfl,rfl,.inl ⟨by omega,by omega⟩,_,_,rfl,rfl,(by show(0:Int)<2147483629;decide),_,_,rfl,rfl,⟨by decide,by decide⟩,_,_,rfl,rfl,(by show(0:Int)<10007;decide),l,_,_,rfl,rfl,hl8,szl (by rw[List.length_map];omega),?_⟩
    refine⟨es++[three*three % 2147483629 / 8 % 10007],_,_,_,_,rfl,t_ s8 hl,?_,by simp;omega⟩
    rw[c_];simp
   ·rintro σ H' ⟨es,w4,w5,w6,w7,rfl,s8,hl8,hd8⟩
    exact⟨_,rfl,k l H' es hl s8 hl8 (by omega)⟩
end
def spLaw(K:PySem.W.Frag):Sp:=fun vs H Q _=>∃(a:Addr) (ns:List Int),vs=[.ref a]/\SqL K H a (ns.map V.int)/\ns.length<=63/\∀H',Q (.bl true) H'
end Hv
namespace Me
structure DOk(g:List (Int×Int)):Prop where
 ne:0<(keys g).length
 nd:(keys g).Nodup
 bd:∀k∈keys g,-810<=k/\k<=810
 val:∀t,0<=gv g t/\gv g t<=16777216
def losG(gs:List (List (Int×Int))):List Int:=gs.map fun g=>Ma.minL (keys g)
def hisG(gs:List (List (Int×Int))):List Int:=gs.map fun g=>Ma.maxL (keys g)
def fG(gs:List (List (Int×Int))):List (Int->Int):=gs.map fun g t=>gv g t
def nearG(gs:List (List (Int×Int)))(d:Nat):Int:=Mq.sm (Mq.gat (fG gs) d) (Ma.minL (losG gs)) (Ma.maxL (hisG gs)-Ma.minL (losG gs)+1).toNat
theorem qV_{g:List (Int×Int)}(o:DOk g){t:Int}(h:t<Ma.minL (keys g)):gv g t=0:=by
 have n:t∉keys g:=fun z=>by
  have:=(Ma.v_ _ o.ne).2 t z
  omega
 unfold gv
 rw[aE_ n]
 rfl
theorem qB_{g:List (Int×Int)}(o:DOk g){t:Int}(h:Ma.maxL (keys g)<t):gv g t=0:=by
 have n:t∉keys g:=fun z=>by
  have:=(Ma.s_ _ o.ne).2 t z
  omega
 unfold gv
 rw[aE_ n]
 rfl
theorem lohi{g:List (Int×Int)}(o:DOk g) : -810<=Ma.minL (keys g)/\Ma.minL (keys g)<=Ma.maxL (keys g)/\Ma.maxL (keys g)<=810:=by
 have h1:=o.bd _ (Ma.v_ _ o.ne).1
 have h2:=o.bd _ (Ma.s_ _ o.ne).1
 have h3:=(Ma.v_ _ o.ne).2 _ (Ma.s_ _ o.ne).1
 omega
theorem ih_{gs:List (List (Int×Int))}(hne:0<gs.length)(hg:∀g∈gs,DOk g) :
  -810<=Ma.minL (losG gs)/\Ma.minL (losG gs)<=Ma.maxL (losG gs)/\Ma.maxL (losG gs)<=Ma.maxL (hisG gs)/\Ma.minL (losG gs)<=Ma.minL (hisG gs)/\Ma.minL (hisG gs)<=Ma.maxL (hisG gs)/\Ma.maxL (hisG gs)<=810:=by
 have nl:0<(losG gs).length:=by rw[losG,List.length_map];exact hne
 have nh:0<(hisG gs).length:=by rw[hisG,List.length_map];exact hne
 obtain⟨m1,m2⟩:=Ma.v_ _ nl
 obtain⟨m3,m4⟩:=Ma.s_ _ nl
 obtain⟨m5,m6⟩:=Ma.v_ _ nh
 obtain⟨m7,m8⟩:=Ma.s_ _ nh
 obtain⟨rl,hrl,erl⟩:=List.mem_map.mp m3
 obtain⟨rg,hrg,erg⟩:=List.mem_map.mp m5
 obtain⟨r1,hr1,er1⟩:=List.mem_map.mp m1
 obtain⟨r7,hr7,er7⟩:=List.mem_map.mp m7
 have a1:=lohi (hg r1 hr1)
 have a2:=lohi (hg rl hrl)
 have a3:=lohi (hg rg hrg)
 have a4:=lohi (hg r7 hr7)
 have b1:=m8 _ (List.mem_map.mpr ⟨rl,hrl,rfl⟩)
 have b2:=m2 _ (List.mem_map.mpr ⟨rg,hrg,rfl⟩)
 exact⟨by omega,m2 _ m3,by omega,by omega,m6 _ m7,by omega⟩
theorem jY_{gs:List (List (Int×Int))}(hne:0<gs.length)(hg:∀g∈gs,DOk g){d r:Nat}{first:Int}(hr:(r:Int)=if Ma.maxL (hisG gs)-Ma.minL (losG gs)<d then Ma.maxL (hisG gs)-Ma.minL (losG gs) else d)
  (hf:first=if Ma.maxL (losG gs)-r>Ma.minL (losG gs) then Ma.maxL (losG gs)-r else Ma.minL (losG gs)) :
  Mq.sm (Mq.gat (fG gs) r) first (Ma.minL (hisG gs)-first+1).toNat=nearG gs d:=by
 have nl:0<(losG gs).length:=by rw[losG,List.length_map];exact hne
 have nh:0<(hisG gs).length:=by rw[hisG,List.length_map];exact hne
 have B:=ih_ hne hg
 obtain⟨m1,m2⟩:=Ma.v_ _ nl
 obtain⟨m3,m4⟩:=Ma.s_ _ nl
 obtain⟨m5,m6⟩:=Ma.v_ _ nh
 obtain⟨m7,m8⟩:=Ma.s_ _ nh
 obtain⟨rl,hrl,erl⟩:=List.mem_map.mp m3
 obtain⟨rg,hrg,erg⟩:=List.mem_map.mp m5
 unfold nearG
 exact(Mq.pd_ (fs:=fG gs) (fl:=fun t=>gv rl t) (fg:=fun t=>gv rg t) (fun f hf u hu=>by
   obtain⟨g,hgm,rfl⟩:=List.mem_map.mp hf
   exact qB_ (hg g hgm) (by have:=m8 _ (List.mem_map.mpr ⟨g,hgm,rfl⟩);omega))
  (List.mem_map.mpr ⟨rl,hrl,rfl⟩) (fun u hu=>qV_ (hg rl hrl) (by omega)) (List.mem_map.mpr ⟨rg,hrg,rfl⟩) (fun u hu=>qB_ (hg rg hrg) (by omega)) (by omega) (by omega) (by omega) (by omega) (by omega) hr hf).symm
end Me
namespace L2
open PySem PySem.Spec PyProof.Rows
def Itv(K:PySem.W.Frag)(a:Addr)(xs:List V):It:=⟨fun i H=>SqL K H a xs/\i<xs.length,fun i H x H'=>H'=H/\xs.reverse[i]?=some x,fun i H=>SqL K H a xs/\i=xs.length⟩
theorem mW_{P:Program}{w:World}{K:PySem.W.Frag}{tg:Expr}(a it:Addr)(xs:List V):Turn P w K tg (Itv K a xs) [it] it (fun i h=>h.IsRevIter it a ((xs.length:Int)-1-(i:Int))) where
 mem:=by simp
 obj:=fun i h st b hb=>by
  have e:b=it:=by simpa using hb
  subst e
  obtain⟨o,e,c,d⟩:=st
  exact⟨o,e,fun v z=>by rw[d] at z;cases z⟩
 keep:=fun i h h' st k=>st.at fun o e=>k it (by simp) o e
 item:=by
  intro X hP hw hK hc i pins s σ H E I hf st hg
  subst hP hw hK
  obtain⟨hq,hi⟩:=hg
  obtain⟨its,rv,p,hz⟩:=I.list hq
  have hx:xs[xs.length-1-i]?=some (xs[xs.length-1-i]'(by omega)):=List.getElem?_eq_getElem (by omega)
  obtain⟨u,hu,ru⟩:=rv.get hx
  obtain⟨f0,f1,f2,f3,f4,f5⟩:=hf it (by simp)
  have e1:(xs.length:Int)-1-(i:Int)=((xs.length-1-i:Nat):Int):=by omega
  have st1:=st
  rw[e1] at st1
  refine wpAny_pyNext_rev_item st1 p.isList (x:=u) (by simpa using hu) fun h' st' sb=>?_
  have I1:Inv X pins σ H {s with heap:=h'}:=I.turned (t':=s.toks) (fun b o hb e=>(sb.2 b hb).trans e) f0 f1 f3 f4 f5
  have e2:((xs.length-1-i:Nat):Int)-1=(xs.length:Int)-1-((i+1:Nat):Int):=by omega
  rw[e2] at st'
  obtain⟨o,e,c,d⟩:=id st'
  refine⟨u,rfl,mc_ (s:={s with heap:=h'}) e c d (by decide) ⟨_,H,I1,ru,⟨rfl,?_⟩,st',fun b hb=>(hf b hb).1⟩⟩
  rw[List.getElem?_reverse hi]
  exact hx
 done:=by
  intro X hP hw hK hc i pins s σ H E I hf st hg
  subst hP hw hK
  obtain⟨hq,hx⟩:=hg
  obtain⟨f0,f1,f2,f3,f4,f5⟩:=hf it (by simp)
  have e1:(xs.length:Int)-1-(i:Int) = -1:=by omega
  have st1:=st
  rw[e1] at st1
  exact wpAny_pyNext_rev_end (I.ok.hd hc) st1 fun h' eb=>⟨rfl,I.turned (t':=s.toks) (fun b o hb e=>eb b o hb e) f0 f1 f3 f4 f5⟩
 self:=fun _ _ _ _ _ st h=>wpAny_pyIter_revIter st h
section
variable{X:Cx}{tg:Expr}
def iRev(K:PySem.W.Frag)(tl:TE):TI:=fun σ H R=>tl σ H fun x H1=>∃a xs,x=.ref a/\SqL K H1 a xs/\R (Itv K a xs) H1
theorem oc_{l:Expr}{tl:TE}{p pos:Pos}(hg:Gl X "reversed")(hm:X.mg "reversed"=none)(hl:PE X l tl)(hs:starEach [l] X.env=[(false,eval l X.env)]:=by rfl):PI X tg (.Call (.Name "reversed" p) [l] [] pos) (iRev X.K tl):=by
 intro pins s σ H R I h
 refine wpAny_Call_Name_kw (aI_ I hg hm boot_reversed (PyProof.Rows.callWith_type1 ?_ hs rfl))
 rw[hs]
 show wpAny _ _ (spliced ((false,eval l X.env)::backTo pos (starEach [] X.env))) _ _ s
 refine Calls.spliced_cons (thn (hl pins s σ H _ I h) fun u s1 ⟨x,H1,I1,r1,q1⟩=>Calls.spliced_nil ?_)
 obtain⟨a,xs,rfl,hq,q⟩:=q1
 cases r1
 obtain⟨its,rv,pl,hz⟩:=I1.list hq
 have hlen:=rv.length
 refine call_reversed_list pl.isList ?_
 have e0:((its.toArray.size:Int)-1)=(xs.length:Int)-1-((0:Nat):Int):=by rw[List.size_toArray,<-hlen];simp
 have T:=mW_ (P:=X.prog) (w:=X.w) (K:=X.K) (tg:=tg) a s1.heap.objs.size xs
 have st:(s1.heap.push (revObj a ((its.toArray.size:Int)-1))).IsRevIter s1.heap.objs.size a ((xs.length:Int)-1-((0:Nat):Int)):=⟨_,Heap.get?_push_size _ rfl,rfl,by rw[<-e0];rfl⟩
 refine T.self _ 0 _ _ _ st ?_
 refine⟨s1.heap.objs.size,[s1.heap.objs.size],_,_,H1,rfl,I1.kept (t':=s1.toks) fun b o e=>Heap.get?_push_of_some _ e,T,st,fun b hb=>?_,q⟩
 have e:b=s1.heap.objs.size:=by simpa using hb
 subst e
 exact I1.fpOk (Nat.le_refl _) (I1.hok.fresh (Nat.le_refl _))
end
theorem mg_{K:PySem.W.Frag}{a:Addr}{xs:List V}{g:TG}{tb:TS}{D:Ends}{σ:St}{H:Hp}(Pv:Nat->St->Hp->Prop)(h0:Pv 0 σ H)(hl:∀i σ H,i<=xs.length->Pv i σ H->SqL K H a xs)
  (hs:∀i x σ H,xs.reverse[i]?=some x->Pv i σ H->g x σ H fun σ2 H2=>tb {D with nx:=Pv (i+1),ct:=Pv (i+1),bk:=D.nx} σ2 H2) (hd:∀ σ H,Pv xs.length σ H->D.nx σ H) :
  ∃W:Nat->Nat->St->Hp->Prop,(∃m,W 0 m σ H)/\∀i m σ H,W i m σ H->
   ((Itv K a xs).stop i H/\D.nx σ H)\/((Itv K a xs).go i H/\∃N:St->Hp->Prop,(∀ σ' H',N σ' H'->∃m',m'<m/\W (i+1) m' σ' H')/\∀x H',(Itv K a xs).yld i H x H'->g x σ H' fun σ2 H2=>tb {D with nx:=N,ct:=N,bk:=D.nx} σ2 H2):=by
 refine⟨fun i m σ H=>m=xs.length-i/\i<=xs.length/\Pv i σ H,⟨xs.length,by simp,Nat.zero_le _,h0⟩,?_⟩
 rintro i m σ H ⟨rfl,hi,p⟩
 have q:=hl i σ H hi p
 by_cases hlt:i<xs.length
 ·refine .inr ⟨⟨q,hlt⟩,Pv (i+1),fun σ' H' p'=>⟨xs.length-(i+1),by omega,rfl,hlt,p'⟩,fun x H' y=>?_⟩
  obtain⟨e,y⟩:=y
  subst e
  exact hs i x σ _ y p
 ·have e:i=xs.length:=by omega
  subst e
  exact .inl ⟨⟨q,rfl⟩,hd σ H p⟩
section
variable{X:Cx}
theorem fH_{P:Program}{w:World}{vs:List (Key×Value)}{ns:List Int}(hk:vs.map (·.1)=ns.map Sum.inl){i:Nat}{v:Value}(h:∃k x,vs[i]?=some (k,x)/\(w_ P w).is k v=true):∃n t,ns[i]?=some n/\v=Value.int n t:=by
 obtain⟨k,x,h1,h2⟩:=h
 have h3:(vs.map (·.1))[i]?=some k:=by rw[List.getElem?_map,h1];rfl
 rw[hk,List.getElem?_map] at h3
 cases q:ns[i]? with
 | none=>rw[q] at h3;cases h3
 | some m =>
  rw[q] at h3
  have h4:Sum.inl m=k:=Option.some.inj h3
  subst h4
  have h5:keyIs (Sum.inl m) v=true:=h2
  rcases G_ h5 with⟨i',t,e1,e2⟩ | ⟨y,t,e1,_⟩
  ·cases e1;exact⟨m,t,rfl,e2⟩
  ·cases e1
theorem gP_(hc:X.calm=true):CallR X (.builtin "max") (fun xs H Q=>∃(a:Addr) (kvs:List (Key×V)) (ns:List Int),xs=[.ref a]/\Rd H a (.dK kvs)/\kvs.map (·.1)=ns.map Sum.inl/\0<ns.length/\Q (.int (Ma.maxL ns)) H):=by
 intro pins s σ H xs us Q I r h
 obtain⟨a,kvs,ns,rfl,e,hk,hne,q⟩:=h
 obtain⟨u,rfl,ru⟩:=vals1 r
 cases ru
 obtain⟨z,hd,vs,rel,o,es,ep,ho,dd⟩:=eo_ I.hok e
 have hkv:vs.map (·.1)=ns.map Sum.inl:=by rw[<-rel.keys];exact hk
 have hn:vs.length=ns.length:=by simpa using congrArg List.length hkv
 have KS:=PySem.W.kdl_dict (prog:=X.prog) (w:=X.w) (ep:=ep) (kvs:=vs) (knd:=w_ X.prog X.w) hd
 have hval:∀(i:Nat) (v:Value),(∃k x,vs[i]?=some (k,x)/\(w_ X.prog X.w).is k v=true)->∃t,v=.int ((fun i=>(ns[i]?).getD 0) i) t:=fun i v hP=>by
  obtain⟨n,t,e,rfl⟩:=fH_ hkv hP
  exact⟨t,by simp[e]⟩
 obtain⟨oI,St,hit,W,st⟩:=KS.iter X.A.in1 s (I.ok.hd hc) ⟨o,es,ho,dd⟩
 refine call_max_walk (hit _ _ ?_)
 refine⟨_,_,_,_,_,_,_,rfl,W,st,fun b hb'=>?_,by omega,CmpOf.ints_gt (fun i=>(ns[i]?).getD 0) hval,fun v h' tk hP hk=>?_⟩
 ·show b<(s.heap.push _).objs.size
  rw[Heap.size_push]
  rcases List.mem_cons.mp hb' with rfl | hb'
  ·exact Nat.lt_succ_self _
  ·rw[List.mem_singleton.mp hb'];exact Nat.lt_succ_of_lt (Heap.lt_size ho)
 ·rw[hn] at hP
  have ab:=argBest_gt (fun i=>(ns[i]?).getD 0) (ns.length-1)
  obtain⟨n,t,e,rfl⟩:=fH_ hkv hP
  have em:n=Ma.maxL ns:=Ma.dT_ (List.mem_of_getElem? e) fun m hm=>by
   obtain⟨j,hj⟩:=List.getElem?_of_mem hm
   have hjl:=(List.getElem?_eq_some_iff.mp hj).1
   have a2:=ab.2 j (by omega)
   simp only[hj,e,Option.getD_some] at a2
   exact a2
  subst em
  exact⟨.int _,H,I.kept (t':=tk) (h':=h') (fun b o e=>hk b o (fun hI=>absurd (Heap.lt_size e) (by rw[List.mem_singleton.mp hI];exact Nat.lt_irrefl _)) (Heap.get?_push_of_some _ e)),⟨_,rfl⟩,q⟩
theorem gO_(hc:X.calm=true):CallR X (.builtin "min") (fun xs H Q=>∃(a:Addr) (kvs:List (Key×V)) (ns:List Int),xs=[.ref a]/\Rd H a (.dK kvs)/\kvs.map (·.1)=ns.map Sum.inl/\0<ns.length/\Q (.int (Ma.minL ns)) H):=by
 intro pins s σ H xs us Q I r h
 obtain⟨a,kvs,ns,rfl,e,hk,hne,q⟩:=h
 obtain⟨u,rfl,ru⟩:=vals1 r
 cases ru
 obtain⟨z,hd,vs,rel,o,es,ep,ho,dd⟩:=eo_ I.hok e
 have hkv:vs.map (·.1)=ns.map Sum.inl:=by rw[<-rel.keys];exact hk
 have hn:vs.length=ns.length:=by simpa using congrArg List.length hkv
 have KS:=PySem.W.kdl_dict (prog:=X.prog) (w:=X.w) (ep:=ep) (kvs:=vs) (knd:=w_ X.prog X.w) hd
 have hval:∀(i:Nat) (v:Value),(∃k x,vs[i]?=some (k,x)/\(w_ X.prog X.w).is k v=true)->∃t,v=.int ((fun i=>(ns[i]?).getD 0) i) t:=fun i v hP=>by
  obtain⟨n,t,e,rfl⟩:=fH_ hkv hP
  exact⟨t,by simp[e]⟩
 obtain⟨oI,St,hit,W,st⟩:=KS.iter X.A.in1 s (I.ok.hd hc) ⟨o,es,ho,dd⟩
 refine call_min_walk (hit _ _ ?_)
 refine⟨_,_,_,_,_,_,_,rfl,W,st,fun b hb'=>?_,by omega,CmpOf.ints_lt (fun i=>(ns[i]?).getD 0) hval,fun v h' tk hP hk=>?_⟩
 ·show b<(s.heap.push _).objs.size
  rw[Heap.size_push]
  rcases List.mem_cons.mp hb' with rfl | hb'
  ·exact Nat.lt_succ_self _
  ·rw[List.mem_singleton.mp hb'];exact Nat.lt_succ_of_lt (Heap.lt_size ho)
 ·rw[hn] at hP
  have ab:=argBest_lt (fun i=>(ns[i]?).getD 0) (ns.length-1)
  obtain⟨n,t,e,rfl⟩:=fH_ hkv hP
  have em:n=Ma.minL ns:=Ma.dS_ (List.mem_of_getElem? e) fun m hm=>by
   obtain⟨j,hj⟩:=List.getElem?_of_mem hm
   have hjl:=(List.getElem?_eq_some_iff.mp hj).1
   have a2:=ab.2 j (by omega)
   simp only[hj,e,Option.getD_some] at a2
   exact a2
  subst em
  exact⟨.int _,H,I.kept (t':=tk) (h':=h') (fun b o e=>hk b o (fun hI=>absurd (Heap.lt_size e) (by rw[List.mem_singleton.mp hI];exact Nat.lt_irrefl _)) (Heap.get?_push_of_some _ e)),⟨_,rfl⟩,q⟩
end
end L2
namespace Hv
open PySem L2
def runs(f:Int->Int)(lo:Int)(n:Nat):List V:=(List.range (n+1)).map fun k=>V.int (Mq.sm f lo k)
theorem ne_(f:Int->Int)(lo:Int)(n:Nat):(runs f lo n).length=n+1:=by simp[runs]
theorem gd_(f:Int->Int)(lo:Int)(n:Nat):runs f lo (n+1)=runs f lo n++[.int (Mq.sm f lo (n+1))]:=by
 unfold runs
 rw[List.range_succ (n:=n+1),List.map_append]
 rfl
theorem kY_{f:Int->Int}{lo:Int}{n k:Nat}(h:k<=n):(runs f lo n)[k]?=some (.int (Mq.sm f lo k)):=by
 unfold runs
 rw[List.getElem?_map,List.getElem?_range (by omega)]
 rfl
theorem kX_(f:Int->Int)(lo:Int):∀n:Nat,atI (runs f lo n) (-1)=some (.int (Mq.sm f lo n))
 | 0=>jy_ [] (V.int (Mq.sm f lo 0))
 | n+1=>by rw[gd_];exact jy_ _ _
theorem pairG{α β:Type}{R:α->β->Prop}:∀ {as:List α} {bs:List β},Paired R as bs->∀ {i:Nat} {a:α},as[i]?=some a->∃b,bs[i]?=some b/\R a b
 | _,_,.cons h t,0,a,e=>by cases e;exact⟨_,rfl,h⟩
 | _,_,.cons h t,i+1,a,e=>by
  rw[List.getElem?_cons_succ] at e
  obtain⟨b,h1,h2⟩:=pairG t e
  exact⟨b,by rw[List.getElem?_cons_succ];exact h1,h2⟩
def dw_:Sp:=fun vs H Q _=>∃(q:Addr) (g:List (Int×Int)) (lo hi:Int),vs=[.ref q,.int lo,.int hi]/\H q=some (.dK (intsD g))/\-5000<=lo/\lo<=5000/\-5000<=hi/\hi<=5000/\
 ∀r H',H r=none->Same H H'->H' r=some (.lst (runs (Me.gv g) lo (hi+1-lo).toNat))->Q (.ref r) H'
abbrev gX_(H:Hp)(lo:Int)(n:Nat)(rs:List Addr)(rows:List (List (Int×Int))):Prop:=Paired (fun r row=>H r=some (.lst (runs (fun t=>Me.gv row t) lo n))) rs rows
theorem gX_.keep{H H':Hp}{lo:Int}{n:Nat}{rs:List Addr}{rows:List (List (Int×Int))}(s:Same H H')(h:gX_ H lo n rs rows):gX_ H' lo n rs rows:=L2.Paired.mapP h fun q row e=>s _ _ e
abbrev WaysG(H:Hp)(qs:List Addr)(gs:List (List (Int×Int))):Prop:=Paired (fun q g=>H q=some (.dK (intsD g))) qs gs
theorem WaysG.keep{H H':Hp}{qs:List Addr}{gs:List (List (Int×Int))}(h:WaysG H qs gs)(s:Same H H'):WaysG H' qs gs:=L2.Paired.mapP h fun q g e=>s _ _ e
def eS_:Sp:=fun vs H Q _=>∃(p:Addr) (rs:List Addr) (rows:List (List (Int×Int))) (lo:Int) (n s e:Nat),vs=[.ref p,.int s,.int e]/\H p=some (.lst (rs.map V.ref))/\gX_ H lo n rs rows/\(∀row∈rows,Me.DOk row)/\n<=20000/\s<=e/\e<=n/\
 Q (.int (Mq.pr (Me.fG rows) (lo+s) (e-s))) H
section
variable{P:Program}{w:World}{K:PySem.W.Frag}{mg:Str->Option Value}{base:Heap}
theorem fZ_:FnScope ["ways","low","high","counts","total"] ["ways","low","high"] (i_ fj_):=⟨rfl,rfl,rfl,by decide +kernel,rfl,by decide +kernel,by decide +kernel⟩
theorem jQ_{f:Addr}{fd:FuncData}(F:Fun K "running_counts" "running_counts" fj_ f fd)(T:Txt mg):FnOk P w K mg base CX0 1 f fd ["ways","low","high"] dw_:=by
 refine F.ok fZ_ (fun vs H Q E h=>?_) (fun cdv A outer s H vs Q E hr h=>?_)
 ·obtain⟨q,g,lo,hi,rfl,_⟩:=h;rfl
 ·obtain⟨q,g,lo,hi,rfl,hq,a1,a2,a3,a4,k⟩:=h
  have nd:=fZ_.nd
  have hu:=cD_ hr
  refine⟨_,b_ (k_ (i:=3) nd rfl (Or.inl rfl) (P_ (a_ e_ d_)))
   (b_ (B_ PassesOwn.never rfl (ln_ (by rfl) T.range (a_ (pv 1) (a_ (l_ r_ (pv 2) e_) d_))) (n_ (i:=4) nd rfl (Or.inl rfl))
    (g_ (y_ (bv_ PySem.F.plainAttrs_list PySem.F.slot_list_append PySem.F.type_list_append H_ (pv 3) (a_ (l_ r_ (ixl (pv 3) (hD_ du_ e_)) (bR_ hu (pv 0) (pv 4) e_ ⟨rfl,rfl,rfl,rfl⟩)) d_)))))
   (g_ (o_ (pv 3)))),?_⟩
  refine⟨sz (by simp),fun r hr'=>?_⟩
  have s0:=h_ (o:=.lst [.int 0]) hr'
  refine⟨_,rfl,_,rfl,_,_,rfl,rfl,_,_,rfl,⟨by omega,by omega,by omega,by omega⟩,?_⟩
  refine K_ (n:=(hi+1-lo).toNat) (fun i σ H2=>∃v4,σ=[some (.ref q),some (.int lo),some (.int hi),some (.ref r),v4]/\Same H H2/\H2 r=some (.lst (runs (Me.gv g) lo i))) ⟨none,rfl,s0,c_⟩ ?_ ?_
  ·rintro i σ H2 hi' ⟨v4,rfl,s2,h2⟩
   refine⟨_,rfl,.inl ⟨rfl,_,SqL.of h2⟩,_,rfl,1,rfl,?_⟩
   have e1:=kX_ (Me.gv g) lo i
   refine br_ h2 e1 ⟨_,rfl,q,rfl,.inl ⟨_,.inl (s2 _ _ hq)⟩,_,rfl,_,aq_ (.inl (s2 _ _ hq)),_,_,rfl,dp_ _,⟨r,_,_,rfl,rfl,h2,szl (by rw[ne_];omega),_,rfl,t_ s2 hr',?_⟩⟩
   rw[c_,gd_]
   rfl
  ·rintro σ H2 ⟨v4,rfl,s2,h2⟩
   exact⟨_,rfl,k r H2 hr' s2 h2⟩
theorem refG{qs:List Addr}{i:Nat}{x:V}(hx:(qs.map V.ref)[i]?=some x):∃q:Addr,qs[i]?=some q/\x=.ref q:=by
 rw[List.getElem?_map] at hx
 cases e:qs[i]? with
 | none=>rw[e] at hx;cases hx
 | some d=>rw[e] at hx;exact⟨d,rfl,(Option.some.inj hx).symm⟩
theorem oI_(f:Int->Int)(lo:Int){s e:Nat}(h:s<=e):Mq.sm f lo e-Mq.sm f lo s=Mq.sm f (lo+s) (e-s):=by
 obtain⟨k,rfl⟩:=Nat.exists_eq_add_of_le h
 rw[Mq.fX_,Nat.add_sub_cancel_left]
 omega
theorem nE_{rows:List (List (Int×Int))}{i:Nat}{row:List (Int×Int)}(h:rows[i]?=some row)(a:Int)(n:Nat):Mq.pr (Me.fG (rows.take (i+1))) a n=Mq.pr (Me.fG (rows.take i)) a n*Mq.sm (fun t=>Me.gv row t) a n:=by
 unfold Mq.pr Me.fG
 rw[List.take_add_one,h]
 simp
theorem iB_:FnScope ["running_by_part","start","end","many","running"] ["running_by_part","start","end"] (i_ hx_):=⟨rfl,rfl,rfl,by decide +kernel,rfl,by decide +kernel,by decide +kernel⟩
theorem lt_{f:Addr}{fd:FuncData}(F:Fun K "ways_within" "ways_within" hx_ f fd):FnOk P w K mg base CX0 1 f fd ["running_by_part","start","end"] eS_:=by
 refine F.ok iB_ (fun vs H Q E h=>?_) (fun cdv A outer s H vs Q E hr h=>?_)
 ·obtain⟨p,rs,rows,lo,n,s,e,rfl,_⟩:=h;rfl
 ·obtain⟨p,rs,rows,lo,n,st,e,rfl,hp,ra,hrs,hn,hse,hen,k⟩:=h
  have nd:=iB_.nd
  refine⟨_,b_ (k_ (i:=3) nd rfl (Or.inl rfl) e_)
   (b_ (B_ PassesOwn.never rfl (M_ (pv 0)) (n_ (i:=4) nd rfl (Or.inl rfl))
    (g_ (k_ (i:=3) nd rfl (Or.inl rfl) (l_ F_ (pv 3) (l_ Q_ (ixl (pv 4) (pv 2)) (ixl (pv 4) (pv 1)))))))
   (g_ (o_ (pv 3)))),?_⟩
  refine⟨_,rfl,p,rfl,⟨_,SqL.of hp⟩,al_ (K:=K) (a:=p) (xs:=rs.map V.ref) (fun i σ H'=>∃v4,σ=[some (.ref p),some (.int st),some (.int e),some (.int (Mq.pr (Me.fG (rows.take i)) (lo+st) (e-st))),v4]/\H=H')
   ⟨none,rfl,rfl⟩ (fun i σ H' _ h=>by obtain⟨_,_,e⟩:=h;rw[<-e];exact SqL.of hp) ?_ ?_⟩
  ·rintro i x σ H' hx ⟨v4,rfl,rfl⟩
   obtain⟨q,hq,rfl⟩:∃q:Addr,rs[i]?=some q/\x=.ref q:=by
    rw[List.getElem?_map] at hx
    cases e:rs[i]? with
    | none=>rw[e] at hx;cases hx
    | some d=>rw[e] at hx;exact⟨d,rfl,(Option.some.inj hx).symm⟩
   obtain⟨row,hj,hrow⟩:=pairG ra hq
   have hl:=hrs row (List.mem_of_getElem? hj)
   have bd:=Me.pL_ (f:=fun t=>Me.gv row t) hl.val (lo+st) (e-st)
   refine⟨_,rfl,_,rfl,_,rfl,br_ hrow (ab_ (kY_ (by omega))) ⟨_,rfl,_,rfl,br_ hrow (ab_ (kY_ (by omega))) ⟨_,_,rfl,rfl,?_⟩⟩⟩
   dsimp only
   rw[oI_ _ _ hse]
   refine⟨_,_,rfl,rfl,.inr ⟨by omega,by omega⟩,some (.ref q),?_,rfl⟩
   rw[nE_ hj]
   rfl
  ·rintro σ H' ⟨v4,rfl,rfl⟩
   have el:(rs.map V.ref).length=rows.length:=by rw[List.length_map];exact ra.length
   rw[el,List.take_length]
   exact⟨_,rfl,k⟩
def eY_:Sp:=fun vs H Q _=>∃(p:Addr) (qs:List Addr) (rows:List (List (Int×Int))) (d:Nat),vs=[.ref p,.int d]/\H p=some (.lst (qs.map V.ref))/\WaysG H qs rows/\0<rows.length/\rows.length<=4/\(∀row∈rows,Me.DOk row)/\
 ∀H',Same H H'->Q (.int (Me.nearG rows d)) H'
theorem iD_:FnScope ["ways_by_part","width","leasts","greatests","reach","first","last","running_by_part","count","start","end"] ["ways_by_part","width"] (i_ bO_):=⟨rfl,rfl,rfl,by decide +kernel,rfl,by decide +kernel,by decide +kernel⟩
theorem lx_{f:Addr}{fd:FuncData}(F:Fun K "count_spread_within" "count_spread_within" bO_ f fd)(T:Txt mg)(DR:Def P w K mg base 1 "running_counts" ["ways","low","high"] dw_)(DW:Def P w K mg base 1 "ways_within" ["running_by_part","start","end"] eS_) :
  FnOk P w K mg base CX0 2 f fd ["ways_by_part","width"] eY_:=by
 refine F.ok iD_ (fun vs H Q E h=>?_) (fun cdv A outer s H vs Q E hr h=>?_)
 ·obtain⟨p,qs,rows,d,rfl,_⟩:=h;rfl
 ·obtain⟨p,qs,rows,d,rfl,hp,wa,hne,h4,hrs,k⟩:=h
  have nd:=iD_.nd
  refine⟨_,b_ (dP_ (i_ bO_) ["ways_by_part","width","leasts","greatests","reach","first","last","running_by_part","count","start","end"] [] [] (i:=2) nd rfl (Or.inl rfl) rfl (M_ (pv 0)) (fun cl C s H fp=>af_) (fun cl C s H fp=>q_ (gO_ rfl) (by rfl) T.min boot_min (a_ (pv 0) d_)) (by decide +kernel) (by rfl))
   (b_ (dP_ (i_ bO_) ["ways_by_part","width","leasts","greatests","reach","first","last","running_by_part","count","start","end"] [] [] (i:=3) nd rfl (Or.inl rfl) rfl (M_ (pv 0)) (fun cl C s H fp=>af_) (fun cl C s H fp=>q_ (gP_ rfl) (by rfl) T.max boot_max (a_ (pv 0) d_)) (by decide +kernel) (by rfl))
   (b_ (k_ (i:=4) nd rfl (Or.inr rfl) (q_ (eb_ rfl) (by rfl) T.min boot_min (a_ (pv 1) (a_ (l_ Q_ (q_ (cG_ rfl) (by rfl) T.max boot_max (a_ (pv 3) d_)) (q_ (bA_ rfl) (by rfl) T.min boot_min (a_ (pv 2) d_))) d_))))
   (b_ (k_ (i:=5) nd rfl (Or.inr rfl) (q_ (mE_ rfl) (by rfl) T.max boot_max (a_ (q_ (bA_ rfl) (by rfl) T.min boot_min (a_ (pv 2) d_)) (a_ (l_ Q_ (q_ (cG_ rfl) (by rfl) T.max boot_max (a_ (pv 2) d_)) (pv 4)) d_))))
   (b_ (k_ (i:=6) nd rfl (Or.inr rfl) (q_ (bA_ rfl) (by rfl) T.min boot_min (a_ (pv 3) d_)))
   (b_ (dP_ (i_ bO_) ["ways_by_part","width","leasts","greatests","reach","first","last","running_by_part","count","start","end"] ["first","last","reach"] [5,6,4] (i:=7) nd rfl (Or.inl rfl) rfl (M_ (pv 0)) (fun cl C s H fp=>af_) (fun cl C s H fp=>m_ DR hr (by rfl) (a_ (pv 0) (a_ (pv 1) (a_ (l_ r_ (pv 2) (pv 3)) d_)))) (by decide +kernel) (by rfl))
   (b_ (k_ (i:=8) nd rfl (Or.inl rfl) e_)
   (b_ (B_ PassesOwn.never rfl (C_ (by rfl) T.range (a_ (l_ r_ (l_ Q_ (pv 6) (pv 5)) e_) d_)) (n_ (i:=9) nd rfl (Or.inl rfl))
    (b_ (k_ (i:=10) nd rfl (Or.inl rfl) (l_ r_ (l_ r_ (pv 9) (pv 4)) e_))
    (g_ (pR_ (i:=8) nd rfl (Or.inl rfl) (l_ Q_ (m_ DW hr (by rfl) (a_ (pv 7) (a_ (pv 9) (a_ (pv 10) d_)))) (m_ DW hr (by rfl) (a_ (pv 7) (a_ (l_ r_ (pv 9) e_) (a_ (pv 10) d_))))) qz_))))
   (g_ (o_ (pv 8)))))))))),?_⟩
  have hql:qs.length=rows.length:=wa.length
  refine⟨_,rfl,p,rfl,⟨_,SqL.of hp⟩,V_ (K:=K) (a:=p) (xs:=qs.map V.ref) (fun i ys H2=>ys=(Me.losG (rows.take i)).map V.int/\H=H2) ⟨rfl,rfl⟩ (fun i ys H2 _ h=>by rw[<-h.2];exact SqL.of hp) ?_ ?_⟩
  ·rintro i x ys H2 hx ⟨rfl,rfl⟩
   obtain⟨q,hq,rfl⟩:=refG hx
   have hil:i<qs.length:=(List.getElem?_eq_some_iff.mp hq).1
   obtain⟨g,hj,hg⟩:=pairG wa hq
   have kl:=(hrs g (List.mem_of_getElem? hj)).ne
   refine⟨szl (by simp[Me.losG];omega),_,rfl,q,intsD g,Me.keys g,rfl,.inl hg,by simp[intsD,Me.keys],kl,?_,rfl⟩
   rw[List.take_add_one,hj]
   simp[Me.losG]
  rintro ys H2 ⟨rfl,rfl⟩ l1 h1
  rw[List.length_map,hql,List.take_length]
  have s1:=h_ (o:=.lst ((Me.losG rows).map V.int)) h1
  have u1:upd H l1 (.lst ((Me.losG rows).map V.int)) l1=some (.lst ((Me.losG rows).map V.int)):=c_
  generalize upd H l1 (.lst ((Me.losG rows).map V.int))=H1 at s1 u1⊢
  have hp1:=s1 _ _ hp
  have wa1:=wa.keep s1
  refine⟨_,rfl,p,rfl,⟨_,SqL.of hp1⟩,V_ (K:=K) (a:=p) (xs:=qs.map V.ref) (fun i ys H2=>ys=(Me.hisG (rows.take i)).map V.int/\H1=H2) ⟨rfl,rfl⟩ (fun i ys H2 _ h=>by rw[<-h.2];exact SqL.of hp1) ?_ ?_⟩
  ·rintro i x ys H2 hx ⟨rfl,rfl⟩
   obtain⟨q,hq,rfl⟩:=refG hx
   have hil:i<qs.length:=(List.getElem?_eq_some_iff.mp hq).1
   obtain⟨g,hj,hg⟩:=pairG wa1 hq
   have kl:=(hrs g (List.mem_of_getElem? hj)).ne
   refine⟨szl (by simp[Me.hisG];omega),_,rfl,q,intsD g,Me.keys g,rfl,.inl hg,by simp[intsD,Me.keys],kl,?_,rfl⟩
   rw[List.take_add_one,hj]
   simp[Me.hisG]
  rintro ys H2 ⟨rfl,rfl⟩ l2 h2
  rw[List.length_map,hql,List.take_length]
  have s2:=s1.trans (h_ (o:=.lst ((Me.hisG rows).map V.int)) h2)
  have u2:upd H1 l2 (.lst ((Me.hisG rows).map V.int)) l2=some (.lst ((Me.hisG rows).map V.int)):=c_
  have u1':=h_ (o:=.lst ((Me.hisG rows).map V.int)) h2 _ _ u1
  generalize upd H1 l2 (.lst ((Me.hisG rows).map V.int))=H2 at s2 u2 u1'⊢
  have nl:0<(Me.losG rows).length:=by rw[Me.losG,List.length_map];exact hne
  have nh:0<(Me.hisG rows).length:=by rw[Me.hisG,List.length_map];exact hne
  have B:=Me.ih_ hne hrs
  obtain⟨B1,B2,B3,B4,B5,B6⟩:=B
  refine⟨_,rfl,_,rfl,l2,_,rfl,SqL.of u2,nh,_,rfl,l1,_,rfl,SqL.of u1',nl,_,_,rfl,rfl,_,_,rfl,?_⟩
  dsimp only
  obtain⟨r,hr'⟩:∃r:Nat,(r:Int)=if Ma.maxL (Me.hisG rows)-Ma.minL (Me.losG rows)<(d:Int) then Ma.maxL (Me.hisG rows)-Ma.minL (Me.losG rows) else (d:Int):=⟨(if Ma.maxL (Me.hisG rows)-Ma.minL (Me.losG rows)<(d:Int) then Ma.maxL (Me.hisG rows)-Ma.minL (Me.losG rows) else (d:Int)).toNat,by split <;> omega⟩
  rw[<-hr']
  have rb:(r:Int)<=1620:=by split at hr' <;> omega
  refine⟨_,rfl,l1,_,rfl,SqL.of u1',nl,_,rfl,l1,_,rfl,SqL.of u1',nl,_,rfl,_,_,rfl,rfl,_,_,rfl,?_⟩
  dsimp only
  generalize hf:(if Ma.maxL (Me.losG rows)-(r:Int)>Ma.minL (Me.losG rows) then Ma.maxL (Me.losG rows)-(r:Int) else Ma.minL (Me.losG rows))=first
  have fb : -2430<=first/\first<=810:=by rw[<-hf];split <;> omega
  refine⟨_,rfl,l2,_,rfl,SqL.of u2,nh,?_⟩
  generalize hg0:Ma.minL (Me.hisG rows)=last
  rw[hg0] at B4 B5
  have hp2:=s2 _ _ hp
  have wa2:=wa.keep s2
  obtain⟨n,hn⟩:∃n:Nat,n=(last+(r:Int)+1-first).toNat:=⟨_,rfl⟩
  refine⟨_,rfl,p,rfl,⟨_,SqL.of hp2⟩,V_ (K:=K) (a:=p) (xs:=qs.map V.ref) (fun i ys H3=>∃ts,ys=ts.map V.ref/\ts.length=i/\Same H2 H3/\gX_ H3 first n ts (rows.take i))
   ⟨[],rfl,rfl,Same.refl _,.nil⟩ (fun i ys H3 _ h=>by obtain⟨_,_,_,s',_⟩:=h;exact SqL.of (s' _ _ hp2)) ?_ ?_⟩
  ·rintro i x ys H3 hx ⟨ts,rfl,htl,s3,ra⟩
   obtain⟨q,hq,rfl⟩:=refG hx
   have hil:i<qs.length:=(List.getElem?_eq_some_iff.mp hq).1
   obtain⟨g,hj,hg⟩:=pairG wa2 hq
   refine⟨szl (by rw[List.length_map];omega),_,rfl,_,rfl,_,rfl,_,rfl,_,_,rfl,rfl,q,g,first,last+(r:Int),rfl,s3 _ _ hg,by omega,by omega,by omega,by omega,fun r' H4 hr4 s4 h4=>?_⟩
   refine⟨ts++[r'],by simp,by simp[htl],s3.trans s4,?_⟩
   rw[List.take_add_one,hj]
   rw[<-hn] at h4
   exact Paired.snoc (ra.keep s4) h4
  rintro ys H3 ⟨ts,rfl,htl,s3,ra⟩ l3 h3
  rw[List.length_map,hql,List.take_length] at ra
  have s4:=(s2.trans s3).trans (h_ (o:=.lst (ts.map V.ref)) h3)
  have ra4:=ra.keep (h_ (o:=.lst (ts.map V.ref)) h3)
  have u3:upd H3 l3 (.lst (ts.map V.ref)) l3=some (.lst (ts.map V.ref)):=c_
  generalize upd H3 l3 (.lst (ts.map V.ref))=H4 at s4 ra4 u3⊢
  refine⟨_,rfl,_,rfl,_,_,rfl,rfl,_,_,rfl,rfl,_,rfl,by omega,by omega,?_⟩
  have en:(last-first+1).toNat=(Ma.minL (Me.hisG rows)-first+1).toNat:=by rw[hg0]
  refine K_ (lo:=0) (n:=(last-first+1).toNat) (fun i σ H5=>∃v9 v10,σ=[some (.ref p),some (.int d),some (.ref l1),some (.ref l2),some (.int r),some (.int first),some (.int last),some (.ref l3),some (.int (Mq.sm (Mq.gat (Me.fG rows) r) first i)),v9,v10]/\H4=H5) ⟨none,none,?_,rfl⟩ ?_ ?_
  ·rfl
  ·rintro i σ H5 hi ⟨v9,v10,rfl,rfl⟩
   refine⟨_,rfl,_,rfl,_,_,rfl,rfl,_,_,rfl,rfl,?_⟩
   dsimp only
   refine⟨_,rfl,_,rfl,_,rfl,_,rfl,l3,ts,rows,first,n,i,i+r+1,?_,u3,ra4,hrs,by omega,by omega,by omega,?_⟩
   ·show[V.ref l3,V.int (0+(i:Int)),V.int (0+(i:Int)+(r:Int)+1)]=_
    rw[Int.zero_add]
    push_cast
    rfl
   refine⟨_,rfl,_,rfl,_,_,rfl,rfl,_,rfl,l3,ts,rows,first,n,i+1,i+r+1,?_,u3,ra4,hrs,by omega,by omega,by omega,?_⟩
   ·show[V.ref l3,V.int (0+(i:Int)+1),V.int (0+(i:Int)+(r:Int)+1)]=_
    rw[Int.zero_add]
    push_cast
    rfl
   refine⟨_,_,rfl,rfl,_,_,rfl,rfl,some (.int (0+(i:Int))),some (.int (0+(i:Int)+(r:Int)+1)),?_,rfl⟩
   have e1:i+r+1-i=r+1:=by omega
   have e2:i+r+1-(i+1)=r:=by omega
   have e3:first+((i+1:Nat):Int)=first+(i:Int)+1:=by push_cast;omega
   rw[e1,e2,e3]
   rfl
  ·rintro σ H5 ⟨v9,v10,rfl,rfl⟩
   refine⟨_,rfl,?_⟩
   rw[en,Me.jY_ hne hrs hr' hf.symm]
   exact k _ s4
end
end Hv
namespace Ma
def num(b:Nat)(ds:List Nat):Nat:=ds.foldl (fun x d=>x*b+d) 0
theorem fC_(b:Nat):∀(l:List Nat) (x:Nat),l.foldl (fun x d=>x*b+d) x=x*b ^ l.length+l.foldl (fun x d=>x*b+d) 0
 | [],x=>by simp
 | d::l,x=>by
  simp only[List.foldl_cons,List.length_cons]
  rw[fC_ b l (x*b+d),fC_ b l (0*b+d),Nat.pow_succ,Nat.zero_mul,Nat.zero_add,Nat.add_mul,Nat.mul_assoc x b,Nat.mul_comm b,Nat.add_assoc]
theorem nw_(b d:Nat)(l:List Nat):num b (d::l)=d*b ^ l.length+num b l:=by
 show l.foldl (fun x d=>x*b+d) (0*b+d)=_
 rw[fC_,Nat.zero_mul,Nat.zero_add]
 rfl
theorem nv_(b d:Nat)(l:List Nat):num b (l++[d])=num b l*b+d:=by
 unfold num
 rw[List.foldl_append]
 rfl
theorem jb_{b i d:Nat}{ds:List Nat}(h:ds[i]?=some d):num b (ds.take (i+1))=num b (ds.take i)*b+d:=by
 rw[List.take_add_one,h]
 exact nv_ b d _
def behind(b n L:Nat):Nat:=num b (dws b n L L).reverse
theorem lC_{b n L:Nat}(hb:0<b)(hn:n<b ^ L):num b (dws b n L L)=n:=by
 have:∀i,i<=L->num b ((dws b n L L).take i)=n / b ^ (L-i):=by
  intro i
  induction i with
  | zero=>intro _;rw[List.take_zero,Nat.sub_zero,Nat.div_eq_of_lt hn];rfl
  | succ i ih =>
   intro hi
   have hi':i<L:=hi
   have g:(dws b n L L)[i]?=some (n / b ^ (L-1-i) % b):=by simp[dws,hi']
   rw[jb_ g,ih (by omega)]
   have e1:L-i=(L-1-i)+1:=by omega
   have e2:L-(i+1)=L-1-i:=by omega
   rw[e1,e2,Nat.pow_succ,<-Nat.div_div_eq_div_mul,Nat.mul_comm]
   exact Nat.div_add_mod _ _
 have h:=this L (Nat.le_refl _)
 rw[Nat.sub_self,Nat.pow_zero,Nat.div_one,List.take_of_length_le (by rw[L_];exact Nat.le_refl _)] at h
 exact h
end Ma
namespace Hv
open PySem L2
theorem lK_{ds:List Nat}{i:Nat}{x:V}(h:(natV ds)[i]?=some x):∃y:Nat,ds[i]?=some y/\x=.int (y:Int):=by
 simp only[natV,List.getElem?_map] at h
 cases e:ds[i]? with
 | none=>rw[e] at h;cases h
 | some d=>rw[e] at h;exact⟨d,rfl,(Option.some.inj h).symm⟩
def aO_:Sp:=fun vs H Q _=>∃(b:Nat) (r:Addr) (ds:List Nat),vs=[.int b,.ref r]/\b<=16/\H r=some (.lst (natV ds))/\Q (.int ((Ma.num b ds:Nat):Int)) H
section
variable{P:Program}{w:World}{K:PySem.W.Frag}{mg:Str->Option Value}{base:Heap}
theorem ev_:FnScope ["base","figures","number","figure"] ["base","figures"] (i_ dH_):=⟨rfl,rfl,rfl,by decide +kernel,rfl,by decide +kernel,by decide +kernel⟩
theorem hL_{f:Addr}{fd:FuncData}(F:Fun K "number_of" "number_of" dH_ f fd):FnOk P w K mg base CX0 1 f fd ["base","figures"] aO_:=by
 refine F.ok ev_ (fun vs H Q E h=>?_) (fun cdv A outer s H vs Q E hr h=>?_)
 ·obtain⟨b,r,ds,rfl,_⟩:=h;rfl
 ·obtain⟨b,r,ds,rfl,hb,hd,k⟩:=h
  have nd:=ev_.nd
  refine⟨_,b_ (k_ (i:=2) nd rfl (Or.inl rfl) e_)
   (b_ (B_ PassesOwn.never rfl (M_ (pv 1)) (n_ (i:=3) nd rfl (Or.inl rfl)) (g_ (k_ (i:=2) nd rfl (Or.inl rfl) (l_ r_ (l_ F_ (pv 2) (pv 0)) (pv 3)))))
   (g_ (o_ (pv 2)))),?_⟩
  refine⟨_,rfl,r,rfl,⟨_,SqL.of hd⟩,al_ (K:=K) (a:=r) (xs:=natV ds) (fun i σ H'=>H=H'/\∃v3,σ=[some (.int b),some (.ref r),some (.int ((Ma.num b (ds.take i):Nat):Int)),v3])
   ⟨rfl,none,rfl⟩ (fun i σ H' _ h=>by rw[<-h.1];exact SqL.of hd) ?_ ?_⟩
  ·rintro i x σ H' hx ⟨rfl,v3,rfl⟩
   obtain⟨y,hy,rfl⟩:=lK_ hx
   refine⟨_,rfl,_,rfl,_,_,rfl,rfl,.inr ⟨by omega,by omega⟩,_,rfl,_,_,rfl,rfl,rfl,some (.int (y:Int)),?_⟩
   rw[Ma.jb_ hy]
   push_cast
   rfl
  ·rintro σ H' ⟨rfl,v3,rfl⟩
   refine⟨_,rfl,?_⟩
   have e:(natV ds).length=ds.length:=by simp[natV]
   rw[e,List.take_length]
   exact k
end
end Hv
namespace Me
theorem dg_{f:List (Int×Int)}{k v x:Int}:x∈keys (put f k v)↔x∈keys f\/x=k:=by
 unfold put
 split
 ·rename_i h
  rw[dV_]
  refine⟨fun z=>.inl z,fun z=>?_⟩
  rcases z with z | z
  ·exact z
  ·obtain⟨p,hp,e⟩:=List.any_eq_true.mp h
   rw[z]
   exact List.mem_map.mpr ⟨p,hp,by simpa using e⟩
 ·rw[keys,List.map_append]
  simp[keys]
theorem gD_{p:Int×Int}{w x:Int}{acc:List (Int×Int)}:∀n:Nat,x∈keys (figs p w n acc)↔x∈keys acc\/∃d:Nat,d<n/\x=p.1+(d:Int)*w
 | 0=>by
  refine⟨fun z=>.inl z,fun z=>?_⟩
  rcases z with z | ⟨d,hd,_⟩
  ·exact z
  ·omega
 | n+1=>by
  rw[X_,addTo,dg_,gD_ n]
  constructor
  ·rintro((h | ⟨d,hd,e⟩) | e)
   ·exact .inl h
   ·exact .inr ⟨d,by omega,e⟩
   ·exact .inr ⟨n,by omega,e⟩
  ·rintro(h | ⟨d,hd,e⟩)
   ·exact .inl (.inl h)
   ·by_cases z:d=n
    ·subst z;exact .inr e
    ·exact .inl (.inr ⟨d,by omega,e⟩)
theorem gB_{b:Nat}{w x:Int}:∀ {f acc:List (Int×Int)},x∈keys (f.foldl (fun acc p=>figs p w b acc) acc)↔x∈keys acc\/∃y∈keys f,∃d:Nat,d<b/\x=y+(d:Int)*w
 | [],acc=>by simp[keys]
 | p::f,acc=>by
  rw[List.foldl_cons,gB_,gD_]
  constructor
  ·rintro((h | ⟨d,hd,e⟩) | ⟨y,hy,d,hd,e⟩)
   ·exact .inl h
   ·exact .inr ⟨p.1,by simp[keys],d,hd,e⟩
   ·exact .inr ⟨y,List.mem_cons_of_mem _ hy,d,hd,e⟩
  ·rintro(h | ⟨y,hy,d,hd,e⟩)
   ·exact .inl (.inl h)
   ·rcases List.mem_cons.mp hy with z | z
    ·exact .inl (.inr ⟨d,hd,by rw[e,z]⟩)
    ·exact .inr ⟨y,z,d,hd,e⟩
theorem jn_{b:Nat}{w x:Int}{f:List (Int×Int)}:x∈keys (N_ f b w)↔∃y∈keys f,∃d:Nat,d<b/\x=y+(d:Int)*w:=by
 unfold N_
 rw[gB_]
 simp[keys]
def Sum1(b:Nat):List Int->Int->Prop
 | [],z=>z=0
 | w::ws,z=>∃d:Nat,d<b/\Sum1 b ws (z-(d:Int)*w)
theorem gC_{b:Nat}{x:Int}:∀(ws:List Int) (f:List (Int×Int)),x∈keys (ws.foldl (fun f w=>N_ f b w) f)↔∃y∈keys f,Sum1 b ws (x-y)
 | [],f=>by
  refine⟨fun z=>⟨x,z,by show x-x=0;omega⟩,fun⟨y,hy,e⟩=>?_⟩
  have e':x-y=0:=e
  have:x=y:=by omega
  rw[this];exact hy
 | w::ws,f=>by
  rw[List.foldl_cons,gC_ ws]
  constructor
  ·rintro⟨y,hy,h⟩
   obtain⟨u,hu,d,hd,e⟩:=jn_.mp hy
   refine⟨u,hu,d,hd,?_⟩
   have:x-u-(d:Int)*w=x-y:=by omega
   rw[this];exact h
  ·rintro⟨u,hu,d,hd,h⟩
   refine⟨u+(d:Int)*w,jn_.mpr ⟨u,hu,d,hd,rfl⟩,?_⟩
   have:x-(u+(d:Int)*w)=x-u-(d:Int)*w:=by omega
   rw[this];exact h
theorem aV_{b:Nat}{x:Int}{ws:List Int}:x∈keys (waysW b ws)↔Sum1 b ws x:=by
 unfold waysW
 rw[gC_]
 constructor
 ·rintro⟨y,hy,h⟩
  have:y=0:=by simpa [keys] using hy
  subst this
  have e : x-0 = x := by omega
  rw[e] at h;exact h
 ·intro h
  exact⟨0, by simp[keys], by have e : x-0 = x := by omega
                             rw[e];exact h⟩
theorem eQ_{b:Nat}:∀(l m:List Int) (z:Int),Sum1 b (l++m) z↔∃u,Sum1 b l u/\Sum1 b m (z-u)
 | [],m,z=>by
  refine⟨fun h => ⟨0, rfl, by have e : z-0 = z := by omega
                              rw[e];exact h⟩,fun⟨u,hu,h⟩=>?_⟩
  have hu':u=0:=hu
  subst hu'
  have e : z-0 = z := by omega
  rw[e] at h;exact h
 | w::l,m,z=>by
  constructor
  ·rintro⟨d,hd,h⟩
   obtain⟨u,hu,h2⟩:=(eQ_ l m _).mp h
   refine⟨u+(d:Int)*w,⟨d,hd,?_⟩,?_⟩
   ·have e:u+(d:Int)*w-(d:Int)*w=u:=by omega
    rw[e];exact hu
   ·have e:z-(u+(d:Int)*w)=z-(d:Int)*w-u:=by omega
    rw[e];exact h2
  ·rintro⟨u,⟨d,hd,hu⟩,h2⟩
   refine⟨d,hd,(eQ_ l m _).mpr ⟨u-(d:Int)*w,hu,?_⟩⟩
   have e:z-(d:Int)*w-(u-(d:Int)*w)=z-u:=by omega
   rw[e];exact h2
theorem eP_{b:Nat}:∀(l:List Int) (z:Int),Sum1 b l.reverse z↔Sum1 b l z
 | [],z=>Iff.rfl
 | w::l,z=>by
  rw[List.reverse_cons,eQ_]
  constructor
  ·rintro⟨u,hu,d,hd,h⟩
   have h':z-u-(d:Int)*w=0:=h
   refine⟨d,hd,?_⟩
   have e:z-(d:Int)*w=u:=by omega
   rw[e];exact(eP_ l u).mp hu
  ·rintro⟨d,hd,h⟩
   refine⟨z-(d:Int)*w,(eP_ l _).mpr h,d,hd,?_⟩
   show z-(z-(d:Int)*w)-(d:Int)*w=0
   omega
def fits(b:Nat)(g:List (Int×Int))(w t:Int)(n:Nat):List Nat:=(List.range n).filter fun d=>(look g (t-(d:Int)*w)).isSome
theorem by_{f:List (Int×Int)}{t:Int}:(look f t).isSome=true↔t∈keys f:=by
 by_cases h:t∈keys f
 ·refine⟨fun _=>h,fun _=>?_⟩
  cases e:f.find? fun q=>decide (q.1=t) with
  | none =>
   exfalso
   obtain⟨p,hp,e1⟩:=List.mem_map.mp h
   have:=List.find?_eq_none.mp e p hp
   simp[e1] at this
  | some q=>rw[look,e];rfl
 ·rw[aE_ h]
  exact⟨fun z=>(by cases z),fun z=>absurd z h⟩
theorem mi_{b n:Nat}{f g:List (Int×Int)}{w t:Int}(h:∀x,x∈keys f↔x∈keys g):fits b f w t n=fits b g w t n:=by
 unfold fits
 congr 1
 funext d
 rw[Bool.eq_iff_iff,by_,by_]
 exact h _
theorem gI_(b:Nat)(g:List (Int×Int))(w t:Int)(n:Nat):fits b g w t (n+1)=if (look g (t-(n:Int)*w)).isSome=true then fits b g w t n++[n] else fits b g w t n:=by
 unfold fits
 rw[List.range_succ,List.filter_append]
 by_cases h:(look g (t-(n:Int)*w)).isSome=true
 ·rw[if_pos h]
  congr 1
  simp[List.filter,h]
 ·rw[if_neg h]
  have h':(look g (t-(n:Int)*w)).isSome=false:=by simpa using h
  simp[List.filter,h']
theorem nf_{b:Nat}(l:List Int)(x:Int):x∈keys (waysW b l.reverse)↔x∈keys (waysW b l):=by
 rw[aV_,aV_,eP_]
def rowL(b:Nat):List Int->Int->List Nat
 | [],_=>[]
 | w::ws,t=>((fits b (waysW b ws) w t b).headD 0)::rowL b ws (t-(((fits b (waysW b ws) w t b).headD 0:Nat):Int)*w)
theorem iL_{b:Nat}{w t:Int}{ws:List Int}(h:t∈keys (waysW b (w::ws))):∃d r,fits b (waysW b ws) w t b=d::r/\d<b/\t-(d:Int)*w∈keys (waysW b ws)/\rowL b (w::ws) t=d::rowL b ws (t-(d:Int)*w):=by
 obtain⟨d,hd,h1⟩:=aV_.mp h
 have hm:d∈fits b (waysW b ws) w t b:=List.mem_filter.mpr ⟨List.mem_range.mpr hd,by_.mpr (aV_.mpr h1)⟩
 cases e:fits b (waysW b ws) w t b with
 | nil=>rw[e] at hm;simp at hm
 | cons d' r =>
  have hm':d'∈fits b (waysW b ws) w t b:=by rw[e];simp
  obtain⟨a1,a2⟩:=List.mem_filter.mp hm'
  refine⟨d',r,rfl,List.mem_range.mp a1,by_.mp a2,?_⟩
  rw[rowL,e]
  rfl
end Me
namespace Hv
open PySem L2
abbrev PD(H:Hp)(kvs:List (Key×V))(f:List (Int×Int)):Prop:=Paired (fun kv p=>kv.1=Sum.inl p.1/\∃t j,kv.2=V.ref t/\H t=some (.tup [.int p.2,.int j])) kvs f
theorem PD.tups{H H':Hp}{kvs:List (Key×V)}{f:List (Int×Int)}(h:PD H kvs f)(k:∀t xs,H t=some (.tup xs)->H' t=some (.tup xs)):PD H' kvs f:=L2.Paired.mapP h fun _ _ ⟨e,t,j,e2,e3⟩=>⟨e,t,j,e2,k _ _ e3⟩
theorem PD.keep{H H':Hp}{kvs:List (Key×V)}{f:List (Int×Int)}(h:PD H kvs f)(s:Same H H'):PD H' kvs f:=PD.tups h fun _ _ e=>s _ _ e
theorem PD.kp{H H':Hp}{d:Addr}{o:HO}{kvs:List (Key×V)}{f:List (Int×Int)}(h:PD H kvs f)(k:Kp [d] H H')(hd:H d=some o)(ho:∀xs,o≠.tup xs):PD H' kvs f:=PD.tups h fun t xs e=>k _ _ e fun z=>by
 have z':t=d:=by simpa using z
 rw[z',hd] at e
 exact ho _ (Option.some.inj e)
theorem PD.len{H:Hp}:∀ {kvs:List (Key×V)} {f:List (Int×Int)},PD H kvs f->kvs.length=f.length
 | _,_,.nil=>rfl
 | _,_,.cons _ t=>congrArg (·+1) (PD.len t)
theorem PD.val{H:Hp}(k:Int):∀ {kvs:List (Key×V)} {f:List (Int×Int)},PD H kvs f->(valV kvs (Sum.inl k)=none/\Me.look f k=none)\/∃n t j,Me.look f k=some n/\valV kvs (Sum.inl k)=some (.ref t)/\H t=some (.tup [.int n,.int j])
 | _,_,.nil=>.inl ⟨rfl,rfl⟩
 | kv::kvs,p::f,.cons ⟨e,t,j,e2,e3⟩ r=>by
  by_cases h:p.1=k
  ·refine .inr ⟨p.2,t,j,?_,?_,e3⟩
   ·simp[Me.look,List.find?_cons,h]
   ·rw[bD_ (by rw[e,h]),e2]
  ·have h1:valV (kv::kvs) (Sum.inl k)=valV kvs (Sum.inl k):=bE_ (by rw[e];exact fun z=>h (Sum.inl.inj z))
   have h2:Me.look (p::f) k=Me.look f k:=by simp[Me.look,List.find?_cons,h]
   rw[h1,h2]
   exact PD.val k r
theorem PD.any{H:Hp}(k:Int):∀ {kvs:List (Key×V)} {f:List (Int×Int)},PD H kvs f->(kvs.any fun kv=>decide (kv.1=Sum.inl k))=f.any fun p=>decide (p.1=k)
 | _,_,.nil=>rfl
 | kv::kvs,p::f,.cons ⟨e,_⟩ r=>by
  rw[List.any_cons,List.any_cons,PD.any k r]
  congr 1
  rw[e]
  by_cases h:p.1=k
  ·simp[h]
  ·have h':¬ (Sum.inl p.1:Key)=Sum.inl k:=fun z=>h (Sum.inl.inj z)
   simp[h,h']
theorem PD.repl{H:Hp}{k n:Int}{t:Addr}{j:Int}(ht:H t=some (.tup [.int n,.int j])):∀ {kvs:List (Key×V)} {f:List (Int×Int)},PD H kvs f->PD H (kvs.map fun kv=>if kv.1=Sum.inl k then (kv.1,V.ref t) else kv) (f.map fun p=>if p.1=k then (p.1,n) else p)
 | _,_,.nil=>.nil
 | kv::kvs,p::f,.cons ⟨e,u,i,e2,e3⟩ r=>by
  rw[List.map_cons,List.map_cons]
  refine .cons ?_ (PD.repl ht r)
  by_cases h:p.1=k
  ·rw[if_pos h,if_pos (by rw[e,h])]
   exact⟨e,t,j,rfl,ht⟩
  ·rw[if_neg h,if_neg (by rw[e];exact fun z=>h (Sum.inl.inj z))]
   exact⟨e,u,i,e2,e3⟩
theorem PD.put{H:Hp}{k n:Int}{t:Addr}{j:Int}{kvs:List (Key×V)}{f:List (Int×Int)}(h:PD H kvs f)(ht:H t=some (.tup [.int n,.int j])):PD H (putK kvs (Sum.inl k) (.ref t)) (Me.put f k n):=by
 unfold putK Me.put
 rw[PD.any k h]
 split
 ·exact PD.repl ht h
 ·exact Paired.snoc h ⟨rfl,t,j,rfl,ht⟩
def dA_:Sp:=fun vs H Q _=>∃(d:Addr) (kvs:List (Key×V)) (f:List (Int×Int)) (t n v:Int),vs=[.ref d,.int t,.int n,.int v]/\H d=some (.dK kvs)/\PD H kvs f/\f.length<=100000/\
 ∀(kvs':List (Key×V)) (H':Hp),H' d=some (.dK kvs')->PD H' kvs' (Me.addTo f t n)->Kp [d] H H'->Q .non H'
def ho_:Sp:=fun vs H Q _=>∃(a:Addr) (kvs:List (Key×V)) (f:List (Int×Int)) (b:Nat) (w st:Int) (m:Nat),vs=[.ref a,.int b,.int w,.int st]/\H a=some (.dK kvs)/\PD H kvs f/\Me.Ok f m/\m<=1000/\b<=16/\(-9<=w/\w<=9)/\(0<=st/\st<=268435456)/\
 ∀(p:Addr) (kvs':List (Key×V)) (H':Hp),H p=none->Same H H'->H' p=some (.dK kvs')->PD H' kvs' (Me.N_ f b w)->Q (.ref p) H'
section
variable{P:Program}{w:World}{K:PySem.W.Frag}{mg:Str->Option Value}{base:Heap}
theorem cw_:FnScope ["by_sums","total","ways","worth","before"] ["by_sums","total","ways","worth"] (i_ dn_):=⟨rfl,rfl,rfl,by decide +kernel,rfl,by decide +kernel,by decide +kernel⟩
theorem jV_{f:Addr}{fd:FuncData}(F:Fun K "add_rows" "add_rows" dn_ f fd):FnOk P w K mg base CX0 1 f fd ["by_sums","total","ways","worth"] dA_:=by
 refine F.ok cw_ (fun vs H Q E h=>?_) (fun cdv A outer s H vs Q E hr h=>?_)
 ·obtain⟨d,kvs,f,t,n,v,rfl,_⟩:=h;rfl
 ·obtain⟨d,kvs,f,t,n,v,rfl,hd,pd,hl,k⟩:=h
  have nd:=cw_.nd
  have hu:=cD_ hr
  refine⟨_,b_ (k_ (i:=4) nd rfl (Or.inl rfl) (bR_ hu (pv 0) (pv 1) (aS_ (a_ e_ (a_ e_ d_))) ⟨rfl,rfl,rfl,rfl⟩))
   (g_ (cX_ hu (pv 0) (pv 1) (aS_ (a_ (l_ r_ (ixt (pv 4) e_) (pv 2)) (a_ (l_ r_ (ixt (pv 4) e_) (pv 3)) d_))) rfl)),?_⟩
  refine⟨_,rfl,d,rfl,.inl ⟨_,.inl hd⟩,_,rfl,sz (by simp),fun p hp=>?_⟩
  have s1:=h_ (o:=.tup [.int 0,.int 0]) hp
  have u1:(upd H p (.tup [.int 0,.int 0])) p=some (.tup [.int 0,.int 0]):=c_
  generalize upd H p (.tup [.int 0,.int 0])=H1 at s1 u1⊢
  have hd1:=s1 _ _ hd
  have pd1:=pd.keep s1
  have key:∃x j,(valV kvs (Sum.inl t)).getD (.ref p)=.ref x/\H1 x=some (.tup [.int ((Me.look f t).getD 0),.int j]):=by
   rcases PD.val t pd1 with⟨e1,e2⟩ | ⟨m,x,j,e1,e2,e3⟩
   ·rw[e1,e2];exact⟨p,0,rfl,u1⟩
   ·rw[e1,e2];exact⟨x,j,rfl,e3⟩
  obtain⟨x,j,ex,hx⟩:=key
  refine⟨valV kvs (Sum.inl t),.inl ⟨kvs,Sum.inl t,.inl hd1,rfl,rfl⟩,?_⟩
  rw[ex]
  refine⟨_,rfl,x,_,0,_,rfl,rfl,SqT.of hx,rfl,_,rfl,_,_,rfl,rfl,?_⟩
  refine⟨_,rfl,x,_,1,_,rfl,rfl,SqT.of hx,rfl,_,rfl,_,_,rfl,rfl,sz (by simp),fun q hq=>?_⟩
  have s2:=h_ (o:=.tup [.int ((Me.look f t).getD 0+n),.int (j+v)]) hq
  have u2:(upd H1 q (.tup [.int ((Me.look f t).getD 0+n),.int (j+v)])) q=some (.tup [.int ((Me.look f t).getD 0+n),.int (j+v)]):=c_
  have hd2:=s2 _ _ hd1
  have pd2:=PD.keep pd1 s2
  have kp2:Kp [d] H (upd H1 q (.tup [.int ((Me.look f t).getD 0+n),.int (j+v)])):=Kp.of (s1.trans s2)
  have e2:(upd H1 q (.tup [(fun i j=>V.int (i+j)) ((Me.look f t).getD 0) n,(fun i j=>V.int (i+j)) j v]))=upd H1 q (.tup [.int ((Me.look f t).getD 0+n),.int (j+v)]):=rfl
  rw[e2]
  generalize upd H1 q (.tup [.int ((Me.look f t).getD 0+n),.int (j+v)])=H2 at s2 u2 hd2 pd2 kp2⊢
  refine⟨_,rfl,_,rfl,d,_,rfl,DPut.k (k:=Sum.inl t) hd2 (szl (by rw[PD.len pd];omega)),?_⟩
  have kp3:=O_ (o:=.dK (putK kvs (Sum.inl t) (.ref q))) kp2 (.inl (show d∈[d] by simp))
  exact k _ _ c_ (PD.kp (PD.put pd2 u2) (O_ Kp.refl (.inl (by simp))) hd2 (fun xs z=>nomatch z)) kp3
theorem fh_:FnScope ["tail","base","weight","stand","longer","total","ways","worth","figure"] ["tail","base","weight","stand"] (i_ iJ_):=⟨rfl,rfl,rfl,by decide +kernel,rfl,by decide +kernel,by decide +kernel⟩
theorem nu_{f:Addr}{fd:FuncData}(F:Fun K "with_figure_ahead" "with_figure_ahead" iJ_ f fd)(T:Txt mg)(DA:Def P w K mg base 1 "add_rows" ["by_sums","total","ways","worth"] dA_):FnOk P w K mg base CX0 2 f fd ["tail","base","weight","stand"] ho_:=by
 refine F.ok fh_ (fun vs H Q E h=>?_) (fun cdv A outer s H vs Q E hr h=>?_)
 ·obtain⟨a,kvs,f,b,wt,st,m,rfl,_⟩:=h;rfl
 ·obtain⟨a,kvs,f,b,wt,st,m,rfl,ha,pd,ok,hm,hb,hw,hst,k⟩:=h
  have nd:=fh_.nd
  have hu:=cD_ hr
  refine⟨_,b_ (k_ (i:=4) nd rfl (Or.inl rfl) be_)
   (b_ (B_ PassesOwn.never rfl (cj_ (pv 0)) (n_ (i:=5) nd rfl (Or.inl rfl))
    (b_ (k_ (i:=6) nd rfl (Or.inl rfl) (ixt (ar_ hu (pv 0) (pv 5) (fun _ _=>rfl)) e_))
    (b_ (k_ (i:=7) nd rfl (Or.inl rfl) (ixt (ar_ hu (pv 0) (pv 5) (fun _ _=>rfl)) e_))
    (g_ (B_ PassesOwn.never rfl (C_ (by rfl) T.range (a_ (pv 1) d_)) (n_ (i:=8) nd rfl (Or.inl rfl))
     (g_ (y_ (m_ DA hr (by rfl) (a_ (pv 4) (a_ (l_ r_ (pv 5) (l_ F_ (pv 8) (pv 2))) (a_ (pv 6) (a_ (l_ r_ (pv 7) (l_ F_ (l_ F_ (pv 8) (pv 3)) (pv 6))) d_))))))))))))
   (bd_ (g_ (o_ (pv 4))))),?_⟩
  intro l hl
  have nal:a≠l:=f_ ha hl
  refine⟨_,rfl,a,kvs,rfl,(by rw[j_ nal];exact ha),fun o=>bh_ (fun i σ H2=>∃v5 v6 v7 v8,σ=[some (.ref a),some (.int b),some (.int wt),some (.int st),some (.ref l),v5,v6,v7,v8]/\H2 a=some (.frz o (.dK kvs))/\Kp [a] H H2/\∃kl,H2 l=some (.dK kl)/\PD H2 kl (Me.N_ (f.take i) b wt))
   ⟨none,none,none,none,rfl,c_,O_ (O_ Kp.refl (.inr hl)) (.inl (by simp)),[],?_,.nil⟩ (fun i σ H2 _ h=>by obtain⟨_,_,_,_,_,z,_⟩:=h;exact z) ?_ ?_⟩
  ·rw[j_ nal.symm,c_]
  ·rintro i kk v σ H2 hk ⟨v5,v6,v7,v8,rfl,fa,kp,kl,hl2,pl⟩
   obtain⟨p,hp,hkk,_⟩:=Paired.at pd hk
   have hkk':kk=Sum.inl p.1:=hkk
   subst hkk'
   have pm:=List.mem_of_getElem? hp
   have pb:=ok.bd p.1 (List.mem_map.mpr ⟨p,pm,rfl⟩)
   have o0:=Me.aT_ ok hw hb i
   have pd2:PD H2 kvs f:=PD.kp pd kp ha (fun xs z=>nomatch z)
   obtain⟨t,j,et,ht⟩:∃t j,valV kvs (Sum.inl p.1)=some (.ref t)/\H2 t=some (.tup [.int p.2,.int j]):=by
    rcases PD.val p.1 pd2 with⟨e1,e2⟩ | ⟨m,x,j,e1,e2,e3⟩
    ·rw[Me.Y_ ok.nd pm] at e2;cases e2
    ·rw[Me.Y_ ok.nd pm] at e1
     cases e1
     exact⟨x,j,e2,e3⟩
   have dg:DGet H2 a (.int p.1) (some (.ref t)):=.inl ⟨kvs,Sum.inl p.1,.inr ⟨o,fa⟩,rfl,et.symm⟩
   refine⟨_,rfl,_,rfl,a,.ref t,rfl,dg,t,_,0,_,rfl,rfl,SqT.of ht,rfl,?_⟩
   refine⟨_,rfl,_,rfl,a,.ref t,rfl,dg,t,_,1,_,rfl,rfl,SqT.of ht,rfl,?_⟩
   refine⟨_,rfl,_,rfl,by omega,by omega,K_ (n:=(b:Int).toNat) (fun d σ H3=>∃v8,σ=[some (.ref a),some (.int b),some (.int wt),some (.int st),some (.ref l),some (.int p.1),some (.int p.2),some (.int j),v8]/\H3 a=some (.frz o (.dK kvs))/\Kp [a] H H3/\∃kl,H3 l=some (.dK kl)/\PD H3 kl (Me.figs p wt d (Me.N_ (f.take i) b wt)))
    ⟨v8,rfl,fa,kp,kl,hl2,pl⟩ ?_ ?_⟩
   ·rintro d σ H3 hd ⟨v8,rfl,fa3,kp3,kl3,hl3,pl3⟩
    have hd':d<b:=by omega
    have od:=Me.fK_ pb hw hb o0 d (by omega)
    have hlen:=Me.Ok.len (m:=m+135) (by push_cast;exact od)
    have hds:(d:Int)*st<=15*268435456:=Int.mul_le_mul (by omega) hst.2 hst.1 (by decide)
    have hds0:0<=(d:Int)*st:=Int.mul_nonneg (by omega) hst.1
    refine⟨_,rfl,_,rfl,_,rfl,_,rfl,_,_,rfl,rfl,.inr ⟨by omega,by omega⟩,_,_,rfl,rfl,?_⟩
    refine⟨_,rfl,_,rfl,_,rfl,_,rfl,_,_,rfl,rfl,.inr ⟨by omega,by omega⟩,_,rfl,_,_,rfl,rfl,.inl ⟨?_,?_⟩,_,_,rfl,rfl,?_⟩
    ·show -(2 ^ 64)<((0:Int)+(d:Int))*st
     rw[Int.zero_add];omega
    ·show((0:Int)+(d:Int))*st<2 ^ 64
     rw[Int.zero_add];omega
    refine⟨l,kl3,_,_,_,_,rfl,hl3,pl3,by omega,fun kvs' H4 h4 pd4 kp4=>⟨_,rfl,?_,?_,kvs',h4,?_⟩⟩
    ·exact kp4 _ _ fa3 (by simpa using nal)
    ·intro x ob e n
     have hxl:x≠l:=f_ e hl
     exact kp4 _ _ (kp3 _ _ e n) (by simpa using hxl)
    ·rw[Me.X_]
     have e0:(0:Int)+(d:Int)=(d:Int):=Int.zero_add _
     rw[e0] at pd4
     exact pd4
   ·rintro σ H3 ⟨v8,rfl,fa3,kp3,kl3,hl3,pl3⟩
    refine⟨_,_,_,_,rfl,fa3,kp3,kl3,hl3,?_⟩
    have eb:(b:Int).toNat=b:=by omega
    rw[eb] at pl3
    rw[Me.bx_ hp]
    exact pl3
  ·rintro σ H2 ⟨v5,v6,v7,v8,rfl,fa,kp,kl,hl2,pl⟩
   have el:kvs.length=f.length:=PD.len pd
   rw[el,List.take_length] at pl
   refine⟨a,o,kvs,fa,(fun o' u z=>by
    have z':H a=some (.frz o' u):=z
    rw[ha] at z';cases z'),_,rfl,k l kl _ hl (fun x ob e=>?_) (by rw[j_ nal.symm];exact hl2) (PD.tups pl fun t xs e=>?_)⟩
   ·by_cases hx:x=a
    ·rw[hx,c_,<-ha,<-hx];exact e
    ·rw[j_ hx];exact kp x ob e (by simpa using hx)
   ·have hx:t≠a:=fun z=>by rw[z,fa] at e;cases e
    rw[j_ hx];exact e
end
theorem kK_(ks:List (Option Expr))(vs:List Expr)(pos:Pos)(rest:List Expr)(env:Env):starEach (.Dict ks vs pos::rest) env=(false,eval (.Dict ks vs pos) env)::starEach rest env:=rfl
theorem qT_{X:Cx}{k v:Expr}{p5:Pos}{tk tv:TE}(h1:PE X k tk)(h2:PE X v tv):PE X (.Dict [some k] [v] p5) (tDisp [(tk,tv)]) :=
 lp_ (iU_ h1 h2 lj_) rfl rfl (List.cons_ne_nil _ _) (Nat.succ_le_succ (Nat.zero_le _))
theorem pe_T{X:Cx}{j2 j3 x1}{p2 p3 p4:Pos}:PE X (.Tuple [.Constant (.int 1) j2 p2,.Constant (.int 0) j3 p3] x1 p4) (tTup (tCons (tC (.int 1)) (tCons (tC (.int 0)) tNil))):=aS_ (a_ e_ (a_ e_ d_))
theorem pe_K{X:Cx}{j1}{p1:Pos}:PE X (.Constant (.int 0) j1 p1) (tC (.int 0)):=e_
abbrev kG_:TE:=tLst (tCons (tDisp [(tC (.int 0),tTup (tCons (tC (.int 1)) (tCons (tC (.int 0)) tNil)))]) tNil)
theorem qS_{X:Cx}{j1 j2 j3 x1}{p1 p2 p3 p4 p5:Pos}:PE X (.Dict [some (.Constant (.int 0) j1 p1)] [.Tuple [.Constant (.int 1) j2 p2,.Constant (.int 0) j3 p3] x1 p4] p5) (tDisp [(tC (.int 0),tTup (tCons (tC (.int 1)) (tCons (tC (.int 0)) tNil)))]) :=
 @qT_ X (.Constant (.int 0) j1 p1) (.Tuple [.Constant (.int 1) j2 p2,.Constant (.int 0) j3 p3] x1 p4) p5 (tC (.int 0)) (tTup (tCons (tC (.int 1)) (tCons (tC (.int 0)) tNil))) pe_K pe_T
theorem pe_B{X:Cx}{ks:List (Option Expr)}{vs:List Expr}{p5 p6:Pos}{t:TE}(h:PE X (.Dict ks vs p5) t):PE X (.List [.Dict ks vs p5] p6) (tLst (tCons t tNil)) :=
 P_ (a_ h d_ (kK_ _ _ _ _ _))
theorem nl_{X:Cx}{j1 j2 j3 x1}{p1 p2 p3 p4 p5 p6:Pos}:PE X (.List [.Dict [some (.Constant (.int 0) j1 p1)] [.Tuple [.Constant (.int 1) j2 p2,.Constant (.int 0) j3 p3] x1 p4] p5] p6) kG_ :=
 @pe_B X [some (.Constant (.int 0) j1 p1)] [.Tuple [.Constant (.int 1) j2 p2,.Constant (.int 0) j3 p3] x1 p4] p5 p6 (tDisp [(tC (.int 0),tTup (tCons (tC (.int 1)) (tCons (tC (.int 0)) tNil)))]) qS_
@[irreducible] def e0:Expr:=match (ai_ dd_).getD 1 (.Pass ⟨0,0,0,0⟩) with
 | .Assign _ e _=>e
 | _=>.Constant .none 0 ⟨0,0,0,0⟩
theorem qI_:∃j1 j2 j3 x1 p1 p2 p3 p4 p5 p6,e0=.List [.Dict [some (.Constant (.int 0) j1 p1)] [.Tuple [.Constant (.int 1) j2 p2,.Constant (.int 0) j3 p3] x1 p4] p5] p6:=by
 unfold e0
 exact⟨_,_,_,_,_,_,_,_,_,_,rfl⟩
theorem pX_{X:Cx}:PE X e0 kG_:=by
 obtain⟨j1,j2,j3,x1,p1,p2,p3,p4,p5,p6,h⟩:=qI_
 exact @Eq.mpr _ _ (congrArg (fun e=>PE X e kG_) h) (@nl_ X j1 j2 j3 x1 p1 p2 p3 p4 p5 p6)
theorem pI_(x:Str)(pos':Pos)(l:Nat)(env:Env):swapsWith e0 (some (.Name x pos')) l env=pure false:=by
 obtain⟨j1,j2,j3,x1,p1,p2,p3,p4,p5,p6,h⟩:=qI_
 rw[h]
 rfl
def b0:List Stmt:=match (ai_ dd_).getD 1 (.Pass ⟨0,0,0,0⟩) with
 | .Assign ts _ p=>(ai_ dd_).set 1 (.Assign ts e0 p)
 | _=>[]
theorem qN_:ai_ dd_=b0:=by
 unfold b0 e0
 rfl
def powL(b n:Nat):List Int:=(List.range (n+1)).map fun i=>((b ^ i:Nat):Int)
theorem iV_(b n:Nat):(powL b n).length=n+1:=by simp[powL]
theorem lk_(b n:Nat):powL b (n+1)=powL b n++[((b ^ (n+1):Nat):Int)]:=by
 unfold powL
 rw[List.range_succ,List.map_append]
 rfl
theorem fs_{b n i:Nat}(h:i<=n):(powL b n)[i]?=some ((b ^ i:Nat):Int):=by
 unfold powL
 rw[List.getElem?_map,List.getElem?_range (by omega)]
 rfl
theorem gg_(b n:Nat):atI ((powL b n).map V.int) (-1)=some (.int ((b ^ n:Nat):Int)):=by
 have hl:((powL b n).map V.int).length=n+1:=by rw[List.length_map,iV_]
 have e:ixN ((powL b n).map V.int).length (-1)=some n:=by
  rw[hl]
  unfold ixN
  rw[if_neg (by decide),if_pos (by omega)]
  congr 1
  omega
 unfold atI
 rw[e]
 show((powL b n).map V.int)[n]?=_
 rw[List.getElem?_map,fs_ (Nat.le_refl _)]
 rfl
theorem gV_{us:List Addr}{i:Nat}{t:Addr}(hl:us.length=i+1)(h:us[i]?=some t):atI (us.map V.ref) (-1)=some (.ref t):=by
 have e:ixN (us.map V.ref).length (-1)=some i:=by
  rw[List.length_map,hl]
  unfold ixN
  rw[if_neg (by decide),if_pos (by omega)]
  congr 1
  omega
 unfold atI
 rw[e]
 show(us.map V.ref)[i]?=_
 rw[List.getElem?_map,h]
 rfl
def BegAt(H:Hp)(b:Nat)(us:List Addr)(rs:List Int)(i:Nat):Prop:=us.length=i+1/\∀j,j<=i->∃t kvs,us[j]?=some t/\H t=some (.dK kvs)/\PD H kvs (Me.waysW b (rs.take j))
theorem BegAt.keep{H H':Hp}{b i:Nat}{us:List Addr}{rs:List Int}(h:BegAt H b us rs i)(s:Same H H'):BegAt H' b us rs i :=
 ⟨h.1,fun j hj=>let ⟨t,kvs,e1,e2,e3⟩:=h.2 j hj;⟨t,kvs,e1,s _ _ e2,PD.keep e3 s⟩⟩
theorem BegAt.kp{H H':Hp}{b i:Nat}{us:List Addr}{rs:List Int}{d:Addr}{xs:List V}(h:BegAt H b us rs i)(k:Kp [d] H H')(hd:H d=some (.lst xs)):BegAt H' b us rs i :=
 ⟨h.1,fun j hj=>let ⟨t,kvs,e1,e2,e3⟩:=h.2 j hj;⟨t,kvs,e1,k _ _ e2 (fun z=>by
  have z':t=d:=by simpa using z
  rw[z',hd] at e2;cases e2),PD.kp e3 k hd (fun xs z=>nomatch z)⟩⟩
def cZ_(H:Hp)(b:Nat)(ts:List Addr)(ws:List Int):Prop:=∀i,i<=ws.length->∃t kvs,ts[i]?=some t/\H t=some (.dK kvs)/\PD H kvs (Me.waysW b (ws.drop i).reverse)
theorem cZ_.keep{H H':Hp}{b:Nat}{ts:List Addr}{ws:List Int}(h:cZ_ H b ts ws)(s:Same H H'):cZ_ H' b ts ws :=
 fun j hj=>let ⟨t,kvs,e1,e2,e3⟩:=h j hj;⟨t,kvs,e1,s _ _ e2,PD.keep e3 s⟩
def bI_:Sp:=fun vs H Q _=>∃(b n:Nat),vs=[.int b,.int n]/\b<=16/\n<=6/\∀(p:Addr) (H':Hp),H p=none->Same H H'->H' p=some (.lst ((powL b n).map V.int))->Q (.ref p) H'
def hk_:Sp:=fun vs H Q _=>∃(b:Nat) (c:Addr) (ws:List Int),vs=[.int b,.ref c]/\H c=some (.lst (ws.map V.int))/\b<=16/\(∀x∈ws,-9<=x/\x<=9)/\ws.length<=6/\
 ∀(p:Addr) (ts:List Addr) (H':Hp),H p=none->Same H H'->H' p=some (.lst (ts.map V.ref))->cZ_ H' b ts ws->Q (.ref p) H'
section
variable{P:Program}{w:World}{K:PySem.W.Frag}{mg:Str->Option Value}{base:Heap}
theorem iC_:FnScope ["base","length","stands","place"] ["base","length"] (i_ hy_):=⟨rfl,rfl,rfl,by decide +kernel,rfl,by decide +kernel,by decide +kernel⟩
theorem lw_{f:Addr}{fd:FuncData}(F:Fun K "stands_of" "stands_of" hy_ f fd)(T:Txt mg):FnOk P w K mg base CX0 1 f fd ["base","length"] bI_:=by
 refine F.ok iC_ (fun vs H Q E h=>?_) (fun cdv A outer s H vs Q E hr h=>?_)
 ·obtain⟨b,n,rfl,_⟩:=h;rfl
 ·obtain⟨b,n,rfl,hb,hn,k⟩:=h
  have nd:=iC_.nd
  refine⟨_,b_ (k_ (i:=2) nd rfl (Or.inl rfl) (P_ (a_ e_ d_)))
   (b_ (B_ PassesOwn.never rfl (C_ (by rfl) T.range (a_ (pv 1) d_)) (n_ (i:=3) nd rfl (Or.inl rfl))
    (g_ (y_ (bv_ PySem.F.plainAttrs_list PySem.F.slot_list_append PySem.F.type_list_append H_ (pv 2) (a_ (l_ F_ (ixl (pv 2) (hD_ du_ e_)) (pv 0)) d_)))))
   (g_ (o_ (pv 2)))),?_⟩
  refine⟨sz (by simp),fun l hl=>?_⟩
  refine⟨_,rfl,_,rfl,by omega,by omega,?_⟩
  have en:(n:Int).toNat=n:=by omega
  rw[en]
  refine K_ (n:=n) (fun i σ H2=>∃v3,σ=[some (.int b),some (.int n),some (.ref l),v3]/\Same H H2/\H2 l=some (.lst ((powL b i).map V.int))) ⟨none,rfl,h_ hl,by rw[c_];rfl⟩ ?_ ?_
  ·rintro i σ H2 hi ⟨v3,rfl,s2,hl2⟩
   refine⟨_,rfl,.inl ⟨rfl,_,SqL.of hl2⟩,_,rfl,_,rfl,br_ hl2 (gg_ b i) ⟨_,rfl,_,_,rfl,rfl,.inr ⟨by omega,by omega⟩,?_⟩⟩
   refine⟨l,_,_,rfl,rfl,hl2,szl (by rw[List.length_map,iV_];omega),_,rfl,t_ s2 hl,?_⟩
   rw[c_,lk_,List.map_append]
   congr 3
  ·rintro σ H2 ⟨v3,rfl,s2,hl2⟩
   exact⟨_,rfl,k l H2 hl s2 hl2⟩
theorem ff_:FnScope ["base","weights","stands","tails","weight"] ["base","weights"] (i_ dd_):=⟨rfl,rfl,rfl,by decide +kernel,rfl,by decide +kernel,by decide +kernel⟩
theorem np_{f:Addr}{fd:FuncData}(F:Fun K "worth_tails" "worth_tails" dd_ f fd)(T:Txt mg)(DS:Def P w K mg base 1 "stands_of" ["base","length"] bI_)(DA:Def P w K mg base 2 "with_figure_ahead" ["tail","base","weight","stand"] ho_):FnOk P w K mg base CX0 3 f fd ["base","weights"] hk_:=by
 refine F.ok ff_ (fun vs H Q E h=>?_) (fun cdv A outer s H vs Q E hr h=>?_)
 ·obtain⟨b,c,ws,rfl,_⟩:=h;rfl
 ·obtain⟨b,c,ws,rfl,hc,hb,hw,hl6,k⟩:=h
  have nd:=ff_.nd
  rw[qN_]
  refine⟨_,b_ (k_ (i:=2) nd rfl (Or.inl rfl) (m_ DS hr.mo (by rfl) (a_ (pv 0) (a_ (lenS T.len (by rfl) (pv 1)) d_))))
   (b_ (k_ (i:=3) nd rfl (Or.inl rfl) pX_ (pI_ _ _ _ _))
   (b_ (B_ PassesOwn.never rfl (oc_ (by rfl) T.rev (pv 1)) (n_ (i:=4) nd rfl (Or.inl rfl))
    (g_ (y_ (bv_ PySem.F.plainAttrs_list PySem.F.slot_list_append PySem.F.type_list_append H_ (pv 3) (a_ (m_ DA hr (by rfl) (a_ (ixl (pv 3) (hD_ du_ e_)) (a_ (pv 0) (a_ (pv 4) (a_ (ixl (pv 2) (l_ Q_ (lenS T.len (by rfl) (pv 3)) e_)) d_))))) d_)))))
   (g_ (o_ (hE_ rfl T.list T.rev (by rfl) (by rfl) (pv 3)))))),?_⟩
  refine⟨_,rfl,_,rfl,c,_,rfl,.inl (SqL.of hc),b,ws.length,by simp,hb,hl6,fun p H1 hp s1 hp1=>?_⟩
  refine fun d0 hd0=>?_
  refine⟨sz (by simp),fun t0 ht0=>?_⟩
  have nt:d0≠t0:=f_ c_ ht0
  have u0:(upd (upd H1 d0 (.dK [])) t0 (.tup [.int 1,.int 0])) d0=some (.dK []):=by rw[j_ nt];exact c_
  have v0:(upd (upd H1 d0 (.dK [])) t0 (.tup [.int 1,.int 0])) t0=some (.tup [.int 1,.int 0]):=c_
  have s2:Same H1 (upd (upd H1 d0 (.dK [])) t0 (.tup [.int 1,.int 0])):=(h_ hd0).trans (h_ ht0)
  generalize upd (upd H1 d0 (.dK [])) t0 (.tup [.int 1,.int 0])=H2 at u0 v0 s2⊢
  refine⟨u0,[(Sum.inl 0,.ref t0)],rfl,Nat.succ_le_succ (Nat.zero_le _),?_⟩
  have s3:Same H1 (upd H2 d0 (.dK (W_ [] [(Sum.inl 0,.ref t0)]))):=t_ s2 hd0
  have u3:(upd H2 d0 (.dK (W_ [] [(Sum.inl 0,.ref t0)]))) d0=some (.dK [(Sum.inl 0,.ref t0)]):=c_
  have v3:(upd H2 d0 (.dK (W_ [] [(Sum.inl 0,.ref t0)]))) t0=some (.tup [.int 1,.int 0]):=by rw[j_ nt.symm];exact v0
  generalize upd H2 d0 (.dK (W_ [] [(Sum.inl 0,.ref t0)]))=H3 at s3 u3 v3⊢
  refine⟨sz (by simp),fun l hl=>?_⟩
  have s4:Same H3 (upd H3 l (.lst [.ref d0])):=h_ hl
  have S4:=s1.trans (s3.trans s4)
  have hlH:H l=none:=s1.free (s3.free hl)
  have u4:(upd H3 l (.lst [.ref d0])) l=some (.lst ([d0].map V.ref)):=c_
  have B4:BegAt (upd H3 l (.lst [.ref d0])) b [d0] ws.reverse 0:=⟨rfl,fun j hj=>by
   have:j=0:=by omega
   subst this
   exact⟨d0,_,rfl,s4 _ _ u3,.cons ⟨rfl,t0,0,rfl,s4 _ _ v3⟩ .nil⟩⟩
  have p4:=(s3.trans s4) _ _ hp1
  have npl:p≠l:=f_ (s3 _ _ hp1) hl
  have c4:=S4 _ _ hc
  generalize upd H3 l (.lst [.ref d0])=H4 at s4 S4 u4 B4 p4 c4⊢
  refine⟨_,rfl,c,ws.map V.int,rfl,SqL.of c4,mg_ (K:=K) (a:=c) (xs:=ws.map V.int) (fun i σ H5=>∃(us:List Addr) (v4:Option V),σ=[some (.int b),some (.ref c),some (.ref p),some (.ref l),v4]/\Same H H5/\H5 p=some (.lst ((powL b ws.length).map V.int))/\H5 l=some (.lst (us.map V.ref))/\BegAt H5 b us ws.reverse i)
   ⟨[d0],none,rfl,S4,p4,u4,B4⟩ (fun i σ H5 _ h=>by obtain⟨_,_,_,t,_⟩:=h;exact SqL.of (t _ _ hc)) ?_ ?_⟩
  ·rintro i x σ H5 hx ⟨us,v4,rfl,s5,p5,l5,B5⟩
   rw[<-List.map_reverse,List.getElem?_map] at hx
   obtain⟨wt,hwt,rfl⟩:∃wt,ws.reverse[i]?=some wt/\x=.int wt:=by
    cases e:ws.reverse[i]? with
    | none=>rw[e] at hx;cases hx
    | some d=>rw[e] at hx;exact⟨d,rfl,(Option.some.inj hx).symm⟩
   have hi:i<ws.length:=by have:=(List.getElem?_eq_some_iff.mp hwt).1;simpa using this
   obtain⟨t,kvs,e1,e2,e3⟩:=B5.2 i (Nat.le_refl _)
   have eln:(((us.map V.ref).length:Nat):Int)-1=(i:Int):=by rw[List.length_map,B5.1];omega
   have est:atI ((powL b ws.length).map V.int) (i:Int)=some (.int ((b ^ i:Nat):Int)):=ab_ (by rw[List.getElem?_map,fs_ (by omega)];rfl)
   have hw':∀x∈ws.reverse,-9<=x/\x<=9:=fun x hx=>hw x (by simpa using hx)
   have wok:=Me.dt_ (b:=b) hw' hb i
   have hpw:b ^ i<=16 ^ 6:=Nat.le_trans (Nat.pow_le_pow_left hb i) (Nat.pow_le_pow_right (by decide) (by omega))
   have h16:(16:Nat) ^ 6=16777216:=by decide
   refine⟨_,rfl,.inl ⟨rfl,_,SqL.of l5⟩,_,rfl,_,rfl,br_ l5 (gV_ B5.1 e1) ⟨_,rfl,_,rfl,_,rfl,_,rfl,l,_,rfl,.inl (SqL.of l5),_,_,rfl,rfl,?_⟩⟩
   refine⟨p,_,(((us.map V.ref).length:Nat):Int)-1,_,rfl,rfl,SqL.of p5,by rw[eln];exact est,?_⟩
   refine⟨t,kvs,_,b,wt,_,135*i,rfl,e2,e3,by push_cast;exact wok,by omega,hb,hw' wt (List.mem_of_getElem? hwt),⟨by omega,by omega⟩,fun q kvs' H6 hq s6 h6 pd6=>?_⟩
   refine⟨l,_,_,rfl,rfl,s6 _ _ l5,szl (by rw[List.length_map,B5.1];omega),us++[q],_,rfl,t_ (s5.trans s6) hlH,?_,?_,?_⟩
   ·rw[j_ npl];exact s6 _ _ p5
   ·rw[c_,List.map_append];rfl
   ·have B6:=(B5.keep s6).kp (H':=upd H6 l (.lst (us.map V.ref++[V.ref q]))) (O_ Kp.refl (.inl (by simp))) (s6 _ _ l5)
    have nql:q≠l:=hV_ h6 (s6 _ _ l5) (by intro z;cases z)
    refine⟨by rw[List.length_append,B5.1];rfl,fun j hj=>?_⟩
    by_cases hji:j<=i
    ·obtain⟨t',kv',a1,a2,a3⟩:=B6.2 j hji
     exact⟨t',kv',by rw[List.getElem?_append_left (by rw[B5.1];omega)];exact a1,a2,a3⟩
    ·have ej:j=i+1:=by omega
     subst ej
     refine⟨q,kvs',by rw[List.getElem?_append_right (by rw[B5.1];omega),B5.1];simp,by rw[j_ nql];exact h6,?_⟩
     rw[Me.cJ_ hwt]
     exact PD.kp pd6 (O_ Kp.refl (.inl (by simp))) (s6 _ _ l5) (fun xs z=>nomatch z)
  ·rintro σ H5 ⟨us,v4,rfl,s5,p5,l5,B5⟩
   rw[List.length_map] at B5
   refine⟨_,rfl,l,_,rfl,SqL.of l5,fun r hr'=>?_⟩
   have s6:=h_ (o:=.lst (us.map V.ref).reverse) hr'
   have B6:=B5.keep s6
   refine k r us.reverse _ (s5.free hr') (s5.trans s6) (by rw[c_,List.map_reverse]) fun i hi=>?_
   obtain⟨t,kvs,e1,e2,e3⟩:=B6.2 (ws.length-i) (by omega)
   refine⟨t,kvs,?_,e2,?_⟩
   ·rw[List.getElem?_reverse (by rw[B5.1];omega),B5.1]
    have:ws.length+1-1-i=ws.length-i:=by omega
    rw[this];exact e1
   ·rw[List.reverse_drop]
    exact e3
end
end Hv
namespace Me
abbrev evK(b:Nat)(rows:List (List Int))(row:List Int):List Int:=keys (evenL b rows (keys (waysW b row)))
theorem iS_{b:Nat}{t:Int}{row:List Int}(h0:(look (waysW b row) t).getD 0=0):∀(rows:List (List Int)) (m:Int),row∈rows->rows.foldl (fun m row=>m*(look (waysW b row) t).getD 0) m=0
 | [],_,h=>by simp at h
 | r::rows,m,h=>by
  rw[List.foldl_cons]
  rcases List.mem_cons.mp h with rfl | h
  ·rw[h0,Int.mul_zero];exact dQ_ rows
  ·exact iS_ h0 rows _ h
theorem ml_{b:Nat}{rows:List (List Int)}{row r:List Int}{t:Int}(h:t∈evK b rows row)(hr:r∈rows):t∈keys (waysW b r):=by
 rw[evK,aW_,List.mem_filter] at h
 have hp:0<prodW b rows t:=of_decide_eq_true h.2
 by_cases z:t∈keys (waysW b r)
 ·exact z
 ·exfalso
  have:=iS_ (b:=b) (t:=t) (row:=r) (by rw[aE_ z];rfl) rows 1 hr
  unfold prodW at hp
  omega
end Me
namespace Hv
open PySem L2
def bJ_:Sp:=fun vs H Q _=>∃f a c b ps ws,vs=[.ref f]/\FrAt H f a c b ps ws/\∀(row:List Int) (H':Hp),Same H H'->(Ma.cuts ps ws)[0]?=some row->Q (.int (Ma.minL (Me.evK b (Ma.cuts ps ws) row))) H'
def ad_:Sp:=fun vs H Q _=>∃f a c b ps ws,vs=[.ref f]/\FrAt H f a c b ps ws/\∀(row:List Int) (H':Hp),Same H H'->(Ma.cuts ps ws)[0]?=some row->Q (.int (Ma.maxL (Me.evK b (Ma.cuts ps ws) row))) H'
def cN_:Sp:=fun vs H Q _=>∃(b:Nat) (c:Addr) (ws:List Int) (t:Int),vs=[.int b,.ref c,.int t]/\H c=some (.lst (ws.map V.int))/\b<=16/\(∀x∈ws,-9<=x/\x<=9)/\ws.length<=6/\t∈Me.keys (Me.waysW b ws)/\
 ∀(p:Addr) (H':Hp),H p=none->Same H H'->H' p=some (.lst (natV (Me.rowL b ws t)))->Q (.ref p) H'
theorem gG_(g:List (Int×Int)):(intsD g).map (·.1)=(Me.keys g).map Sum.inl:=by simp[intsD,Me.keys]
theorem qG_{H:Hp}{a:Addr}{kvs:List (Key×V)}{g:List (Int×Int)}{k:Int}(h:H a=some (.dK kvs))(pd:PD H kvs g):∃o,DGet H a (.int k) o/\o.isSome=(Me.look g k).isSome:=by
 refine⟨valV kvs (Sum.inl k),.inl ⟨kvs,Sum.inl k,.inl h,rfl,rfl⟩,?_⟩
 rcases PD.val k pd with⟨e1,e2⟩ | ⟨m,x,j,e1,e2,e3⟩
 ·rw[e1,e2];rfl
 ·rw[e1,e2];rfl
section
variable{P:Program}{w:World}{K:PySem.W.Frag}{mg:Str->Option Value}{base:Heap}
theorem jI_:FnScope ["frame"] ["frame"] (i_ dL_):=⟨rfl,rfl,rfl,by decide +kernel,rfl,by decide +kernel,by decide +kernel⟩
theorem hO_{f:Addr}{fd:FuncData}(F:Fun K "least_sum" "least_sum" dL_ f fd)(T:Txt mg)(DE:Def P w K mg base 6 "even_by_sums" ["frame"] bL_):FnOk P w K mg base CX0 7 f fd ["frame"] bJ_:=by
 refine F.ok jI_ (fun vs H Q E h=>?_) (fun cdv A outer s H vs Q E hr h=>?_)
 ·obtain⟨g,a,c,b,ps,ws,rfl,_⟩:=h;rfl
 ·obtain⟨g,a,c,b,ps,ws,rfl,G,k⟩:=h
  refine⟨_,g_ (o_ (q_ (gO_ rfl) (by rfl) T.min boot_min (a_ (m_ DE hr (by rfl) (a_ (pv 0) d_)) d_))),?_⟩
  refine⟨_,rfl,g,a,c,b,ps,ws,rfl,G,fun p g' H1 hp s1 hp1 ⟨row,hrow,perm⟩=>?_⟩
  have pk:(Me.keys g').Perm (Me.evK b (Ma.cuts ps ws) row):=perm.map _
  have hl:0<(Me.keys g').length:=by
   rw[pk.length_eq]
   exact List.length_pos_of_mem (Me.dY_ (b:=b) (rows:=Ma.cuts ps ws) (row:=row) (by have:=G.ok.b2;omega))
  refine⟨p,_,Me.keys g',rfl,.inl hp1,gG_ g',hl,?_⟩
  rw[Me.lN_ pk hl]
  exact k row H1 s1 hrow
theorem fg_:FnScope ["frame"] ["frame"] (i_ bq_):=⟨rfl,rfl,rfl,by decide +kernel,rfl,by decide +kernel,by decide +kernel⟩
theorem em_{f:Addr}{fd:FuncData}(F:Fun K "greatest_sum" "greatest_sum" bq_ f fd)(T:Txt mg)(DE:Def P w K mg base 6 "even_by_sums" ["frame"] bL_):FnOk P w K mg base CX0 7 f fd ["frame"] ad_:=by
 refine F.ok fg_ (fun vs H Q E h=>?_) (fun cdv A outer s H vs Q E hr h=>?_)
 ·obtain⟨g,a,c,b,ps,ws,rfl,_⟩:=h;rfl
 ·obtain⟨g,a,c,b,ps,ws,rfl,G,k⟩:=h
  refine⟨_,g_ (o_ (q_ (gP_ rfl) (by rfl) T.max boot_max (a_ (m_ DE hr (by rfl) (a_ (pv 0) d_)) d_))),?_⟩
  refine⟨_,rfl,g,a,c,b,ps,ws,rfl,G,fun p g' H1 hp s1 hp1 ⟨row,hrow,perm⟩=>?_⟩
  have pk:(Me.keys g').Perm (Me.evK b (Ma.cuts ps ws) row):=perm.map _
  have hl:0<(Me.keys g').length:=by
   rw[pk.length_eq]
   exact List.length_pos_of_mem (Me.dY_ (b:=b) (rows:=Ma.cuts ps ws) (row:=row) (by have:=G.ok.b2;omega))
  refine⟨p,_,Me.keys g',rfl,.inl hp1,gG_ g',hl,?_⟩
  rw[Me.lO_ pk hl]
  exact k row H1 s1 hrow
theorem eA_:FnScope ["base","weights","total","tails","row","rest","place","weight","tail","fitting"] ["base","weights","total"] (i_ cx_):=⟨rfl,rfl,rfl,by decide +kernel,rfl,by decide +kernel,by decide +kernel⟩
theorem hQ_{f:Addr}{fd:FuncData}(F:Fun K "first_row" "first_row" cx_ f fd)(T:Txt mg)(DT:Def P w K mg base 3 "worth_tails" ["base","weights"] hk_):FnOk P w K mg base CX0 4 f fd ["base","weights","total"] cN_:=by
 refine F.ok eA_ (fun vs H Q E h=>?_) (fun cdv A outer s H vs Q E hr h=>?_)
 ·obtain⟨b,c,ws,t,rfl,_⟩:=h;rfl
 ·obtain⟨b,c,ws,t,rfl,hc,hb,hw,hl6,ht,k⟩:=h
  have nd:=eA_.nd
  have hu:=cD_ hr
  refine⟨_,b_ (k_ (i:=3) nd rfl (Or.inl rfl) (m_ DT hr (by rfl) (a_ (pv 0) (a_ (pv 1) d_))))
   (b_ (k_ (i:=4) nd rfl (Or.inl rfl) (P_ d_))
   (b_ (k_ (i:=5) nd rfl (Or.inr rfl) (pv 2))
   (b_ (B_ PassesOwn.never rfl (lo_ (by rfl) T.enum (pv 1)) (df_ rfl (z_ (n_ (i:=6) nd rfl (Or.inl rfl)) (z_ (n_ (i:=7) nd rfl (Or.inr rfl)) aB_)))
    (b_ (k_ (i:=8) nd rfl (Or.inr rfl) (ixl (pv 3) (l_ r_ (pv 6) e_)))
    (b_ (dP_ (i_ cx_) ["base","weights","total","tails","row","rest","place","weight","tail","fitting"] ["rest","weight","tail"] [5,7,8] (i:=9) nd rfl (Or.inl rfl) rfl
     (C_ (by rfl) T.range (a_ (pv 0) d_))
     (fun cl C s H fp=>od_ (oa_ (oe_ hu (l_ Q_ (pv 1) (l_ F_ (pv 0) (pv 2))) (pv 3)))) (fun cl C s H fp=>pv 0) (by decide +kernel) (by rfl))
    (b_ (y_ (bv_ PySem.F.plainAttrs_list PySem.F.slot_list_append PySem.F.type_list_append H_ (pv 4) (a_ (ixl (pv 9) e_) d_)))
    (g_ (k_ (i:=5) nd rfl (Or.inr rfl) (l_ Q_ (pv 5) (l_ F_ (ixl (pv 9) e_) (pv 7)))))))))
   (g_ (o_ (pv 4)))))),?_⟩
  refine⟨_,rfl,_,rfl,b,c,ws,rfl,hc,hb,hw,hl6,fun p ts H1 hp s1 hp1 tl1=>⟨sz (by simp),fun l hl=>?_⟩⟩
  have s2:Same H1 (upd H1 l (.lst [])):=h_ hl
  have u2:(upd H1 l (.lst [])) l=some (.lst (natV [])):=c_
  have S2:=s1.trans s2
  have tl2:=tl1.keep s2
  have p2:=s2 _ _ hp1
  have hlH:H l=none:=s1.free hl
  have npl:p≠l:=f_ hp1 hl
  generalize upd H1 l (.lst [])=H2 at s2 u2 S2 tl2 p2⊢
  refine⟨_,rfl,_,rfl,c,rfl,⟨_,SqL.of (S2 _ _ hc)⟩,jr_ (K:=K) (a:=c) (xs:=ws.map V.int) (fun i σ H'=>∃(done:List Nat) (rest:Int) (v6 v7 v8 v9:Option V),σ=[some (.int b),some (.ref c),some (.int t),some (.ref p),some (.ref l),some (.int rest),v6,v7,v8,v9]/\Same H H'/\H' p=some (.lst (ts.map V.ref))/\cZ_ H' b ts ws/\
   H' l=some (.lst (natV done))/\done.length=i/\done++Me.rowL b (ws.drop i) rest=Me.rowL b ws t/\rest∈Me.keys (Me.waysW b (ws.drop i)))
   ⟨[],t,none,none,none,none,rfl,S2,p2,tl2,u2,rfl,rfl,ht⟩ (fun i σ H' _ h=>by obtain⟨_,_,_,_,_,_,_,s',_⟩:=h;exact SqL.of (s' _ _ hc)) ?_ ?_⟩
  ·rintro i x σ H3 q hx ⟨done,rest,v6,v7,v8,v9,rfl,s3,p3,tl3,l3,hdl,hrow,hrest⟩ hq
   obtain⟨wt,hwt,rfl⟩:∃wt,ws[i]?=some wt/\x=.int wt:=by
    rw[List.getElem?_map] at hx
    cases e:ws[i]? with
    | none=>rw[e] at hx;cases hx
    | some d=>rw[e] at hx;exact⟨d,rfl,(Option.some.inj hx).symm⟩
   have hi:i<ws.length:=(List.getElem?_eq_some_iff.mp hwt).1
   have edr:ws.drop i=wt::ws.drop (i+1):=by
    rw[List.drop_eq_getElem_cons hi]
    congr 1
    exact(List.getElem?_eq_some_iff.mp hwt).2
   rw[edr] at hrow hrest
   obtain⟨d,r,hfit,hdb,hnext,hrl⟩:=Me.iL_ hrest
   have s4:Same H3 (upd H3 q (.tup [.int i,.int wt])):=h_ hq
   have q4:(upd H3 q (.tup [.int i,.int wt])) q=some (.tup [.int i,.int wt]):=c_
   generalize upd H3 q (.tup [.int i,.int wt])=H4 at s4 q4⊢
   obtain⟨t',kvs,e1,e2,e3⟩:=(tl3.keep s4) (i+1) (by omega)
   have eat:atI (ts.map V.ref) ((i:Int)+1)=some (.ref t'):=by
    have:((i:Int)+1)=((i+1:Nat):Int):=by push_cast;rfl
    rw[this]
    exact ab_ (by rw[List.getElem?_map,e1];rfl)
   refine⟨q,_,rfl,SqT.of q4,rfl,_,_,rfl,_,_,rfl,rfl,?_⟩
   refine⟨_,rfl,_,rfl,_,_,rfl,rfl,?_⟩
   refine⟨p,_,(i:Int)+1,_,rfl,rfl,SqL.of (s4 _ _ p3),eat,?_⟩
   have hwb:=hw wt (List.mem_of_getElem? hwt)
   refine⟨_,rfl,_,rfl,by omega,by omega,aX_ (lo:=0) (n:=(b:Int).toNat) (fun n ys H'=>ys=natV (Me.fits b (Me.waysW b (ws.drop (i+1)).reverse) wt rest n)/\H'=H4)
    ⟨rfl,rfl⟩ ?_ ?_⟩
   ·rintro n ys H' hn ⟨rfl,rfl⟩
    have hfl:(Me.fits b (Me.waysW b (ws.drop (i+1)).reverse) wt rest n).length<=n:=by
     unfold Me.fits
     have:=List.length_filter_le (fun d:Nat=>(Me.look (Me.waysW b (ws.drop (i+1)).reverse) (rest-(d:Int)*wt)).isSome) (List.range n)
     rw[List.length_range] at this
     exact this
    obtain⟨o,dg,eo⟩:=qG_ (k:=rest-(0+(n:Int))*wt) e2 e3
    refine⟨szl (by simp[natV];omega),_,rfl,_,rfl,_,rfl,_,_,rfl,rfl,.inr ⟨by omega,by omega⟩,_,_,rfl,rfl,_,rfl,t',o,rfl,dg,_,rfl,?_⟩
    have e0:(0:Int)+(n:Int)=(n:Int):=Int.zero_add _
    rw[eo,e0]
    refine ite2 (fun h=>?_) (fun h=>?_)
    ·refine⟨_,rfl,?_,rfl⟩
     rw[Me.gI_,if_pos h]
     simp[natV]
    ·refine⟨?_,rfl⟩
     rw[Me.gI_,if_neg h]
   ·rintro ys H' ⟨rfl,rfl⟩ m hm
    have eb:(b:Int).toNat=b:=by omega
    rw[eb,Me.mi_ (fun x=>Me.nf_ (ws.drop (i+1)) x),hfit]
    have s5:=h_ (o:=.lst (natV (d::r))) hm
    have u5:(upd H' m (.lst (natV (d::r)))) m=some (.lst (natV (d::r))):=c_
    generalize upd H' m (.lst (natV (d::r)))=H5 at s5 u5⊢
    have l5:=s5 _ _ (s4 _ _ l3)
    have S5:=s3.trans (s4.trans s5)
    have at0:atI (natV (d::r)) 0=some (.int (d:Int)):=ab_ (j:=0) rfl
    refine⟨_,rfl,.inl ⟨rfl,_,SqL.of l5⟩,_,rfl,br_ u5 at0 ?_⟩
    refine⟨l,_,_,rfl,rfl,l5,szl (by simp[natV];omega),?_⟩
    have nml:m≠l:=(f_ (s4 _ _ l3) hm).symm
    have s6:Same H (upd H5 l (.lst (natV done++[.int (d:Int)]))):=t_ S5 hlH
    have u6:(upd H5 l (.lst (natV done++[.int (d:Int)]))) l=some (.lst (natV (done++[d]))):=by rw[c_];simp[natV]
    have m6:(upd H5 l (.lst (natV done++[.int (d:Int)]))) m=some (.lst (natV (d::r))):=by rw[j_ nml];exact u5
    have p6:(upd H5 l (.lst (natV done++[.int (d:Int)]))) p=some (.lst (ts.map V.ref)):=by rw[j_ npl];exact s5 _ _ (s4 _ _ p3)
    have tl6:cZ_ (upd H5 l (.lst (natV done++[.int (d:Int)]))) b ts ws:=fun j hj=>by
     obtain⟨t2,kv2,a1,a2,a3⟩:=(tl3.keep (s4.trans s5)) j hj
     have kp:Kp [l] H5 (upd H5 l (.lst (natV done++[.int (d:Int)]))):=O_ Kp.refl (.inl (by simp))
     exact⟨t2,kv2,a1,kp _ _ a2 (fun z=>by
      have z':t2=l:=by simpa using z
      rw[z',l5] at a2;cases a2),PD.kp a3 kp l5 (fun xs z=>nomatch z)⟩
    generalize upd H5 l (.lst (natV done++[.int (d:Int)]))=H6 at s6 u6 m6 p6 tl6⊢
    refine⟨_,rfl,_,rfl,m,_,0,_,rfl,rfl,SqL.of m6,at0,_,rfl,_,_,rfl,rfl,.inr ⟨by omega,by omega⟩,_,_,rfl,rfl,?_⟩
    refine⟨done++[d],rest-(d:Int)*wt,_,_,_,_,rfl,s6,p6,tl6,u6,by simp[hdl],?_,hnext⟩
    rw[List.append_assoc]
    rw[hrl] at hrow
    exact hrow
  ·rintro σ H3 ⟨done,rest,v6,v7,v8,v9,rfl,s3,p3,tl3,l3,hdl,hrow,hrest⟩
   have e:ws.drop (ws.map V.int).length=[]:=by rw[List.length_map,List.drop_length]
   rw[e] at hrow
   have hd:done=Me.rowL b ws t:=by
    rw[<-hrow]
    show done=done++[]
    rw[List.append_nil]
   rw[hd] at l3
   exact⟨_,rfl,k l H3 hlH s3 l3⟩
end
end Hv
namespace Me
theorem cz_{b:Nat}:∀(ws:List Int) (t:Int),(rowL b ws t).length=ws.length
 | [],_=>rfl
 | w::ws,t=>by
  rw[rowL,List.length_cons,List.length_cons,cz_ ws]
def allR(b:Nat)(rows:List (List Int))(t:Int):List Nat:=(rows.map fun row=>rowL b row t).flatten
theorem mK_{b i:Nat}{rows:List (List Int)}{row:List Int}{t:Int}(h:rows[i]?=some row):allR b (rows.take (i+1)) t=allR b (rows.take i) t++rowL b row t:=by
 unfold allR
 rw[List.take_add_one,h,List.map_append,List.flatten_append]
 simp
theorem jz_{b:Nat}{t:Int}:∀(rows:List (List Int)),(∀r∈rows,r.length<=6)->(allR b rows t).length<=6*rows.length
 | [],_=>Nat.le_refl _
 | r::rows,h=>by
  have h1:=h r (by simp)
  have h2:=jz_ (b:=b) (t:=t) rows fun r' hr=>h r' (by simp[hr])
  unfold allR at h2⊢
  rw[List.map_cons,List.flatten_cons,List.length_append,cz_,List.length_cons]
  omega
theorem pc_(b:Nat)(xs ys:List Nat):Ma.num b (xs++ys)=Ma.num b xs*b ^ ys.length+Ma.num b ys:=by
 unfold Ma.num
 rw[List.foldl_append,Ma.fC_]
end Me
theorem mv_:∀(ps:List Nat) (ws:List Int),(∀p∈ps,1<=p)->ws.length=ps.sum->∀row∈Ma.cuts ps ws,row≠[]
 | [],_,_,_,row,h=>by simp[Ma.cuts] at h
 | p::ps,ws,hp,hl,row,h=>by
  have h1:=hp p (by simp)
  rw[List.sum_cons] at hl
  rcases List.mem_cons.mp h with rfl | h
  ·intro z
   have:=congrArg List.length z
   rw[List.length_take,List.length_nil] at this
   omega
  ·exact mv_ ps _ (fun q hq=>hp q (by simp[hq])) (by rw[List.length_drop];omega) row h
namespace Hv
open PySem L2
def ax_:Sp:=fun vs H Q _=>∃f a c b ps ws,vs=[.ref f]/\FrAt H f a c b ps ws/\∀(row:List Int) (p:Addr) (H':Hp),(Ma.cuts ps ws)[0]?=some row->H p=none->Same H H'->
 H' p=some (.tup [.int ((Ma.num b (Me.allR b (Ma.cuts ps ws) (Ma.maxL (Me.evK b (Ma.cuts ps ws) row))):Nat):Int),.int (Me.prodW b (Ma.cuts ps ws) (Ma.maxL (Me.evK b (Ma.cuts ps ws) row)))])->Q (.ref p) H'
theorem iK_{H:Hp}{l:Addr}(hl:H l=some (.lst (natV []))):∀ {qs:List Addr} {rows:List (List Int)},dh_ H qs rows->(∀r∈rows,r≠[])->Paired (fun(q:Addr) (_:List Int)=>q≠l) qs rows
 | _,_,.nil,_=>.nil
 | q::qs,r::rows,.cons e t,hne=>by
  refine .cons (fun z=>?_) (iK_ hl t fun r' hr=>hne r' (by simp[hr]))
  rw[z,hl] at e
  have e':=Option.some.inj e
  injection e' with e'
  have h0:=congrArg List.length e'
  have h1:r.length=0:=by
   have h2:(r.map V.int).length=0:=h0.symm
   rw[List.length_map] at h2
   exact h2
  exact hne r (by simp) (List.eq_nil_of_length_eq_zero h1)
theorem dR_{α β:Type}{F G E:α->β->Prop}:∀ {l:List α} {m:List β},Paired F l m->Paired G l m->(∀a b,F a b->G a b->E a b)->Paired E l m
 | _,_,.nil,.nil,_=>.nil
 | _,_,.cons h t,.cons g u,k=>.cons (k _ _ h g) (dR_ t u k)
theorem pn_{H:Hp}{f a c:Addr}{b:Nat}{ps:List Nat}{ws:List Int}(G:FrAt H f a c b ps ws)(row:List Int):0<(Me.evK b (Ma.cuts ps ws) row).length :=
 List.length_pos_of_mem (Me.dY_ (b:=b) (rows:=Ma.cuts ps ws) (row:=row) (by have:=G.ok.b2;omega))
section
variable{P:Program}{w:World}{K:PySem.W.Frag}{mg:Str->Option Value}{base:Heap}
theorem bo_:FnScope ["frame","greatest","figures","weights"] ["frame"] (i_ aL_):=⟨rfl,rfl,rfl,by decide +kernel,rfl,by decide +kernel,by decide +kernel⟩
theorem dk_{f:Addr}{fd:FuncData}(F:Fun K "first_greatest" "first_greatest" aL_ f fd)(DG:Def P w K mg base 7 "greatest_sum" ["frame"] ad_)(DC:Def P w K mg base 1 "cut_by_parts" ["frame","row"] spCut)(DR:Def P w K mg base 4 "first_row" ["base","weights","total"] cN_)
  (DN:Def P w K mg base 1 "number_of" ["base","figures"] aO_) (DX:Def P w K mg base 6 "count_even_with" ["frame","s"] cd_):FnOk P w K mg base CX0 8 f fd ["frame"] ax_:=by
 refine F.ok bo_ (fun vs H Q E h=>?_) (fun cdv A outer s H vs Q E hr h=>?_)
 ·obtain⟨g,a,c,b,ps,ws,rfl,_⟩:=h;rfl
 ·obtain⟨g,a,c,b,ps,ws,rfl,G,k⟩:=h
  have nd:=bo_.nd
  refine⟨_,b_ (k_ (i:=1) nd rfl (Or.inl rfl) (m_ DG hr (by rfl) (a_ (pv 0) d_)))
   (b_ (k_ (i:=2) nd rfl (Or.inl rfl) (P_ d_))
   (b_ (B_ PassesOwn.never rfl (M_ (m_ DC hr.mo (by rfl) (a_ (pv 0) (a_ (ixt (pv 0) e_) d_)))) (n_ (i:=3) nd rfl (Or.inl rfl))
    (g_ (y_ (bv_ PySem.F.plainAttrs_list PySem.F.slot_list_extend PySem.F.type_list_extend lL_ (pv 2) (a_ (m_ DR hr.mo (by rfl) (a_ (ixt (pv 0) e_) (a_ (pv 3) (a_ (pv 1) d_)))) d_)))))
   (g_ (o_ (aS_ (a_ (m_ DN hr.mo (by rfl) (a_ (ixt (pv 0) e_) (a_ (pv 2) d_))) (a_ (m_ DX hr.mo (by rfl) (a_ (pv 0) (a_ (pv 1) d_))) d_))))))),?_⟩
  refine⟨_,rfl,g,a,c,b,ps,ws,rfl,G,fun row H1 s1 hrow=>?_⟩
  have hG:∀r∈Ma.cuts ps ws,Ma.maxL (Me.evK b (Ma.cuts ps ws) row)∈Me.keys (Me.waysW b r):=fun r hr=>Me.ml_ (Ma.s_ _ (pn_ G row)).1 hr
  have kk:=fun p H'=>k row p H' hrow
  generalize Ma.maxL (Me.evK b (Ma.cuts ps ws) row)=gm at hG kk⊢
  refine⟨sz (by simp),fun l hl=>?_⟩
  have s2:Same H1 (upd H1 l (.lst [])):=h_ hl
  have u2:(upd H1 l (.lst [])) l=some (.lst (natV [])):=c_
  have S2:=s1.trans s2
  have hlH:H l=none:=s1.free hl
  generalize upd H1 l (.lst [])=H2 at s2 u2 S2⊢
  have G2:=G.keep S2
  refine⟨_,rfl,_,rfl,_,_,_,_,rfl,rfl,SqT.of G2.tp,rfl,g,a,c,b,ps,ws,c,ws,rfl,G2,G2.hw,fun p qs H3 s3 hp rows=>?_⟩
  have hql:qs.length=(Ma.cuts ps ws).length:=rows.length
  have S3:=S2.trans s3
  have npl:p≠l:=hV_ hp (s3 _ _ u2) (by
   intro z
   have z':qs.map V.ref=natV []:=by injection z
   have:=congrArg List.length z'
   rw[List.length_map,hql,Ma.A_] at this
   have l2:=G.ok.l2
   have h0:ps.length=0:=this
   omega)
  have nql:Paired (fun(q:Addr) (_:List Int)=>q≠l) qs (Ma.cuts ps ws):=by
   exact iK_ (s3 _ _ u2) rows (mv_ ps ws (fun p hp=>(G.ok.pr p hp).1) G.ok.wl)
  refine⟨p,rfl,⟨_,SqL.of hp⟩,al_ (K:=K) (a:=p) (xs:=qs.map V.ref) (fun i σ H'=>∃v3,σ=[some (.ref g),some (.int gm),some (.ref l),v3]/\Same H H'/\H' p=some (.lst (qs.map V.ref))/\dh_ H' qs (Ma.cuts ps ws)/\H' l=some (.lst (natV (Me.allR b ((Ma.cuts ps ws).take i) gm))))
   ⟨none,rfl,S3,hp,rows,s3 _ _ u2⟩ (fun i σ H' _ h=>by obtain⟨_,_,_,e,_⟩:=h;exact SqL.of e) ?_ ?_⟩
  ·rintro i x σ H4 hx ⟨v3,rfl,s4,p4,r4,l4⟩
   obtain⟨q,hq,rfl⟩:∃q:Addr,qs[i]?=some q/\x=.ref q:=by
    rw[List.getElem?_map] at hx
    cases e:qs[i]? with
    | none=>rw[e] at hx;cases hx
    | some d=>rw[e] at hx;exact⟨d,rfl,(Option.some.inj hx).symm⟩
   obtain⟨r,hj,hr1⟩:=cy_ r4 hq
   have hm:=List.mem_of_getElem? hj
   obtain⟨hw,hl6⟩:=cW_ G r hm
   have G4:=G.keep s4
   refine⟨_,rfl,.inl ⟨rfl,_,SqL.of l4⟩,_,rfl,_,_,_,_,rfl,rfl,SqT.of G4.tp,rfl,_,rfl,_,rfl,b,q,r,gm,rfl,hr1,G.ok.b16,hw,hl6,hG r hm,fun p' H5 np s5 hp5=>?_⟩
   have l5:=s5 _ _ l4
   have hal:=Me.jz_ (b:=b) (t:=gm) ((Ma.cuts ps ws).take i) (fun r' hr'=>(cW_ G r' (List.mem_of_mem_take hr')).2)
   have hil:((Ma.cuts ps ws).take i).length<=4:=by
    rw[List.length_take,Ma.A_]
    have:=G.ok.l4
    omega
   refine⟨l,p',_,_,rfl,rfl,l5,hp5,sz (by simp[natV,Me.cz_];omega),?_⟩
   have kp:Kp [l] H5 (upd H5 l (.lst (natV (Me.allR b ((Ma.cuts ps ws).take i) gm)++natV (Me.rowL b r gm)))):=O_ Kp.refl (.inl (by simp))
   refine⟨_,rfl,t_ (s4.trans s5) hlH,kp _ _ (s5 _ _ p4) (by simpa using npl),?_,?_⟩
   ·exact dR_ r4 nql fun q1 r1 e1 z=>kp _ _ (s5 _ _ e1) (by simpa using z)
   ·rw[c_,Me.mK_ hj]
    simp[natV]
  ·rintro σ H4 ⟨v3,rfl,s4,p4,r4,l4⟩
   have e:(qs.map V.ref).length=(Ma.cuts ps ws).length:=by rw[List.length_map];exact hql
   rw[e,List.take_length] at l4
   have G4:=G.keep s4
   refine⟨_,rfl,_,_,_,_,rfl,rfl,SqT.of G4.tp,rfl,_,rfl,b,l,_,rfl,G.ok.b16,l4,?_⟩
   refine⟨_,rfl,_,rfl,g,a,c,b,ps,ws,gm,rfl,G4,fun H5 s5=>⟨sz (by simp),fun t ht=>?_⟩⟩
   exact kk t _ ((s4.trans s5).free ht) ((s4.trans s5).trans (h_ ht)) c_
end
end Hv
namespace Mg
open Me Mq
def ns(g:Nat->Int):Nat->Int
 | 0=>0
 | n+1=>ns g n+g n
theorem x_{g h:Nat->Int}:∀ {n:Nat},(∀i,i<n->g i=h i)->ns g n=ns h n
 | 0,_=>rfl
 | n+1,e=>by rw[ns,ns,x_ (n:=n) fun i hi=>e i (by omega),e n (by omega)]
theorem eC_(g:Nat->Int)(n:Nat):∀m:Nat,ns g (n+m)=ns g n+ns (fun i=>g (n+i)) m
 | 0=>by simp[ns]
 | m+1=>by
  rw[<-Nat.add_assoc,ns,ns,eC_ g n m]
  omega
theorem fD_(g h:Nat->Int):∀n:Nat,ns (fun i=>g i+h i) n=ns g n+ns h n
 | 0=>rfl
 | n+1=>by simp only[ns];rw[fD_ g h n];omega
theorem jd_(c:Int)(g:Nat->Int):∀n:Nat,ns (fun i=>c*g i) n=c*ns g n
 | 0=>by simp[ns]
 | n+1=>by simp only[ns];rw[jd_ c g n,Int.mul_add]
theorem lD_:∀n:Nat,ns (fun _=>0) n=0
 | 0=>rfl
 | n+1=>by rw[ns,lD_ n];rfl
theorem gv_(g:Nat->Int)(b:Nat):∀a:Nat,ns g (a*b)=ns (fun i=>ns (fun j=>g (i*b+j)) b) a
 | 0=>by simp[ns]
 | a+1=>by
  rw[Nat.succ_mul,eC_,ns,gv_ g b a]
def tg(f:List (Int×Int))(G:Int->Int):Int:=(f.map fun q=>q.2*G q.1).sum
theorem ac_(p:Int×Int)(f:List (Int×Int))(G:Int->Int):tg (p::f) G=p.2*G p.1+tg f G:=by simp[tg]
theorem is_{k n:Int}{G:Int->Int}:∀ {f:List (Int×Int)},(keys f).Nodup->tg (addTo f k n) G=tg f G+n*G k
 | [],_=>by simp[addTo,put,look,tg]
 | (a,x)::f,nd=>by
  have nd1:a∉keys f:=(List.nodup_cons.mp nd).1
  have nd2:(keys f).Nodup:=(List.nodup_cons.mp nd).2
  by_cases e:a=k
  ·subst e
   rw[ee_ nd1,ac_,ac_]
   simp only
   rw[Int.add_mul]
   omega
  ·rw[cH_ e,ac_,ac_,is_ (k:=k) (n:=n) nd2]
   omega
theorem kE_{p:Int×Int}{w:Int}{G:Int->Int}{acc:List (Int×Int)}(nd:(keys acc).Nodup):∀n:Nat,tg (figs p w n acc) G=tg acc G+p.2*ns (fun(d:Nat)=>G (p.1+(d:Int)*w)) n
 | 0=>by simp[ns,figs]
 | n+1=>by
  rw[X_,is_ (bi_ nd n),kE_ nd n,ns,Int.mul_add]
  omega
theorem kD_{b:Nat}{w:Int}{G:Int->Int}:∀(f acc:List (Int×Int)),(keys acc).Nodup->tg (f.foldl (fun acc p=>figs p w b acc) acc) G=tg acc G+tg f fun x=>ns (fun(d:Nat)=>G (x+(d:Int)*w)) b
 | [],acc,_=>by simp[tg]
 | p::f,acc,nd=>by
  rw[List.foldl_cons,kD_ f _ (bi_ nd b),kE_ nd b,ac_]
  omega
theorem pB_{b:Nat}{w:Int}{G:Int->Int}(f:List (Int×Int)):tg (N_ f b w) G=tg f fun x=>ns (fun(d:Nat)=>G (x+(d:Int)*w)) b:=by
 have:=kD_ (b:=b) (w:=w) (G:=G) f [] (by simp[keys])
 have e:tg [] G=0:=rfl
 rw[e,Int.zero_add] at this
 exact this
def ws1(b d:Nat)(row:List Int):Int:=(Ma.wts b d row.length row).sum
theorem mm_(b d e L:Nat)(he:e<b):Ma.dws b (d*b+e) (L+1) (L+1)=Ma.dws b d L L++[e]:=by
 rw[Ma.fN_]
 congr 1
 ·unfold Ma.dws
  apply List.map_congr_left
  intro j hj
  have hj':=List.mem_range.mp hj
  have e1:L+1-1-j=(L-1-j)+1:=by omega
  rw[e1,Nat.pow_succ',<-Nat.div_div_eq_div_mul]
  have e2:(d*b+e) / b=d:=by
   rw[Nat.mul_comm d b,Nat.mul_add_div (by omega),Nat.div_eq_of_lt he,Nat.add_zero]
  rw[e2]
 ·have e1:L+1-1-L=0:=by omega
  rw[e1,Nat.pow_zero,Nat.div_one,Nat.mul_comm d b,Nat.mul_add_mod,Nat.mod_eq_of_lt he]
theorem pw_(b d e:Nat)(row:List Int)(w:Int)(he:e<b):ws1 b (d*b+e) (row++[w])=ws1 b d row+e*w:=by
 unfold ws1 Ma.wts
 rw[List.length_append,List.length_singleton,mm_ b d e row.length he,List.zipWith_append (by rw[Ma.L_]),List.sum_append]
 simp
theorem il_(b:Nat)(G:Int->Int)(row:List Int):ns (fun d=>G (ws1 b d row)) (b ^ row.length)=tg (waysW b row) G:=by
 have key:∀(n:Nat) (row:List Int),row.length=n->∀G:Int->Int,ns (fun d=>G (ws1 b d row)) (b ^ row.length)=tg (waysW b row) G:=fun n=>by
  induction n with
  | zero =>
   intro row h G
   have:row=[]:=List.eq_nil_of_length_eq_zero h
   subst this
   simp[ns,tg,waysW,ws1,Ma.wts]
  | succ n ih =>
   intro row h G
   obtain⟨r,w,rfl⟩:∃r w,row=r++[w]:=by
    refine⟨row.dropLast,row.getLast (by intro z;rw[z] at h;simp at h),?_⟩
    exact(List.dropLast_concat_getLast _).symm
   have hr:r.length=n:=by simpa using h
   have e1:waysW b (r++[w])=N_ (waysW b r) b w:=by
    unfold waysW
    rw[List.foldl_append]
    rfl
   rw[e1,pB_,<-ih r hr,List.length_append,List.length_singleton,Nat.pow_succ,gv_]
   apply x_
   intro d _
   apply x_
   intro e he
   rw[pw_ b d e r w he]
 exact key row.length row rfl G
theorem gK_(b d m p L:Nat)(hb:0<b)(hm:m<b ^ L):Ma.dws b (d*b ^ L+m) (p+L) (p+L)=Ma.dws b d p p++Ma.dws b m L L:=by
 have gen:∀i,i<=L->Ma.dws b (d*b ^ L+m) (p+L) (p+i)=Ma.dws b d p p++Ma.dws b m L i:=fun i=>by
  induction i with
  | zero =>
   intro _
   unfold Ma.dws
   simp only[Nat.add_zero,List.range_zero,List.map_nil,List.append_nil]
   apply List.map_congr_left
   intro j hj
   have hj':=List.mem_range.mp hj
   have e1:p+L-1-j=(p-1-j)+L:=by omega
   rw[e1,Nat.pow_add,Nat.mul_comm (b ^ (p-1-j)),<-Nat.div_div_eq_div_mul]
   have e2:(d*b ^ L+m) / b ^ L=d:=by
    rw[Nat.mul_comm d,Nat.mul_add_div (Nat.pow_pos hb),Nat.div_eq_of_lt hm,Nat.add_zero]
   rw[e2]
  | succ i ih =>
   intro hi
   rw[<-Nat.add_assoc,Ma.fN_,Ma.fN_,ih (by omega),List.append_assoc]
   congr 3
   have e1:p+L-1-(p+i)=L-1-i:=by omega
   rw[e1]
   have e3:b ^ L=b ^ (L-1-i)*b*b ^ i:=by
    rw[<-Nat.pow_succ,<-Nat.pow_add]
    congr 1
    omega
   have e4:d*b ^ L+m=b ^ (L-1-i)*(d*b ^ i*b)+m:=by
    rw[e3]
    congr 1
    rw[Nat.mul_assoc (b ^ (L-1-i)),<-Nat.mul_assoc d,Nat.mul_comm d,Nat.mul_assoc (b ^ (L-1-i))]
    congr 1
    rw[Nat.mul_comm b,<-Nat.mul_assoc]
   rw[e4,Nat.mul_add_div (Nat.pow_pos hb),Nat.add_comm,Nat.add_mul_mod_self_right]
 exact gen L (Nat.le_refl _)
abbrev sumsN(b n:Nat)(ps:List Nat)(ws:List Int):List Int:=Ma.psums ps (Ma.wts b n ps.sum ws)
theorem am_{b d m p:Nat}{ps:List Nat}{ws:List Int}(hb:0<b)(hm:m<b ^ ps.sum)(hw:ws.length=p+ps.sum):sumsN b (d*b ^ ps.sum+m) (p::ps) ws=ws1 b d (ws.take p)::sumsN b m ps (ws.drop p):=by
 have hl:(ws.take p).length=p:=by rw[List.length_take];omega
 have e:Ma.wts b (d*b ^ ps.sum+m) (p::ps).sum ws=Ma.wts b d p (ws.take p)++Ma.wts b m ps.sum (ws.drop p):=by
  unfold Ma.wts
  rw[List.sum_cons,gK_ b d m p ps.sum hb hm]
  conv=>lhs;rw[<-List.take_append_drop p ws]
  rw[List.zipWith_append (by rw[Ma.L_,hl])]
 show Ma.psums (p::ps) (Ma.wts b (d*b ^ ps.sum+m) (p::ps).sum ws)=_
 rw[e]
 have l1:(Ma.wts b d p (ws.take p)).length=p:=Ma.ha_ _ _ _ _ hl
 unfold Ma.psums
 rw[Ma.cuts,List.map_cons]
 congr 1
 ·rw[List.take_left' l1]
  unfold ws1
  rw[hl]
 ·rw[List.drop_left' l1]
  rfl
def tr(b:Nat):List (List Int)->(List Int->Int)->Int
 | [],F=>F []
 | row::rows,F=>tg (waysW b row) fun x=>tr b rows fun v=>F (x::v)
theorem oq_{b:Nat}(hb:0<b):∀(ps:List Nat) (ws:List Int) (F:List Int->Int),ws.length=ps.sum->ns (fun n=>F (sumsN b n ps ws)) (b ^ ps.sum)=tr b (Ma.cuts ps ws) F
 | [],ws,F,_=>by
  show ns _ (b ^ 0)=F []
  rw[Nat.pow_zero]
  simp only[ns,Int.zero_add]
  rfl
 | p::ps,ws,F,h=>by
  rw[List.sum_cons] at h
  have hl:(ws.take p).length=p:=by rw[List.length_take];omega
  rw[List.sum_cons,Nat.pow_add,gv_,Ma.cuts,tr,<-il_,hl]
  apply x_
  intro d _
  rw[<-oq_ hb ps (ws.drop p) _ (by rw[List.length_drop];omega)]
  apply x_
  intro m hm
  rw[am_ hb hm h]
theorem aj_{f:List (Int×Int)}{G H:Int->Int}(h:∀x,G x=H x):tg f G=tg f H:=by
 unfold tg
 congr 1
 exact List.map_congr_left fun p _=>by rw[h]
theorem eL_{b:Nat}:∀ {rows:List (List Int)} {F G:List Int->Int},(∀v,v.length=rows.length->F v=G v)->tr b rows F=tr b rows G
 | [],_,_,h=>h [] rfl
 | _::rows,_,_,h=>aj_ fun x=>eL_ fun v hv=>h (x::v) (by simp[hv])
theorem fU_(c:Int)(f:List (Int×Int))(G:Int->Int):tg f (fun x=>c*G x)=c*tg f G:=by
 induction f with
 | nil=>simp[tg]
 | cons p f ih=>rw[ac_,ac_,ih,Int.mul_add,<-Int.mul_assoc,<-Int.mul_assoc,Int.mul_comm p.2 c]
theorem pz_(f:List (Int×Int))(G H:Int->Int):tg f (fun x=>G x-H x)=tg f G-tg f H:=by
 induction f with
 | nil=>simp[tg]
 | cons p f ih=>rw[ac_,ac_,ac_,ih,Int.mul_sub];omega
theorem kC_(f:List (Int×Int))(G H:Int->Int):tg f (fun x=>G x+H x)=tg f G+tg f H:=by
 induction f with
 | nil=>simp[tg]
 | cons p f ih=>rw[ac_,ac_,ac_,ih,Int.mul_add];omega
theorem nV_{b:Nat}(c:Int):∀(rows:List (List Int)) (F:List Int->Int),tr b rows (fun v=>c*F v)=c*tr b rows F
 | [],_=>rfl
 | row::rows,F=>by
  show tg _ _=c*tg _ _
  rw[<-fU_]
  exact aj_ fun x=>nV_ c rows _
def fp(h:Int->Int)(v:List Int):Int:=v.foldl (fun m x=>m*h x) 1
theorem cE_(h:Int->Int):∀(v:List Int) (c:Int),v.foldl (fun m x=>m*h x) c=c*v.foldl (fun m x=>m*h x) 1
 | [],c=>by simp
 | x::v,c=>by
  rw[List.foldl_cons,List.foldl_cons,cE_ h v (c*h x),cE_ h v (1*h x),Int.one_mul,Int.mul_assoc]
theorem kA_{b:Nat}(h:Int->Int):∀rows:List (List Int),tr b rows (fp h)=rows.foldl (fun m row=>m*tg (waysW b row) h) 1
 | []=>rfl
 | row::rows=>by
  have e:∀(rs:List (List Int)) (c:Int),rs.foldl (fun m row=>m*tg (waysW b row) h) c=c*rs.foldl (fun m row=>m*tg (waysW b row) h) 1:=fun rs=>by
   induction rs with
   | nil=>intro c;simp
   | cons r rs ih=>intro c;rw[List.foldl_cons,List.foldl_cons,ih (c*_),ih (1*_),Int.one_mul,Int.mul_assoc]
  rw[List.foldl_cons,e rows,Int.one_mul,<-kA_ h rows]
  show tg (waysW b row) (fun x=>tr b rows fun v=>fp h (x::v))=_
  have e2:∀x,tr b rows (fun v=>fp h (x::v))=tr b rows (fp h)*h x:=fun x=>by
   rw[Int.mul_comm,<-nV_]
   exact eL_ fun v _=>by
    unfold fp
    rw[List.foldl_cons,cE_,Int.one_mul]
  rw[aj_ e2,fU_,Int.mul_comm]
def iv(a:Int)(n:Nat)(x:Int):Int:=if a<=x/\x<a+n then 1 else 0
theorem fd_(x a:Int):∀n:Nat,sm (fun t=>if x=t then 1 else 0) a n=iv a n x
 | 0=>by
  unfold iv
  rw[if_neg (by omega)]
  rfl
 | n+1=>by
  simp only[sm]
  rw[fd_ x a n]
  unfold iv
  by_cases h1:a<=x/\x<a+n
  ·rw[if_pos h1,if_neg (by omega),if_pos (by push_cast;omega)]
   rfl
  ·by_cases h2:x=a+n
   ·rw[if_neg h1,if_pos h2,if_pos (by push_cast;omega)]
    rfl
   ·rw[if_neg h1,if_neg h2,if_neg (by push_cast;omega)]
    rfl
theorem cp_{t:Int}:∀ {f:List (Int×Int)},(keys f).Nodup->tg f (fun x=>if x=t then 1 else 0)=gv f t
 | [],_=>rfl
 | (a,x)::f,nd=>by
  have nd1:a∉keys f:=(List.nodup_cons.mp nd).1
  have nd2:(keys f).Nodup:=(List.nodup_cons.mp nd).2
  rw[ac_,cp_ nd2]
  unfold gv
  by_cases e:a=t
  ·subst e
   rw[bU_,aE_ nd1,if_pos rfl]
   simp
  ·rw[aU_ e,if_neg e]
   simp
theorem pA_(f:List (Int×Int))(F:Int->Int->Int)(a:Int):∀n:Nat,tg f (fun x=>sm (fun t=>F t x) a n)=sm (fun t=>tg f (F t)) a n
 | 0=>by
  have:=fU_ 0 f fun _=>0
  simp only[Int.zero_mul] at this
  exact this
 | n+1=>by
  simp only[sm]
  rw[kC_,pA_ f F a n]
end Mg
namespace Mg
open Me Mq
theorem kF_{f:List (Int×Int)}{G H:Int->Int}(h:∀x∈keys f,G x=H x):tg f G=tg f H:=by
 unfold tg
 congr 1
 exact List.map_congr_left fun p hp=>by rw[h p.1 (List.mem_map.mpr ⟨p,hp,rfl⟩)]
theorem mf_(q:Int->Prop)[DecidablePred q]:∀v:List Int,fp (fun x=>if q x then 1 else 0) v=if ∀x∈v,q x then 1 else 0
 | []=>by simp[fp]
 | x::v=>by
  have e:fp (fun x=>if q x then 1 else 0) (x::v)=(if q x then 1 else 0)*fp (fun x=>if q x then 1 else 0) v:=by
   unfold fp
   rw[List.foldl_cons,cE_,Int.one_mul]
  rw[e,mf_ q v]
  by_cases h1:q x
  ·by_cases h2:∀y∈v,q y
   ·rw[if_pos h1,if_pos h2,if_pos (by intro y hy;rcases List.mem_cons.mp hy with rfl | hy;exact h1;exact h2 y hy)];rfl
   ·rw[if_pos h1,if_neg h2,if_neg (fun z=>h2 fun y hy=>z y (by simp[hy]))];rfl
  ·have h3:¬ ∀y∈x::v,q y:=fun z=>h1 (z x List.mem_cons_self)
   rw[if_neg h1,if_neg h3,Int.zero_mul]
def sprd(v:List Int):Int:=Ma.maxL v-Ma.minL v
theorem os_{v:List Int}(hv:0<v.length){a:Int}{n:Nat}:(∀x∈v,a<=x/\x<a+n)↔a<=Ma.minL v/\Ma.maxL v<a+n:=by
 obtain⟨m1,m2⟩:=Ma.v_ v hv
 obtain⟨m3,m4⟩:=Ma.s_ v hv
 constructor
 ·intro h
  exact⟨(h _ m1).1,(h _ m3).2⟩
 ·rintro⟨h1,h2⟩ x hx
  have:=m2 x hx
  have:=m4 x hx
  omega
theorem qF_{v:List Int}(hv:0<v.length)(a:Int)(n:Nat):fp (iv a n) v=if a<=Ma.minL v/\Ma.maxL v<a+n then 1 else 0:=by
 have:=mf_ (fun x=>a<=x/\x<a+n) v
 have e:iv a n=fun x=>if a<=x/\x<a+(n:Int) then 1 else 0:=rfl
 rw[e,this]
 by_cases h:∀x∈v,a<=x/\x<a+n
 ·rw[if_pos h,if_pos ((os_ hv).mp h)]
 ·rw[if_neg h,if_neg fun z=>h ((os_ hv).mpr z)]
theorem win{v:List Int}(hv:0<v.length){d:Nat}{A:Int}{N:Nat}(h1:A<=Ma.minL v)(h2:Ma.minL v<A+N):(if sprd v<=d then 1 else 0)=sm (fun a=>fp (iv a (d+1)) v-fp (iv (a+1) d) v) A N:=by
 have e:sm (fun a=>fp (iv a (d+1)) v-fp (iv (a+1) d) v) A N=sm (fun a=>if Ma.minL v=a then (if sprd v<=d then 1 else 0) else 0) A N:=by
  apply cu_
  intro a _ _
  rw[qF_ hv,qF_ hv]
  unfold sprd
  obtain⟨m1,m2⟩:=Ma.v_ v hv
  obtain⟨m3,m4⟩:=Ma.s_ v hv
  have mm:=m2 _ m3
  push_cast
  by_cases q1:Ma.minL v=a
  ·rw[if_pos q1]
   by_cases q2:Ma.maxL v-Ma.minL v<=d
   ·rw[if_pos (by omega),if_neg (by omega),if_pos q2];rfl
   ·rw[if_neg (by omega),if_neg (by omega),if_neg q2];rfl
  ·rw[if_neg q1]
   by_cases q2:a<=Ma.minL v/\Ma.maxL v<a+(d+1)
   ·rw[if_pos q2,if_pos (by omega)];rfl
   ·rw[if_neg q2,if_neg (by omega)];rfl
 rw[e]
 by_cases q:sprd v<=d
 ·rw[if_pos q,fd_]
  unfold iv
  rw[if_pos ⟨h1,h2⟩]
 ·rw[if_neg q]
  refine(ay_ fun t _ _=>?_).symm
  split <;> rfl
section
variable{b:Nat}{ps:List Nat}{ws:List Int}
theorem nM_(hb:0<b)(hw:ws.length=ps.sum)(hp:0<ps.length)(t:Int):ns (fun n=>if sprd (sumsN b n ps ws)=0/\(sumsN b n ps ws)[0]?=some t then 1 else 0) (b ^ ps.sum)=prodW b (Ma.cuts ps ws) t:=by
 rw[oq_ hb ps ws (fun v=>if sprd v=0/\v[0]?=some t then 1 else 0) hw]
 have e:tr b (Ma.cuts ps ws) (fun v=>if sprd v=0/\v[0]?=some t then 1 else 0)=tr b (Ma.cuts ps ws) (fp fun x=>if x=t then 1 else 0):=eL_ fun v hv=>by
  rw[Ma.A_] at hv
  have hv0:0<v.length:=by omega
  rw[mf_ (fun x=>x=t)]
  obtain⟨m1,m2⟩:=Ma.v_ v hv0
  obtain⟨m3,m4⟩:=Ma.s_ v hv0
  have ev:v[0]?=some v[0]:=by simp[hv0]
  unfold sprd
  by_cases q:∀x∈v,x=t
  ·rw[if_pos q,if_pos ⟨by rw[q _ m1,q _ m3];omega,by rw[ev,q _ (List.getElem_mem hv0)]⟩]
  ·rw[if_neg q,if_neg]
   rintro⟨z1,z2⟩
   rw[ev] at z2
   have z2':v[0]=t:=Option.some.inj z2
   refine q fun x hx=>?_
   have a1:=m2 x hx
   have a2:=m4 x hx
   have a3:=m2 _ (List.getElem_mem hv0)
   have a4:=m4 _ (List.getElem_mem hv0)
   omega
 rw[e,kA_]
 unfold prodW
 congr 1
 funext m row
 rw[cp_ (eJ_ b row).nd]
end
def cd(w:Nat->Bool)(k:Nat->Int):Nat->List (Int×Int)
 | 0=>[]
 | n+1=>if w n=true then addTo (cd w k n) (k n) 1 else cd w k n
structure Pos(f:List (Int×Int)):Prop where
 nd:(keys f).Nodup
 ps:∀p∈f,1<=p.2
theorem mL_{k n:Int}(hn:1<=n):∀ {f:List (Int×Int)},Pos f->Pos (addTo f k n)
 | [],_=>⟨by simp[addTo,put,look,keys],fun p hp=>by
   have:p=(k,0+n):=by simpa [addTo,put,look] using hp
   rw[this];show 1<=0+n;omega⟩
 | (a,x)::f,o=>by
  have nd1:a∉keys f:=(List.nodup_cons.mp o.nd).1
  have nd2:(keys f).Nodup:=(List.nodup_cons.mp o.nd).2
  have hx:1<=x:=o.ps (a,x) (by simp)
  refine⟨mM_ o.nd,?_⟩
  by_cases e:a=k
  ·subst e
   rw[ee_ nd1]
   intro p hp
   rcases List.mem_cons.mp hp with rfl | hp
   ·show 1<=x+n;omega
   ·exact o.ps p (by simp[hp])
  ·rw[cH_ e]
   intro p hp
   rcases List.mem_cons.mp hp with rfl | hp
   ·exact hx
   ·exact(mL_ hn (f:=f) ⟨nd2,fun q hq=>o.ps q (by simp[hq])⟩).ps p hp
theorem eF_(w:Nat->Bool)(k:Nat->Int):∀n,Pos (cd w k n)
 | 0=>⟨by simp[cd,keys],fun p hp=>by simp[cd] at hp⟩
 | n+1=>by
  unfold cd
  split
  ·exact mL_ (by decide) (eF_ w k n)
  ·exact eF_ w k n
theorem pq_(w:Nat->Bool)(k:Nat->Int)(G:Int->Int):∀n,tg (cd w k n) G=ns (fun i=>if w i=true then G (k i) else 0) n
 | 0=>rfl
 | n+1=>by
  unfold cd
  rw[ns]
  split
  ·rw[is_ (eF_ w k n).nd,pq_ w k G n,Int.one_mul]
  ·rw[pq_ w k G n];omega
theorem qZ_(w:Nat->Bool)(k:Nat->Int)(t:Int)(n:Nat):gv (cd w k n) t=ns (fun i=>if w i=true/\k i=t then 1 else 0) n:=by
 rw[<-cp_ (eF_ w k n).nd,pq_]
 apply x_
 intro i _
 by_cases h:w i=true
 ·by_cases q:k i=t
  ·rw[if_pos h,if_pos q,if_pos ⟨h,q⟩]
  ·rw[if_pos h,if_neg q,if_neg fun z=>q z.2]
 ·rw[if_neg h,if_neg fun z=>h z.1]
theorem nG_{b:Nat}{rows:List (List Int)}{ks:List Int}(nd:ks.Nodup):Pos (evenL b rows ks):=⟨mk_ nd,fun p hp=>by
 obtain⟨k,hk,rfl⟩:=List.mem_map.mp hp
 have h1:=(List.mem_filter.mp hk).2
 have h2:0<prodW b rows k:=by simpa using h1
 show 1<=prodW b rows k
 omega⟩
theorem cC_{f:List (Int×Int)}(nd:(keys f).Nodup):f.Nodup:=by
 induction f with
 | nil=>exact List.nodup_nil
 | cons p f ih =>
  obtain⟨n1,n2⟩:=List.nodup_cons.mp nd
  exact List.nodup_cons.mpr ⟨fun z=>n1 (List.mem_map.mpr ⟨p,z,rfl⟩),ih n2⟩
theorem gx_{f g:List (Int×Int)}(o:Pos f)(h:∀t,gv f t=gv g t):∀p∈f,p∈g:=fun p hp=>by
 have e1:=Y_ o.nd hp
 have e2:gv f p.1=p.2:=by unfold gv;rw[e1];rfl
 have e3:=o.ps p hp
 rw[h] at e2
 have:=mb_ (f:=g) (k:=p.1) (by rw[e2];exact e3)
 rw[e2] at this
 exact this
theorem jL_{f g:List (Int×Int)}(o:Pos f)(u:Pos g)(h:∀t,gv f t=gv g t):f.Perm g :=
 (List.perm_ext_iff_of_nodup (cC_ o.nd) (cC_ u.nd)).mpr fun p=>⟨gx_ o h p,gx_ u (fun t=>(h t).symm) p⟩
end Mg
namespace Mg
open Me Mq
theorem hi_(v:List Int)(h:0<v.length):0<=sprd v:=by
 have h1:=(Ma.s_ v h).1
 have h2:=(Ma.v_ v h).2 _ h1
 unfold sprd
 lia
section
variable{b:Nat}{ps:List Nat}{ws:List Int}
theorem even_perm{row:List Int}(hb:0<b)(hw:ws.length=ps.sum)(hp:0<ps.length)(h0:(Ma.cuts ps ws)[0]?=some row) :
  (evenL b (Ma.cuts ps ws) (keys (waysW b row))).Perm (cd (fun n=>decide (sprd (sumsN b n ps ws)=0)) (fun n=>(sumsN b n ps ws).getD 0 0) (b ^ ps.sum)):=by
 have nd:=(eJ_ b row).nd
 refine jL_ (nG_ nd) (eF_ _ _ _) fun t=>?_
 rw[qZ_]
 refine(gJ_ h0 nd t).trans ?_
 rw[<-nM_ hb hw hp t]
 apply x_
 intro n _
 have hl:0<(sumsN b n ps ws).length:=by
  show 0<(Ma.psums ps _).length
  rw[Ma.U_];exact hp
 have e:(sumsN b n ps ws)[0]?=some ((sumsN b n ps ws).getD 0 0):=by rw[List.getD_eq_getElem?_getD,List.getElem?_eq_getElem hl];rfl
 rw[e]
 by_cases h1:sprd (sumsN b n ps ws)=0
 ·by_cases h2:(sumsN b n ps ws).getD 0 0=t
  ·rw[if_pos ⟨h1,by rw[h2]⟩,if_pos ⟨decide_eq_true h1,h2⟩]
  ·rw[if_neg (fun z=>h2 (Option.some.inj z.2)),if_neg fun z=>h2 z.2]
 ·rw[if_neg (fun z=>h1 z.1),if_neg fun z=>h1 (of_decide_eq_true z.1)]
end
end Mg
namespace Mu
open Me Mg
abbrev Tri:=List (Int×Int×Int)
abbrev keyT(h:Tri):List Int:=h.map (·.1)
def lookT(h:Tri)(k:Int):Option (Int×Int):=(h.find? fun q=>decide (q.1=k)).map (·.2)
def putT(h:Tri)(k:Int)(p:Int×Int):Tri:=if (h.any fun q=>decide (q.1=k))=true then h.map fun q=>if q.1=k then (q.1,p) else q else h++[(k,p)]
abbrev gT(h:Tri)(k:Int):Int×Int:=(lookT h k).getD (0,0)
def addT(h:Tri)(k n v:Int):Tri:=putT h k ((gT h k).1+n,(gT h k).2+v)
def TT(h:Tri)(A B:Int->Int):Int:=(h.map fun q=>q.2.1*A q.1+q.2.2*B q.1).sum
theorem eh_(p:Int×Int×Int)(h:Tri)(A B:Int->Int):TT (p::h) A B=p.2.1*A p.1+p.2.2*B p.1+TT h A B:=by simp[TT]
theorem ou_(h g:Tri)(A B:Int->Int):TT (h++g) A B=TT h A B+TT g A B:=by simp[TT]
theorem dU_{h:Tri}{a:Int}{x:Int×Int}:lookT ((a,x)::h) a=some x:=by simp[lookT]
theorem cY_{h:Tri}{a k:Int}{x:Int×Int}(e:a≠k):lookT ((a,x)::h) k=lookT h k:=by simp[lookT,e]
theorem jJ_{h:Tri}{k:Int}{p:Int×Int}(e:k∉keyT h):(h.map fun q=>if q.1=k then (q.1,p) else q)=h:=by
 induction h with
 | nil=>rfl
 | cons q r ih =>
  have h1:q.1≠k:=fun z=>e (by simp[keyT,z])
  have h2:k∉keyT r:=fun z=>e (by simp only[keyT,List.map_cons,List.mem_cons];exact .inr z)
  rw[List.map_cons,if_neg h1,ih h2]
theorem nh_{h:Tri}{a:Int}{x p:Int×Int}(e:a∉keyT h):putT ((a,x)::h) a p=(a,p)::h:=by
 unfold putT
 rw[if_pos (by simp),List.map_cons,if_pos rfl,jJ_ e]
theorem ld_{h:Tri}{a k:Int}{x p:Int×Int}(e:a≠k):putT ((a,x)::h) k p=(a,x)::putT h k p:=by
 unfold putT
 by_cases c:(h.any fun q=>decide (q.1=k))=true
 ·rw[if_pos (by simp only[List.any_cons,c,Bool.or_true]),if_pos c,List.map_cons,if_neg e]
 ·rw[if_neg (by simp only[List.any_cons,decide_eq_false e,Bool.false_or];exact c),if_neg c,List.cons_append]
theorem nR_{h:Tri}{a n v:Int}{x:Int×Int}(e:a∉keyT h):addT ((a,x)::h) a n v=(a,x.1+n,x.2+v)::h:=by
 unfold addT gT
 rw[dU_,nh_ e]
 rfl
theorem mN_{h:Tri}{a k n v:Int}{x:Int×Int}(e:a≠k):addT ((a,x)::h) k n v=(a,x)::addT h k n v:=by
 unfold addT gT
 rw[cY_ e,ld_ e]
theorem mP_{k n v:Int}{A B:Int->Int}:∀ {h:Tri},(keyT h).Nodup->TT (addT h k n v) A B=TT h A B+(n*A k+v*B k)
 | [],_=>by simp[addT,putT,gT,lookT,TT]
 | (a,x)::h,nd=>by
  have nd1:a∉keyT h:=(List.nodup_cons.mp nd).1
  have nd2:(keyT h).Nodup:=(List.nodup_cons.mp nd).2
  by_cases e:a=k
  ·subst e
   rw[nR_ nd1,eh_,eh_]
   simp only
   rw[Int.add_mul,Int.add_mul]
   omega
  ·rw[mN_ e,eh_,eh_,mP_ nd2]
   omega
theorem kd_(h:Tri)(k:Int)(p:Int×Int):keyT (h.map fun q=>if q.1=k then (q.1,p) else q)=keyT h:=by
 simp only[keyT,List.map_map]
 exact List.map_congr_left fun q _=>by simp only[Function.comp];split <;> rfl
theorem dW_{h:Tri}{k:Int}{p:Int×Int}:keyT (putT h k p)=if k∈keyT h then keyT h else keyT h++[k]:=by
 unfold putT
 by_cases c:(h.any fun q=>decide (q.1=k))=true
 ·rw[if_pos c,kd_,if_pos]
  obtain⟨q,hq,e⟩:=List.any_eq_true.mp c
  exact List.mem_map.mpr ⟨q,hq,of_decide_eq_true e⟩
 ·rw[if_neg c,if_neg,keyT,List.map_append]
  ·rfl
  ·intro z
   obtain⟨q,hq,e⟩:=List.mem_map.mp z
   exact c (List.any_eq_true.mpr ⟨q,hq,decide_eq_true e⟩)
structure OkT(h:Tri)(m:Int):Prop where
 nd:(keyT h).Nodup
 bd:∀x∈keyT h,-m<=x/\x<=m
theorem OkT.nil{m:Int}:OkT [] m:=⟨by simp[keyT],fun x h=>by simp[keyT] at h⟩
theorem OkT.put{h:Tri}{m k:Int}{p:Int×Int}(o:OkT h m)(hk : -m<=k/\k<=m):OkT (putT h k p) m:=by
 refine⟨?_,?_⟩
 ·rw[dW_]
  split
  ·exact o.nd
  ·rename_i c
   exact List.nodup_append.mpr ⟨o.nd,by simp,fun a ha b hb z=>c (by simp at hb;rw[<-hb,<-z];exact ha)⟩
 ·rw[dW_]
  split
  ·exact o.bd
  ·intro x hx
   rcases List.mem_append.mp hx with hx | hx
   ·exact o.bd x hx
   ·simp at hx;rw[hx];exact hk
theorem OkT.add{h:Tri}{m k n v:Int}(o:OkT h m)(hk : -m<=k/\k<=m):OkT (addT h k n v) m:=o.put hk
theorem OkT.len{h:Tri}{m:Nat}(o:OkT h m):h.length<=2*m+1:=by
 have e:keys (h.map fun q=>(q.1,q.2.1))=keyT h:=by simp only[keys,keyT,List.map_map];rfl
 have:=Ok.len (f:=h.map fun q=>(q.1,q.2.1)) (m:=m) ⟨by rw[e];exact o.nd,by rw[e];exact o.bd⟩
 simpa using this
theorem ap_:∀ {h:Tri} {p:Int×Int×Int},(keyT h).Nodup->p∈h->lookT h p.1=some p.2
 | (a,x)::h,p,nd,hp=>by
  rcases List.mem_cons.mp hp with e | hp
  ·subst e;exact dU_
  ·have nd1:a∉keyT h:=(List.nodup_cons.mp nd).1
   have ne:a≠p.1:=fun z=>nd1 (by rw[z];exact List.mem_map.mpr ⟨p,hp,rfl⟩)
   rw[cY_ ne]
   exact ap_ (List.nodup_cons.mp nd).2 hp
theorem kc_{h:Tri}{t:Int}(e:t∉keyT h):lookT h t=none:=by
 unfold lookT
 rw[List.find?_eq_none.mpr]
 ·rfl
 ·intro q hq z
  exact e (List.mem_map.mpr ⟨q,hq,of_decide_eq_true z⟩)
theorem ps_{t:Int}(x y:Int):∀ {h:Tri},(keyT h).Nodup->TT h (fun s=>if s=t then x else 0) (fun s=>if s=t then y else 0)=(gT h t).1*x+(gT h t).2*y
 | [],_=>by simp[TT,gT,lookT]
 | (a,p)::h,nd=>by
  have nd1:a∉keyT h:=(List.nodup_cons.mp nd).1
  have nd2:(keyT h).Nodup:=(List.nodup_cons.mp nd).2
  have ih:=ps_ (t:=t) x y nd2
  rw[eh_,ih]
  by_cases e:a=t
  ·subst e
   have h0:gT h a=(0,0):=by unfold gT;rw[kc_ nd1];rfl
   rw[h0]
   unfold gT
   rw[dU_]
   simp
  ·unfold gT
   rw[cY_ e]
   simp[e]
structure Rep(h:Tri)(m:Int)(lo n:Nat)(s c:Nat->Int):Prop where
 ok:OkT h m
 eq:∀A B:Int->Int,TT h A B=ns (fun i=>c (lo+i)*(A (s (lo+i))+((lo+i:Nat):Int)*B (s (lo+i)))) n
theorem lF_{g:Nat->Int}:∀ {n:Nat},(∀i,i<n->0<=g i)->0<=ns g n
 | 0,_=>Int.le_refl _
 | n+1,h=>by
  rw[ns]
  have:=lF_ (n:=n) fun i hi=>h i (by omega)
  have:=h n (by omega)
  omega
theorem lG_{g h:Nat->Int}:∀ {n:Nat},(∀i,i<n->g i<=h i)->ns g n<=ns h n
 | 0,_=>Int.le_refl _
 | n+1,e=>by
  rw[ns,ns]
  have:=lG_ (n:=n) fun i hi=>e i (by omega)
  have:=e n (by omega)
  omega
theorem bS_(x:Int):∀n:Nat,ns (fun _=>x) n=n*x
 | 0=>by simp[ns]
 | n+1=>by rw[ns,bS_ x n];push_cast;rw[Int.add_mul];omega
theorem Rep.ways{h:Tri}{m:Int}{lo n:Nat}{s c:Nat->Int}(R:Rep h m lo n s c)(t:Int):(gT h t).1=ns (fun i=>if s (lo+i)=t then c (lo+i) else 0) n:=by
 have e:=R.eq (fun x=>if x=t then 1 else 0) (fun x=>if x=t then 0 else 0)
 rw[ps_ 1 0 R.ok.nd] at e
 rw[Int.mul_one,Int.mul_zero,Int.add_zero] at e
 rw[e]
 refine x_ fun i _=>?_
 by_cases z:s (lo+i)=t <;> simp[z]
theorem Rep.worth{h:Tri}{m:Int}{lo n:Nat}{s c:Nat->Int}(R:Rep h m lo n s c)(t:Int):(gT h t).2=ns (fun i=>if s (lo+i)=t then c (lo+i)*((lo+i:Nat):Int) else 0) n:=by
 have e:=R.eq (fun x=>if x=t then 0 else 0) (fun x=>if x=t then 1 else 0)
 rw[ps_ 0 1 R.ok.nd] at e
 rw[Int.mul_one,Int.mul_zero,Int.zero_add] at e
 rw[e]
 refine x_ fun i _=>?_
 by_cases z:s (lo+i)=t <;> simp[z]
theorem Rep.ways_in{h:Tri}{m:Int}{lo n:Nat}{s c:Nat->Int}(R:Rep h m lo n s c)(hc:∀i,0<=c i/\c i<=1)(t:Int):0<=(gT h t).1/\(gT h t).1<=n:=by
 rw[R.ways t]
 refine⟨lF_ fun i _=>?_,?_⟩
 ·split
  ·exact(hc _).1
  ·exact Int.le_refl _
 ·have h1:=bS_ 1 n
  rw[Int.mul_one] at h1
  rw[<-h1]
  refine lG_ fun i _=>?_
  split
  ·exact(hc _).2
  ·decide
theorem Rep.worth_in{h:Tri}{m:Int}{lo n:Nat}{s c:Nat->Int}(R:Rep h m lo n s c)(hc:∀i,0<=c i/\c i<=1)(t:Int):0<=(gT h t).2/\(gT h t).2<=n*((lo+n:Nat):Int):=by
 rw[R.worth t]
 have hp:∀i:Nat,i<n->0<=c (lo+i)*((lo+i:Nat):Int)/\c (lo+i)*((lo+i:Nat):Int)<=((lo+n:Nat):Int):=fun i hi=>by
  obtain⟨h1,h2⟩:=hc (lo+i)
  have h3:(0:Int)<=((lo+i:Nat):Int):=by omega
  refine⟨Int.mul_nonneg h1 h3,?_⟩
  have h4:=Int.mul_le_mul_of_nonneg_right h2 h3
  omega
 refine⟨lF_ fun i hi=>?_,?_⟩
 ·split
  ·exact(hp i hi).1
  ·exact Int.le_refl _
 ·rw[<-bS_]
  refine lG_ fun i hi=>?_
  split
  ·exact(hp i hi).2
  ·omega
end Mu
namespace Mu
open Me Mg
theorem lE_(g:Nat->Nat->Int)(m:Nat):∀n:Nat,ns (fun i=>ns (fun j=>g i j) m) n=ns (fun j=>ns (fun i=>g i j) n) m
 | 0=>by
  have e:ns (fun j=>ns (fun i=>g i j) 0) m=ns (fun _=>0) m:=rfl
  rw[e,lD_]
  rfl
 | n+1=>by
  have e:ns (fun j=>ns (fun i=>g i j) (n+1)) m=ns (fun j=>ns (fun i=>g i j) n+g n j) m:=rfl
  rw[e,fD_,<-lE_ g m n]
  rfl
theorem dr_{b d i:Nat}{r1 r2:List Int}(hb:0<b)(hi:i<b ^ r2.length):ws1 b (d*b ^ r2.length+i) (r1++r2)=ws1 b d r1+ws1 b i r2:=by
 unfold ws1 Ma.wts
 rw[List.length_append,gK_ b d i r1.length r2.length hb hi,List.zipWith_append (by rw[Ma.L_]),List.sum_append]
theorem oy_{b d:Nat}{w:Int}(hd:d<b):ws1 b d [w]=d*w:=by
 simp[ws1,Ma.wts,Ma.dws,Nat.mod_eq_of_lt hd]
theorem dl_{b d i:Nat}{w:Int}{r:List Int}(hd:d<b)(hi:i<b ^ r.length):ws1 b (d*b ^ r.length+i) (w::r)=d*w+ws1 b i r:=by
 have:=dr_ (b:=b) (d:=d) (i:=i) (r1:=[w]) (r2:=r) (by omega) hi
 rw[oy_ hd] at this
 exact this
theorem Rep.ahead{h h':Tri}{m m':Int}{b:Nat}{w:Int}{r:List Int}(R:Rep h m 0 (b ^ r.length) (fun n=>ws1 b n r) fun _=>1)(o:OkT h' m')
  (e:∀A B:Int->Int,TT h' A B=TT h (fun t=>ns (fun d=>A (t+(d:Int)*w)+(d:Int)*((b ^ r.length:Nat):Int)*B (t+(d:Int)*w)) b) fun t=>ns (fun d=>B (t+(d:Int)*w)) b) :
  Rep h' m' 0 (b ^ (w::r).length) (fun n=>ws1 b n (w::r)) fun _=>1:=by
 refine⟨o,fun A B=>?_⟩
 rw[e,R.eq,List.length_cons,Nat.pow_succ,Nat.mul_comm,gv_]
 have e1:∀i,i<b ^ r.length->1*(ns (fun d=>A (ws1 b (0+i) r+(d:Int)*w)+(d:Int)*((b ^ r.length:Nat):Int)*B (ws1 b (0+i) r+(d:Int)*w)) b+((0+i:Nat):Int)*ns (fun d=>B (ws1 b (0+i) r+(d:Int)*w)) b)=ns (fun d=>A (ws1 b i r+(d:Int)*w)+(((d*b ^ r.length+i:Nat):Int))*B (ws1 b i r+(d:Int)*w)) b:=fun i _=>by
  rw[Nat.zero_add,Int.one_mul,<-jd_,<-fD_]
  refine x_ fun d _=>?_
  push_cast
  rw[Int.add_mul ((d:Int)*_)]
  omega
 rw[x_ e1,lE_]
 refine x_ fun d hd=>x_ fun i hi=>?_
 rw[Nat.zero_add,Int.one_mul,dl_ hd hi,Int.add_comm ((d:Int)*w)]
theorem Rep.start{b:Nat}{m:Int}(hm:0<=m):Rep [(0,1,0)] m 0 (b ^ ([]:List Int).length) (fun n=>ws1 b n []) fun _=>1:=by
 refine⟨⟨by simp[keyT],fun x hx=>by simp[keyT] at hx;omega⟩,fun A B=>?_⟩
 simp[TT,ns,ws1,Ma.wts]
theorem Rep.more{h h' t:Tri}{m m' m2:Int}{b q lo n:Nat}{r1 r2:List Int}(hb:0<b)(R:Rep h m lo n (fun n=>ws1 b n (r1++r2)) fun _=>1)(hlo:lo+n=q*b ^ r2.length)(RT:Rep t m2 0 (b ^ r2.length) (fun n=>ws1 b n r2) fun _=>1)(o:OkT h' m')
  (e:∀A B:Int->Int,TT h' A B=TT h A B+TT t (fun x=>A (ws1 b q r1+x)+((q*b ^ r2.length:Nat):Int)*B (ws1 b q r1+x)) fun x=>B (ws1 b q r1+x)) :
  Rep h' m' lo (n+b ^ r2.length) (fun n=>ws1 b n (r1++r2)) fun _=>1:=by
 refine⟨o,fun A B=>?_⟩
 rw[e,R.eq,RT.eq,eC_]
 congr 1
 refine x_ fun i hi=>?_
 have e1:lo+(n+i)=q*b ^ r2.length+i:=by omega
 simp only[e1,Nat.zero_add,Int.one_mul]
 rw[dr_ hb hi]
 push_cast
 rw[Int.add_mul ((q:Int)*_)]
 omega
end Mu
namespace Mu
open Me Mg
theorem qQ_{h:Tri}{k:Int}{p:Int×Int}{A B:Int->Int}(e:k∉keyT h):TT (putT h k p) A B=TT h A B+(p.1*A k+p.2*B k):=by
 unfold putT
 rw[if_neg,ou_]
 ·simp[TT]
 ·intro z
  obtain⟨q,hq,e2⟩:=List.any_eq_true.mp z
  exact e (List.mem_map.mpr ⟨q,hq,of_decide_eq_true e2⟩)
theorem fO_{h:Tri}{i:Nat}{p:Int×Int×Int}{A B:Int->Int}(e:h[i]?=some p):TT (h.take (i+1)) A B=TT (h.take i) A B+(p.2.1*A p.1+p.2.2*B p.1):=by
 have:h.take (i+1)=h.take i++[p]:=by rw[List.take_add_one,e];rfl
 rw[this,ou_]
 simp[TT]
theorem jc_{lo n lo2 n2 st:Nat}(g:Nat->Int)(hr:(n=1)\/(lo2=0/\n2=st)):ns (fun i=>ns (fun j=>g ((lo+i)*st+(lo2+j))) n2) n=ns (fun i=>g (lo*st+lo2+i)) (n*n2):=by
 rcases hr with rfl | ⟨rfl,rfl⟩
 ·rw[Nat.one_mul]
  simp only[ns,Int.zero_add,Nat.add_zero]
  exact x_ fun j _=>by rw[Nat.add_assoc]
 ·rw[gv_]
  refine x_ fun i _=>x_ fun j _=>?_
  rw[Nat.zero_add,Nat.add_mul,Nat.add_zero,Nat.add_assoc]
theorem Rep.join{h g k:Tri}{m m2 m':Int}{lo n lo2 n2 st:Nat}{s c s2:Nat->Int}(R:Rep h m lo n s c)(R2:Rep g m2 lo2 n2 s2 fun _=>1)(hst:lo2+n2<=st)(hr:(n=1)\/(lo2=0/\n2=st))(o:OkT k m')
  (e:∀A B:Int->Int,TT k A B=TT h (fun t=>(gT g t).1*A t+(gT g t).2*B t) fun t=>(gT g t).1*(st:Int)*B t) :
  Rep k m' (lo*st+lo2) (n*n2) (fun x=>s (x / st)) (fun x=>c (x / st)*if s2 (x % st)=s (x / st) then 1 else 0):=by
 refine⟨o,fun A B=>?_⟩
 rw[e,R.eq,<-jc_ (fun x=>c (x / st)*(if s2 (x % st)=s (x / st) then 1 else 0)*(A (s (x / st))+(x:Int)*B (s (x / st)))) hr]
 refine x_ fun i hi=>?_
 rw[R2.ways,R2.worth]
 have e1:∀j,j<n2->c (((lo+i)*st+(lo2+j)) / st)*(if s2 (((lo+i)*st+(lo2+j)) % st)=s (((lo+i)*st+(lo2+j)) / st) then 1 else 0)*(A (s (((lo+i)*st+(lo2+j)) / st))+(((lo+i)*st+(lo2+j):Nat):Int)*B (s (((lo+i)*st+(lo2+j)) / st)))
   = c (lo+i)*((if s2 (lo2+j)=s (lo+i) then 1 else 0)*(A (s (lo+i))+((lo+i:Nat):Int)*(st:Int)*B (s (lo+i)))+(if s2 (lo2+j)=s (lo+i) then 1*((lo2+j:Nat):Int) else 0)*B (s (lo+i))):=fun j hj=>by
  have hlt:lo2+j<st:=by omega
  have q1:((lo+i)*st+(lo2+j)) / st=lo+i:=by
   rw[Nat.mul_comm,Nat.mul_add_div (by omega),Nat.div_eq_of_lt hlt,Nat.add_zero]
  have q2:((lo+i)*st+(lo2+j)) % st=lo2+j:=by
   rw[Nat.mul_comm,Nat.mul_add_mod,Nat.mod_eq_of_lt hlt]
  rw[q1,q2]
  by_cases z:s2 (lo2+j)=s (lo+i)
  ·rw[if_pos z,if_pos z]
   push_cast
   rw[Int.mul_assoc]
   congr 1
   rw[Int.one_mul,Int.one_mul,Int.one_mul,Int.add_mul (((lo:Int)+i)*st)]
   omega
  ·rw[if_neg z,if_neg z]
   simp
 rw[x_ e1,jd_,fD_]
 congr 1
 have f1:∀(X:Int) (u:Nat->Int),ns (fun j=>u j*X) n2=ns u n2*X:=fun X u=>by
  have:(fun j=>u j*X)=fun j=>X*u j:=funext fun j=>Int.mul_comm _ _
  rw[this,jd_,Int.mul_comm]
 rw[f1,f1]
 generalize ns (fun j=>if s2 (lo2+j)=s (lo+i) then 1 else 0) n2=W
 generalize ns (fun j=>if s2 (lo2+j)=s (lo+i) then 1*((lo2+j:Nat):Int) else 0) n2=V
 have f2:((lo+i:Nat):Int)*(W*(st:Int)*B (s (lo+i)))=W*(((lo+i:Nat):Int)*(st:Int)*B (s (lo+i))):=by
  rw[Int.mul_assoc W,<-Int.mul_assoc,Int.mul_comm _ W,Int.mul_assoc W,<-Int.mul_assoc ((lo+i:Nat):Int)]
 rw[f2,Int.mul_add]
 omega
theorem Rep.whole{h:Tri}{m:Int}{lo n:Nat}{s c:Nat->Int}(R:Rep h m lo n s c):(h.map fun q=>q.2.2).sum=ns (fun i=>c (lo+i)*((lo+i:Nat):Int)) n:=by
 have e:=R.eq (fun _=>0) (fun _=>1)
 have e1:TT h (fun _=>0) (fun _=>1)=(h.map fun q=>q.2.2).sum:=by
  unfold TT
  congr 1
  exact List.map_congr_left fun q _=>by simp
 rw[<-e1,e]
 exact x_ fun i _=>by simp
end Mu
namespace Hv
open PySem L2
abbrev PT(H:Hp)(kvs:List (Key×V))(h:Mu.Tri):Prop:=Paired (fun kv p=>kv.1=Sum.inl p.1/\∃t,kv.2=V.ref t/\H t=some (.tup [.int p.2.1,.int p.2.2])) kvs h
theorem PT.tups{H H':Hp}{kvs:List (Key×V)}{f:Mu.Tri}(h:PT H kvs f)(k:∀t xs,H t=some (.tup xs)->H' t=some (.tup xs)):PT H' kvs f:=L2.Paired.mapP h fun _ _ ⟨e,t,e2,e3⟩=>⟨e,t,e2,k _ _ e3⟩
theorem PT.keep{H H':Hp}{kvs:List (Key×V)}{f:Mu.Tri}(h:PT H kvs f)(s:Same H H'):PT H' kvs f:=PT.tups h fun _ _ e=>s _ _ e
theorem PT.kp{H H':Hp}{d:Addr}{o:HO}{kvs:List (Key×V)}{f:Mu.Tri}(h:PT H kvs f)(k:Kp [d] H H')(hd:H d=some o)(ho:∀xs,o≠.tup xs):PT H' kvs f:=PT.tups h fun t xs e=>k _ _ e fun z=>by
 have z':t=d:=by simpa using z
 rw[z',hd] at e
 exact ho _ (Option.some.inj e)
theorem PT.len{H:Hp}:∀ {kvs:List (Key×V)} {f:Mu.Tri},PT H kvs f->kvs.length=f.length
 | _,_,.nil=>rfl
 | _,_,.cons _ t=>congrArg (·+1) (PT.len t)
theorem PT.val{H:Hp}(k:Int):∀ {kvs:List (Key×V)} {f:Mu.Tri},PT H kvs f->(valV kvs (Sum.inl k)=none/\Mu.lookT f k=none)\/∃n t,Mu.lookT f k=some n/\valV kvs (Sum.inl k)=some (.ref t)/\H t=some (.tup [.int n.1,.int n.2])
 | _,_,.nil=>.inl ⟨rfl,rfl⟩
 | kv::kvs,p::f,.cons ⟨e,t,e2,e3⟩ r=>by
  by_cases h:p.1=k
  ·refine .inr ⟨p.2,t,?_,?_,e3⟩
   ·simp[Mu.lookT,List.find?_cons,h]
   ·rw[bD_ (by rw[e,h]),e2]
  ·have h1:valV (kv::kvs) (Sum.inl k)=valV kvs (Sum.inl k):=bE_ (by rw[e];exact fun z=>h (Sum.inl.inj z))
   have h2:Mu.lookT (p::f) k=Mu.lookT f k:=by simp[Mu.lookT,List.find?_cons,h]
   rw[h1,h2]
   exact PT.val k r
theorem PT.any{H:Hp}(k:Int):∀ {kvs:List (Key×V)} {f:Mu.Tri},PT H kvs f->(kvs.any fun kv=>decide (kv.1=Sum.inl k))=f.any fun p=>decide (p.1=k)
 | _,_,.nil=>rfl
 | kv::kvs,p::f,.cons ⟨e,_⟩ r=>by
  rw[List.any_cons,List.any_cons,PT.any k r]
  congr 1
  rw[e]
  by_cases h:p.1=k
  ·simp[h]
  ·have h':¬ (Sum.inl p.1:Key)=Sum.inl k:=fun z=>h (Sum.inl.inj z)
   simp[h,h']
theorem PT.repl{H:Hp}{k:Int}{n:Int×Int}{t:Addr}(ht:H t=some (.tup [.int n.1,.int n.2])):∀ {kvs:List (Key×V)} {f:Mu.Tri},PT H kvs f->PT H (kvs.map fun kv=>if kv.1=Sum.inl k then (kv.1,V.ref t) else kv) (f.map fun p=>if p.1=k then (p.1,n) else p)
 | _,_,.nil=>.nil
 | kv::kvs,p::f,.cons ⟨e,u,e2,e3⟩ r=>by
  rw[List.map_cons,List.map_cons]
  refine .cons ?_ (PT.repl ht r)
  by_cases h:p.1=k
  ·rw[if_pos h,if_pos (by rw[e,h])]
   exact⟨e,t,rfl,ht⟩
  ·rw[if_neg h,if_neg (by rw[e];exact fun z=>h (Sum.inl.inj z))]
   exact⟨e,u,e2,e3⟩
theorem PT.put{H:Hp}{k:Int}{n:Int×Int}{t:Addr}{kvs:List (Key×V)}{f:Mu.Tri}(h:PT H kvs f)(ht:H t=some (.tup [.int n.1,.int n.2])):PT H (putK kvs (Sum.inl k) (.ref t)) (Mu.putT f k n):=by
 unfold putK Mu.putT
 rw[PT.any k h]
 split
 ·exact PT.repl ht h
 ·exact Paired.snoc h ⟨rfl,t,rfl,ht⟩
def iz_:Sp:=fun vs H Q _=>∃(d:Addr) (kvs:List (Key×V)) (f:Mu.Tri) (t n v:Int),vs=[.ref d,.int t,.int n,.int v]/\H d=some (.dK kvs)/\PT H kvs f/\f.length<=100000/\
 ∀(kvs':List (Key×V)) (H':Hp),H' d=some (.dK kvs')->PT H' kvs' (Mu.addT f t n v)->Kp [d] H H'->Q .non H'
section
variable{P:Program}{w:World}{K:PySem.W.Frag}{mg:Str->Option Value}{base:Heap}
theorem pa_{f:Addr}{fd:FuncData}(F:Fun K "add_rows" "add_rows" dn_ f fd):FnOk P w K mg base CX0 1 f fd ["by_sums","total","ways","worth"] iz_:=by
 refine F.ok cw_ (fun vs H Q E h=>?_) (fun cdv A outer s H vs Q E hr h=>?_)
 ·obtain⟨d,kvs,f,t,n,v,rfl,_⟩:=h;rfl
 ·obtain⟨d,kvs,f,t,n,v,rfl,hd,pd,hl,k⟩:=h
  have nd:=cw_.nd
  have hu:=cD_ hr
  refine⟨_,b_ (k_ (i:=4) nd rfl (Or.inl rfl) (bR_ hu (pv 0) (pv 1) (aS_ (a_ e_ (a_ e_ d_))) ⟨rfl,rfl,rfl,rfl⟩))
   (g_ (cX_ hu (pv 0) (pv 1) (aS_ (a_ (l_ r_ (ixt (pv 4) e_) (pv 2)) (a_ (l_ r_ (ixt (pv 4) e_) (pv 3)) d_))) rfl)),?_⟩
  refine⟨_,rfl,d,rfl,.inl ⟨_,.inl hd⟩,_,rfl,sz (by simp),fun p hp=>?_⟩
  have s1:=h_ (o:=.tup [.int 0,.int 0]) hp
  have u1:(upd H p (.tup [.int 0,.int 0])) p=some (.tup [.int 0,.int 0]):=c_
  generalize upd H p (.tup [.int 0,.int 0])=H1 at s1 u1⊢
  have hd1:=s1 _ _ hd
  have pd1:=pd.keep s1
  have key:∃x,(valV kvs (Sum.inl t)).getD (.ref p)=.ref x/\H1 x=some (.tup [.int (Mu.gT f t).1,.int (Mu.gT f t).2]):=by
   unfold Mu.gT
   rcases PT.val t pd1 with⟨e1,e2⟩ | ⟨m,x,e1,e2,e3⟩
   ·rw[e1,e2];exact⟨p,rfl,u1⟩
   ·rw[e1,e2];exact⟨x,rfl,e3⟩
  obtain⟨x,ex,hx⟩:=key
  refine⟨valV kvs (Sum.inl t),.inl ⟨kvs,Sum.inl t,.inl hd1,rfl,rfl⟩,?_⟩
  rw[ex]
  refine⟨_,rfl,x,_,0,_,rfl,rfl,SqT.of hx,rfl,_,rfl,_,_,rfl,rfl,?_⟩
  refine⟨_,rfl,x,_,1,_,rfl,rfl,SqT.of hx,rfl,_,rfl,_,_,rfl,rfl,sz (by simp),fun q hq=>?_⟩
  have s2:=h_ (o:=.tup [.int ((Mu.gT f t).1+n),.int ((Mu.gT f t).2+v)]) hq
  have u2:(upd H1 q (.tup [.int ((Mu.gT f t).1+n),.int ((Mu.gT f t).2+v)])) q=some (.tup [.int ((Mu.gT f t).1+n),.int ((Mu.gT f t).2+v)]):=c_
  have hd2:=s2 _ _ hd1
  have pd2:=PT.keep pd1 s2
  have kp2:Kp [d] H (upd H1 q (.tup [.int ((Mu.gT f t).1+n),.int ((Mu.gT f t).2+v)])):=Kp.of (s1.trans s2)
  have e2:(upd H1 q (.tup [(fun i j=>V.int (i+j)) (Mu.gT f t).1 n,(fun i j=>V.int (i+j)) (Mu.gT f t).2 v]))=upd H1 q (.tup [.int ((Mu.gT f t).1+n),.int ((Mu.gT f t).2+v)]):=rfl
  rw[e2]
  generalize upd H1 q (.tup [.int ((Mu.gT f t).1+n),.int ((Mu.gT f t).2+v)])=H2 at s2 u2 hd2 pd2 kp2⊢
  refine⟨_,rfl,_,rfl,d,_,rfl,DPut.k (k:=Sum.inl t) hd2 (szl (by rw[PT.len pd];omega)),?_⟩
  have kp3:=O_ (o:=.dK (putK kvs (Sum.inl t) (.ref q))) kp2 (.inl (show d∈[d] by simp))
  exact k _ _ c_ (PT.kp (PT.put (n:=((Mu.gT f t).1+n,(Mu.gT f t).2+v)) pd2 u2) (O_ Kp.refl (.inl (by simp))) hd2 (fun xs z=>nomatch z)) kp3
end
abbrev RepA(h:Mu.Tri)(m:Int)(b:Nat)(r:List Int):Prop:=Mu.Rep h m 0 (b ^ r.length) (fun n=>Mg.ws1 b n r) fun _=>1
theorem one01:∀i:Nat,(0:Int)<=(fun _:Nat=>(1:Int)) i/\(fun _:Nat=>(1:Int)) i<=1:=fun _=>⟨Int.zero_le_ofNat 1,Int.le_refl 1⟩
theorem RepA.ent{h:Mu.Tri}{m:Int}{b:Nat}{r:List Int}(R:RepA h m b r)(hb:b<=16)(hr:r.length<=6){p:Int×Int×Int}(hp:p∈h):(0<=p.2.1/\p.2.1<=16777216)/\(0<=p.2.2/\p.2.2<=16777216*16777216):=by
 have e:Mu.gT h p.1=p.2:=by unfold Mu.gT;rw[Mu.ap_ R.ok.nd hp];rfl
 have h1:=R.ways_in one01 p.1
 have h2:=R.worth_in one01 p.1
 rw[e] at h1 h2
 have hpw:b ^ r.length<=16 ^ 6:=Nat.le_trans (Nat.pow_le_pow_left hb _) (Nat.pow_le_pow_right (by decide) hr)
 have h16:(16:Nat) ^ 6=16777216:=by decide
 have hk:((b ^ r.length:Nat):Int)<=16777216:=by omega
 refine⟨⟨h1.1,by omega⟩,h2.1,Int.le_trans h2.2 ?_⟩
 rw[Nat.zero_add]
 exact Int.mul_le_mul hk hk (by omega) (by decide)
def fc_:Sp:=fun vs H Q _=>∃(a:Addr) (kvs:List (Key×V)) (h:Mu.Tri) (b:Nat) (w:Int) (r:List Int) (m:Nat),vs=[.ref a,.int b,.int w,.int ((b ^ r.length:Nat):Int)]/\H a=some (.dK kvs)/\PT H kvs h/\RepA h m b r/\m<=1000/\b<=16/\(-9<=w/\w<=9)/\r.length<=6/\
 ∀(p:Addr) (kvs':List (Key×V)) (h':Mu.Tri) (H':Hp),H p=none->Same H H'->H' p=some (.dK kvs')->PT H' kvs' h'->RepA h' ((m:Int)+135) b (w::r)->Q (.ref p) H'
def fA(b:Nat)(w:Int)(st:Int)(A B:Int->Int)(n:Nat)(t:Int):Int:=Mg.ns (fun d=>A (t+(d:Int)*w)+(d:Int)*st*B (t+(d:Int)*w)) n
def fB(w:Int)(B:Int->Int)(n:Nat)(t:Int):Int:=Mg.ns (fun d=>B (t+(d:Int)*w)) n
theorem qH_(n v x y ds N V A B:Int):N+(n*x+v*y)+(n*A+(v+ds*n)*B)=N+(n*(x+(A+ds*B))+v*(y+B)):=by
 have e1:ds*n*B=n*(ds*B):=by rw[Int.mul_comm ds n,Int.mul_assoc]
 rw[Int.add_mul,e1,Int.mul_add,Int.mul_add,Int.mul_add]
 omega
section
variable{P:Program}{w:World}{K:PySem.W.Frag}{mg:Str->Option Value}{base:Heap}
theorem lB_{f:Addr}{fd:FuncData}(F:Fun K "with_figure_ahead" "with_figure_ahead" iJ_ f fd)(T:Txt mg)(DA:Def P w K mg base 1 "add_rows" ["by_sums","total","ways","worth"] iz_):FnOk P w K mg base CX0 2 f fd ["tail","base","weight","stand"] fc_:=by
 refine F.ok fh_ (fun vs H Q E h=>?_) (fun cdv A outer s H vs Q E hr h=>?_)
 ·obtain⟨a,kvs,f,b,wt,r,m,rfl,_⟩:=h;rfl
 ·obtain⟨a,kvs,f,b,wt,r,m,rfl,ha,pd,R,hm,hb,hw,hr6,k⟩:=h
  have nd:=fh_.nd
  have hu:=cD_ hr
  have hpw:b ^ r.length<=16 ^ 6:=Nat.le_trans (Nat.pow_le_pow_left hb _) (Nat.pow_le_pow_right (by decide) hr6)
  have h16:(16:Nat) ^ 6=16777216:=by decide
  have hst:(0:Int)<=((b ^ r.length:Nat):Int)/\((b ^ r.length:Nat):Int)<=268435456:=by omega
  refine⟨_,b_ (k_ (i:=4) nd rfl (Or.inl rfl) be_)
   (b_ (B_ PassesOwn.never rfl (cj_ (pv 0)) (n_ (i:=5) nd rfl (Or.inl rfl))
    (b_ (k_ (i:=6) nd rfl (Or.inl rfl) (ixt (ar_ hu (pv 0) (pv 5) (fun _ _=>rfl)) e_))
    (b_ (k_ (i:=7) nd rfl (Or.inl rfl) (ixt (ar_ hu (pv 0) (pv 5) (fun _ _=>rfl)) e_))
    (g_ (B_ PassesOwn.never rfl (C_ (by rfl) T.range (a_ (pv 1) d_)) (n_ (i:=8) nd rfl (Or.inl rfl))
     (g_ (y_ (m_ DA hr (by rfl) (a_ (pv 4) (a_ (l_ r_ (pv 5) (l_ F_ (pv 8) (pv 2))) (a_ (pv 6) (a_ (l_ r_ (pv 7) (l_ F_ (l_ F_ (pv 8) (pv 3)) (pv 6))) d_))))))))))))
   (bd_ (g_ (o_ (pv 4))))),?_⟩
  intro l hl
  have nal:a≠l:=f_ ha hl
  generalize est:((b ^ r.length:Nat):Int)=st at hst⊢
  refine⟨_,rfl,a,kvs,rfl,(by rw[j_ nal];exact ha),fun o=>bh_ (fun i σ H2=>∃v5 v6 v7 v8,σ=[some (.ref a),some (.int b),some (.int wt),some (.int st),some (.ref l),v5,v6,v7,v8]/\H2 a=some (.frz o (.dK kvs))/\Kp [a] H H2/\∃kl hl',H2 l=some (.dK kl)/\PT H2 kl hl'/\Mu.OkT hl' ((m:Int)+135)/\∀A B,Mu.TT hl' A B=Mu.TT (f.take i) (fA b wt st A B b) (fB wt B b))
   ⟨none,none,none,none,rfl,c_,O_ (O_ Kp.refl (.inr hl)) (.inl (by simp)),[],[],?_,.nil,Mu.OkT.nil,fun A B=>rfl⟩ (fun i σ H2 _ h=>by obtain⟨_,_,_,_,_,z,_⟩:=h;exact z) ?_ ?_⟩
  ·rw[j_ nal.symm,c_]
  ·rintro i kk v σ H2 hk ⟨v5,v6,v7,v8,rfl,fa,kp,kl,hl',hl2,pl,ok0,e0⟩
   obtain⟨p,hp,hkk,_⟩:=Paired.at pd hk
   have hkk':kk=Sum.inl p.1:=hkk
   subst hkk'
   have pm:=List.mem_of_getElem? hp
   have pb:=R.ok.bd p.1 (List.mem_map.mpr ⟨p,pm,rfl⟩)
   have pe:=RepA.ent R hb hr6 pm
   have pd2:PT H2 kvs f:=PT.kp pd kp ha (fun xs z=>nomatch z)
   obtain⟨t,et,ht⟩:∃t,valV kvs (Sum.inl p.1)=some (.ref t)/\H2 t=some (.tup [.int p.2.1,.int p.2.2]):=by
    rcases PT.val p.1 pd2 with⟨e1,e2⟩ | ⟨m,x,e1,e2,e3⟩
    ·rw[Mu.ap_ R.ok.nd pm] at e2;cases e2
    ·rw[Mu.ap_ R.ok.nd pm] at e1
     cases e1
     exact⟨x,e2,e3⟩
   have dg:DGet H2 a (.int p.1) (some (.ref t)):=.inl ⟨kvs,Sum.inl p.1,.inr ⟨o,fa⟩,rfl,et.symm⟩
   refine⟨_,rfl,_,rfl,a,.ref t,rfl,dg,t,_,0,_,rfl,rfl,SqT.of ht,rfl,?_⟩
   refine⟨_,rfl,_,rfl,a,.ref t,rfl,dg,t,_,1,_,rfl,rfl,SqT.of ht,rfl,?_⟩
   refine⟨_,rfl,_,rfl,by omega,by omega,K_ (n:=(b:Int).toNat) (fun d σ H3=>∃v8,σ=[some (.ref a),some (.int b),some (.int wt),some (.int st),some (.ref l),some (.int p.1),some (.int p.2.1),some (.int p.2.2),v8]/\H3 a=some (.frz o (.dK kvs))/\Kp [a] H H3/\∃kl hl',H3 l=some (.dK kl)/\PT H3 kl hl'/\Mu.OkT hl' ((m:Int)+135)/\∀A B,Mu.TT hl' A B=Mu.TT (f.take i) (fA b wt st A B b) (fB wt B b)+(p.2.1*fA b wt st A B d p.1+p.2.2*fB wt B d p.1))
    ⟨v8,rfl,fa,kp,kl,hl',hl2,pl,ok0,fun A B=>by rw[e0];simp[fA,fB,Mg.ns]⟩ ?_ ?_⟩
   ·rintro d σ H3 hd ⟨v8,rfl,fa3,kp3,kl3,hl3',hl3,pl3,ok3,e3⟩
    have hd':d<b:=by omega
    have hlen:=Mu.OkT.len (m:=m+135) (by push_cast;exact ok3)
    have hds:(d:Int)*st<=15*268435456:=Int.mul_le_mul (by omega) hst.2 hst.1 (by decide)
    have hds0:0<=(d:Int)*st:=Int.mul_nonneg (by omega) hst.1
    refine⟨_,rfl,_,rfl,_,rfl,_,rfl,_,_,rfl,rfl,.inr ⟨by omega,by omega⟩,_,_,rfl,rfl,?_⟩
    refine⟨_,rfl,_,rfl,_,rfl,_,rfl,_,_,rfl,rfl,.inr ⟨by omega,by omega⟩,_,rfl,_,_,rfl,rfl,.inl ⟨?_,?_⟩,_,_,rfl,rfl,?_⟩
    ·show -(2 ^ 64)<((0:Int)+(d:Int))*st
     rw[Int.zero_add];omega
    ·show((0:Int)+(d:Int))*st<2 ^ 64
     rw[Int.zero_add];omega
    refine⟨l,kl3,_,_,_,_,rfl,hl3,pl3,by omega,fun kvs' H4 h4 pd4 kp4=>⟨_,rfl,?_,?_,kvs',_,h4,pd4,?_,fun A B=>?_⟩⟩
    ·exact kp4 _ _ fa3 (by simpa using nal)
    ·intro x ob e n
     have hxl:x≠l:=f_ e hl
     exact kp4 _ _ (kp3 _ _ e n) (by simpa using hxl)
    ·refine ok3.add ?_
     show -((m:Int)+135)<=p.1+((0:Int)+(d:Int))*wt/\p.1+((0:Int)+(d:Int))*wt<=(m:Int)+135
     rw[Int.zero_add]
     exact Me.hh_ pb hw hb hd'
    ·rw[Mu.mP_ ok3.nd,e3 A B]
     have z0:(0:Int)+(d:Int)=(d:Int):=Int.zero_add _
     rw[z0]
     exact qH_ _ _ _ _ _ _ 0 _ _
   ·rintro σ H3 ⟨v8,rfl,fa3,kp3,kl3,hl3',hl3,pl3,ok3,e3⟩
    refine⟨_,_,_,_,rfl,fa3,kp3,kl3,hl3',hl3,pl3,ok3,fun A B=>?_⟩
    have eb:(b:Int).toNat=b:=by omega
    rw[e3 A B,Mu.fO_ hp,eb]
  ·rintro σ H2 ⟨v5,v6,v7,v8,rfl,fa,kp,kl,hl',hl2,pl,ok0,e0⟩
   have el:kvs.length=f.length:=PT.len pd
   rw[el,List.take_length] at e0
   refine⟨a,o,kvs,fa,(fun o' u z=>by
    have z':H a=some (.frz o' u):=z
    rw[ha] at z';cases z'),_,rfl,k l kl hl' _ hl (fun x ob e=>?_) (by rw[j_ nal.symm];exact hl2) (PT.tups pl fun t xs e=>?_) (Mu.Rep.ahead R ok0 fun A B=>?_)⟩
   ·by_cases hx:x=a
    ·rw[hx,c_,<-ha,<-hx];exact e
    ·rw[j_ hx];exact kp x ob e (by simpa using hx)
   ·have hx:t≠a:=fun z=>by rw[z,fa] at e;cases e
    rw[j_ hx];exact e
   ·rw[e0 A B,<-est]
    rfl
end
def EndAt(H:Hp)(b:Nat)(us:List Addr)(ws:List Int)(i:Nat):Prop:=us.length=i+1/\∀j,j<=i->∃t kvs h,us[j]?=some t/\H t=some (.dK kvs)/\PT H kvs h/\RepA h (135*(j:Int)) b (ws.drop (ws.length-j))
theorem EndAt.keep{H H':Hp}{b i:Nat}{us:List Addr}{rs:List Int}(h:EndAt H b us rs i)(s:Same H H'):EndAt H' b us rs i :=
 ⟨h.1,fun j hj=>let ⟨t,kvs,h,e1,e2,e3,e4⟩:=h.2 j hj;⟨t,kvs,h,e1,s _ _ e2,PT.keep e3 s,e4⟩⟩
theorem EndAt.kp{H H':Hp}{b i:Nat}{us:List Addr}{rs:List Int}{d:Addr}{xs:List V}(h:EndAt H b us rs i)(k:Kp [d] H H')(hd:H d=some (.lst xs)):EndAt H' b us rs i :=
 ⟨h.1,fun j hj=>let ⟨t,kvs,h,e1,e2,e3,e4⟩:=h.2 j hj;⟨t,kvs,h,e1,k _ _ e2 (fun z=>by
  have z':t=d:=by simpa using z
  rw[z',hd] at e2;cases e2),PT.kp e3 k hd (fun xs z=>nomatch z),e4⟩⟩
def eI_(H:Hp)(b:Nat)(ts:List Addr)(ws:List Int):Prop:=∀i,i<=ws.length->∃t kvs h,ts[i]?=some t/\H t=some (.dK kvs)/\PT H kvs h/\RepA h (135*((ws.length-i:Nat):Int)) b (ws.drop i)
theorem eI_.keep{H H':Hp}{b:Nat}{ts:List Addr}{ws:List Int}(h:eI_ H b ts ws)(s:Same H H'):eI_ H' b ts ws :=
 fun j hj=>let ⟨t,kvs,h,e1,e2,e3,e4⟩:=h j hj;⟨t,kvs,h,e1,s _ _ e2,PT.keep e3 s,e4⟩
def eV_:Sp:=fun vs H Q _=>∃(b:Nat) (c:Addr) (ws:List Int),vs=[.int b,.ref c]/\H c=some (.lst (ws.map V.int))/\b<=16/\(∀x∈ws,-9<=x/\x<=9)/\ws.length<=6/\
 ∀(p:Addr) (ts:List Addr) (H':Hp),H p=none->Same H H'->H' p=some (.lst (ts.map V.ref))->ts.length=ws.length+1->eI_ H' b ts ws->Q (.ref p) H'
theorem pP_{ws:List Int}{i:Nat}{x:Int}(h:ws.reverse[i]?=some x):ws.drop (ws.length-(i+1))=x::ws.drop (ws.length-i):=by
 have hi:i<ws.length:=by have:=(List.getElem?_eq_some_iff.mp h).1;simpa using this
 rw[List.getElem?_reverse hi] at h
 have e:ws.length-1-i=ws.length-(i+1):=by omega
 rw[e] at h
 obtain⟨h1,h2⟩:=List.getElem?_eq_some_iff.mp h
 rw[List.drop_eq_getElem_cons h1,h2]
 congr 2
 omega
section
variable{P:Program}{w:World}{K:PySem.W.Frag}{mg:Str->Option Value}{base:Heap}
theorem lv_{f:Addr}{fd:FuncData}(F:Fun K "worth_tails" "worth_tails" dd_ f fd)(T:Txt mg)(DS:Def P w K mg base 1 "stands_of" ["base","length"] bI_)(DA:Def P w K mg base 2 "with_figure_ahead" ["tail","base","weight","stand"] fc_):FnOk P w K mg base CX0 3 f fd ["base","weights"] eV_:=by
 refine F.ok ff_ (fun vs H Q E h=>?_) (fun cdv A outer s H vs Q E hr h=>?_)
 ·obtain⟨b,c,ws,rfl,_⟩:=h;rfl
 ·obtain⟨b,c,ws,rfl,hc,hb,hw,hl6,k⟩:=h
  have nd:=ff_.nd
  rw[qN_]
  refine⟨_,b_ (k_ (i:=2) nd rfl (Or.inl rfl) (m_ DS hr.mo (by rfl) (a_ (pv 0) (a_ (lenS T.len (by rfl) (pv 1)) d_))))
   (b_ (k_ (i:=3) nd rfl (Or.inl rfl) pX_ (pI_ _ _ _ _))
   (b_ (B_ PassesOwn.never rfl (oc_ (by rfl) T.rev (pv 1)) (n_ (i:=4) nd rfl (Or.inl rfl))
    (g_ (y_ (bv_ PySem.F.plainAttrs_list PySem.F.slot_list_append PySem.F.type_list_append H_ (pv 3) (a_ (m_ DA hr (by rfl) (a_ (ixl (pv 3) (hD_ du_ e_)) (a_ (pv 0) (a_ (pv 4) (a_ (ixl (pv 2) (l_ Q_ (lenS T.len (by rfl) (pv 3)) e_)) d_))))) d_)))))
   (g_ (o_ (hE_ rfl T.list T.rev (by rfl) (by rfl) (pv 3)))))),?_⟩
  refine⟨_,rfl,_,rfl,c,_,rfl,.inl (SqL.of hc),b,ws.length,by simp,hb,hl6,fun p H1 hp s1 hp1=>?_⟩
  refine fun d0 hd0=>?_
  refine⟨sz (by simp),fun t0 ht0=>?_⟩
  have nt:d0≠t0:=f_ c_ ht0
  have u0:(upd (upd H1 d0 (.dK [])) t0 (.tup [.int 1,.int 0])) d0=some (.dK []):=by rw[j_ nt];exact c_
  have v0:(upd (upd H1 d0 (.dK [])) t0 (.tup [.int 1,.int 0])) t0=some (.tup [.int 1,.int 0]):=c_
  have s2:Same H1 (upd (upd H1 d0 (.dK [])) t0 (.tup [.int 1,.int 0])):=(h_ hd0).trans (h_ ht0)
  generalize upd (upd H1 d0 (.dK [])) t0 (.tup [.int 1,.int 0])=H2 at u0 v0 s2⊢
  refine⟨u0,[(Sum.inl 0,.ref t0)],rfl,Nat.succ_le_succ (Nat.zero_le _),?_⟩
  have s3:Same H1 (upd H2 d0 (.dK (W_ [] [(Sum.inl 0,.ref t0)]))):=t_ s2 hd0
  have u3:(upd H2 d0 (.dK (W_ [] [(Sum.inl 0,.ref t0)]))) d0=some (.dK [(Sum.inl 0,.ref t0)]):=c_
  have v3:(upd H2 d0 (.dK (W_ [] [(Sum.inl 0,.ref t0)]))) t0=some (.tup [.int 1,.int 0]):=by rw[j_ nt.symm];exact v0
  generalize upd H2 d0 (.dK (W_ [] [(Sum.inl 0,.ref t0)]))=H3 at s3 u3 v3⊢
  refine⟨sz (by simp),fun l hl=>?_⟩
  have s4:Same H3 (upd H3 l (.lst [.ref d0])):=h_ hl
  have S4:=s1.trans (s3.trans s4)
  have hlH:H l=none:=s1.free (s3.free hl)
  have u4:(upd H3 l (.lst [.ref d0])) l=some (.lst ([d0].map V.ref)):=c_
  have B4:EndAt (upd H3 l (.lst [.ref d0])) b [d0] ws 0:=⟨rfl,fun j hj=>by
   have:j=0:=by omega
   subst this
   refine⟨d0,_,[(0,1,0)],rfl,s4 _ _ u3,.cons ⟨rfl,t0,rfl,s4 _ _ v3⟩ .nil,?_⟩
   rw[Nat.sub_zero,List.drop_length]
   exact Mu.Rep.start (by decide)⟩
  have p4:=(s3.trans s4) _ _ hp1
  have npl:p≠l:=f_ (s3 _ _ hp1) hl
  have c4:=S4 _ _ hc
  generalize upd H3 l (.lst [.ref d0])=H4 at s4 S4 u4 B4 p4 c4⊢
  refine⟨_,rfl,c,ws.map V.int,rfl,SqL.of c4,mg_ (K:=K) (a:=c) (xs:=ws.map V.int) (fun i σ H5=>∃(us:List Addr) (v4:Option V),σ=[some (.int b),some (.ref c),some (.ref p),some (.ref l),v4]/\Same H H5/\H5 p=some (.lst ((powL b ws.length).map V.int))/\H5 l=some (.lst (us.map V.ref))/\EndAt H5 b us ws i)
   ⟨[d0],none,rfl,S4,p4,u4,B4⟩ (fun i σ H5 _ h=>by obtain⟨_,_,_,t,_⟩:=h;exact SqL.of (t _ _ hc)) ?_ ?_⟩
  ·rintro i x σ H5 hx ⟨us,v4,rfl,s5,p5,l5,B5⟩
   rw[<-List.map_reverse,List.getElem?_map] at hx
   obtain⟨wt,hwt,rfl⟩:∃wt,ws.reverse[i]?=some wt/\x=.int wt:=by
    cases e:ws.reverse[i]? with
    | none=>rw[e] at hx;cases hx
    | some d=>rw[e] at hx;exact⟨d,rfl,(Option.some.inj hx).symm⟩
   have hi:i<ws.length:=by have:=(List.getElem?_eq_some_iff.mp hwt).1;simpa using this
   obtain⟨t,kvs,h,e1,e2,e3,e4⟩:=B5.2 i (Nat.le_refl _)
   have el:(ws.drop (ws.length-i)).length=i:=by rw[List.length_drop];omega
   have eln:(((us.map V.ref).length:Nat):Int)-1=(i:Int):=by rw[List.length_map,B5.1];omega
   have est:atI ((powL b ws.length).map V.int) (i:Int)=some (.int ((b ^ (ws.drop (ws.length-i)).length:Nat):Int)):=by
    rw[el]
    exact ab_ (by rw[List.getElem?_map,fs_ (by omega)];rfl)
   have hw' : -9<=wt/\wt<=9:=hw wt (by have:=List.mem_of_getElem? hwt;simpa using this)
   refine⟨_,rfl,.inl ⟨rfl,_,SqL.of l5⟩,_,rfl,_,rfl,br_ l5 (gV_ B5.1 e1) ⟨_,rfl,_,rfl,_,rfl,_,rfl,l,_,rfl,.inl (SqL.of l5),_,_,rfl,rfl,?_⟩⟩
   refine⟨p,_,(((us.map V.ref).length:Nat):Int)-1,_,rfl,rfl,SqL.of p5,by rw[eln];exact est,?_⟩
   refine⟨t,kvs,h,b,wt,_,135*i,rfl,e2,e3,by push_cast;exact e4,by omega,hb,hw',by omega,fun q kvs' h' H6 hq s6 h6 pd6 R6=>?_⟩
   refine⟨l,_,_,rfl,rfl,s6 _ _ l5,szl (by rw[List.length_map,B5.1];omega),us++[q],_,rfl,t_ (s5.trans s6) hlH,?_,?_,?_⟩
   ·rw[j_ npl];exact s6 _ _ p5
   ·rw[c_,List.map_append];rfl
   ·have B6:=(B5.keep s6).kp (H':=upd H6 l (.lst (us.map V.ref++[V.ref q]))) (O_ Kp.refl (.inl (by simp))) (s6 _ _ l5)
    have nql:q≠l:=hV_ h6 (s6 _ _ l5) (by intro z;cases z)
    refine⟨by rw[List.length_append,B5.1];rfl,fun j hj=>?_⟩
    by_cases hji:j<=i
    ·obtain⟨t',kv',h',a1,a2,a3,a4⟩:=B6.2 j hji
     exact⟨t',kv',h',by rw[List.getElem?_append_left (by rw[B5.1];omega)];exact a1,a2,a3,a4⟩
    ·have ej:j=i+1:=by omega
     subst ej
     refine⟨q,kvs',h',by rw[List.getElem?_append_right (by rw[B5.1];omega),B5.1];simp,by rw[j_ nql];exact h6,PT.kp pd6 (O_ Kp.refl (.inl (by simp))) (s6 _ _ l5) (fun xs z=>nomatch z),?_⟩
     rw[pP_ hwt]
     have em:(135:Int)*((i+1:Nat):Int)=((135*i:Nat):Int)+135:=by omega
     rw[em]
     exact R6
  ·rintro σ H5 ⟨us,v4,rfl,s5,p5,l5,B5⟩
   rw[List.length_map] at B5
   refine⟨_,rfl,l,_,rfl,SqL.of l5,fun r hr'=>?_⟩
   have s6:=h_ (o:=.lst (us.map V.ref).reverse) hr'
   have B6:=B5.keep s6
   refine k r us.reverse _ (s5.free hr') (s5.trans s6) (by rw[c_,List.map_reverse]) (by rw[List.length_reverse,B5.1]) fun i hi=>?_
   obtain⟨t,kvs,h,e1,e2,e3,e4⟩:=B6.2 (ws.length-i) (by omega)
   refine⟨t,kvs,h,?_,e2,e3,?_⟩
   ·rw[List.getElem?_reverse (by rw[B5.1];omega),B5.1]
    have:ws.length+1-1-i=ws.length-i:=by omega
    rw[this];exact e1
   ·have:ws.length-(ws.length-i)=i:=by omega
    rw[this] at e4
    exact e4
end
end Hv
namespace L2
open PySem PySem.Spec PyProof.Rows
abbrev IsTri(h:Heap)(T:Addr)(a b c:Value):Prop:=h.get? T=some {cls:=.type "tuple",data:=.seq #[a,b,c]}
theorem ek_(a b c:Value):checkTypeCall "zip" ⟨[a,b,c],[]⟩=pure ():=by kernel_rfl
theorem fE_(a b c:Value):checkBuiltinCall "zip.__new__" ⟨[.type "zip",a,b,c],[]⟩=pure ():=by kernel_rfl
theorem ii_(a b c d:Value):argsOk "object.__init__" ⟨[a,b,c,d],[]⟩:=by
 unfold argsOk;rw[signature?_of (id:="object.__init__") (n:=['_','_','t','i','n','i','_','_']) (o:=['t','c','e','j','b','o']) (by kernel_rfl) F.owner_object];kernel_rfl
structure Zd(z TI TO i1 i2 i3 l1 l2 l3:Addr):Prop where
 nd:[z,TI,TO,i1,i2,i3].Nodup
 f1:l1∉[z,TO,i1,i2,i3]
 f2:l2∉[z,TO,i1,i2,i3]
 f3:l3∉[z,TO,i1,i2,i3]
section
variable{prog:Program}{w:World}{A:Around}{E:Value->Shared->Prop}{s:Shared}
theorem kt_{T:Addr}{a b c x:Value}{k:Nat}{Q:Unit->Shared->Prop}(hT:IsTri s.heap T a b c)
  (h:∀h',h'.get? T=some {cls:=.type "tuple",data:=.seq ((#[a,b,c]:Array Value).setIfInBounds k x)}->Heap.SameBut T s.heap h'->Q () {s with heap:=h'}) :
  wpAny (model prog w) A (updateSeq T (·.setIfInBounds k x)) Q E s:=by
 refine wpAny_updateSeq hT rfl (h _ ?_ (Heap.SameBut.update ..))
 rw[Heap.get?_update_self _ hT rfl]
 simp[Obj.mapSeq]
theorem jX_{z TI TO i1 i2 i3 l1 l2 l3:Addr}{k1 k2 k3:Nat}{xs ys zs:Array Value}{x y u a b c:Value}{Q:Value->Shared->Prop}(D:Zd z TI TO i1 i2 i3 l1 l2 l3)
  (hz:IsZip s.heap z TI TO .none) (hTI:IsTri s.heap TI (.ref i1) (.ref i2) (.ref i3)) (hTO:IsTri s.heap TO a b c)
  (h1:s.heap.IsListIter i1 l1 k1) (h2:s.heap.IsListIter i2 l2 k2) (h3:s.heap.IsListIter i3 l3 k3) (hl1:s.heap.IsList l1 xs) (hl2:s.heap.IsList l2 ys) (hl3:s.heap.IsList l3 zs) (hx:xs[k1]?=some x) (hy:ys[k2]?=some y) (hu:zs[k3]?=some u)
  (hQ:∀h',IsZip h' z TI TO (rawInt s.heap.objs.size)->IsTri h' TO x y u->h'.IsListIter i1 l1 (k1+1)->h'.IsListIter i2 l2 (k2+1)->h'.IsListIter i3 l3 (k3+1)->IsTri h' s.heap.objs.size x y u->h'.objs.size=s.heap.objs.size+1->
   (∀c o,c∉[z,TO,i1,i2,i3]->s.heap.get? c=some o->h'.get? c=some o)->Q (.ref s.heap.objs.size) {s with heap:=h'}) :
  wpAny (model prog w) A (Builtin.«zip.__next__» ⟨[.ref z],[]⟩) (fun fin s'=>∃v,fin=.done (.ret v)/\Q v s') E s:=by
 have nd:=D.nd
 simp only[List.nodup_cons,List.mem_cons,List.not_mem_nil,or_false,not_or,not_false_eq_true,List.nodup_nil,and_true] at nd
 obtain⟨⟨zTI,zTO,zi1,zi2,zi3⟩,⟨TITO,TIi1,TIi2,TIi3⟩,⟨TOi1,TOi2,TOi3⟩,⟨i12,i13⟩,i23⟩:=nd
 have f1:=D.f1
 have f2:=D.f2
 have f3:=D.f3
 simp only[List.mem_cons,List.not_mem_nil,or_false,not_or] at f1 f2 f3
 obtain⟨l1z,l1TO,l1i1,l1i2,l1i3⟩:=f1
 obtain⟨l2z,l2TO,l2i1,l2i2,l2i3⟩:=f2
 obtain⟨l3z,l3TO,l3i1,l3i2,l3i3⟩:=f3
 show wpAny _ _ (field (.ref z) 2>>=_) _ _ _
 refine wpAny_bind (wpAny_field hz rfl (x:=.bool false) rfl ?_)
 show wpAny _ _ (field (.ref z) 3>>=_) _ _ _
 refine wpAny_bind (wpAny_field hz rfl (x:=.ref TI) rfl ?_)
 refine wpAny_bind (wpAny_seqItems hTI rfl ?_)
 show wpAny _ _ (Builtin.SmallTypes.ownedTupleIsFree (.ref z)>>=_) _ _ _
 refine wpAny_bind ?_
 unfold Builtin.SmallTypes.ownedTupleIsFree
 refine wpAny_bind (wpAny_field hz rfl (x:=.none) rfl (wpAny_pure ?_))
 simp only[if_true]
 refine wpAny_bind (wpAny_rule ?_)
 refine wpAny_bind (wpAny_field hz rfl (x:=.ref TO) rfl ?_)
 refine wpAny_bind (wpAny_setField_rec hz (by simp) fun H1 hz1 s1=>?_)
 replace hz1:IsZip H1 z TI TO .ellipsis:=hz1
 refine wpAny_bind ?_
 simp only[List.zipIdx_cons,List.zipIdx_nil,List.forIn_cons,List.forIn_nil]
 refine wpAny_bind (wpAny_bind (wpAny_onRaise ?_))
 show wpAny _ _ (Builtin.SmallTypes.nextOf (.ref i1)>>=_) _ _ _
 refine wpAny_bind (wpAny_nextOf_list_item (h1.extBut s1.extBut (Ne.symm zi1)) (hl1.extBut s1.extBut l1z) hx fun H2 q2 s2=>wpAny_pure ?_)
 have t2:IsTri H2 TO a b c:=s2.extBut _ _ TOi1 (s1.extBut _ _ (Ne.symm zTO) hTO)
 refine wpAny_bind (wpAny_seqItems t2 rfl ?_)
 refine wpAny_bind (kt_ t2 fun H3 t3 s3=>?_)
 replace t3:IsTri H3 TO x b c:=t3
 refine wpAny_bind (wpAny_letGo (wpAny_pure ?_))
 refine wpAny_bind (wpAny_bind (wpAny_onRaise ?_))
 show wpAny _ _ (Builtin.SmallTypes.nextOf (.ref i2)>>=_) _ _ _
 have up3:∀c o,c≠z->c≠TO->c≠i1->s.heap.get? c=some o->H3.get? c=some o:=fun c o c1 c2 c3 e=>s3.extBut _ _ c2 (s2.extBut _ _ c3 (s1.extBut _ _ c1 e))
 refine wpAny_bind (wpAny_nextOf_list_item (h2.at fun o e=>up3 _ o (Ne.symm zi2) (Ne.symm TOi2) (Ne.symm i12) e) (Heap.IsList.at hl2 fun o e=>up3 _ o l2z l2TO l2i1 e) hy fun H4 q4 s4=>wpAny_pure ?_)
 have t4:IsTri H4 TO x b c:=s4.extBut _ _ TOi2 t3
 refine wpAny_bind (wpAny_seqItems t4 rfl ?_)
 refine wpAny_bind (kt_ t4 fun H5 t5 s5=>?_)
 replace t5:IsTri H5 TO x y c:=t5
 refine wpAny_bind (wpAny_letGo (wpAny_pure ?_))
 refine wpAny_bind (wpAny_bind (wpAny_onRaise ?_))
 show wpAny _ _ (Builtin.SmallTypes.nextOf (.ref i3)>>=_) _ _ _
 have up5:∀c o,c≠z->c≠TO->c≠i1->c≠i2->s.heap.get? c=some o->H5.get? c=some o:=fun c o c1 c2 c3 c4 e=>s5.extBut _ _ c2 (s4.extBut _ _ c4 (up3 c o c1 c2 c3 e))
 refine wpAny_bind (wpAny_nextOf_list_item (h3.at fun o e=>up5 _ o (Ne.symm zi3) (Ne.symm TOi3) (Ne.symm i13) (Ne.symm i23) e) (Heap.IsList.at hl3 fun o e=>up5 _ o l3z l3TO l3i1 l3i2 e) hu fun H6 q6 s6=>wpAny_pure ?_)
 have t6:IsTri H6 TO x y c:=s6.extBut _ _ TOi3 t5
 refine wpAny_bind (wpAny_seqItems t6 rfl ?_)
 refine wpAny_bind (kt_ t6 fun H7 t7 s7=>?_)
 replace t7:IsTri H7 TO x y u:=t7
 refine wpAny_bind (wpAny_letGo (wpAny_pure (wpAny_pure ?_)))
 refine wpAny_bind (wpAny_seqItems t7 rfl ?_)
 refine wpAny_bind (wpAny_newTuple ?_)
 have hsz:H7.objs.size=s.heap.objs.size:=by rw[s7.1,s6.1,s5.1,s4.1,s3.1,s2.1,s1.1]
 have z3:IsZip H3 z TI TO .ellipsis:=s3.extBut _ _ zTO (s2.extBut _ _ zi1 hz1)
 have z7:IsZip H7 z TI TO .ellipsis:=s7.extBut _ _ zTO (s6.extBut _ _ zi3 (s5.extBut _ _ zTO (s4.extBut _ _ zi2 z3)))
 have up7:∀c o,c∉[z,TO,i1,i2,i3]->s.heap.get? c=some o->H7.get? c=some o:=fun c o hc e=>by
  simp only[List.mem_cons,List.not_mem_nil,or_false,not_or] at hc
  obtain⟨c1,c2,c3,c4,c5⟩:=hc
  exact s7.extBut _ _ c2 (s6.extBut _ _ c5 (up5 c o c1 c2 c3 c4 e))
 have r1:H7.IsListIter i1 l1 (k1+1):=q2.at fun o e=>s7.extBut _ _ (Ne.symm TOi1) (s6.extBut _ _ i13 (s5.extBut _ _ (Ne.symm TOi1) (s4.extBut _ _ i12 (s3.extBut _ _ (Ne.symm TOi1) e))))
 have r2:H7.IsListIter i2 l2 (k2+1):=q4.at fun o e=>s7.extBut _ _ (Ne.symm TOi2) (s6.extBut _ _ i23 (s5.extBut _ _ (Ne.symm TOi2) e))
 have r3:H7.IsListIter i3 l3 (k3+1):=q6.at fun o e=>s7.extBut _ _ (Ne.symm TOi3) e
 have zlt:z<H7.objs.size:=Heap.lt_size z7
 show wpAny _ _ (Builtin.SmallTypes.ownedTupleHandOut (.ref z) (.ref H7.objs.size)>>=_) _ _ _
 refine wpAny_bind ?_
 unfold Builtin.SmallTypes.ownedTupleHandOut
 have z8:IsZip (H7.push {cls:=.type "tuple",data:=.seq #[x,y,u]}) z TI TO .ellipsis:=Heap.get?_push_of_some _ z7
 refine wpAny_bind (wpAny_setField_rec z8 (by simp) fun H8 w8 s8=>?_)
 replace w8:IsZip H8 z TI TO (rawInt H7.objs.size):=w8
 refine wpAny_setField_rec w8 (by simp) fun H9 w9 s9=>?_
 replace w9:IsZip H9 z TI TO (rawInt H7.objs.size):=w9
 have up:∀c o,c≠z->H7.get? c=some o->H9.get? c=some o:=fun c o c1 e=>s9.extBut _ _ c1 (s8.extBut _ _ c1 (Heap.get?_push_of_some _ e))
 have t9:IsTri H9 H7.objs.size x y u:=s9.extBut _ _ (Nat.ne_of_gt zlt) (s8.extBut _ _ (Nat.ne_of_gt zlt) (Heap.get?_push_size _ rfl))
 have zz:H9.objs.size=H7.objs.size+1:=by rw[s9.1,s8.1,Heap.size_push]
 rw[hsz] at w9 t9 zz
 refine wpAny_pure ⟨_,rfl,?_⟩
 show Q (.ref H7.objs.size) _
 rw[hsz]
 exact hQ H9 w9 (up _ _ (Ne.symm zTO) t7) (r1.at fun o e=>up _ o (Ne.symm zi1) e) (r2.at fun o e=>up _ o (Ne.symm zi2) e) (r3.at fun o e=>up _ o (Ne.symm zi3) e) t9 zz fun c o hc e=>up c o (fun q=>hc (by simp[q])) (up7 c o hc e)
end
section
variable{prog:Program}{w:World}{A:Around}{E:Value->Shared->Prop}{s:Shared}
theorem lJ_{z TI TO i1 i2 i3 l1 l2 l3:Addr}{k1:Nat}{xs:Array Value}{a b c:Value}{Q:Fin->Shared->Prop}(hh:A.handled=none)(D:Zd z TI TO i1 i2 i3 l1 l2 l3)
  (hz:IsZip s.heap z TI TO .none) (hTI:IsTri s.heap TI (.ref i1) (.ref i2) (.ref i3)) (hTO:IsTri s.heap TO a b c)
  (h1:s.heap.IsListIter i1 l1 k1) (hl1:s.heap.IsList l1 xs) (hend:xs[k1]?=none)
  (hE:∀h' e,(∀c o,c∉[z,TO,i1,i2,i3]->s.heap.get? c=some o->h'.get? c=some o)->(∃o,h'.get? e=some o/\o.cls=.type "StopIteration")->E (.ref e) {s with heap:=h'}) :
  wpAny (model prog w) A (Builtin.«zip.__next__» ⟨[.ref z],[]⟩) Q E s:=by
 have nd:=D.nd
 simp only[List.nodup_cons,List.mem_cons,List.not_mem_nil,or_false,not_or,not_false_eq_true,List.nodup_nil,and_true] at nd
 obtain⟨⟨zTI,zTO,zi1,zi2,zi3⟩,⟨TITO,TIi1,TIi2,TIi3⟩,⟨TOi1,TOi2,TOi3⟩,⟨i12,i13⟩,i23⟩:=nd
 have f1:=D.f1
 simp only[List.mem_cons,List.not_mem_nil,or_false,not_or] at f1
 obtain⟨l1z,l1TO,l1i1,l1i2,l1i3⟩:=f1
 show wpAny _ _ (field (.ref z) 2>>=_) _ _ _
 refine wpAny_bind (wpAny_field hz rfl (x:=.bool false) rfl ?_)
 show wpAny _ _ (field (.ref z) 3>>=_) _ _ _
 refine wpAny_bind (wpAny_field hz rfl (x:=.ref TI) rfl ?_)
 refine wpAny_bind (wpAny_seqItems hTI rfl ?_)
 show wpAny _ _ (Builtin.SmallTypes.ownedTupleIsFree (.ref z)>>=_) _ _ _
 refine wpAny_bind ?_
 unfold Builtin.SmallTypes.ownedTupleIsFree
 refine wpAny_bind (wpAny_field hz rfl (x:=.none) rfl (wpAny_pure ?_))
 simp only[if_true]
 refine wpAny_bind (wpAny_rule ?_)
 refine wpAny_bind (wpAny_field hz rfl (x:=.ref TO) rfl ?_)
 refine wpAny_bind (wpAny_setField_rec hz (by simp) fun H1 hz1 s1=>?_)
 replace hz1:IsZip H1 z TI TO .ellipsis:=hz1
 refine wpAny_bind ?_
 simp only[List.zipIdx_cons,List.zipIdx_nil,List.forIn_cons,List.forIn_nil]
 refine wpAny_bind (wpAny_bind (wpAny_onRaise ?_))
 show wpAny _ _ (Builtin.SmallTypes.nextOf (.ref i1)>>=_) _ _ _
 refine wpAny_bind (wpAny_nextOf_list_end hh (h1.extBut s1.extBut (Ne.symm zi1)) (hl1.extBut s1.extBut l1z) hend fun H2 e s2 he=>?_)
 obtain⟨oe,hoe,hce⟩:=he
 have hz2:IsZip H2 z TI TO .ellipsis:=s2 _ _ zi1 hz1
 have hez:e≠z:=fun x=>by subst x;rw[hz2] at hoe;cases hoe;simp at hce
 refine wpAny_setField_rec hz2 (by simp) fun H3 _ s3=>hE H3 e (fun c o hc x=>?_) ⟨oe,s3.extBut _ _ hez hoe,hce⟩
 simp only[List.mem_cons,List.not_mem_nil,or_false,not_or] at hc
 exact s3.extBut _ _ hc.1 (s2 _ _ hc.2.2.1 (s1.extBut _ _ hc.1 x))
theorem gf_{z TI TO i1 i2 i3 l1 l2 l3:Addr}{k1 k2 k3:Nat}{xs ys zs:Array Value}{x y u a b c:Value}{Q:Option Value->Shared->Prop}(D:Zd z TI TO i1 i2 i3 l1 l2 l3)
  (hz:IsZip s.heap z TI TO .none) (hTI:IsTri s.heap TI (.ref i1) (.ref i2) (.ref i3)) (hTO:IsTri s.heap TO a b c)
  (h1:s.heap.IsListIter i1 l1 k1) (h2:s.heap.IsListIter i2 l2 k2) (h3:s.heap.IsListIter i3 l3 k3) (hl1:s.heap.IsList l1 xs) (hl2:s.heap.IsList l2 ys) (hl3:s.heap.IsList l3 zs) (hx:xs[k1]?=some x) (hy:ys[k2]?=some y) (hu:zs[k3]?=some u)
  (hQ:∀h',IsZip h' z TI TO (rawInt s.heap.objs.size)->IsTri h' TO x y u->h'.IsListIter i1 l1 (k1+1)->h'.IsListIter i2 l2 (k2+1)->h'.IsListIter i3 l3 (k3+1)->IsTri h' s.heap.objs.size x y u->h'.objs.size=s.heap.objs.size+1->
   (∀c o,c∉[z,TO,i1,i2,i3]->s.heap.get? c=some o->h'.get? c=some o)->Q (some (.ref s.heap.objs.size)) {s with heap:=h'}) :
  wpAny (model prog w) A (pyNext (.ref z)) Q E s:=by
 have hT:s.TypeIs (.ref z) "zip":=⟨_,hz,rfl⟩
 unfold pyNext
 exact wpAny_bind (wpAny_attempt (wpAny_callSpecial?_slot (name:=Str.ofString "__next__") hT F.slot_zip_next
  (wpAny_call_entry F.slot_zip_next hT F.entry_zip_next
   (jX_ D hz hTI hTO h1 h2 h3 hl1 hl2 hl3 hx hy hu fun h' a1 a2 a3 a4 a5 a6 a7 a8=>wpAny_pure (hQ h' a1 a2 a3 a4 a5 a6 a7 a8)) (F.args_zip_next_1 _))))
theorem hB_{z TI TO i1 i2 i3 l1 l2 l3:Addr}{k1:Nat}{xs:Array Value}{a b c:Value}{Q:Option Value->Shared->Prop}(hh:A.handled=none)(D:Zd z TI TO i1 i2 i3 l1 l2 l3)
  (hz:IsZip s.heap z TI TO .none) (hTI:IsTri s.heap TI (.ref i1) (.ref i2) (.ref i3)) (hTO:IsTri s.heap TO a b c)
  (h1:s.heap.IsListIter i1 l1 k1) (hl1:s.heap.IsList l1 xs) (hend:xs[k1]?=none)
  (hQ:∀h',(∀c o,c∉[z,TO,i1,i2,i3]->s.heap.get? c=some o->h'.get? c=some o)->Q none {s with heap:=h'}):wpAny (model prog w) A (pyNext (.ref z)) Q E s:=by
 have hT:s.TypeIs (.ref z) "zip":=⟨_,hz,rfl⟩
 unfold pyNext
 refine wpAny_bind (wpAny_attempt (wpAny_callSpecial?_slot (name:=Str.ofString "__next__") hT F.slot_zip_next
  (wpAny_call_entry F.slot_zip_next hT F.entry_zip_next (lJ_ hh D hz hTI hTO h1 hl1 hend fun h' e hk he=>?_) (F.args_zip_next_1 _))))
 obtain⟨o,ho,hc⟩:=he
 refine wpAny_bind (wpAny_isInstance (T:="StopIteration") (b:=true) ⟨o,ho,hc⟩ isSubtype_stop ?_)
 exact wpAny_pure (hQ _ hk)
end
abbrev z3a(h:Heap)(l1:Addr):Heap:=h.push {cls:=.type "list_iterator",data:=.fields #[.ref l1,.int 0 0]}
abbrev z3b(h:Heap)(l1 l2:Addr):Heap:=(z3a h l1).push {cls:=.type "list_iterator",data:=.fields #[.ref l2,.int 0 0]}
abbrev z3c(h:Heap)(l1 l2 l3:Addr):Heap:=(z3b h l1 l2).push {cls:=.type "list_iterator",data:=.fields #[.ref l3,.int 0 0]}
abbrev z3d(h:Heap)(l1 l2 l3:Addr):Heap:=(z3c h l1 l2 l3).push {cls:=.type "tuple",data:=.seq #[.ref h.objs.size,.ref (z3a h l1).objs.size,.ref (z3b h l1 l2).objs.size]}
abbrev z3e(h:Heap)(l1 l2 l3:Addr):Heap:=(z3d h l1 l2 l3).push {cls:=.type "tuple",data:=.seq #[.none,.none,.none]}
abbrev z3f(h:Heap)(l1 l2 l3:Addr):Heap:=(z3e h l1 l2 l3).push {cls:=.type "zip",data:=.fields #[.none,.bool false,.bool false,.ref (z3c h l1 l2 l3).objs.size,.ref (z3d h l1 l2 l3).objs.size]}
theorem ka_(l1 l2 l3:Addr)(xs ys zs:Array Value) :
  Meets (Builtin.«zip.__new__» ⟨[.type "zip",.ref l1,.ref l2,.ref l3],[]⟩) (fun _ R s=>s.heap.IsList l1 xs/\s.heap.IsList l2 ys/\s.heap.IsList l3 zs/\
   R (.ok (.ret (.ref (z3e s.heap l1 l2 l3).objs.size))) {s with heap:=z3f s.heap l1 l2 l3}) :=
 .of_wp fun prog w A R s h=>by
  obtain⟨hp,g,d,tk,os⟩:=s;obtain⟨hl1,hl2,hl3,h⟩:=h
  have hsub:=sub_zip
  have hL1:Heap.IsList (Shared.heap ⟨hp,g,d,tk,os⟩) l1 xs:=hl1
  have hL2:Heap.IsList (Shared.heap ⟨hp.push {cls:=.type "list_iterator",data:=.fields #[.ref l1,.int 0 0]},g,d,tk,os⟩) l2 ys:=Heap.IsList.push hl2 _
  have hL3:Heap.IsList (Shared.heap ⟨(hp.push {cls:=.type "list_iterator",data:=.fields #[.ref l1,.int 0 0]}).push {cls:=.type "list_iterator",data:=.fields #[.ref l2,.int 0 0]},g,d,tk,os⟩) l3 zs:=Heap.IsList.push (Heap.IsList.push hl3 _) _
  wp_walk using wpAny_pyIter_list hL1,wpAny_pyIter_list hL2,wpAny_pyIter_list hL3
  exact⟨_,rfl,h⟩
theorem nd6(n:Nat):List.Nodup [n+5,n+3,n+4,n,n+1,n+2]:=by
 simp only[List.nodup_cons,List.mem_cons,List.not_mem_nil,or_false,not_or,not_false_eq_true,List.nodup_nil,and_true]
 refine⟨⟨?_,?_,?_,?_,?_⟩,⟨?_,?_,?_,?_⟩,⟨?_,?_,?_⟩,⟨?_,?_⟩,?_⟩ <;> omega
theorem pt_{n l1 l2 l3:Addr}(h1:l1<n)(h2:l2<n)(h3:l3<n):Zd (n+5) (n+3) (n+4) n (n+1) (n+2) l1 l2 l3:=by
 have h1':(l1:Nat)<n:=h1
 have h2':(l2:Nat)<n:=h2
 have h3':(l3:Nat)<n:=h3
 have key:∀l:Nat,l<n->l∉[(n:Nat)+5,n+4,n,n+1,n+2]:=fun l hl z=>by
  simp only[List.mem_cons,List.not_mem_nil,or_false] at z
  omega
 refine⟨?_,key l1 h1,key l2 h2,key l3 h3⟩
 exact nd6 n
section
variable{prog:Program}{w:World}{A:Around}{E:Value->Shared->Prop}{s:Shared}
theorem kk_{l1 l2 l3:Addr}{xs ys zs:Array Value}{Q:Value->Shared->Prop}(hl1:s.heap.IsList l1 xs)(hl2:s.heap.IsList l2 ys)(hl3:s.heap.IsList l3 zs)
  (h:∀h',IsZip h' (s.heap.objs.size+5) (s.heap.objs.size+3) (s.heap.objs.size+4) .none->IsTri h' (s.heap.objs.size+3) (.ref s.heap.objs.size) (.ref (s.heap.objs.size+1)) (.ref (s.heap.objs.size+2))->
   IsTri h' (s.heap.objs.size+4) .none .none .none->h'.IsListIter s.heap.objs.size l1 0->h'.IsListIter (s.heap.objs.size+1) l2 0->h'.IsListIter (s.heap.objs.size+2) l3 0->
   (∀c o,s.heap.get? c=some o->h'.get? c=some o)->Q (.ref (s.heap.objs.size+5)) {s with heap:=h'}) :
  wpAny (model prog w) A (call (.type "zip") [.ref l1,.ref l2,.ref l3]) Q E s:=by
 refine callType_new F.called_zip (by decide) (ek_ _ _ _) (fE_ _ _ _) (fun obj=>ii_ obj _ _ _) F.entry_zip_new
  (ka_ l1 l2 l3 xs ys zs) ⟨hl1,hl2,hl3,?_⟩
 have e1:(z3a s.heap l1).objs.size=s.heap.objs.size+1:=Heap.size_push ..
 have e2:(z3b s.heap l1 l2).objs.size=s.heap.objs.size+2:=by rw[Heap.size_push,e1]
 have e3:(z3c s.heap l1 l2 l3).objs.size=s.heap.objs.size+3:=by rw[Heap.size_push,e2]
 have e4:(z3d s.heap l1 l2 l3).objs.size=s.heap.objs.size+4:=by rw[Heap.size_push,e3]
 have e5:(z3e s.heap l1 l2 l3).objs.size=s.heap.objs.size+5:=by rw[Heap.size_push,e4]
 have g6:(z3f s.heap l1 l2 l3).get? (z3e s.heap l1 l2 l3).objs.size=some _:=Heap.get?_push_size _ rfl
 have g5:(z3f s.heap l1 l2 l3).get? (z3d s.heap l1 l2 l3).objs.size=some _:=Heap.get?_push_of_some _ (Heap.get?_push_size _ rfl)
 have g4:(z3f s.heap l1 l2 l3).get? (z3c s.heap l1 l2 l3).objs.size=some _:=Heap.get?_push_of_some _ (Heap.get?_push_of_some _ (Heap.get?_push_size _ rfl))
 have g3:(z3f s.heap l1 l2 l3).get? (z3b s.heap l1 l2).objs.size=some _:=Heap.get?_push_of_some _ (Heap.get?_push_of_some _ (Heap.get?_push_of_some _ (Heap.get?_push_size _ rfl)))
 have g2:(z3f s.heap l1 l2 l3).get? (z3a s.heap l1).objs.size=some _:=Heap.get?_push_of_some _ (Heap.get?_push_of_some _ (Heap.get?_push_of_some _ (Heap.get?_push_of_some _ (Heap.get?_push_size _ rfl))))
 have g1:(z3f s.heap l1 l2 l3).get? s.heap.objs.size=some _:=Heap.get?_push_of_some _ (Heap.get?_push_of_some _ (Heap.get?_push_of_some _ (Heap.get?_push_of_some _ (Heap.get?_push_of_some _ (Heap.get?_push_size _ rfl)))))
 show _/\_
 rw[e3,e4,e5] at g6
 rw[e1,e2,e3] at g4
 rw[e4] at g5
 rw[e2] at g3
 rw[e1] at g2
 rw[e5]
 exact⟨⟨_,g6,rfl⟩,h _ g6 g4 g5 ⟨_,g1,rfl,rfl⟩ ⟨_,g2,rfl,rfl⟩ ⟨_,g3,rfl,rfl⟩ fun c o x =>
  Heap.get?_push_of_some _ (Heap.get?_push_of_some _ (Heap.get?_push_of_some _ (Heap.get?_push_of_some _ (Heap.get?_push_of_some _ (Heap.get?_push_of_some _ x)))))⟩
end
def Itz3(K:PySem.W.Frag)(a b c:Addr):It :=
 ⟨fun i H=>∃xs ys zs x y u,SqL K H a xs/\SqL K H b ys/\SqL K H c zs/\xs[i]?=some x/\ys[i]?=some y/\zs[i]?=some u,
  fun i H v H'=>∃t x y u,v=.ref t/\H t=none/\(∀xs,SqL K H a xs->xs[i]?=some x)/\(∀ys,SqL K H b ys->ys[i]?=some y)/\(∀zs,SqL K H c zs->zs[i]?=some u)/\H'=upd H t (.tup [x,y,u]),
  fun i H=>∃xs,SqL K H a xs/\xs.length<=i⟩
theorem kv_{P:Program}{w:World}{K:PySem.W.Frag}{elts:List Expr}{x1}{pos:Pos}(a b c z TI TO i1 i2 i3:Addr)(D:Zd z TI TO i1 i2 i3 a b c):Turn P w K (.Tuple elts x1 pos) (Itz3 K a b c) [z,TI,TO,i1,i2,i3] z
  (fun i h=>IsZip h z TI TO .none/\IsTri h TI (.ref i1) (.ref i2) (.ref i3)/\(∃u v t,IsTri h TO u v t)/\h.IsListIter i1 a i/\h.IsListIter i2 b i/\h.IsListIter i3 c i) where
 mem:=by simp
 obj:=fun i h st e hb=>by
  obtain⟨h1,h2,⟨u,v,t,h3⟩,⟨o4,h4,_,d4⟩,⟨o5,h5,_,d5⟩,⟨o6,h6,_,d6⟩⟩:=st
  simp only[List.mem_cons,List.not_mem_nil,or_false] at hb
  rcases hb with rfl | rfl | rfl | rfl | rfl | rfl
  ·exact⟨_,h1,fun v z=>by cases z⟩
  ·exact⟨_,h2,fun v z=>by cases z⟩
  ·exact⟨_,h3,fun v z=>by cases z⟩
  ·exact⟨o4,h4,fun v z=>by rw[d4] at z;cases z⟩
  ·exact⟨o5,h5,fun v z=>by rw[d5] at z;cases z⟩
  ·exact⟨o6,h6,fun v z=>by rw[d6] at z;cases z⟩
 keep:=fun i h h' st k=>by
  obtain⟨h1,h2,⟨u,v,t,h3⟩,h4,h5,h6⟩:=st
  exact⟨k z (by simp) _ h1,k TI (by simp) _ h2,⟨u,v,t,k TO (by simp) _ h3⟩,h4.at fun o q=>k i1 (by simp) o q,h5.at fun o q=>k i2 (by simp) o q,h6.at fun o q=>k i3 (by simp) o q⟩
 item:=by
  intro X hP hw hK hc i pins s σ H E I hf st hg
  subst hP hw hK
  have nd:=D.nd
  simp only[List.nodup_cons,List.mem_cons,List.not_mem_nil,or_false,not_or,not_false_eq_true,List.nodup_nil,and_true] at nd
  obtain⟨⟨zTI,zTO,zi1,zi2,zi3⟩,⟨TITO,TIi1,TIi2,TIi3⟩,⟨TOi1,TOi2,TOi3⟩,⟨i12,i13⟩,i23⟩:=nd
  obtain⟨h1,h2,⟨u0,v0,t0,h3⟩,h4,h5,h6⟩:=st
  obtain⟨xs,ys,zs,x,y,y3,hqa,hqb,hqc,hx,hy,hy3⟩:=hg
  obtain⟨its,rv,p,hz⟩:=I.list hqa
  obtain⟨jts,rw',p',hz'⟩:=I.list hqb
  obtain⟨kts,rx',p3,hz3⟩:=I.list hqc
  obtain⟨u,hu,ru⟩:=rv.get hx
  obtain⟨v,hv,rv'⟩:=rw'.get hy
  obtain⟨t,ht,rt'⟩:=rx'.get hy3
  have e1:=Heap.lt_size h1
  have fpo:∀e∈[z,TI,TO,i1,i2,i3],∃o,s.heap.get? e=some o:=fun e hb=>by
   obtain⟨o4,q4,_⟩:=h4
   obtain⟨o5,q5,_⟩:=h5
   obtain⟨o6,q6,_⟩:=h6
   simp only[List.mem_cons,List.not_mem_nil,or_false] at hb
   rcases hb with rfl | rfl | rfl | rfl | rfl | rfl
   ·exact⟨_,h1⟩
   ·exact⟨_,h2⟩
   ·exact⟨_,h3⟩
   ·exact⟨_,q4⟩
   ·exact⟨_,q5⟩
   ·exact⟨_,q6⟩
  refine gf_ D h1 h2 h3 h4 h5 h6 p.isList p'.isList p3.isList (x:=u) (y:=v) (u:=t) (by simpa using hu) (by simpa using hv) (by simpa using ht) fun h' g1 g2 g3 g4 g4' g5 g6 g7=>⟨_,rfl,?_⟩
  refine wpAny_letOwnedTupleGo_zip g1 fun h2' g8 g9=>?_
  have kk:∀e o,e∉[z,TI,TO,i1,i2,i3]->s.heap.get? e=some o->h2'.get? e=some o:=fun e o hb q=>by
   simp only[List.mem_cons,List.not_mem_nil,or_false,not_or] at hb
   exact g9.extBut e o hb.1 (g7 e o (by simp only[List.mem_cons,List.not_mem_nil,or_false,not_or];exact⟨hb.1,hb.2.2.1,hb.2.2.2.1,hb.2.2.2.2.1,hb.2.2.2.2.2⟩) q)
  have tT:h2'.get? s.heap.objs.size=some {cls:=.type "tuple",data:=.seq #[u,v,t]}:=g9.extBut _ _ (Nat.ne_of_gt e1) g5
  have I1:=I.turnedNew (t':=s.toks) (T:=s.heap.objs.size) (o:=.tup [x,y,y3]) kk hf (Nat.le_refl _) ⟨by show 3<=sizeLine;decide,[u,v,t],.cons ru (.cons rv' (.cons rt' .nil)),⟨_,tT,rfl,_,rfl⟩⟩
  have hn:H s.heap.objs.size=none:=I.hok.fresh (Nat.le_refl _)
  refine⟨.ref s.heap.objs.size,_,I1,rfl,⟨_,x,y,y3,rfl,hn,fun zs hy'=>by rw[I.list_inj hy' hqa];exact hx,fun zs hy'=>by rw[I.list_inj hy' hqb];exact hy,fun zs hy'=>by rw[I.list_inj hy' hqc];exact hy3,rfl⟩,⟨g8,?_,⟨u,v,t,?_⟩,?_,?_,?_⟩,fun e hb=>?_⟩
  ·exact g9.extBut _ _ (Ne.symm zTI) (g7 _ _ (by simp only[List.mem_cons,List.not_mem_nil,or_false,not_or];exact⟨Ne.symm zTI,TITO,TIi1,TIi2,TIi3⟩) h2)
  ·exact g9.extBut _ _ (Ne.symm zTO) g2
  ·exact g3.extBut g9.extBut (Ne.symm zi1)
  ·exact g4.extBut g9.extBut (Ne.symm zi2)
  ·exact g4'.extBut g9.extBut (Ne.symm zi3)
  ·obtain⟨f0,_⟩:=hf e hb
   obtain⟨o,q⟩:=fpo e hb
   rw[j_ (Nat.ne_of_lt (Heap.lt_size q))];exact f0
 done:=by
  intro X hP hw hK hc i pins s σ H E I hf st hg
  subst hP hw hK
  obtain⟨h1,h2,⟨u0,v0,t0,h3⟩,h4,h5,h6⟩:=st
  obtain⟨xs,hqa,hx⟩:=hg
  obtain⟨its,rv,p,hz⟩:=I.list hqa
  have hl:=rv.length
  refine hB_ (I.ok.hd hc) D h1 h2 h3 h4 p.isList (by simp;omega) fun h' eb=>⟨rfl,I.turnedL (t':=s.toks) (ch:=[z,TI,TO,i1,i2,i3]) (fun e o hb q=>eb e o (fun z'=>hb ?_) q) hf⟩
  simp only[List.mem_cons,List.not_mem_nil,or_false] at z'⊢
  rcases z' with r | r | r | r | r <;> simp[r]
 self:=fun _ _ _ _ _ st h=>wpAny_pyIter_zip st.1 h
section
variable{X:Cx}{l l2 l3:Expr}{tl tl2 tl3:TE}{elts:List Expr}{p pos tpos:Pos}
def iZip3(K:PySem.W.Frag)(tl tl2 tl3:TE):TI:=fun σ H R=>tl σ H fun x H1=>tl2 σ H1 fun y H2=>tl3 σ H2 fun u H3=>∃a b c,x=.ref a/\y=.ref b/\u=.ref c/\(∃xs,SqL K H3 a xs)/\(∃ys,SqL K H3 b ys)/\(∃zs,SqL K H3 c zs)/\R (Itz3 K a b c) H3
theorem lm_{x1}(hg:Gl X "zip")(hm:X.mg "zip"=none)(hl:PE X l tl)(hl2:PE X l2 tl2)(hl3:PE X l3 tl3)(hs:starEach [l,l2,l3] X.env=[(false,eval l X.env),(false,eval l2 X.env),(false,eval l3 X.env)]:=by rfl)(hs2:starEach [l2,l3] X.env=[(false,eval l2 X.env),(false,eval l3 X.env)]:=by rfl) :
  PI X (.Tuple elts x1 tpos) (.Call (.Name "zip" p) [l,l2,l3] [] pos) (iZip3 X.K tl tl2 tl3):=by
 intro pins s σ H R I h
 refine Call_ (aI_ I hg hm boot_zip (PyProof.Rows.callWith_type1 ?_ (by rw[hs,hs2]) (by rw[hs2];rfl)))
 rw[hs]
 show wpAny _ _ (spliced ((false,eval l X.env)::(false,eval l2 X.env)::(false,eval l3 X.env)::backTo pos (starEach [] X.env))) _ _ s
 refine Calls.spliced_cons (thn (hl pins s σ H _ I h) fun u s1 ⟨x,H1,I1,r1,q1⟩=>Calls.spliced_cons (thn (hl2 pins s1 σ H1 _ I1 q1) fun u2 s2 ⟨y,H2,I2,r2,q2⟩=>Calls.spliced_cons (thn (hl3 pins s2 σ H2 _ I2 q2) fun u3 s3 ⟨y3,H3,I3,r3,q3⟩=>Calls.spliced_nil ?_)))
 obtain⟨a,b,c,rfl,rfl,rfl,⟨xs,hqa⟩,⟨ys,hqb⟩,⟨zs,hqc⟩,q⟩:=q3
 cases r1
 cases r2
 cases r3
 obtain⟨its,rv,pl,hz⟩:=I3.list hqa
 obtain⟨jts,rv',pl',hz'⟩:=I3.list hqb
 obtain⟨kts,rv3,pl3,hz3⟩:=I3.list hqc
 have la:a<s3.heap.objs.size:=by obtain⟨_,e,_⟩:=pl.isList;exact Heap.lt_size e
 have lb:b<s3.heap.objs.size:=by obtain⟨_,e,_⟩:=pl'.isList;exact Heap.lt_size e
 have lc:c<s3.heap.objs.size:=by obtain⟨_,e,_⟩:=pl3.isList;exact Heap.lt_size e
 refine kk_ pl.isList pl'.isList pl3.isList fun h' g1 g2 g3 g4 g5 g6 g7=>?_
 have D:=pt_ la lb lc
 have T:=kv_ (P:=X.prog) (w:=X.w) (K:=X.K) (elts:=elts) (x1:=x1) (pos:=tpos) a b c _ _ _ _ _ _ D
 refine T.self _ 0 _ _ _ ⟨g1,g2,⟨_,_,_,g3⟩,g4,g5,g6⟩ ?_
 refine⟨s3.heap.objs.size+5,_,_,_,H3,rfl,I3.kept (t':=s3.toks) g7,T,⟨g1,g2,⟨_,_,_,g3⟩,g4,g5,g6⟩,fun e hb=>?_,q⟩
 have hb':s3.heap.objs.size<=e:=by
  simp only[List.mem_cons,List.not_mem_nil,or_false] at hb
  rcases hb with rfl | rfl | rfl | rfl | rfl | rfl
  ·exact Nat.le_add_right _ _
  ·exact Nat.le_add_right _ _
  ·exact Nat.le_add_right _ _
  ·exact Nat.le_refl _
  ·exact Nat.le_add_right _ _
  ·exact Nat.le_add_right _ _
 exact I3.fpOk hb' (I3.hok.fresh hb')
end
theorem jq_{K:PySem.W.Frag}{a b c:Addr}{xs ys zs:List V}{g:TG}{tb:TS}{D:Ends}{σ:St}{H:Hp}(Pv:Nat->St->Hp->Prop)(hlen:xs.length=ys.length)(hlen2:xs.length=zs.length)(h0:Pv 0 σ H)(hl:∀i σ H,i<=xs.length->Pv i σ H->SqL K H a xs/\SqL K H b ys/\SqL K H c zs)
  (hs:∀i x y u σ H t,xs[i]?=some x->ys[i]?=some y->zs[i]?=some u->Pv i σ H->H t=none->g (.ref t) σ (upd H t (.tup [x,y,u])) fun σ2 H2=>tb {D with nx:=Pv (i+1),ct:=Pv (i+1),bk:=D.nx} σ2 H2) (hd:∀ σ H,Pv xs.length σ H->D.nx σ H) :
  ∃W:Nat->Nat->St->Hp->Prop,(∃m,W 0 m σ H)/\∀i m σ H,W i m σ H->
   ((Itz3 K a b c).stop i H/\D.nx σ H)\/((Itz3 K a b c).go i H/\∃N:St->Hp->Prop,(∀ σ' H',N σ' H'->∃m',m'<m/\W (i+1) m' σ' H')/\∀x H',(Itz3 K a b c).yld i H x H'->g x σ H' fun σ2 H2=>tb {D with nx:=N,ct:=N,bk:=D.nx} σ2 H2):=by
 refine⟨fun i m σ H=>m=xs.length-i/\i<=xs.length/\Pv i σ H,⟨xs.length,by simp,Nat.zero_le _,h0⟩,?_⟩
 rintro i m σ H ⟨rfl,hi,p⟩
 obtain⟨q1,q2,q3⟩:=hl i σ H hi p
 by_cases hlt:i<xs.length
 ·have e1:xs[i]?=some xs[i]:=by simp[hlt]
  have e2:ys[i]?=some (ys[i]'(by omega)):=by simp
  have e3:zs[i]?=some (zs[i]'(by omega)):=by simp
  refine .inr ⟨⟨xs,ys,zs,_,_,_,q1,q2,q3,e1,e2,e3⟩,Pv (i+1),fun σ' H' p'=>⟨xs.length-(i+1),by omega,rfl,hlt,p'⟩,fun v H' y=>?_⟩
  obtain⟨t,x,y,u,rfl,ht,y1,y2,y3,rfl⟩:=y
  exact hs i x y u σ H t (y1 xs q1) (y2 ys q2) (y3 zs q3) p ht
 ·have e:i=xs.length:=by omega
  subst e
  exact .inl ⟨⟨xs,q1,Nat.le_refl _⟩,hd σ H p⟩
theorem mx_{K:PySem.W.Frag}{a b:Addr}{xs ys:List V}{G:V->Hp->(List V->Hp->Prop)->List V->Prop}{Fin:List V->Hp->Prop}{H:Hp}(Pv:Nat->List V->Hp->Prop)(hlen:xs.length<=ys.length)(h0:Pv 0 [] H)
  (hl:∀i zs H,i<=xs.length->Pv i zs H->SqL K H a xs/\SqL K H b ys) (hz:∀i zs H,i<xs.length->Pv i zs H->zs.length<sizeLine)
  (hs:∀i x y zs H t,xs[i]?=some x->ys[i]?=some y->Pv i zs H->H t=none->G (.ref t) (upd H t (.tup [x,y])) (Pv (i+1)) zs) (hd:∀zs H,Pv xs.length zs H->Fin zs H) :
  ∃W:Nat->Nat->List V->Hp->Prop,(∃m,W 0 m [] H)/\∀i m zs H,W i m zs H->
   ((Itz K a b).stop i H/\Fin zs H)\/((Itz K a b).go i H/\zs.length<sizeLine/\∃Nx:List V->Hp->Prop,(∀ys' H',Nx ys' H'->∃m',m'<m/\W (i+1) m' ys' H')/\∀x H',(Itz K a b).yld i H x H'->G x H' Nx zs):=by
 refine⟨fun i m zs H=>m=xs.length-i/\i<=xs.length/\Pv i zs H,⟨xs.length,by simp,Nat.zero_le _,h0⟩,?_⟩
 rintro i m zs H ⟨rfl,hi,p⟩
 obtain⟨q1,q2⟩:=hl i zs H hi p
 by_cases hlt:i<xs.length
 ·have e1:xs[i]?=some xs[i]:=by simp[hlt]
  have e2:ys[i]?=some (ys[i]'(by omega)):=by simp
  refine .inr ⟨⟨xs,ys,_,_,q1,q2,e1,e2⟩,hz i zs H hlt p,Pv (i+1),fun ys' H' p'=>⟨xs.length-(i+1),by omega,rfl,hlt,p'⟩,fun v H' y=>?_⟩
  obtain⟨t,x,y,rfl,ht,y1,y2,rfl⟩:=y
  exact hs i x y zs H t (y1 xs q1) (y2 ys q2) p ht
 ·have e:i=xs.length:=by omega
  subst e
  exact .inl ⟨⟨xs,ys,q1,q2,.inl (Nat.le_refl _)⟩,hd zs H p⟩
end L2
namespace Hv
open PySem L2
abbrev wz(ds:List Nat)(ws:List Int):List Int:=List.zipWith (fun(d:Nat) (x:Int)=>(d:Int)*x) ds ws
theorem pu_{ds:List Nat}{ws:List Int}{i d:Nat}{x:Int}(h1:ds[i]?=some d)(h2:ws[i]?=some x):(wz ds ws)[i]?=some ((d:Int)*x):=by
 simp[wz,List.getElem?_zipWith,h1,h2]
theorem qA_{ws:List Int}{i:Nat}{x:V}(h:(ws.map V.int)[i]?=some x):∃y:Int,ws[i]?=some y/\x=.int y:=by
 rw[List.getElem?_map] at h
 cases e:ws[i]? with
 | none=>rw[e] at h;cases h
 | some d=>rw[e] at h;exact⟨d,rfl,(Option.some.inj h).symm⟩
def bF_:Sp:=fun vs H Q _=>∃(r c:Addr) (ds:List Nat) (ws:List Int),vs=[.ref r,.ref c]/\H r=some (.lst (natV ds))/\H c=some (.lst (ws.map V.int))/\(∀x∈ws,-9<=x/\x<=9)/\ds.length<=ws.length/\ws.length<=6/\
 ∀H',Same H H'->Q (.int (wz ds ws).sum) H'
section
variable{P:Program}{w:World}{K:PySem.W.Frag}{mg:Str->Option Value}{base:Heap}
theorem jG_:FnScope ["figures","weights"] ["figures","weights"] (i_ bp_):=⟨rfl,rfl,rfl,by decide +kernel,rfl,by decide +kernel,by decide +kernel⟩
theorem hG_{f:Addr}{fd:FuncData}(F:Fun K "weighted_sum" "weighted_sum" bp_ f fd)(T:Txt mg):FnOk P w K mg base CX0 1 f fd ["figures","weights"] bF_:=by
 refine F.ok jG_ (fun vs H Q E h=>?_) (fun cdv A outer s H vs Q E hr h=>?_)
 ·obtain⟨r,c,ds,ws,rfl,_⟩:=h;rfl
 ·obtain⟨r,c,ds,ws,rfl,h1,h2,hw,hl,hl6,k⟩:=h
  have nd2:List.Nodup (["figure","weight"]:List Str):=by decide +kernel
  refine⟨_,g_ (o_ (q_ (aF_ rfl) (by rfl) T.sum boot_sum (a_ (fv_ (N:=["figure","weight"]) (k:=2) (fr:=[]) (cmpS (sc:=i_ bp_) (NX:=["figures","weights"]) (k:=2) (fr:=[]) rfl rfl (by decide +kernel))
    (cmpF (sc:=i_ bp_) (NX:=["figures","weights"]) rfl (by decide +kernel)) rfl (ob_ (by rfl) T.zip (pv 0) (pv 1))
    (fun cl C s H fp=>fu_ K rfl rfl (z_ (n_ (i:=0) nd2 rfl (Or.inl rfl)) (z_ (n_ (i:=1) nd2 rfl (Or.inl rfl)) aB_))) jp_ (fun cl C s H fp=>af_) (fun cl C s H fp=>l_ F_ (pv 0) (pv 1))) d_))),?_⟩
  refine⟨_,rfl,_,rfl,r,c,rfl,rfl,⟨_,SqL.of h1⟩,⟨_,SqL.of h2⟩,mx_ (K:=K) (a:=r) (b:=c) (xs:=natV ds) (ys:=ws.map V.int)
   (fun i zs H'=>zs=((wz ds ws).take i).map V.int/\Same H H') (by simp[natV];omega) ⟨by simp,Same.refl _⟩ (fun i zs H' _ p=>⟨SqL.of (p.2 _ _ h1),SqL.of (p.2 _ _ h2)⟩)
   (fun i zs H' hi p=>szl (by rw[p.1,List.length_map,List.length_take];simp[natV] at hi;omega)) ?_ ?_⟩
  ·rintro i x y zs H' t hx hy ⟨rfl,s2⟩ ht
   obtain⟨d,hd,rfl⟩:=lK_ hx
   obtain⟨x,hw',rfl⟩:=qA_ hy
   have hx9:=hw x (List.mem_of_getElem? hw')
   refine⟨t,_,rfl,SqT.of c_,rfl,_,_,rfl,_,_,rfl,rfl,_,rfl,_,rfl,_,_,rfl,rfl,.inr ⟨by omega,by omega⟩,?_,t_ s2 (s2.free ht)⟩
   rw[List.take_add_one,pu_ hd hw']
   simp
  rintro zs H' ⟨rfl,s2⟩ wl hwl
  have e1:(natV ds).length=(wz ds ws).length:=by simp[natV,wz];omega
  rw[e1,List.take_length]
  exact⟨wl,_,rfl,SqL.of c_,k _ (t_ s2 (s2.free hwl))⟩
end
theorem nS_{b q j:Nat}{ws:List Int}(hj:j<=ws.length):(wz (Ma.dws b q j j) ws).sum=Mg.ws1 b q (ws.take j):=by
 unfold Mg.ws1 Ma.wts
 rw[List.length_take,Nat.min_eq_left hj]
 congr 1
 have e:ws=ws.take j++ws.drop j:=(List.take_append_drop j ws).symm
 conv=>lhs;rw[e]
 unfold wz
 rw[<-List.append_nil (Ma.dws b q j j),List.zipWith_append (by rw[Ma.L_,List.length_take,Nat.min_eq_left hj])]
 simp
theorem nT_{b q:Nat}{r:List Int}(hb0:0<b)(hb:b<=16)(hw:∀x∈r,-9<=x/\x<=9) : -(135*(r.length:Int))<=Mg.ws1 b q r/\Mg.ws1 b q r<=135*(r.length:Int):=by
 unfold Mg.ws1
 have gen:∀l:List Int,(∀y∈l,-135<=y/\y<=135)->-(135*(l.length:Int))<=l.sum/\l.sum<=135*(l.length:Int):=fun l=>by
  induction l with
  | nil=>intro _;simp
  | cons a t ih =>
   intro h
   have h1:=h a (by simp)
   have h2:=ih fun y hy=>h y (by simp[hy])
   simp only[List.sum_cons,List.length_cons]
   push_cast
   omega
 have g:=gen (Ma.wts b q r.length r) fun y hy=>by
  unfold Ma.wts at hy
  obtain⟨i,hi⟩:=List.getElem?_of_mem hy
  rw[List.getElem?_zipWith] at hi
  cases e1:(Ma.dws b q r.length r.length)[i]? with
  | none=>rw[e1] at hi;simp at hi
  | some d =>
   cases e2:r[i]? with
   | none=>rw[e1,e2] at hi;simp at hi
   | some x =>
    rw[e1,e2] at hi
    have hy':y=(d:Int)*x:=by simpa using hi.symm
    have hd:=Ma.on_ hb0 (List.mem_of_getElem? e1)
    have hx:=hw x (List.mem_of_getElem? e2)
    have:=Me.hh_ (m:=0) (x:=0) (w:=x) (d:=d) (b:=b) ⟨by decide,by decide⟩ hx hb hd
    rw[hy']
    omega
 rw[Ma.ha_ _ _ _ _ rfl] at g
 exact g
def RowsD(H:Hp)(b j q:Nat)(rs:List Addr):Prop:=∀k a,rs[k]?=some a->H a=some (.lst (natV (Ma.dws b (q+k) j j)))/\q+k<b ^ j
theorem RowsD.keep{H H':Hp}{b j q:Nat}{rs:List Addr}(h:RowsD H b j q rs)(s:Same H H'):RowsD H' b j q rs:=fun k a e=>⟨s _ _ (h k a e).1,(h k a e).2⟩
def ca_:Sp:=fun vs H Q _=>∃(b:Nat) (rl c tl:Addr) (rs ts:List Addr) (ws:List Int) (q j:Nat),vs=[.int b,.ref rl,.ref c,.ref tl]/\H rl=some (.lst (rs.map V.ref))/\H c=some (.lst (ws.map V.int))/\H tl=some (.lst (ts.map V.ref))/\ts.length=ws.length+1/\eI_ H b ts ws/\
 2<=b/\b<=16/\(∀x∈ws,-9<=x/\x<=9)/\ws.length<=6/\j<=ws.length/\RowsD H b j q rs/\
 ∀(p:Addr) (kvs:List (Key×V)) (h:Mu.Tri) (H':Hp),H p=none->Same H H'->H' p=some (.dK kvs)->PT H' kvs h->Mu.Rep h 810 (q*b ^ (ws.length-j)) (rs.length*b ^ (ws.length-j)) (fun n=>Mg.ws1 b n ws) (fun _=>1)->Q (.ref p) H'
theorem px_(n v S bw A B:Int):S+(n*A+(v+bw*n)*B)=S+(n*(A+bw*B)+v*B):=by
 have e1:bw*n*B=n*(bw*B):=by rw[Int.mul_comm bw n,Int.mul_assoc]
 rw[Int.add_mul,e1,Int.mul_add]
 omega
section
variable{P:Program}{w:World}{K:PySem.W.Frag}{mg:Str->Option Value}{base:Heap}
theorem dC_:FnScope ["base","rows","weights","tails","by_sums","stands","row","begun","begun_worth","tail","total","ways"] ["base","rows","weights","tails"] (i_ cO_):=⟨rfl,rfl,rfl,by decide +kernel,rfl,by decide +kernel,by decide +kernel⟩
theorem gi_{f:Addr}{fd:FuncData}(F:Fun K "worth_from_beginnings" "worth_from_beginnings" cO_ f fd)(T:Txt mg)(DA:Def P w K mg base 1 "add_rows" ["by_sums","total","ways","worth"] iz_)(DS:Def P w K mg base 1 "stands_of" ["base","length"] bI_)
  (DW:Def P w K mg base 1 "weighted_sum" ["figures","weights"] bF_) (DN:Def P w K mg base 1 "number_of" ["base","figures"] aO_):FnOk P w K mg base CX0 2 f fd ["base","rows","weights","tails"] ca_:=by
 refine F.ok dC_ (fun vs H Q E h=>?_) (fun cdv A outer s H vs Q E hr h=>?_)
 ·obtain⟨b,rl,c,tl,rs,ts,ws,q,j,rfl,_⟩:=h;rfl
 ·obtain⟨b,rl,c,tl,rs,ts,ws,q,j,rfl,hrl,hc,htl,hts,TT,hb2,hb,hw,hl6,hj,RD,k⟩:=h
  have nd:=dC_.nd
  have hu:=cD_ hr
  refine⟨_,b_ (k_ (i:=4) nd rfl (Or.inl rfl) be_)
   (b_ (k_ (i:=5) nd rfl (Or.inl rfl) (m_ DS hr.mo (by rfl) (a_ (pv 0) (a_ (lenS T.len (by rfl) (pv 2)) d_))))
   (b_ (B_ PassesOwn.never rfl (M_ (pv 1)) (n_ (i:=6) nd rfl (Or.inl rfl))
    (b_ (k_ (i:=7) nd rfl (Or.inl rfl) (m_ DW hr.mo (by rfl) (a_ (pv 6) (a_ (pv 2) d_))))
    (b_ (k_ (i:=8) nd rfl (Or.inl rfl) (l_ F_ (m_ DN hr.mo (by rfl) (a_ (pv 0) (a_ (pv 6) d_))) (ixl (pv 5) (l_ Q_ (lenS T.len (by rfl) (pv 2)) (lenS T.len (by rfl) (pv 6))))))
    (b_ (k_ (i:=9) nd rfl (Or.inl rfl) (ixl (pv 3) (lenS T.len (by rfl) (pv 6))))
    (b_ (B_ PassesOwn.never rfl (cj_ (pv 9)) (n_ (i:=10) nd rfl (Or.inl rfl))
     (b_ (k_ (i:=11) nd rfl (Or.inl rfl) (ixt (ar_ hu (pv 9) (pv 10) (fun _ _=>rfl)) e_))
     (g_ (y_ (m_ DA hr.mo (by rfl) (a_ (pv 4) (a_ (l_ r_ (pv 7) (pv 10)) (a_ (pv 11) (a_ (l_ r_ (ixt (ar_ hu (pv 9) (pv 10) (fun _ _=>rfl)) e_) (l_ F_ (pv 8) (pv 11))) d_)))))))))
    (bd_ D_))))))
   (g_ (o_ (pv 4))))),?_⟩
  intro p hp
  have s0:Same H (upd H p (.dK [])):=h_ hp
  have u0:(upd H p (.dK [])) p=some (.dK []):=c_
  generalize upd H p (.dK [])=H0 at s0 u0⊢
  refine⟨_,rfl,_,rfl,c,_,rfl,.inl (SqL.of (s0 _ _ hc)),b,ws.length,by simp,hb,hl6,fun sl H1 hsl s1 hs1=>?_⟩
  have S1:=s0.trans s1
  have b0:0<b:=by omega
  obtain⟨r2,hr2⟩:∃r,r=ws.drop j:=⟨_,rfl⟩
  have el2:r2.length=ws.length-j:=by rw[hr2,List.length_drop]
  have ews:ws.take j++r2=ws:=by rw[hr2];exact List.take_append_drop j ws
  have start:Mu.Rep [] 810 (q*b ^ (ws.length-j)) (0*b ^ (ws.length-j)) (fun n=>Mg.ws1 b n ws) (fun _=>1):=⟨Mu.OkT.nil,fun A B=>by rw[Nat.zero_mul];rfl⟩
  refine⟨_,rfl,rl,rfl,⟨_,SqL.of (S1 _ _ hrl)⟩,al_ (K:=K) (a:=rl) (xs:=rs.map V.ref) (fun i σ H2=>∃v6 v7 v8 v9 v10 v11,σ=[some (.int b),some (.ref rl),some (.ref c),some (.ref tl),some (.ref p),some (.ref sl),v6,v7,v8,v9,v10,v11]/\Same H H2/\H2 sl=some (.lst ((powL b ws.length).map V.int))/\∃kl hl',H2 p=some (.dK kl)/\PT H2 kl hl'/\Mu.Rep hl' 810 (q*b ^ (ws.length-j)) (i*b ^ (ws.length-j)) (fun n=>Mg.ws1 b n ws) (fun _=>1))
   ⟨none,none,none,none,none,none,rfl,S1,hs1,[],[],s1 _ _ u0,.nil,start⟩ (fun i σ H2 _ h=>by obtain⟨_,_,_,_,_,_,_,z,_⟩:=h;exact SqL.of (z _ _ hrl)) ?_ ?_⟩
  ·rintro i x σ H2 hx ⟨v6,v7,v8,v9,v10,v11,rfl,s2,sl2,kl,h0,p2,pt2,R2⟩
   obtain⟨ra,hra,rfl⟩:∃ra,rs[i]?=some ra/\x=.ref ra:=by
    rw[List.getElem?_map] at hx
    cases e:rs[i]? with
    | none=>rw[e] at hx;cases hx
    | some d=>rw[e] at hx;exact⟨d,rfl,(Option.some.inj hx).symm⟩
   obtain⟨hrow,hlt⟩:=RD i ra hra
   refine⟨_,rfl,_,rfl,ra,c,_,ws,rfl,s2 _ _ hrow,s2 _ _ hc,hw,by rw[Ma.L_];exact hj,hl6,fun H3 s3=>?_⟩
   rw[nS_ hj]
   have S3:=s2.trans s3
   have en:(((ws.map V.int).length:Nat):Int)-(((natV (Ma.dws b (q+i) j j)).length:Nat):Int)=((ws.length-j:Nat):Int):=by
    rw[List.length_map,natV,List.length_map,Ma.L_];omega
   have er:(((natV (Ma.dws b (q+i) j j)).length:Nat):Int)=(j:Int):=by rw[natV,List.length_map,Ma.L_]
   have est:atI ((powL b ws.length).map V.int) ((ws.length-j:Nat):Int)=some (.int ((b ^ (ws.length-j):Nat):Int)):=ab_ (by rw[List.getElem?_map,fs_ (by omega)];rfl)
   obtain⟨t,kvs,h,e1,e2,e3,R⟩:=TT j hj
   have ett:atI (ts.map V.ref) (j:Int)=some (.ref t):=ab_ (by rw[List.getElem?_map,e1];rfl)
   have hpw:b ^ (ws.length-j)<=16 ^ 6:=Nat.le_trans (Nat.pow_le_pow_left hb _) (Nat.pow_le_pow_right (by decide) (by omega))
   have h16:(16:Nat) ^ 6=16777216:=by decide
   refine⟨_,rfl,_,rfl,b,ra,_,rfl,hb,S3 _ _ hrow,_,rfl,_,rfl,c,_,rfl,.inl (SqL.of (S3 _ _ hc)),_,rfl,ra,_,rfl,.inl (SqL.of (S3 _ _ hrow)),_,_,rfl,rfl,?_⟩
   refine⟨sl,_,(((ws.map V.int).length:Nat):Int)-(((natV (Ma.dws b (q+i) j j)).length:Nat):Int),_,rfl,rfl,SqL.of (s3 _ _ sl2),by rw[en];exact est,_,_,rfl,rfl,.inr ⟨by omega,by omega⟩,?_⟩
   rw[Ma.lC_ b0 hlt]
   refine⟨_,rfl,_,rfl,ra,_,rfl,.inl (SqL.of (S3 _ _ hrow)),?_⟩
   refine⟨tl,_,(((natV (Ma.dws b (q+i) j j)).length:Nat):Int),_,rfl,rfl,SqL.of (S3 _ _ htl),by rw[er];exact ett,?_⟩
   have p3:=s3 _ _ p2
   have pt3:=PT.keep pt2 s3
   have sl3:=s3 _ _ sl2
   have t3:=S3 _ _ e2
   have ntp:t≠p:=f_ e2 hp
   rw[<-hr2] at R
   have R:RepA h (135*((ws.length-j:Nat):Int)) b r2:=R
   have ebw:((fun i j=>V.int (i*j)) (((q+i:Nat):Int)) (((b ^ (ws.length-j):Nat):Int)))=V.int ((((q+i)*b ^ r2.length:Nat):Int)):=by rw[el2];push_cast;rfl
   rw[ebw]
   refine⟨_,rfl,t,kvs,rfl,t3,fun o=>bh_ (fun m σ H4=>∃v10 v11,σ=[some (.int b),some (.ref rl),some (.ref c),some (.ref tl),some (.ref p),some (.ref sl),some (.ref ra),some (.int (Mg.ws1 b (q+i) (ws.take j))),some (.int (((q+i)*b ^ r2.length:Nat):Int)),some (.ref t),v10,v11]/\H4 t=some (.frz o (.dK kvs))/\Kp [t] H H4/\H4 sl=some (.lst ((powL b ws.length).map V.int))/\∃kl hl',H4 p=some (.dK kl)/\PT H4 kl hl'/\Mu.OkT hl' 810/\∀A B,Mu.TT hl' A B=Mu.TT h0 A B+Mu.TT (h.take m) (fun x=>A (Mg.ws1 b (q+i) (ws.take j)+x)+(((q+i)*b ^ r2.length:Nat):Int)*B (Mg.ws1 b (q+i) (ws.take j)+x)) (fun x=>B (Mg.ws1 b (q+i) (ws.take j)+x)))
    ⟨v10,v11,rfl,c_,O_ (Kp.of S3) (.inl (by simp)),?_,kl,h0,?_,?_,R2.ok,fun A B=>by simp[Mu.TT]⟩ (fun m σ H4 _ h=>by obtain⟨_,_,_,z,_⟩:=h;exact z) ?_ ?_⟩
   ·rw[j_ (fun z=>by rw[z,t3] at sl3;cases sl3)];exact sl3
   ·rw[j_ ntp.symm];exact p3
   ·exact PT.kp pt3 (O_ Kp.refl (.inl (by simp))) t3 (fun xs z=>nomatch z)
   ·rintro m kk v σ H4 hk ⟨v10,v11,rfl,ft,kp4,sl4,kl4,h4,p4,pt4,ok4,eq4⟩
    obtain⟨pr,hpr,hkk,_⟩:=Paired.at e3 hk
    have hkk':kk=Sum.inl pr.1:=hkk
    subst hkk'
    have pm:=List.mem_of_getElem? hpr
    have pb:=R.ok.bd pr.1 (List.mem_map.mpr ⟨pr,pm,rfl⟩)
    have pe:=RepA.ent R hb (by omega) pm
    have pd2:PT H4 kvs h:=PT.kp e3 kp4 e2 (fun xs z=>nomatch z)
    obtain⟨tu,et,ht⟩:∃tu,valV kvs (Sum.inl pr.1)=some (.ref tu)/\H4 tu=some (.tup [.int pr.2.1,.int pr.2.2]):=by
     rcases PT.val pr.1 pd2 with⟨a1,a2⟩ | ⟨m,x,a1,a2,a3⟩
     ·rw[Mu.ap_ R.ok.nd pm] at a2;cases a2
     ·rw[Mu.ap_ R.ok.nd pm] at a1
      cases a1
      exact⟨x,a2,a3⟩
    have dg:DGet H4 t (.int pr.1) (some (.ref tu)):=.inl ⟨kvs,Sum.inl pr.1,.inr ⟨o,ft⟩,rfl,et.symm⟩
    have hlen:=Mu.OkT.len (m:=810) ok4
    have bg:=nT_ (b:=b) (q:=q+i) (r:=ws.take j) b0 hb fun x hx=>hw x (List.mem_of_mem_take hx)
    have blen:(ws.take j).length=j:=by rw[List.length_take];omega
    rw[blen] at bg
    refine⟨_,rfl,_,rfl,t,.ref tu,rfl,dg,tu,_,0,_,rfl,rfl,SqT.of ht,rfl,?_⟩
    refine⟨_,rfl,_,rfl,_,rfl,_,_,rfl,rfl,_,rfl,_,rfl,_,rfl,t,.ref tu,rfl,dg,tu,_,1,_,rfl,rfl,SqT.of ht,rfl,_,rfl,_,rfl,_,_,rfl,rfl,.inr ⟨by omega,by omega⟩,_,_,rfl,rfl,?_⟩
    refine⟨p,kl4,h4,_,_,_,rfl,p4,pt4,by omega,fun kvs' H5 h5 pd5 kp5=>⟨_,_,rfl,?_,?_,?_,kvs',_,h5,pd5,?_,fun A B=>?_⟩⟩
    ·exact kp5 _ _ ft (by simpa using ntp)
    ·intro x ob e n
     have hxl:x≠p:=f_ e hp
     exact kp5 _ _ (kp4 _ _ e n) (by simpa using hxl)
    ·refine kp5 _ _ sl4 (fun z=>?_)
     have z':sl=p:=by simpa using z
     rw[z',p4] at sl4;cases sl4
    ·exact ok4.add (by omega)
    ·rw[Mu.mP_ ok4.nd,eq4 A B,Mu.fO_ hpr]
     exact(px_ _ _ _ _ _ _).trans (Int.add_assoc _ _ _)
   ·rintro σ H4 ⟨v10,v11,rfl,ft,kp4,sl4,kl4,h4,p4,pt4,ok4,eq4⟩
    have el:kvs.length=h.length:=PT.len e3
    rw[el,List.take_length] at eq4
    refine⟨t,o,kvs,ft,(fun o' u z=>by
     have z':H t=some (.frz o' u):=z
     rw[e2] at z';cases z'),_,_,_,_,_,_,rfl,fun x ob e=>?_,?_,kl4,h4,?_,PT.tups pt4 fun tt xs e=>?_,?_⟩
    ·by_cases hx:x=t
     ·rw[hx,c_,<-e2,<-hx];exact e
     ·rw[j_ hx];exact kp4 x ob e (by simpa using hx)
    ·rw[j_ (fun z=>by rw[z,ft] at sl4;cases sl4)];exact sl4
    ·rw[j_ ntp.symm];exact p4
    ·have hx:tt≠t:=fun z=>by rw[z,ft] at e;cases e
     rw[j_ hx];exact e
    ·rw[<-el2] at R2⊢
     have R2':Mu.Rep h0 810 (q*b ^ r2.length) (i*b ^ r2.length) (fun n=>Mg.ws1 b n (ws.take j++r2)) fun _=>1:=by rw[ews];exact R2
     have:=Mu.Rep.more (h':=h4) (m':=810) b0 R2' (q:=q+i) (by rw[Nat.add_mul]) R ok4 eq4
     rw[ews] at this
     rw[Nat.add_mul,Nat.one_mul]
     exact this
  ·rintro σ H2 ⟨v6,v7,v8,v9,v10,v11,rfl,s2,sl2,kl,h0,p2,pt2,R2⟩
   rw[List.length_map] at R2
   exact⟨_,rfl,k p kl h0 H2 hp s2 p2 pt2 R2⟩
end
end Hv
namespace Mu
open Me Mg
theorem dig{b x m t:Nat}(ht:t<m):x % b ^ m / b ^ (m-1-t) % b=x / b ^ (m-1-t) % b:=by
 have e:b ^ m=b ^ (m-1-t)*(b*b ^ t):=by
  rw[<-Nat.pow_succ',<-Nat.pow_add]
  congr 1
  omega
 rw[e,Nat.mod_mul_right_div_self,Nat.mod_mul_right_mod]
theorem mn_{b n L i:Nat}(h:i<L):(Ma.dws b n L L)[i]?=some (n / b ^ (L-1-i) % b):=by
 unfold Ma.dws
 rw[List.getElem?_map,List.getElem?_range h]
 rfl
theorem ic_{b a pl o l:Nat}(h:o+l<=pl):((Ma.dws b a pl pl).drop o).take l=Ma.dws b (a / b ^ (pl-o-l) % b ^ l) l l:=by
 apply List.ext_getElem?
 intro t
 by_cases ht:t<l
 ·rw[List.getElem?_take_of_lt ht,List.getElem?_drop,mn_ (by omega),mn_ ht,dig ht,Nat.div_div_eq_div_mul,<-Nat.pow_add]
  have:pl-1-(o+t)=pl-o-l+(l-1-t):=by omega
  rw[this]
 ·rw[List.getElem?_eq_none (by rw[List.length_take,List.length_drop,Ma.L_];omega),List.getElem?_eq_none (by rw[Ma.L_];omega)]
theorem nK_{b a pl o l:Nat}(h:o<=pl)(h2:pl<=o+l):((Ma.dws b a pl pl).drop o).take l=Ma.dws b (a % b ^ (pl-o)) (pl-o) (pl-o):=by
 have e:((Ma.dws b a pl pl).drop o).take l=((Ma.dws b a pl pl).drop o).take (pl-o):=by
  rw[List.take_of_length_le (by rw[List.length_drop,Ma.L_];omega),List.take_of_length_le (by rw[List.length_drop,Ma.L_];omega)]
 rw[e,ic_ (by omega)]
 have:pl-o-(pl-o)=0:=by omega
 rw[this,Nat.pow_zero,Nat.div_one]
theorem nJ_{b a pl o l:Nat}(h:pl<=o):((Ma.dws b a pl pl).drop o).take l=[]:=by
 rw[List.drop_of_length_le (by rw[Ma.L_];exact h)]
 simp
def pj(pl o l:Nat):Nat:=if o+l<=pl then l else if o<=pl then pl-o+1 else 0
def pq(b a pl o l:Nat):Nat:=if o+l<=pl then a / b ^ (pl-o-l) % b ^ l else if o<=pl then a % b ^ (pl-o)*b else 0
def pn(pl e o l:Nat):Nat:=if o+l<=pl then 1 else if o<=pl then e else 1
theorem pS_{pl o l:Nat}:pj pl o l<=l:=by
 unfold pj
 split
 ·exact Nat.le_refl _
 ·split <;> omega
end Mu
namespace Hv
open PySem L2
def ej_(H:Hp)(p:Addr)(b a pl e:Nat)(ps:List Nat)(bs:List Addr):Prop:=∀i l r,ps[i]?=some l->bs[i]?=some r->r≠p/\∃rs,H r=some (.lst (rs.map V.ref))/\rs.length=Mu.pn pl e (ps.take i).sum l/\(∀x∈rs,x≠p)/\RowsD H b (Mu.pj pl (ps.take i).sum l) (Mu.pq b a pl (ps.take i).sum l) rs
theorem ej_.up{H H':Hp}{p:Addr}{b a pl e:Nat}{ps:List Nat}{bs:List Addr}(h:ej_ H p b a pl e ps bs)(k:∀x o,H x=some o->x≠p->H' x=some o):ej_ H' p b a pl e ps bs:=fun i l r h1 h2=>by
 obtain⟨n1,rs,g1,g2,g3,g4⟩:=h i l r h1 h2
 exact⟨n1,rs,k _ _ g1 n1,g2,g3,fun m x e=>⟨k _ _ (g4 m x e).1 (g3 x (List.mem_of_getElem? e)),(g4 m x e).2⟩⟩
def bb_:Sp:=fun vs H Q _=>∃f A c b ps ws,∃(hd:Addr) (a pl e:Nat),vs=[.ref f,.ref hd,.int e]/\FrAt H f A c b ps ws/\H hd=some (.lst (natV (Ma.dws b a pl pl)))/\e<=b/\pl<=24/\
 ∀(p:Addr) (bs:List Addr) (H':Hp),H p=none->Same H H'->H' p=some (.lst (bs.map V.ref))->bs.length=ps.length->ej_ H' p b a pl e ps bs->Q (.ref p) H'
section
variable{P:Program}{w:World}{K:PySem.W.Frag}{mg:Str->Option Value}{base:Heap}
theorem dF_:FnScope ["frame","head","end","beginnings","start","length","given"] ["frame","head","end"] (i_ bP_):=⟨rfl,rfl,rfl,by decide +kernel,rfl,by decide +kernel,by decide +kernel⟩
theorem gm_{f:Addr}{fd:FuncData}(F:Fun K "part_beginnings" "part_beginnings" bP_ f fd)(T:Txt mg):FnOk P w K mg base CX0 1 f fd ["frame","head","end"] bb_:=by
 refine F.ok dF_ (fun vs H Q E h=>?_) (fun cdv A outer s H vs Q E hr h=>?_)
 ·obtain⟨g,A,c,b,ps,ws,hd,a,pl,e,rfl,_⟩:=h;rfl
 ·obtain⟨g,A',c,b,ps,ws,hd,a,pl,e,rfl,G,hhd,heb,hpl,k⟩:=h
  have nd:=dF_.nd
  have ok:=G.ok
  have l4:=ok.l4
  have b2:=ok.b2
  refine⟨_,b_ (k_ (i:=3) nd rfl (Or.inl rfl) (P_ d_))
   (b_ (k_ (i:=4) nd rfl (Or.inl rfl) e_)
   (b_ (B_ PassesOwn.never rfl (M_ (ixt (pv 0) e_)) (n_ (i:=5) nd rfl (Or.inl rfl))
    (b_ (k_ (i:=6) nd rfl (Or.inr rfl) (bQ_ dB_ (pv 1) (bu_ (pv 4)) (bu_ (l_ r_ (pv 4) (pv 5)))))
    (b_ (ae_ (iO_ gh_ oV_ (pv 4) (lenS T.len (by rfl) (pv 1)) (l_ r_ (pv 4) (pv 5)))
     (g_ (y_ (bv_ PySem.F.plainAttrs_list PySem.F.slot_list_append PySem.F.type_list_append H_ (pv 3) (a_ (aC_ (i_ bP_) ["frame","head","end","beginnings","start","length","given"] ["given"] [6] rfl (C_ (by rfl) T.range (a_ (pv 2) d_)) (fun cl C s H fp=>af_)
      (fun cl C s H fp=>l_ of_ (pv 1) (P_ (a_ (pv 0) d_))) (by decide +kernel)) d_))))
     (g_ (y_ (bv_ PySem.F.plainAttrs_list PySem.F.slot_list_append PySem.F.type_list_append H_ (pv 3) (a_ (P_ (a_ (pv 6) d_)) d_)))))
    (g_ (k_ (i:=4) nd rfl (Or.inl rfl) (l_ r_ (pv 4) (pv 5)))))))
   (g_ (o_ (pv 3))))),?_⟩
  refine⟨sz (by decide),fun p hp=>?_⟩
  have s1:Same H (upd H p (.lst [])):=h_ hp
  have G1:=G.keep s1
  refine⟨_,rfl,_,_,_,_,rfl,rfl,SqT.of G1.tp,rfl,A',rfl,⟨_,SqL.of G1.hp⟩,al_ (K:=K) (a:=A') (xs:=natV ps) (fun i σ H2=>∃(bs:List Addr) (v5 v6:Option V),σ=[some (.ref g),some (.ref hd),some (.int e),some (.ref p),some (.int (((ps.take i).sum:Nat):Int)),v5,v6]/\Same H H2/\H2 p=some (.lst (bs.map V.ref))/\bs.length=i/\ej_ H2 p b a pl e ps bs)
   ⟨[],none,none,rfl,s1,c_,rfl,fun i l r _ h=>by simp at h⟩ (fun i σ H2 _ h=>by obtain⟨_,_,_,_,s2,_⟩:=h;exact SqL.of (s2 _ _ G.hp)) ?_ ?_⟩
  ·rintro i x σ H2 hx ⟨bs,v5,v6,rfl,s2,hp2,hl2,B2⟩
   obtain⟨l,hl,rfl⟩:=lK_ hx
   have hi4:i<4:=by have:=(List.getElem?_eq_some_iff.mp hl).1;omega
   generalize eo:(ps.take i).sum=o
   have es:(ps.take (i+1)).sum=o+l:=by rw[List.take_add_one,hl,List.sum_append,eo];simp
   have eg:cutV (natV (Ma.dws b a pl pl)) (some ((o:Nat):Int)) (some (((o:Nat):Int)+((l:Nat):Int)))=natV (((Ma.dws b a pl pl).drop o).take l):=by
    rw[mw_]
    simp[natV,List.map_take,List.map_drop]
   refine⟨_,rfl,_,rfl,_,rfl,_,rfl,_,rfl,_,_,rfl,rfl,_,rfl,hd,_,rfl,SqL.of (s2 _ _ hhd),fun q hq=>?_⟩
   have eg':cutV (natV (Ma.dws b a pl pl)) (some ((o:Nat):Int)) (some ((fun i j=>i+j) ((o:Nat):Int) ((l:Nat):Int)))=natV (((Ma.dws b a pl pl).drop o).take l):=eg
   have s3:=h_ (o:=.lst (natV (((Ma.dws b a pl pl).drop o).take l))) hq
   have u3:(upd H2 q (.lst (natV (((Ma.dws b a pl pl).drop o).take l)))) q=_:=c_
   have epq:p≠q:=f_ hp2 hq
   rw[show(upd H2 q (.lst (cutV (natV (Ma.dws b a pl pl)) (some ((o:Nat):Int)) (some (((o:Nat):Int)+((l:Nat):Int))))))=upd H2 q (.lst (natV (((Ma.dws b a pl pl).drop o).take l))) from by rw[eg]]
   generalize upd H2 q (.lst (natV (((Ma.dws b a pl pl).drop o).take l)))=H3 at s3 u3⊢
   have p3:=s3 _ _ hp2
   have close:∀(r:Addr) (rs:List Addr) (H4:Hp),Same H3 H4->H4 r=some (.lst (rs.map V.ref))->r≠p->rs.length=Mu.pn pl e o l->(∀x∈rs,x≠p)->RowsD H4 b (Mu.pj pl o l) (Mu.pq b a pl o l) rs->
     Same H (upd H4 p (.lst (bs.map V.ref++[V.ref r])))/\(upd H4 p (.lst (bs.map V.ref++[V.ref r]))) p=some (.lst ((bs++[r]).map V.ref))/\(bs++[r]).length=i+1/\ej_ (upd H4 p (.lst (bs.map V.ref++[V.ref r]))) p b a pl e ps (bs++[r]):=fun r rs H4 s4 hr4 nr hn hne RD=>by
    refine⟨t_ ((s2.trans s3).trans s4) hp,by rw[c_,List.map_append];rfl,by simp[hl2],fun m l' r' h1 h2=>?_⟩
    have upx:∀x ob,H4 x=some ob->x≠p->(upd H4 p (.lst (bs.map V.ref++[V.ref r]))) x=some ob:=fun x ob e n=>by rw[j_ n];exact e
    by_cases hm:m<bs.length
    ·rw[List.getElem?_append_left hm] at h2
     exact ej_.up B2 (fun x ob e n=>upx x ob ((s3.trans s4) _ _ e) n) m l' r' h1 h2
    ·have hm':m=bs.length:=by
      have:=(List.getElem?_eq_some_iff.mp h2).1
      simp at this
      omega
     have hmi:m=i:=by omega
     subst hmi
     rw[List.getElem?_append_right (by omega),hm',Nat.sub_self] at h2
     have er:r=r':=by simpa using h2
     subst er
     rw[hl] at h1
     have el:l=l':=Option.some.inj h1
     subst el
     rw[eo]
     exact⟨nr,rs,upx _ _ hr4 nr,hn,hne,fun t x e=>⟨upx _ _ (RD t x e).1 (hne x (List.mem_of_getElem? e)),(RD t x e).2⟩⟩
   have one:∀H4,Same H3 H4->((Ma.dws b a pl pl).drop o).take l=Ma.dws b (Mu.pq b a pl o l) (Mu.pj pl o l) (Mu.pj pl o l)->Mu.pq b a pl o l<b ^ Mu.pj pl o l->RowsD H4 b (Mu.pj pl o l) (Mu.pq b a pl o l) [q]:=fun H4 s4 e1 e2 t x e=>by
    have ht:t=0:=by have:=(List.getElem?_eq_some_iff.mp e).1;simp at this;exact this
    subst ht
    have ex:q=x:=by simpa using e
    subst ex
    rw[Nat.add_zero,<-e1]
    exact⟨s4 _ _ u3,e2⟩
   have el0:(((natV (Ma.dws b a pl pl)).length:Nat):Int)=(pl:Int):=by rw[natV,List.length_map,Ma.L_]
   refine⟨_,rfl,_,rfl,hd,_,rfl,.inl (SqL.of (s3 _ _ (s2 _ _ hhd))),_,_,rfl,rfl,_,rfl,?_⟩
   rw[el0]
   have b0:0<b:=by omega
   have single:∀(_:((Ma.dws b a pl pl).drop o).take l=Ma.dws b (Mu.pq b a pl o l) (Mu.pj pl o l) (Mu.pj pl o l)) (_:Mu.pq b a pl o l<b ^ Mu.pj pl o l) (_:1=Mu.pn pl e o l) (d:Addr) (hd':H3 d=none),_:=fun e1 e2 e3 d hd'=>close d [q] _ (h_ (o:=.lst [.ref q]) hd') c_ (Ne.symm (f_ p3 hd')) e3 (fun x hx=>(show x=q by simpa using hx)▸Ne.symm epq) (one _ (h_ hd') e1 e2)
   by_cases hA:o+l<=pl
   ·have j1:Mu.pj pl o l=l:=by unfold Mu.pj;rw[if_pos hA]
    have j2:Mu.pq b a pl o l=a / b ^ (pl-o-l) % b ^ l:=by unfold Mu.pq;rw[if_pos hA]
    have j3:Mu.pn pl e o l=1:=by unfold Mu.pn;rw[if_pos hA]
    rw[decide_eq_true (show((o:Nat):Int)<=(pl:Int) by omega)]
    refine iteT ⟨_,rfl,_,rfl,_,_,rfl,rfl,_,_,rfl,rfl,_,rfl,?_⟩
    rw[decide_eq_false (show ¬ (pl:Int)<(o:Int)+(l:Int) by omega)]
    refine iteF ⟨_,rfl,.inl ⟨rfl,_,SqL.of p3⟩,_,rfl,sz (by simp),fun d hd'=>?_⟩
    obtain⟨c1,c2,c3,c4⟩:=single (by rw[j1,j2];exact Mu.ic_ hA) (by rw[j1,j2];exact Nat.mod_lt _ (Nat.pow_pos b0)) j3.symm d hd'
    refine⟨p,_,_,rfl,rfl,(h_ hd') _ _ p3,szl (by rw[List.length_map];omega),?_⟩
    refine⟨_,rfl,_,rfl,_,_,rfl,rfl,bs++[d],some (.int (l:Int)),some (.ref q),?_,c1,c2,c3,c4⟩
    rw[es];push_cast;rfl
   by_cases hC:pl<o
   ·have j1:Mu.pj pl o l=0:=by unfold Mu.pj;rw[if_neg hA,if_neg (by omega)]
    have j2:Mu.pq b a pl o l=0:=by unfold Mu.pq;rw[if_neg hA,if_neg (by omega)]
    have j3:Mu.pn pl e o l=1:=by unfold Mu.pn;rw[if_neg hA,if_neg (by omega)]
    rw[decide_eq_false (show ¬ ((o:Nat):Int)<=(pl:Int) by omega)]
    refine iteF ⟨_,rfl,iteF ⟨_,rfl,.inl ⟨rfl,_,SqL.of p3⟩,_,rfl,sz (by simp),fun d hd'=>?_⟩⟩
    obtain⟨c1,c2,c3,c4⟩:=single (by rw[j1,j2];exact Mu.nJ_ (by omega)) (by rw[j1,j2];exact Nat.pow_pos b0) j3.symm d hd'
    refine⟨p,_,_,rfl,rfl,(h_ hd') _ _ p3,szl (by rw[List.length_map];omega),?_⟩
    refine⟨_,rfl,_,rfl,_,_,rfl,rfl,bs++[d],some (.int (l:Int)),some (.ref q),?_,c1,c2,c3,c4⟩
    rw[es];push_cast;rfl
   ·have j1:Mu.pj pl o l=pl-o+1:=by unfold Mu.pj;rw[if_neg hA,if_pos (by omega)]
    have j2:Mu.pq b a pl o l=a % b ^ (pl-o)*b:=by unfold Mu.pq;rw[if_neg hA,if_pos (by omega)]
    have j3:Mu.pn pl e o l=e:=by unfold Mu.pn;rw[if_neg hA,if_pos (by omega)]
    rw[decide_eq_true (show((o:Nat):Int)<=(pl:Int) by omega)]
    refine iteT ⟨_,rfl,_,rfl,_,_,rfl,rfl,_,_,rfl,rfl,_,rfl,?_⟩
    rw[decide_eq_true (show(pl:Int)<(o:Int)+(l:Int) by omega)]
    have eg3:=Mu.nK_ (b:=b) (a:=a) (pl:=pl) (o:=o) (l:=l) (by omega) (by omega)
    have b16:=ok.b16
    refine iteT ⟨_,rfl,.inl ⟨rfl,_,SqL.of p3⟩,_,rfl,_,rfl,by omega,by omega,aX_ (lo:=0) (n:=(e:Int).toNat) (fun m ys H4=>∃rs:List Addr,ys=rs.map V.ref/\rs.length=m/\(∀x∈rs,x≠p)/\Same H3 H4/\RowsD H4 b (pl-o+1) (a % b ^ (pl-o)*b) rs)
     ⟨[],rfl,rfl,fun x hx=>by simp at hx,Same.refl _,fun t x h=>by simp at h⟩ ?_ ?_⟩
    ·rintro m ys H4 hm ⟨rs,rfl,hrl,hne,s4,RD⟩
     have hme:m<e:=by omega
     refine⟨szl (by rw[List.length_map];omega),_,rfl,_,rfl,sz (by simp),fun t ht=>?_⟩
     have s45:Same H4 _:=h_ (o:=.lst [.int (0+(m:Int))]) ht
     have s5:=s4.trans s45
     have u5:(upd H4 t (.lst [.int (0+(m:Int))])) t=_:=c_
     generalize upd H4 t (.lst [.int (0+(m:Int))])=H5 at s45 s5 u5⊢
     refine⟨q,t,_,_,rfl,rfl,s5 _ _ u3,u5,sz (by rw[eg3,natV,List.length_map,Ma.L_];simp;omega),fun r hr'=>?_⟩
     have s6:=h_ (o:=.lst (natV (((Ma.dws b a pl pl).drop o).take l)++[.int (0+(m:Int))])) hr'
     have u6:(upd H5 r (.lst (natV (((Ma.dws b a pl pl).drop o).take l)++[.int (0+(m:Int))]))) r=_:=c_
     have s46:Same H4 (upd H5 r (.lst (natV (((Ma.dws b a pl pl).drop o).take l)++[.int (0+(m:Int))]))):=s45.trans s6
     refine⟨rs++[r],by rw[List.map_append];rfl,by simp[hrl],fun x hx=>?_,s4.trans s46,fun t' x h=>?_⟩
     ·rcases List.mem_append.mp hx with hx | hx
      ·exact hne x hx
      ·have:x=r:=by simpa using hx
       rw[this]
       exact Ne.symm (f_ (s5 _ _ p3) hr')
     ·by_cases ht':t'<rs.length
      ·rw[List.getElem?_append_left ht'] at h
       exact RD.keep s46 t' x h
      ·have e1:t'=m:=by
        have:=(List.getElem?_eq_some_iff.mp h).1
        simp at this
        omega
       subst e1
       rw[List.getElem?_append_right (by omega),hrl,Nat.sub_self] at h
       have e2:r=x:=by simpa using h
       subst e2
       have hmb:t'<b:=by omega
       refine⟨?_,?_⟩
       ·rw[u6,eg3,Mg.mm_ b _ t' (pl-o) hmb]
        simp[natV]
       ·rw[Nat.pow_succ]
        have h1:a % b ^ (pl-o)<b ^ (pl-o):=Nat.mod_lt _ (Nat.pow_pos b0)
        have h2:(a % b ^ (pl-o)+1)*b<=b ^ (pl-o)*b:=Nat.mul_le_mul_right b h1
        rw[Nat.add_mul] at h2
        omega
    ·rintro ys H4 ⟨rs,rfl,hrl,hne,s4,RD⟩ D hD
     have s5:=s4.trans (h_ (o:=.lst (rs.map V.ref)) hD)
     obtain⟨c1,c2,c3,c4⟩:=close D rs _ s5 c_ (Ne.symm (f_ (s4 _ _ p3) hD)) (by rw[j3,hrl];omega) hne (by rw[j1,j2];exact RD.keep (h_ hD))
     refine⟨p,_,_,rfl,rfl,s5 _ _ p3,szl (by rw[List.length_map];omega),?_⟩
     refine⟨_,rfl,_,rfl,_,_,rfl,rfl,bs++[D],some (.int (l:Int)),some (.ref q),?_,c1,c2,c3,c4⟩
     rw[es];push_cast;rfl
  ·rintro σ H2 ⟨bs,v5,v6,rfl,s2,hp2,hl2,B2⟩
   refine⟨_,rfl,k p bs H2 hp s2 hp2 (by rw[hl2];simp[natV]) B2⟩
end
end Hv
namespace Mu
open Me Mg
abbrev Stre:=Nat×Nat×Nat
abbrev sLo(b S:Nat)(x:Stre):Nat:=x.1*b ^ (S-x.2.1)
abbrev sN(b S:Nat)(x:Stre):Nat:=x.2.2*b ^ (S-x.2.1-1)
def strS(b S:Nat)(L:List Stre)(g:Nat->Int):Int:=(L.map fun x=>ns (fun i=>g (sLo b S x+i)) (sN b S x)).sum
structure StrOk(b S:Nat)(x:Stre):Prop where
 pl:x.2.1<S
 e1:1<=x.2.2
 eb:x.2.2<=b
 ha:x.1<b ^ x.2.1
def upTo(b S n:Nat):Nat->List Stre
 | 0=>[]
 | i+1=>upTo b S n i++if 0<n / b ^ (S-1-i) % b then [(n / b ^ (S-i),i,n / b ^ (S-1-i) % b)] else []
theorem ku_{b S n:Nat}(hb:0<b)(hn:n<b ^ S):∀i,i<=S->∀x∈upTo b S n i,StrOk b S x
 | 0,_,x,hx=>by simp[upTo] at hx
 | i+1,hi,x,hx=>by
  rw[upTo] at hx
  rcases List.mem_append.mp hx with hx | hx
  ·exact ku_ hb hn i (by omega) x hx
  ·split at hx
   ·rename_i h
    have e:x=(n / b ^ (S-i),i,n / b ^ (S-1-i) % b):=by simpa using hx
    subst e
    refine⟨by simp only;omega,h,Nat.le_of_lt (Nat.mod_lt _ hb),?_⟩
    show n / b ^ (S-i)<b ^ i
    rw[Nat.div_lt_iff_lt_mul (Nat.pow_pos hb),<-Nat.pow_add]
    have:i+(S-i)=S:=by omega
    rw[this]
    exact hn
   ·simp at hx
theorem eK_(b S n:Nat):∀i,(upTo b S n i).length<=i
 | 0=>by simp[upTo]
 | i+1=>by
  rw[upTo,List.length_append]
  have:=eK_ b S n i
  split <;> simp <;> omega
theorem mZ_(b S:Nat)(L M:List Stre)(g:Nat->Int):strS b S (L++M) g=strS b S L g+strS b S M g:=by simp[strS]
theorem in_{b S n:Nat}(hb:0<b)(hn:n<b ^ S)(g:Nat->Int):∀i,i<=S->strS b S (upTo b S n i) g=ns g (n / b ^ (S-i)*b ^ (S-i))
 | 0,_=>by
  rw[Nat.sub_zero,Nat.div_eq_of_lt hn,Nat.zero_mul]
  rfl
 | i+1,hi=>by
  rw[upTo,mZ_,in_ hb hn g i (by omega)]
  have e1:S-(i+1)=S-1-i:=by omega
  have e2:S-i=S-1-i+1:=by omega
  rw[e1]
  generalize hk:S-1-i=k at *
  have e3:n / b ^ k*b ^ k=n / b ^ (k+1)*b ^ (k+1)+n / b ^ k % b*b ^ k:=by
   have h1:=Nat.div_add_mod (n / b ^ k) b
   rw[Nat.div_div_eq_div_mul,<-Nat.pow_succ] at h1
   have h2:n / b ^ (k+1)*b ^ (k+1)=b*(n / b ^ (k+1))*b ^ k:=by
    rw[Nat.pow_succ' (m:=b) (n:=k)]
    rw[Nat.mul_comm b (n / _),Nat.mul_assoc]
   rw[h2,<-Nat.add_mul,h1]
  rw[e2,e3,eC_]
  congr 1
  split
  ·rename_i h
   have e4:S-i-1=k:=by omega
   simp only[strS,sLo,sN,List.map_cons,List.map_nil,List.sum_cons,List.sum_nil,e2,Int.add_zero]
   have e5:k+1-1=k:=by omega
   rw[e5]
  ·rename_i h
   have e6:n / b ^ k % b=0:=by omega
   rw[e6,Nat.zero_mul]
   rfl
theorem mU_{b S n:Nat}(hb:0<b)(hn:n<b ^ S)(g:Nat->Int):strS b S (upTo b S n S) g=ns g n:=by
 rw[in_ hb hn g S (Nat.le_refl _),Nat.sub_self,Nat.pow_zero,Nat.div_one,Nat.mul_one]
theorem kq_{b S:Nat}(hS:0<S)(g:Nat->Int):strS b S [(0,0,b)] g=ns g (b ^ S):=by
 have e:b*b ^ (S-1)=b ^ S:=by
  rw[<-Nat.pow_succ']
  congr 1
  omega
 simp only[strS,sLo,sN,List.map_cons,List.map_nil,List.sum_cons,List.sum_nil,Nat.sub_zero,Nat.zero_mul,Nat.zero_add,Int.add_zero,e]
theorem nI_{b n S i:Nat}(hb:0<b)(hn:n<b ^ S)(hi:i<=S):(Ma.dws b n S S).take i=Ma.dws b (n / b ^ (S-i)) i i:=by
 have:=ic_ (b:=b) (a:=n) (pl:=S) (o:=0) (l:=i) (by omega)
 rw[List.drop_zero,Nat.sub_zero] at this
 rw[this,Nat.mod_eq_of_lt]
 rw[Nat.div_lt_iff_lt_mul (Nat.pow_pos hb),<-Nat.pow_add]
 have:i+(S-i)=S:=by omega
 rw[this]
 exact hn
end Mu
namespace Hv
open PySem L2
theorem qL_{xs:List V}{k:Nat}:cutV xs none (some (k:Int))=xs.take k:=by
 unfold cutV
 rw[HT.fm_,HT.dN_]
 rcases Nat.le_total k xs.length with h | h
 ·rw[Nat.min_eq_left h]
  simp
 ·rw[Nat.min_eq_right h,List.take_of_length_le h]
  simp
def aw_:Sp:=fun vs H Q _=>∃f a c b ps ws,∃n:Nat,vs=[.ref f,.int n]/\FrAt H f a c b ps ws/\n<=b ^ ps.sum/\∀H',Same H H'->Q .non H'
def StrAt(H:Hp)(b:Nat)(t:Addr)(x:Mu.Stre):Prop:=∃h,H t=some (.tup [.ref h,.int (x.2.2:Int)])/\H h=some (.lst (natV (Ma.dws b x.1 x.2.1 x.2.1)))
theorem StrAt.keep{H H':Hp}{b:Nat}{t:Addr}{x:Mu.Stre}(h:StrAt H b t x)(s:Same H H'):StrAt H' b t x:=let ⟨a,h1,h2⟩:=h;⟨a,s _ _ h1,s _ _ h2⟩
def ba_:Sp:=fun vs H Q _=>∃f a c b ps ws,∃n:Nat,vs=[.ref f,.int n]/\FrAt H f a c b ps ws/\n<=b ^ ps.sum/\
 ∀(p:Addr) (ts:List Addr) (L:List Mu.Stre) (H':Hp),H p=none->Same H H'->H' p=some (.lst (ts.map V.ref))->Paired (StrAt H' b) ts L->L.length<=24->(∀x∈L,Mu.StrOk b ps.sum x)->(∀g,Mu.strS b ps.sum L g=Mg.ns g n)->Q (.ref p) H'
section
variable{P:Program}{w:World}{K:PySem.W.Frag}{mg:Str->Option Value}{base:Heap}
theorem hs_:FnScope ["frame","thing"] ["frame","thing"] (i_ cQ_):=⟨rfl,rfl,rfl,by decide +kernel,rfl,by decide +kernel,by decide +kernel⟩
theorem go_{f:Addr}{fd:FuncData}(F:Fun K "need_bound" "need_bound" cQ_ f fd)(D2:Def P w K mg base 2 "is_between" ["thing","least","greatest"] eq_)(D6:Def P w K mg base 6 "how_many" ["frame"] an_):FnOk P w K mg base CX0 7 f fd ["frame","thing"] aw_:=by
 refine F.ok hs_ (fun vs H Q E h=>?_) (fun cdv A outer s H vs Q E hr h=>?_)
 ·obtain⟨g,a,c,b,ps,ws,n,rfl,_⟩:=h;rfl
 ·obtain⟨g,a,c,b,ps,ws,n,rfl,G,hn,k⟩:=h
  refine⟨_,g_ (ae_ (bl_ (bs_ (m_ D2 hr.mo (by rfl) (a_ (pv 1) (a_ e_ (a_ (m_ D6 hr (by rfl) (a_ (pv 0) d_)) d_)))))) bt_ D_),?_⟩
  refine⟨_,rfl,_,rfl,g,a,c,b,ps,ws,rfl,G,fun H1 s1=>⟨.int n,0,_,rfl,.int _,_,rfl,?_⟩⟩
  have e:betw (.int (n:Int)) 0 ((b ^ ps.sum:Nat):Int)=true:=by simp only[betw,Bool.and_eq_true,decide_eq_true_eq];omega
  rw[e]
  exact iteF (k H1 s1)
theorem dE_:FnScope ["frame","n","figures"] ["frame","n"] (i_ bN_):=⟨rfl,rfl,rfl,by decide +kernel,rfl,by decide +kernel,by decide +kernel⟩
theorem gl_{f:Addr}{fd:FuncData}(F:Fun K "stretches_below" "stretches_below" bN_ f fd)(T:Txt mg)(D6:Def P w K mg base 6 "how_many" ["frame"] an_)(D8:Def P w K mg base 8 "figures_of" ["frame","n"] ct_):FnOk P w K mg base CX0 9 f fd ["frame","n"] ba_:=by
 refine F.ok dE_ (fun vs H Q E h=>?_) (fun cdv A outer s H vs Q E hr h=>?_)
 ·obtain⟨g,a,c,b,ps,ws,n,rfl,_⟩:=h;rfl
 ·obtain⟨g,a,c,b,ps,ws,n,rfl,G,hn,k⟩:=h
  have nd:=dE_.nd
  have ok:=G.ok
  have hsum:=ok.sum
  have b2:=ok.b2
  have b0:0<b:=by omega
  refine⟨_,b_ (ae_ (E_ ls_ (pv 1) (m_ D6 hr.mo (by rfl) (a_ (pv 0) d_)) (nomark _)) (g_ (o_ (P_ (a_ (aS_ (a_ (P_ d_) (a_ (ixt (pv 0) e_) d_))) d_)))) D_)
   (b_ (k_ (i:=2) nd rfl (Or.inr rfl) (m_ D8 hr (by rfl) (a_ (pv 0) (a_ (pv 1) d_))))
   (g_ (o_ (aC_ (i_ bN_) ["frame","n","figures"] ["figures"] [2] rfl (C_ (by rfl) T.range (a_ (lenS T.len (by rfl) (pv 2)) d_)) (fun cl C s H fp=>od_ (E_ lr_ (ixlK K rfl (pv 1) (pv 0)) e_ (nomark _)))
    (fun cl C s H fp=>aS_ (a_ (bQ_ (iA_ K rfl) (pv 1) ft_ (bu_ (pv 0))) (a_ (ixlK K rfl (pv 1) (pv 0)) d_))) (by decide +kernel))))),?_⟩
  refine⟨_,rfl,_,rfl,g,a,c,b,ps,ws,rfl,G,fun H1 s1=>⟨rfl,_,rfl,?_⟩⟩
  have G1:=G.keep s1
  by_cases he:n=b ^ ps.sum
  ·rw[decide_eq_true (by rw[he])]
   refine iteT ⟨sz (by decide),fun p1 hp1=>?_⟩
   have t1:=h_ (o:=.lst []) hp1
   have G2:=G1.keep t1
   have u1:(upd H1 p1 (.lst [])) p1=_:=c_
   generalize upd H1 p1 (.lst [])=H2 at t1 G2 u1⊢
   refine⟨_,rfl,_,_,_,_,rfl,rfl,SqT.of G2.tp,rfl,sz (by simp),fun p2 hp2=>⟨sz (by simp),fun p3 hp3=>?_⟩⟩
   have t2:=h_ (o:=.tup [.ref p1,.int (b:Int)]) hp2
   have t3:=h_ (o:=.lst [.ref p2]) hp3
   refine k p3 [p2] [(0,0,b)] _ (s1.free (t1.free (t2.free hp3))) (((s1.trans t1).trans t2).trans t3) c_ (.cons ⟨p1,t3 _ _ c_,t3 _ _ (t2 _ _ u1)⟩ .nil) (by simp) (fun x hx=>?_) (fun g=>?_)
   ·have:x=(0,0,b):=by simpa using hx
    subst this
    exact⟨by simp only;omega,by simp only;omega,Nat.le_refl _,by simp⟩
   ·rw[he]
    exact Mu.kq_ (by omega) g
  ·have hlt:n<b ^ ps.sum:=by omega
   rw[decide_eq_false (by intro z;cases z;exact he rfl)]
   refine iteF ⟨_,rfl,_,rfl,g,a,c,b,ps,ws,n,rfl,G1,hlt,fun r H2 hr1 s2 h2=>?_⟩
   have el:(natV (Ma.dws b n ps.sum ps.sum)).length=ps.sum:=by rw[natV,List.length_map,Ma.L_]
   refine⟨_,rfl,r,_,rfl,.inl (SqL.of h2),_,rfl,by omega,by omega,aX_ (lo:=0) (n:=(((natV (Ma.dws b n ps.sum ps.sum)).length:Nat):Int).toNat) (fun i ys H3=>∃ts:List Addr,ys=ts.map V.ref/\Same H2 H3/\Paired (StrAt H3 b) ts (Mu.upTo b ps.sum n i)) ⟨[],rfl,Same.refl _,.nil⟩ ?_ ?_⟩
   ·rintro i ys H3 hi ⟨ts,rfl,s3,PR⟩
    have hi':i<ps.sum:=by omega
    have tl:ts.length<=i:=by rw[Paired.length PR];exact Mu.eK_ b ps.sum n i
    have ez:(0:Int)+(i:Int)=(i:Int):=Int.zero_add _
    have ea:atI (natV (Ma.dws b n ps.sum ps.sum)) (0+(i:Int))=some (.int ((n / b ^ (ps.sum-1-i) % b:Nat):Int)):=by
     rw[ez]
     exact ab_ (by rw[natV,List.getElem?_map,Mu.mn_ hi'];rfl)
    refine⟨szl (by rw[List.length_map];omega),_,rfl,_,rfl,br_ (s3 _ _ h2) ea ⟨_,_,rfl,rfl,_,rfl,?_⟩⟩
    by_cases hd:0<n / b ^ (ps.sum-1-i) % b
    ·rw[decide_eq_true (by omega)]
     refine iteT ⟨_,rfl,_,rfl,_,rfl,r,_,rfl,SqL.of (s3 _ _ h2),fun q hq=>?_⟩
     have eg:cutV (natV (Ma.dws b n ps.sum ps.sum)) none (some (0+(i:Int)))=natV (Ma.dws b (n / b ^ (ps.sum-i)) i i):=by
      rw[ez,qL_,<-Mu.nI_ b0 hlt (by omega)]
      simp[natV,List.map_take]
     rw[eg]
     have t4:=h_ (o:=.lst (natV (Ma.dws b (n / b ^ (ps.sum-i)) i i))) hq
     have u4:(upd H3 q (.lst (natV (Ma.dws b (n / b ^ (ps.sum-i)) i i)))) q=_:=c_
     generalize upd H3 q (.lst (natV (Ma.dws b (n / b ^ (ps.sum-i)) i i)))=H4 at t4 u4⊢
     refine⟨_,rfl,_,rfl,br_ (t4 _ _ (s3 _ _ h2)) ea ⟨sz (by simp),fun t ht=>?_⟩⟩
     have t5:=h_ (o:=.tup [.ref q,.int ((n / b ^ (ps.sum-1-i) % b:Nat):Int)]) ht
     refine⟨ts++[t],by rw[List.map_append];rfl,s3.trans (t4.trans t5),?_⟩
     rw[Mu.upTo,if_pos hd]
     exact Paired.snoc (L2.Paired.mapP PR fun _ _ h=>StrAt.keep h (t4.trans t5)) ⟨q,c_,t5 _ _ u4⟩
    ·rw[decide_eq_false (by omega)]
     refine iteF ⟨ts,rfl,s3,?_⟩
     rw[Mu.upTo,if_neg hd,List.append_nil]
     exact PR
   ·rintro ys H3 ⟨ts,rfl,s3,PR⟩ D hD
    have en:(((natV (Ma.dws b n ps.sum ps.sum)).length:Nat):Int).toNat=ps.sum:=by omega
    rw[en] at PR
    exact k D ts _ _ (s1.free (s2.free (s3.free hD))) ((s1.trans s2).trans (s3.trans (h_ hD))) c_ (L2.Paired.mapP PR fun _ _ h=>StrAt.keep h (h_ hD)) (Nat.le_trans (Mu.eK_ _ _ _ _) (by omega)) (Mu.ku_ b0 hlt _ (Nat.le_refl _)) (Mu.mU_ b0 hlt)
end
end Hv
namespace Mu
open Me Mg
def lo(b a pl o:Nat):Nat:=if o<=pl then a / b ^ (pl-o) else a*b ^ (o-pl)
def cn(b pl e o:Nat):Nat:=if o<=pl then 1 else e*b ^ (o-pl-1)
def plo(b a pl o l:Nat):Nat:=pq b a pl o l*b ^ (l-pj pl o l)
def pcn(b pl e o l:Nat):Nat:=pn pl e o l*b ^ (l-pj pl o l)
theorem cB_{b a pl e o l:Nat}(hb:0<b)(he:e<=b) :
  lo b a pl (o+l)=lo b a pl o*b ^ l+plo b a pl o l/\cn b pl e (o+l)=cn b pl e o*pcn b pl e o l/\(cn b pl e o=1\/(plo b a pl o l=0/\pcn b pl e o l=b ^ l))/\plo b a pl o l+pcn b pl e o l<=b ^ l:=by
 unfold lo cn plo pcn pj pq pn
 by_cases hA:o+l<=pl
 ·have h1:o<=pl:=by omega
  simp only[if_pos hA,if_pos h1,Nat.sub_self,Nat.pow_zero,Nat.mul_one]
  have e1:pl-(o+l)=pl-o-l:=by omega
  have e2:a / b ^ (pl-o)=a / b ^ (pl-o-l) / b ^ l:=by
   rw[Nat.div_div_eq_div_mul,<-Nat.pow_add]
   congr 2
   omega
  have h2:a / b ^ (pl-o-l) % b ^ l<b ^ l:=Nat.mod_lt _ (Nat.pow_pos hb)
  refine⟨?_,trivial,.inl trivial,h2⟩
  rw[e1,e2,Nat.mul_comm]
  exact(Nat.div_add_mod _ _).symm
 ·by_cases hC:o<=pl
  ·simp only[if_neg hA,if_pos hC]
   obtain⟨m,hm⟩:∃m,m=pl-o:=⟨_,rfl⟩
   obtain⟨r,hr⟩:∃r,r=l-m-1:=⟨_,rfl⟩
   have e1:l-(pl-o+1)=r:=by omega
   have e2:o+l-pl=r+1:=by omega
   have e3:l=m+1+r:=by omega
   rw[e1,e2,<-hm]
   have hbl:b ^ l=b ^ m*b*b ^ r:=by rw[e3,Nat.pow_add,Nat.pow_succ]
   have h2:a % b ^ m<b ^ m:=Nat.mod_lt _ (Nat.pow_pos hb)
   have h3:a % b ^ m*b+e<=b ^ m*b:=by
    have:(a % b ^ m+1)*b<=b ^ m*b:=Nat.mul_le_mul_right b h2
    rw[Nat.add_mul] at this
    omega
   refine⟨?_,?_,.inl trivial,?_⟩
   ·have h4:=Nat.div_add_mod a (b ^ m)
    have h5:a*b ^ (r+1)=(b ^ m*(a / b ^ m)+a % b ^ m)*b ^ (r+1):=by rw[h4]
    rw[h5,hbl,Nat.add_mul,Nat.pow_succ']
    congr 1
    ·rw[Nat.mul_comm (b ^ m),Nat.mul_assoc,Nat.mul_assoc]
    ·rw[Nat.mul_assoc]
   ·have e4:r+1-1=r:=by omega
    rw[e4,Nat.one_mul]
   ·rw[<-Nat.add_mul,hbl]
    exact Nat.mul_le_mul_right _ h3
  ·have h1:¬ o+l<=pl:=hA
   simp only[if_neg hA,if_neg hC,Nat.zero_mul,Nat.sub_zero,Nat.one_mul,Nat.add_zero,Nat.zero_add,Nat.le_refl,and_true,or_true]
   have e1:o+l-pl=(o-pl)+l:=by omega
   have e2:o+l-pl-1=(o-pl-1)+l:=by omega
   rw[e2,e1,Nat.pow_add,Nat.pow_add]
   exact⟨(Nat.mul_assoc _ _ _).symm,(Nat.mul_assoc _ _ _).symm⟩
theorem lQ_{b a pl:Nat}(ha:a<b ^ pl):lo b a pl 0=0:=by
 unfold lo
 rw[if_pos (Nat.zero_le _),Nat.sub_zero]
 exact Nat.div_eq_of_lt ha
theorem mz_(b pl e:Nat):cn b pl e 0=1:=by unfold cn;rw[if_pos (Nat.zero_le _)]
theorem oh_{b S:Nat}{x:Stre}(h:x.2.1<S):lo b x.1 x.2.1 S=sLo b S x/\cn b x.2.1 x.2.2 S=sN b S x:=by
 unfold lo cn
 rw[if_neg (by omega),if_neg (by omega)]
 exact⟨rfl,rfl⟩
def stepC(b:Nat)(sc:(Nat->Int)×(Nat->Int))(row:List Int):(Nat->Int)×(Nat->Int) :=
 (fun x=>sc.1 (x / b ^ row.length),fun x=>sc.2 (x / b ^ row.length)*if ws1 b (x % b ^ row.length) row=sc.1 (x / b ^ row.length) then 1 else 0)
def aK_(b:Nat)(row:List Int)(rows:List (List Int)):(Nat->Int)×(Nat->Int):=rows.foldl (stepC b) (fun n=>ws1 b n row,fun _=>1)
theorem kj_{b i:Nat}{row r:List Int}{rows:List (List Int)}(h:rows[i]?=some r):aK_ b row (rows.take (i+1))=stepC b (aK_ b row (rows.take i)) r:=by
 unfold aK_
 rw[List.take_add_one,h,List.foldl_append]
 rfl
end Mu
namespace Hv
open PySem L2
def gY_(H:Hp)(b:Nat)(ps:List Nat)(ws:List Int)(x:Mu.Stre)(ds:List Addr):Prop:=∀(i l:Nat) (row:List Int) (d:Addr),ps[i]?=some l->(Ma.cuts ps ws)[i]?=some row->ds[i]?=some d->
 ∃kvs h,H d=some (.dK kvs)/\PT H kvs h/\Mu.Rep h 810 (Mu.plo b x.1 x.2.1 (ps.take i).sum l) (Mu.pcn b x.2.1 x.2.2 (ps.take i).sum l) (fun n=>Mg.ws1 b n row) fun _=>1
theorem gY_.keep{H H':Hp}{b:Nat}{ps:List Nat}{ws:List Int}{x:Mu.Stre}{ds:List Addr}(h:gY_ H b ps ws x ds)(s:Same H H'):gY_ H' b ps ws x ds:=fun i l row d a1 a2 a3=>let ⟨kvs,h,b1,b2,b3⟩:=h i l row d a1 a2 a3;⟨kvs,h,s _ _ b1,b2.keep s,b3⟩
def strV(b:Nat)(ps:List Nat)(row:List Int)(rows:List (List Int))(x:Mu.Stre):Int:=Mg.ns (fun i=>(Mu.aK_ b row rows).2 (Mu.sLo b ps.sum x+i)*((Mu.sLo b ps.sum x+i:Nat):Int)) (Mu.sN b ps.sum x)
def fa_:Sp:=fun vs H Q _=>∃f A c b ps ws,∃(sl:Addr) (ds:List Addr) (x:Mu.Stre),vs=[.ref f,.ref sl]/\FrAt H f A c b ps ws/\H sl=some (.lst (ds.map V.ref))/\ds.length=ps.length/\Mu.StrOk b ps.sum x/\gY_ H b ps ws x ds/\
 ∀(row:List Int) (H':Hp),Same H H'->(Ma.cuts ps ws)[0]?=some row->Q (.int (strV b ps row ((Ma.cuts ps ws).drop 1) x)) H'
def cI_(H:Hp)(b:Nat)(ps:List Nat)(ws:List Int)(tds:List Addr):Prop:=∀(i:Nat) (row:List Int) (d:Addr),(Ma.cuts ps ws)[i]?=some row->tds[i]?=some d->∃ts:List Addr,H d=some (.lst (ts.map V.ref))/\ts.length=row.length+1/\eI_ H b ts row
theorem cI_.keep{H H':Hp}{b:Nat}{ps:List Nat}{ws:List Int}{tds:List Addr}(h:cI_ H b ps ws tds)(s:Same H H'):cI_ H' b ps ws tds:=fun i row d a1 a2=>let ⟨ts,b1,b2,b3⟩:=h i row d a1 a2;⟨ts,s _ _ b1,b2,b3.keep s⟩
def bm_:Sp:=fun vs H Q _=>∃f A c b ps ws,∃(tl hd:Addr) (tds:List Addr) (x:Mu.Stre),vs=[.ref f,.ref tl,.ref hd,.int (x.2.2:Int)]/\FrAt H f A c b ps ws/\H tl=some (.lst (tds.map V.ref))/\tds.length=ps.length/\cI_ H b ps ws tds/\H hd=some (.lst (natV (Ma.dws b x.1 x.2.1 x.2.1)))/\Mu.StrOk b ps.sum x/\
 ∀(row:List Int) (H':Hp),Same H H'->(Ma.cuts ps ws)[0]?=some row->Q (.int (strV b ps row ((Ma.cuts ps ws).drop 1) x)) H'
theorem aD_{α β:Type}{R:α->β->Prop}:∀ {as:List α} {bs:List β},Paired R as bs->∀ {i:Nat} {a:α},as[i]?=some a->∃b,bs[i]?=some b/\R a b
 | _,_,.cons h t,0,a,e=>by cases e;exact⟨_,rfl,h⟩
 | _,_,.cons h t,i+1,a,e=>by
  rw[List.getElem?_cons_succ] at e
  obtain⟨b,h1,h2⟩:=aD_ t e
  exact⟨b,by rw[List.getElem?_cons_succ];exact h1,h2⟩
theorem aR_{qs:List Addr}{i:Nat}{x:V}(h:(qs.map V.ref)[i]?=some x):∃q,qs[i]?=some q/\x=.ref q:=by
 rw[List.getElem?_map] at h
 cases e:qs[i]? with
 | none=>rw[e] at h;cases h
 | some d=>rw[e] at h;exact⟨d,rfl,(Option.some.inj h).symm⟩
section
variable{P:Program}{w:World}{K:PySem.W.Frag}{mg:Str->Option Value}{base:Heap}
theorem da_:FnScope ["frame","tails_by_part","head","end","beginnings","weights_by_part","sums_by_part","rows","weights","tails"] ["frame","tails_by_part","head","end"] (i_ cf_):=⟨rfl,rfl,rfl,by decide +kernel,rfl,by decide +kernel,by decide +kernel⟩
theorem fx_{f:Addr}{fd:FuncData}(F:Fun K "worth_begun" "worth_begun" cf_ f fd)(T:Txt mg)(DP:Def P w K mg base 1 "part_beginnings" ["frame","head","end"] bb_)(DC:Def P w K mg base 1 "cut_by_parts" ["frame","row"] spCut)
  (DW:Def P w K mg base 2 "worth_from_beginnings" ["base","rows","weights","tails"] ca_) (DJ:Def P w K mg base 2 "joined_worth" ["frame","sums_by_part"] fa_):FnOk P w K mg base CX0 3 f fd ["frame","tails_by_part","head","end"] bm_:=by
 refine F.ok da_ (fun vs H Q E h=>?_) (fun cdv A outer s H vs Q E hr h=>?_)
 ·obtain⟨g,A,c,b,ps,ws,tl,hd,tds,x,rfl,_⟩:=h;rfl
 ·obtain⟨g,A',c,b,ps,ws,tl,hd,tds,x,rfl,G,htl,htd,TA,hhd,SO,k⟩:=h
  have nd:=da_.nd
  have ok:=G.ok
  have l4:=ok.l4
  have hsum:=ok.sum
  have hpl:=SO.pl
  refine⟨_,b_ (k_ (i:=4) nd rfl (Or.inl rfl) (m_ DP hr.mo (by rfl) (a_ (pv 0) (a_ (pv 2) (a_ (pv 3) d_)))))
   (b_ (k_ (i:=5) nd rfl (Or.inl rfl) (m_ DC hr.mo (by rfl) (a_ (pv 0) (a_ (ixt (pv 0) e_) d_))))
   (b_ (k_ (i:=6) nd rfl (Or.inl rfl) (P_ d_))
   (b_ (B_ PassesOwn.never rfl (lm_ (by rfl) T.zip (pv 4) (pv 5) (pv 1)) (df_ rfl (z_ (n_ (i:=7) nd rfl (Or.inl rfl)) (z_ (n_ (i:=8) nd rfl (Or.inl rfl)) (z_ (n_ (i:=9) nd rfl (Or.inl rfl)) aB_))))
    (g_ (y_ (bv_ PySem.F.plainAttrs_list PySem.F.slot_list_append PySem.F.type_list_append H_ (pv 6) (a_ (m_ DW hr (by rfl) (a_ (ixt (pv 0) e_) (a_ (pv 7) (a_ (pv 8) (a_ (pv 9) d_))))) d_)))))
   (g_ (o_ (m_ DJ hr (by rfl) (a_ (pv 0) (a_ (pv 6) d_)))))))),?_⟩
  refine⟨_,rfl,_,rfl,_,rfl,g,A',c,b,ps,ws,hd,x.1,x.2.1,x.2.2,rfl,G,hhd,SO.eb,by omega,fun bp bs H1 hbp s1 hb1 hbl BA=>?_⟩
  have G1:=G.keep s1
  refine⟨_,rfl,_,rfl,_,_,_,_,rfl,rfl,SqT.of G1.tp,rfl,g,A',c,b,ps,ws,c,ws,rfl,G1,G1.hw,fun wp qs H2 s2 hw2 rows=>?_⟩
  have G2:=G1.keep s2
  have qlen:qs.length=ps.length:=by rw[Paired.length rows,Ma.A_]
  refine⟨sz (by decide),fun sl hsl=>?_⟩
  have s3:=h_ (o:=.lst []) hsl
  have hslH:H sl=none:=s1.free (s2.free hsl)
  have u3:(upd H2 sl (.lst [])) sl=_:=c_
  have S3:Same H (upd H2 sl (.lst [])):=(s1.trans s2).trans s3
  have S13:Same H1 (upd H2 sl (.lst [])):=s2.trans s3
  generalize upd H2 sl (.lst [])=H3 at s3 u3 S3 S13⊢
  refine⟨_,rfl,_,rfl,_,rfl,bp,wp,tl,rfl,rfl,rfl,⟨_,SqL.of (S13 _ _ hb1)⟩,⟨_,SqL.of (s3 _ _ hw2)⟩,⟨_,SqL.of (S3 _ _ htl)⟩,jq_ (K:=K) (a:=bp) (b:=wp) (c:=tl) (xs:=bs.map V.ref) (ys:=qs.map V.ref) (zs:=tds.map V.ref)
   (fun i σ H4=>∃(ds:List Addr) (v7 v8 v9:Option V),σ=[some (.ref g),some (.ref tl),some (.ref hd),some (.int (x.2.2:Int)),some (.ref bp),some (.ref wp),some (.ref sl),v7,v8,v9]/\(∀y ob,H3 y=some ob->y≠sl->H4 y=some ob)/\H4 sl=some (.lst (ds.map V.ref))/\ds.length=i/\gY_ H4 b ps ws x ds) (by simp[hbl,qlen]) (by simp[hbl,htd])
   ⟨[],none,none,none,rfl,fun y ob e _=>e,u3,rfl,fun i l row d _ _ h=>by simp at h⟩ ?_ ?_ ?_⟩
  ·rintro i σ H4 _ ⟨ds,v7,v8,v9,rfl,kp,_⟩
   exact⟨SqL.of (kp _ _ (S13 _ _ hb1) (f_ hb1 (s2.free hsl))),SqL.of (kp _ _ (s3 _ _ hw2) (f_ hw2 hsl)),SqL.of (kp _ _ (S3 _ _ htl) (f_ htl hslH))⟩
  ·rintro i xb xw xt σ H4 t hb hw ht ⟨ds,v7,v8,v9,rfl,kp,hsl4,hdl,PR⟩ htn
   obtain⟨br,hbr,rfl⟩:=aR_ hb
   obtain⟨wq,hwq,rfl⟩:=aR_ hw
   obtain⟨td,htd',rfl⟩:=aR_ ht
   have hi:i<ps.length:=by have:=(List.getElem?_eq_some_iff.mp hbr).1;omega
   obtain⟨l,hl⟩:∃l,ps[i]?=some l:=⟨_,List.getElem?_eq_getElem hi⟩
   have hrow:=Ma.bW_ ps ws i l hl
   generalize er:(ws.drop (ps.take i).sum).take l=row at hrow
   have hrl:row.length=l:=by
    have h1:=Me.ea_ ps ws ok.wl
    have h2:((Ma.cuts ps ws).map List.length)[i]?=some row.length:=by rw[List.getElem?_map,hrow];rfl
    rw[h1,hl] at h2
    exact(Option.some.inj h2).symm
   have hrm:row∈Ma.cuts ps ws:=List.mem_of_getElem? hrow
   have u5:(upd H4 t (.tup [.ref br,.ref wq,.ref td])) t=_:=c_
   have t5:=h_ (o:=.tup [.ref br,.ref wq,.ref td]) htn
   refine⟨t,_,rfl,SqT.of c_,rfl,_,_,rfl,_,_,rfl,_,_,rfl,rfl,?_⟩
   have kp5:∀y ob,H3 y=some ob->y≠sl->(upd H4 t (.tup [.ref br,.ref wq,.ref td])) y=some ob:=fun y ob e n=>t5 _ _ (kp y ob e n)
   have sl5:=t5 _ _ hsl4
   have PR5:=PR.keep t5
   generalize upd H4 t (.tup [.ref br,.ref wq,.ref td])=H5 at u5 t5 kp5 sl5 PR5⊢
   have U2:Same H2 H5:=fun y ob e=>kp5 _ _ (s3 _ _ e) (f_ e hsl)
   have U1:Same H1 H5:=fun y ob e=>kp5 _ _ (S13 _ _ e) (f_ e (s2.free hsl))
   have U0:Same H H5:=fun y ob e=>kp5 _ _ (S3 _ _ e) (f_ e hslH)
   have G5:=G.keep U0
   obtain⟨_,rs,hrs,hrsl,_,RD⟩:=BA i l br hl hbr
   have hwq2:H2 wq=some (.lst (row.map V.int)):=by
    obtain⟨row',hr',e'⟩:=aD_ rows hwq
    rw[hrow] at hr'
    cases hr'
    exact e'
   obtain⟨ts,ht1,ht2,ht3⟩:=TA i row td hrow htd'
   refine⟨_,rfl,.inl ⟨rfl,_,SqL.of sl5⟩,_,rfl,_,_,_,_,rfl,rfl,SqT.of G5.tp,rfl,_,rfl,_,rfl,_,rfl,b,br,wq,td,rs,ts,row,Mu.pq b x.1 x.2.1 (ps.take i).sum l,Mu.pj x.2.1 (ps.take i).sum l,rfl,U1 _ _ hrs,U2 _ _ hwq2,U0 _ _ ht1,ht2,ht3.keep U0,ok.b2,ok.b16,fun y hy=>ok.wr y (Ma.bV_ hrm y hy),Ma.au_ (fun p hp=>(ok.pr p hp).2) hrm,by rw[hrl];exact Mu.pS_,RD.keep U1,fun dp kvs h H6 hdp s6 h6 pt6 R6=>?_⟩
   rw[hrl,hrsl] at R6
   have ndp:dp≠sl:=fun z=>by rw[z,sl5] at hdp;cases hdp
   refine⟨sl,_,_,rfl,rfl,s6 _ _ sl5,szl (by rw[List.length_map];omega),ds++[dp],some (.ref br),some (.ref wq),some (.ref td),rfl,fun y ob e n=>?_,by rw[c_,List.map_append];rfl,by simp[hdl],fun m l' row' d' a1 a2 a3=>?_⟩
   ·rw[j_ n]
    exact s6 _ _ (kp5 y ob e n)
   ·have kpT:∀y ob,H6 y=some ob->(∀xs,ob≠.lst xs)->(upd H6 sl (.lst (ds.map V.ref++[V.ref dp]))) y=some ob:=fun y ob e n=>by
     rw[j_]
     ·exact e
     ·intro z
      rw[z,s6 _ _ sl5] at e
      exact n _ (Option.some.inj e).symm
    by_cases hm:m<ds.length
    ·rw[List.getElem?_append_left hm] at a3
     obtain⟨kv',h',b1,b2,b3⟩:=PR5 m l' row' d' a1 a2 a3
     exact⟨kv',h',kpT _ _ (s6 _ _ b1) (fun xs z=>nomatch z),PT.tups (b2.keep s6) (fun tt xs e=>kpT _ _ e fun xs z=>nomatch z),b3⟩
    ·have hm':m=i:=by
      have:=(List.getElem?_eq_some_iff.mp a3).1
      simp at this
      omega
     subst hm'
     rw[List.getElem?_append_right (by omega),hdl,Nat.sub_self] at a3
     have e1:dp=d':=by simpa using a3
     subst e1
     rw[hl] at a1
     cases a1
     rw[hrow] at a2
     cases a2
     exact⟨kvs,h,by rw[j_ ndp];exact h6,PT.tups pt6 (fun tt xs e=>kpT _ _ e fun xs z=>nomatch z),R6⟩
  ·rintro σ H4 ⟨ds,v7,v8,v9,rfl,kp,hsl4,hdl,PR⟩
   have U0:Same H H4:=fun y ob e=>kp _ _ (S3 _ _ e) (f_ e hslH)
   exact⟨_,rfl,_,rfl,g,A',c,b,ps,ws,sl,ds,x,rfl,G.keep U0,hsl4,by rw[hdl,List.length_map,hbl],SO,PR,fun row H' s' hrow=>k row H' (U0.trans s') hrow⟩
end
def evS(b:Nat)(row:List Int)(rows:List (List Int))(n:Nat):Int:=Mg.ns (fun m=>(Mu.aK_ b row rows).2 m*(m:Int)) n
def bH_:Sp:=fun vs H Q _=>∃f A c b ps ws,∃n:Nat,vs=[.ref f,.int n]/\FrAt H f A c b ps ws/\n<=b ^ ps.sum/\∀(row:List Int) (H':Hp),Same H H'->(Ma.cuts ps ws)[0]?=some row->Q (.int (evS b row ((Ma.cuts ps ws).drop 1) n)) H'
def cs_:Sp:=fun vs H Q _=>∃f A c b ps ws,vs=[.ref f]/\FrAt H f A c b ps ws/\∀(row:List Int) (H':Hp),Same H H'->(Ma.cuts ps ws)[0]?=some row->Q (.int (evS b row ((Ma.cuts ps ws).drop 1) (b ^ ps.sum))) H'
theorem mY_{b:Nat}{ps:List Nat}{row:List Int}{rows:List (List Int)}{L:List Mu.Stre}{n:Nat}(h:∀g,Mu.strS b ps.sum L g=Mg.ns g n):(L.map (strV b ps row rows)).sum=evS b row rows n:=by
 unfold evS
 rw[<-h]
 rfl
section
variable{P:Program}{w:World}{K:PySem.W.Frag}{mg:Str->Option Value}{base:Heap}
theorem et_:FnScope ["frame","n","tails_by_part"] ["frame","n"] (i_ aP_):=⟨rfl,rfl,rfl,by decide +kernel,rfl,by decide +kernel,by decide +kernel⟩
theorem hJ_{f:Addr}{fd:FuncData}(F:Fun K "sum_even_below" "sum_even_below" aP_ f fd)(T:Txt mg)(D5:Def P w K mg base 5 "need_frame" ["thing"] S_)(D7:Def P w K mg base 7 "need_bound" ["frame","thing"] aw_)(DC:Def P w K mg base 1 "cut_by_parts" ["frame","row"] spCut)
  (DT:Def P w K mg base 3 "worth_tails" ["base","weights"] eV_) (DS:Def P w K mg base 9 "stretches_below" ["frame","n"] ba_) (DW:Def P w K mg base 3 "worth_begun" ["frame","tails_by_part","head","end"] bm_):FnOk P w K mg base CX0 10 f fd ["frame","n"] bH_:=by
 refine F.ok et_ (fun vs H Q E h=>?_) (fun cdv A outer s H vs Q E hr h=>?_)
 ·obtain⟨g,A,c,b,ps,ws,n,rfl,_⟩:=h;rfl
 ·obtain⟨g,A',c,b,ps,ws,n,rfl,G,hn,k⟩:=h
  have nd:=et_.nd
  have ok:=G.ok
  have l4:=ok.l4
  have l2:=ok.l2
  have nd2:List.Nodup (["head","end","frame","tails_by_part"]:List Str):=by decide +kernel
  refine⟨_,b_ (y_ (m_ D5 hr.mo (by rfl) (a_ (pv 0) d_)))
   (b_ (y_ (m_ D7 hr.mo (by rfl) (a_ (pv 0) (a_ (pv 1) d_))))
   (b_ (k_ (i:=2) nd rfl (Or.inr rfl) (aC_ (i_ aP_) ["frame","n","tails_by_part"] ["frame"] [0] rfl (M_ (m_ DC hr.mo (by rfl) (a_ (pv 0) (a_ (ixt (pv 0) e_) d_)))) (fun cl C s H fp=>af_)
    (fun cl C s H fp=>m_ DT hr.mo (by rfl) (a_ (ixtK K rfl (pv 1) e_) (a_ (pv 0) d_))) (by decide +kernel)))
   (g_ (o_ (q_ (aF_ rfl) (by rfl) T.sum boot_sum (a_ (fv_ (N:=["head","end","frame","tails_by_part"]) (k:=2) (fr:=[0,2]) (cmpS (sc:=i_ aP_) (NX:=["frame","n","tails_by_part"]) (k:=2) (fr:=[0,2]) rfl rfl (by decide +kernel))
    (cmpF (sc:=i_ aP_) (NX:=["frame","n","tails_by_part"]) rfl (by decide +kernel)) rfl (M_ (m_ DS hr (by rfl) (a_ (pv 0) (a_ (pv 1) d_))))
    (fun cl C s H fp=>fu_ K rfl rfl (z_ (n_ (i:=0) nd2 rfl (Or.inl rfl)) (z_ (n_ (i:=1) nd2 rfl (Or.inl rfl)) aB_))) jp_ (fun cl C s H fp=>af_)
    (fun cl C s H fp=>m_ DW hr.mo (by rfl) (a_ (pv 2) (a_ (pv 3) (a_ (pv 0) (a_ (pv 1) d_)))))) d_)))))),?_⟩
  obtain⟨row0,hrow0⟩:∃row0,(Ma.cuts ps ws)[0]?=some row0:=⟨_,List.getElem?_eq_getElem (by rw[Ma.A_];omega)⟩
  refine⟨_,rfl,g,A',c,b,ps,ws,rfl,G,fun H1 s1=>?_⟩
  refine⟨_,rfl,_,rfl,g,A',c,b,ps,ws,n,rfl,G.keep s1,hn,fun H2 s2=>?_⟩
  have S2:=s1.trans s2
  have G2:=G.keep S2
  refine⟨_,rfl,_,rfl,_,_,_,_,rfl,rfl,SqT.of G2.tp,rfl,g,A',c,b,ps,ws,c,ws,rfl,G2,G2.hw,fun wp qs H3 s3 hw3 rows=>⟨wp,rfl,⟨_,SqL.of hw3⟩,V_ (K:=K) (a:=wp) (xs:=qs.map V.ref) (fun i ys H4=>∃tds:List Addr,ys=tds.map V.ref/\tds.length=i/\Same H3 H4/\cI_ H4 b ps ws tds)
   ⟨[],rfl,rfl,Same.refl _,fun i row d _ h=>by simp at h⟩ (fun i ys H4 _ p=>by obtain⟨_,_,_,z,_⟩:=p;exact SqL.of (z _ _ hw3)) ?_ ?_⟩⟩
  ·rintro i x ys H4 hx ⟨tds,rfl,htl,s4,TA⟩
   obtain⟨wq,hwq,rfl⟩:=aR_ hx
   obtain⟨row,hrow,hwr⟩:=aD_ rows hwq
   have hrm:row∈Ma.cuts ps ws:=List.mem_of_getElem? hrow
   have G4:=(G2.keep s3).keep s4
   have hi:i<4:=by
    have h1:=(List.getElem?_eq_some_iff.mp hrow).1
    rw[Ma.A_] at h1
    omega
   refine⟨szl (by rw[List.length_map];omega),_,rfl,_,_,_,_,rfl,rfl,SqT.of G4.tp,rfl,_,rfl,b,wq,row,rfl,s4 _ _ hwr,ok.b16,fun y hy=>ok.wr y (Ma.bV_ hrm y hy),Ma.au_ (fun p hp=>(ok.pr p hp).2) hrm,fun p ts H5 hp s5 hp5 hts5 TT=>?_⟩
   refine⟨tds++[p],by rw[List.map_append];rfl,by simp[htl],s4.trans s5,fun m row' d' a1 a2=>?_⟩
   by_cases hm:m<tds.length
   ·rw[List.getElem?_append_left hm] at a2
    exact TA.keep s5 m row' d' a1 a2
   ·have hm':m=i:=by
     have:=(List.getElem?_eq_some_iff.mp a2).1
     simp at this
     omega
    subst hm'
    rw[List.getElem?_append_right (by omega),htl,Nat.sub_self] at a2
    have e1:p=d':=by simpa using a2
    subst e1
    rw[hrow] at a1
    cases a1
    exact⟨ts,hp5,hts5,TT⟩
  ·rintro ys H4 ⟨tds,rfl,htl,s4,TA⟩ D hD
   have tdl:tds.length=ps.length:=by rw[htl,List.length_map,Paired.length rows,Ma.A_]
   have s5:=h_ (o:=.lst (tds.map V.ref)) hD
   have u5:(upd H4 D (.lst (tds.map V.ref))) D=_:=c_
   have S5:=S2.trans (s3.trans (s4.trans s5))
   have TA5:=TA.keep s5
   generalize upd H4 D (.lst (tds.map V.ref))=H5 at s5 u5 S5 TA5⊢
   refine⟨_,rfl,_,rfl,g,A',c,b,ps,ws,n,rfl,G.keep S5,hn,fun p ts L H6 hp s6 hp6 PR hL SO hg=>⟨p,rfl,⟨_,SqL.of hp6⟩,V_ (K:=K) (a:=p) (xs:=ts.map V.ref) (fun i ys H7=>ys=((L.take i).map (strV b ps row0 ((Ma.cuts ps ws).drop 1))).map V.int/\Same H6 H7)
    ⟨by simp,Same.refl _⟩ (fun i ys H7 _ q=>SqL.of (q.2 _ _ hp6)) ?_ ?_⟩⟩
   ·rintro i x ys H7 hx ⟨rfl,s7⟩
    obtain⟨t,ht,rfl⟩:=aR_ hx
    obtain⟨x',hx',hh,h1,h2⟩:=aD_ PR ht
    have S7:=s6.trans s7
    refine⟨szl (by rw[List.length_map,List.length_map,List.length_take];omega),t,_,rfl,SqT.of (s7 _ _ h1),rfl,_,_,rfl,_,_,rfl,rfl,_,rfl,_,rfl,_,rfl,_,rfl,g,A',c,b,ps,ws,D,hh,tds,x',rfl,G.keep (S5.trans S7),S7 _ _ u5,tdl,TA5.keep S7,s7 _ _ h2,SO x' (List.mem_of_getElem? hx'),fun row H8 s8 hrow=>?_⟩
    rw[hrow0] at hrow
    cases hrow
    refine⟨?_,s7.trans s8⟩
    rw[List.take_add_one,hx']
    simp
   ·rintro ys H7 ⟨rfl,s7⟩ wl hwl
    have el:(ts.map V.ref).length=L.length:=by rw[List.length_map,Paired.length PR]
    rw[el,List.take_length]
    refine⟨wl,_,rfl,SqL.of c_,?_⟩
    rw[mY_ hg]
    exact k row0 _ (S5.trans (s6.trans (s7.trans (h_ hwl)))) hrow0
theorem kP_:FnScope ["frame"] ["frame"] (i_ fi_):=⟨rfl,rfl,rfl,by decide +kernel,rfl,by decide +kernel,by decide +kernel⟩
theorem jP_{f:Addr}{fd:FuncData}(F:Fun K "sum_even" "sum_even" fi_ f fd)(D6:Def P w K mg base 6 "how_many" ["frame"] an_)(DB:Def P w K mg base 10 "sum_even_below" ["frame","n"] bH_):FnOk P w K mg base CX0 11 f fd ["frame"] cs_:=by
 refine F.ok kP_ (fun vs H Q E h=>?_) (fun cdv A outer s H vs Q E hr h=>?_)
 ·obtain⟨g,A,c,b,ps,ws,rfl,_⟩:=h;rfl
 ·obtain⟨g,A',c,b,ps,ws,rfl,G,k⟩:=h
  refine⟨_,g_ (o_ (m_ DB hr (by rfl) (a_ (pv 0) (a_ (m_ D6 hr.mo (by rfl) (a_ (pv 0) d_)) d_)))),?_⟩
  exact⟨_,rfl,_,rfl,g,A',c,b,ps,ws,rfl,G,fun H1 s1=>⟨g,A',c,b,ps,ws,b ^ ps.sum,rfl,G.keep s1,Nat.le_refl _,fun row H' s' hrow=>k row H' (s1.trans s') hrow⟩⟩
end
end Hv
namespace L2
open PySem PySem.Spec PyProof.Rows
def Itw(a:Addr)(o:Obj)(kvs:List (Key×V)):It :=
 ⟨fun i H=>H a=some (.frz o (.dK kvs))/\i<kvs.length,fun i H x H'=>H'=H/\∃k,kvs[i]?=some (k,x),fun i H=>H a=some (.frz o (.dK kvs))/\kvs.length<=i⟩
theorem kw_{P:Program}{w:World}{K:PySem.W.Frag}{tg:Expr}{a it:Addr}{o:Obj}{kvs:List (Key×V)}{vs:List (Key×Value)}{ep:Nat}(rel:KV kvs vs)
  (da:∀h:Heap,h.get? a=some o->h.DictAt (w_ P w) a vs ep):Turn P w K tg (Itw a o kvs) [it] it (fun i h=>h.IsValIter it a i vs.length ep) where
 mem:=by simp
 obj:=fun i h st b hb=>by
  have e:b=it:=by simpa using hb
  subst e
  obtain⟨o,e,c,d⟩:=st
  exact⟨o,e,fun v z=>by rw[d] at z;cases z⟩
 keep:=fun i h h' st k=>st.at fun o e=>k it (by simp) o e
 item:=by
  intro X hP hw hK hc i pins s σ H E I hf st hg
  subst hP hw hK
  obtain⟨hq,hi⟩:=hg
  obtain⟨f0,f1,f2,f3,f4,f5⟩:=hf it (by simp)
  have hx:kvs[i]?=some kvs[i]:=by simp[hi]
  obtain⟨u,hu,ru⟩:=rel.at hx
  refine wpAny_pyNext_values_item st (da _ (I.hok a _ hq).1) hu fun h' st' sb=>?_
  have I1:Inv X pins σ H {s with heap:=h'}:=I.turned (t':=s.toks) (fun b o hb e=>(sb.2 b hb).trans e) f0 f1 f3 f4 f5
  obtain⟨oi,e,c,d⟩:=id st'
  exact⟨u,rfl,mc_ (s:={s with heap:=h'}) e c d (by decide) ⟨(kvs[i]).2,H,I1,ru,⟨rfl,(kvs[i]).1,hx⟩,st',fun b hb=>(hf b hb).1⟩⟩
 done:=by
  intro X hP hw hK hc i pins s σ H E I hf st hg
  subst hP hw hK
  obtain⟨hq,hi⟩:=hg
  obtain⟨f0,f1,f2,f3,f4,f5⟩:=hf it (by simp)
  have hl:=rel.length
  exact wpAny_pyNext_values_end (I.ok.hd hc) st (da _ (I.hok a _ hq).1) (by simp;omega) fun h' eb=>⟨rfl,I.turned (t':=s.toks) (fun b o hb e=>eb b o hb e) f0 f1 f3 f4 f5⟩
 self:=fun _ _ _ _ _ st h=>wpAny_pyIter_valiter st h
def iVals(tl:TE):TI:=fun σ H R=>tl σ H fun x H1=>∃a kvs,x=.ref a/\H1 a=some (.dK kvs)/\∀o,R (Itw a o kvs) (upd H1 a (.frz o (.dK kvs)))
theorem oP_{X:Cx}{tg o:Expr}{td:TE}{apos cpos:Pos}(ho:PE X o td)(hbase:attributeBase o "values" X.env (eval o X.env)=eval o X.env:=by rfl)(hline:(apos.endLine==cpos.line)=true:=by rfl) :
  PI X tg (.Call (.Attribute o "values" apos) [] [] cpos) (iVals td):=by
 intro pins s σ H R I h
 refine wpAny_Call_method0_late hbase hline (thn (ho pins s σ H _ I h) fun v s1 ⟨x,H1,I1,r1,a,kvs,ex,he,q⟩=>?_)
 subst ex
 obtain rfl:v=Value.ref a:=r1
 obtain⟨t1,t2,_⟩:=lX_ I1 (.inl ⟨kvs,.inl he⟩)
 obtain⟨z,hd,vs,rel,dd⟩:=mo_ I1.hok he
 refine⟨"dict","dict.values",PySem.F.plainAttrs_dict,PySem.F.slot_dict_values,PySem.F.type_dict_values,t1,t2,Calls.callWith_builtin rfl (PySem.evalArgs_none ?_)⟩
 refine call_meetsIn PySem.F.slot_dict_values dd.typeIs PySem.F.entry_dict_values (PySem.F.args_dict_values_1 _) (meets_dict_values (w_ X.prog X.w) a hd) ⟨⟨_,dd⟩,?_⟩
 have I2:=I1.kept (t':=s1.toks) (h':=s1.heap.push {cls:=.type "dict_values",data:=.fields #[.ref a]}) fun b o e=>Heap.get?_push_of_some _ e
 obtain⟨ob,es,ep,hob,rest⟩:=dd
 have hob2:=Heap.get?_push_of_some {cls:=.type "dict_values",data:=.fields #[.ref a]} hob
 have I3:=I2.freeze he hob2
 show wpAny _ _ (pyIter (.ref s1.heap.objs.size)) _ _ _
 refine wpAny_pyIter_values (d:=a) (kvs:=vs) (ep:=ep) ⟨_,Heap.get?_push_size _ rfl,rfl,rfl⟩ ⟨ob,es,hob2,rest⟩ ?_
 refine⟨_,[_],_,_,_,rfl,I3.kept (t':=s1.toks) fun b o e=>Heap.get?_push_of_some _ e,kw_ (ep:=ep) rel fun h e=>⟨ob,es,e,rest⟩,⟨_,Heap.get?_push_size _ rfl,rfl,rfl⟩,fun b hb=>?_,q ob⟩
 have e:=List.mem_singleton.mp hb
 subst e
 exact I3.fpOk (Nat.le_refl _) (I3.hok.fresh (Nat.le_refl _))
theorem my_{a:Addr}{o:Obj}{kvs:List (Key×V)}{G:V->Hp->(List V->Hp->Prop)->List V->Prop}{Fin:List V->Hp->Prop}{H:Hp}(Pv:Nat->List V->Hp->Prop)(h0:Pv 0 [] H)(hl:∀i ys H,i<=kvs.length->Pv i ys H->H a=some (.frz o (.dK kvs)))
  (hs:∀i k v ys H,kvs[i]?=some (k,v)->Pv i ys H->ys.length<sizeLine/\G v H (Pv (i+1)) ys) (hd:∀ys H,Pv kvs.length ys H->Fin ys H) :
  ∃W:Nat->Nat->List V->Hp->Prop,(∃m,W 0 m [] H)/\∀i m ys H,W i m ys H->
   ((Itw a o kvs).stop i H/\Fin ys H)\/((Itw a o kvs).go i H/\ys.length<sizeLine/\∃Nx:List V->Hp->Prop,(∀ys' H',Nx ys' H'->∃m',m'<m/\W (i+1) m' ys' H')/\∀x H',(Itw a o kvs).yld i H x H'->G x H' Nx ys):=by
 refine⟨fun i m ys H=>m=kvs.length-i/\i<=kvs.length/\Pv i ys H,⟨kvs.length,by simp,Nat.zero_le _,h0⟩,?_⟩
 rintro i m ys H ⟨rfl,hi,p⟩
 have q:=hl i ys H hi p
 by_cases hlt:i<kvs.length
 ·have a1:=hs i kvs[i].1 kvs[i].2 ys H (by simp[hlt]) p
  refine .inr ⟨⟨q,hlt⟩,a1.1,Pv (i+1),fun ys' H' p'=>⟨kvs.length-(i+1),by omega,rfl,hlt,p'⟩,fun x H' y=>?_⟩
  obtain⟨e,k,hk⟩:=y
  subst e
  exact(hs i k x ys _ hk p).2
 ·have e:i=kvs.length:=by omega
  subst e
  exact .inl ⟨⟨q,Nat.le_refl _⟩,hd ys H p⟩
abbrev bB_(h:Heap)(z TI TO:Addr)(f0:Value)(f1:Bool):Prop :=
 h.get? z=some {cls:=.type "zip",dict:=none,data:=.fields #[f0,.bool f1,.bool false,.ref TI,.ref TO],slots:=#[]}
section
variable{prog:Program}{w:World}{A:Around}{E:Value->Shared->Prop}{s:Shared}
theorem ds_{a:Addr}{Q:Option Obj->Shared->Prop}(h:Q (s.heap.get? a) s):wpAny (model prog w) A (loadIfAlive a) Q E s:=fun Γ p _=>by
 unfold loadIfAlive
 simp only[Sem.wp]
 exact h
theorem hU_{z TI TO i1 i2 l1 l2 T:Addr}{f1:Bool}{oT:Obj}{k1 k2:Nat}{xs ys:Array Value}{x y:Value}{Q:Value->Shared->Prop}(D:ZipApart z TI TO i1 i2 l1 l2)
  (hz:bB_ s.heap z TI TO (rawInt (T:Nat)) f1) (hT:s.heap.get? T=some oT) (hTI:IsPair s.heap TI (.ref i1) (.ref i2))
  (h1:s.heap.IsListIter i1 l1 k1) (h2:s.heap.IsListIter i2 l2 k2) (hl1:s.heap.IsList l1 xs) (hl2:s.heap.IsList l2 ys) (hx:xs[k1]?=some x) (hy:ys[k2]?=some y)
  (hQ:∀h',bB_ h' z TI TO (rawInt (T:Nat)) true->h'.IsListIter i1 l1 (k1+1)->h'.IsListIter i2 l2 (k2+1)->IsPair h' s.heap.objs.size x y->h'.objs.size=s.heap.objs.size+1->
   (∀c o,c≠z->c≠i1->c≠i2->s.heap.get? c=some o->h'.get? c=some o)->Q (.ref s.heap.objs.size) {s with heap:=h'}) :
  wpAny (model prog w) A (Builtin.«zip.__next__» ⟨[.ref z],[]⟩) (fun fin s'=>∃v,fin=.done (.ret v)/\Q v s') E s:=by
 show wpAny _ _ (field (.ref z) 2>>=_) _ _ _
 refine wpAny_bind (wpAny_field hz rfl (x:=.bool false) rfl ?_)
 show wpAny _ _ (field (.ref z) 3>>=_) _ _ _
 refine wpAny_bind (wpAny_field hz rfl (x:=.ref TI) rfl ?_)
 refine wpAny_bind (wpAny_seqItems hTI rfl ?_)
 show wpAny _ _ (Builtin.SmallTypes.ownedTupleIsFree (.ref z)>>=_) _ _ _
 have free:∀(Q:Bool->Shared->Prop),(∀h',bB_ h' z TI TO (rawInt (T:Nat)) true->Heap.SameBut z s.heap h'->Q false {s with heap:=h'})->wpAny (model prog w) A (Builtin.SmallTypes.ownedTupleIsFree (.ref z)) Q E s:=fun Q hq=>by
  unfold Builtin.SmallTypes.ownedTupleIsFree
  refine wpAny_bind (wpAny_field hz rfl (x:=rawInt (T:Nat)) rfl ?_)
  show wpAny _ _ (loadIfAlive ((T:Nat):Int).toNat>>=_) _ _ _
  refine wpAny_bind (ds_ ?_)
  have e:((T:Nat):Int).toNat=T:=Int.toNat_natCast T
  rw[e,hT]
  simp only[Option.isNone_some,Bool.false_eq_true,if_false]
  refine wpAny_bind (wpAny_field hz rfl (x:=.bool f1) rfl ?_)
  cases f1 with
  | true =>
   rw[if_neg (by decide)]
   exact wpAny_pure (hq s.heap hz ⟨rfl,fun _ _=>rfl⟩)
  | false =>
   rw[if_pos (by decide)]
   exact wpAny_bind (wpAny_setField_rec hz (by simp) fun h' hz' hs'=>wpAny_pure (hq h' hz' hs'))
 refine wpAny_bind (free _ fun H1 hz1 s1=>?_)
 simp only[Bool.false_eq_true,if_false]
 refine wpAny_bind ?_
 rw[<-Array.forIn_toList]
 simp only[List.forIn_cons,List.forIn_nil]
 refine wpAny_bind (wpAny_bind (wpAny_holding ?_))
 show wpAny _ _ (Builtin.SmallTypes.nextOf (.ref i1)>>=_) _ _ _
 refine wpAny_bind (wpAny_nextOf_list_item (h1.extBut s1.extBut D.i1z) (hl1.extBut s1.extBut D.l1z) hx fun H2 q2 s2=>wpAny_pure ?_)
 refine wpAny_pure ?_
 refine wpAny_bind (wpAny_bind (wpAny_holding ?_))
 show wpAny _ _ (Builtin.SmallTypes.nextOf (.ref i2)>>=_) _ _ _
 refine wpAny_bind (wpAny_nextOf_list_item ((h2.extBut s1.extBut D.i2z).extBut s2.extBut D.i12.symm) ((hl2.extBut s1.extBut D.l2z).extBut s2.extBut D.l2i1) hy fun H3 q3 s3=>wpAny_pure ?_)
 refine wpAny_pure (wpAny_pure ?_)
 refine wpAny_bind (wpAny_newTuple (hsz:=by show 2<=sizeLine;decide) ?_)
 refine wpAny_pure ⟨_,rfl,?_⟩
 have hsz:H3.objs.size=s.heap.objs.size:=by rw[s3.1,s2.1,s1.1]
 have hz3:bB_ H3 z TI TO (rawInt (T:Nat)) true:=s3.extBut _ _ D.i2z.symm (s2.extBut _ _ D.i1z.symm hz1)
 have r1:H3.IsListIter i1 l1 (k1+1):=q2.extBut s3.extBut D.i12
 have up:∀c o,H3.get? c=some o->(H3.push {cls:=.type "tuple",data:=.seq #[x,y]}).get? c=some o:=fun c o e=>Heap.get?_push_of_some _ e
 have fin:=hQ (H3.push {cls:=.type "tuple",data:=.seq #[x,y]}) (up _ _ hz3) (r1.at fun o e=>up _ o e) (q3.at fun o e=>up _ o e) (by rw[<-hsz];exact Heap.get?_push_size _ rfl) (by rw[Heap.size_push,hsz])
  fun c o c1 c2 c3 e=>up _ _ (s3.extBut _ _ c3 (s2.extBut _ _ c2 (s1.extBut _ _ c1 e)))
 show Q (.ref H3.objs.size) _
 rw[hsz]
 exact fin
end
section
variable{prog:Program}{w:World}{A:Around}{E:Value->Shared->Prop}{s:Shared}
theorem jE_{z TI TO T:Addr}{f1:Bool}{oT:Obj}(hz:bB_ s.heap z TI TO (rawInt (T:Nat)) f1)(hT:s.heap.get? T=some oT){Q:Bool->Shared->Prop}
  (hq:∀h',bB_ h' z TI TO (rawInt (T:Nat)) true->Heap.SameBut z s.heap h'->Q false {s with heap:=h'}):wpAny (model prog w) A (Builtin.SmallTypes.ownedTupleIsFree (.ref z)) Q E s:=by
 unfold Builtin.SmallTypes.ownedTupleIsFree
 refine wpAny_bind (wpAny_field hz rfl (x:=rawInt (T:Nat)) rfl ?_)
 show wpAny _ _ (loadIfAlive ((T:Nat):Int).toNat>>=_) _ _ _
 refine wpAny_bind (ds_ ?_)
 have e:((T:Nat):Int).toNat=T:=Int.toNat_natCast T
 rw[e,hT]
 simp only[Option.isNone_some,Bool.false_eq_true,if_false]
 refine wpAny_bind (wpAny_field hz rfl (x:=.bool f1) rfl ?_)
 cases f1 with
 | true =>
  rw[if_neg (by decide)]
  exact wpAny_pure (hq s.heap hz ⟨rfl,fun _ _=>rfl⟩)
 | false =>
  rw[if_pos (by decide)]
  exact wpAny_bind (wpAny_setField_rec hz (by simp) fun h' hz' hs'=>wpAny_pure (hq h' hz' hs'))
theorem en_{z TI TO i1 i2 l1 l2 T:Addr}{f1:Bool}{oT:Obj}{k1:Nat}{xs:Array Value}{Q:Fin->Shared->Prop}(hh:A.handled=none)(D:ZipApart z TI TO i1 i2 l1 l2)
  (hz:bB_ s.heap z TI TO (rawInt (T:Nat)) f1) (hT:s.heap.get? T=some oT) (hTI:IsPair s.heap TI (.ref i1) (.ref i2))
  (h1:s.heap.IsListIter i1 l1 k1) (hl1:s.heap.IsList l1 xs) (hx:xs[k1]?=none)
  (hE:∀h' e,(∀c o,c≠z->c≠i1->s.heap.get? c=some o->h'.get? c=some o)->(∃o,h'.get? e=some o/\o.cls=.type "StopIteration")->E (.ref e) {s with heap:=h'}) :
  wpAny (model prog w) A (Builtin.«zip.__next__» ⟨[.ref z],[]⟩) Q E s:=by
 show wpAny _ _ (field (.ref z) 2>>=_) _ _ _
 refine wpAny_bind (wpAny_field hz rfl (x:=.bool false) rfl ?_)
 show wpAny _ _ (field (.ref z) 3>>=_) _ _ _
 refine wpAny_bind (wpAny_field hz rfl (x:=.ref TI) rfl ?_)
 refine wpAny_bind (wpAny_seqItems hTI rfl ?_)
 show wpAny _ _ (Builtin.SmallTypes.ownedTupleIsFree (.ref z)>>=_) _ _ _
 refine wpAny_bind (jE_ hz hT fun H1 hz1 s1=>?_)
 simp only[Bool.false_eq_true,if_false]
 refine wpAny_bind ?_
 rw[<-Array.forIn_toList]
 simp only[List.forIn_cons,List.forIn_nil]
 refine wpAny_bind (wpAny_bind (wpAny_holding ?_))
 show wpAny _ _ (Builtin.SmallTypes.nextOf (.ref i1)>>=_) _ _ _
 refine wpAny_bind (wpAny_nextOf_list_end hh (h1.extBut s1.extBut D.i1z) (hl1.extBut s1.extBut D.l1z) hx fun H2 e s2 he=>?_)
 exact hE H2 e (fun c o c1 c2 x=>s2 _ _ c2 (s1.extBut _ _ c1 x)) he
theorem fp_{z TI TO i1 i2 l1 l2 T:Addr}{f1:Bool}{oT:Obj}{k1 k2:Nat}{xs ys:Array Value}{x y:Value}{Q:Option Value->Shared->Prop}(D:ZipApart z TI TO i1 i2 l1 l2)
  (hz:bB_ s.heap z TI TO (rawInt (T:Nat)) f1) (hT:s.heap.get? T=some oT) (hTI:IsPair s.heap TI (.ref i1) (.ref i2))
  (h1:s.heap.IsListIter i1 l1 k1) (h2:s.heap.IsListIter i2 l2 k2) (hl1:s.heap.IsList l1 xs) (hl2:s.heap.IsList l2 ys) (hx:xs[k1]?=some x) (hy:ys[k2]?=some y)
  (hQ:∀h',bB_ h' z TI TO (rawInt (T:Nat)) true->h'.IsListIter i1 l1 (k1+1)->h'.IsListIter i2 l2 (k2+1)->IsPair h' s.heap.objs.size x y->h'.objs.size=s.heap.objs.size+1->
   (∀c o,c≠z->c≠i1->c≠i2->s.heap.get? c=some o->h'.get? c=some o)->Q (some (.ref s.heap.objs.size)) {s with heap:=h'}) :
  wpAny (model prog w) A (pyNext (.ref z)) Q E s:=by
 have hTy:s.TypeIs (.ref z) "zip":=⟨_,hz,rfl⟩
 unfold pyNext
 exact wpAny_bind (wpAny_attempt (wpAny_callSpecial?_slot (name:=Str.ofString "__next__") hTy F.slot_zip_next
  (wpAny_call_entry F.slot_zip_next hTy F.entry_zip_next
   (hU_ D hz hT hTI h1 h2 hl1 hl2 hx hy fun h' a1 a2 a3 a4 a5 a6=>wpAny_pure (hQ h' a1 a2 a3 a4 a5 a6)) (F.args_zip_next_1 _))))
theorem di_{z TI TO i1 i2 l1 l2 T:Addr}{f1:Bool}{oT:Obj}{k1:Nat}{xs:Array Value}{Q:Option Value->Shared->Prop}(hh:A.handled=none)(D:ZipApart z TI TO i1 i2 l1 l2)
  (hz:bB_ s.heap z TI TO (rawInt (T:Nat)) f1) (hT:s.heap.get? T=some oT) (hTI:IsPair s.heap TI (.ref i1) (.ref i2))
  (h1:s.heap.IsListIter i1 l1 k1) (hl1:s.heap.IsList l1 xs) (hx:xs[k1]?=none)
  (hQ:∀h',(∀c o,c≠z->c≠i1->s.heap.get? c=some o->h'.get? c=some o)->Q none {s with heap:=h'}):wpAny (model prog w) A (pyNext (.ref z)) Q E s:=by
 have hTy:s.TypeIs (.ref z) "zip":=⟨_,hz,rfl⟩
 unfold pyNext
 refine wpAny_bind (wpAny_attempt (wpAny_callSpecial?_slot (name:=Str.ofString "__next__") hTy F.slot_zip_next
  (wpAny_call_entry F.slot_zip_next hTy F.entry_zip_next (en_ hh D hz hT hTI h1 hl1 hx fun h' e hk he=>?_) (F.args_zip_next_1 _))))
 obtain⟨o,ho,hc⟩:=he
 refine wpAny_bind (wpAny_isInstance (T:="StopIteration") (b:=true) ⟨o,ho,hc⟩ isSubtype_stop ?_)
 exact wpAny_pure (hQ _ hk)
end
structure Zs(h:Heap)(z TI TO i1 i2 a b:Addr)(i:Nat):Prop where
 ti:IsPair h TI (.ref i1) (.ref i2)
 to:∃u v,IsPair h TO u v
 j1:h.IsListIter i1 a i
 j2:h.IsListIter i2 b i
 zz:IsZip h z TI TO .none\/∃(T:Nat) (f1:Bool) (oT:Obj),bB_ h z TI TO (rawInt (T:Nat)) f1/\h.get? T=some oT/\oT.cls=.type "tuple"
theorem Zs.keep{h h':Heap}{z TI TO i1 i2 a b:Addr}{i:Nat}{S:Addr}(st:Zs h z TI TO i1 i2 a b i)(k:∀c o,c≠S->h.get? c=some o->h'.get? c=some o)(hS:S∉[z,TI,TO,i1,i2]){its:Array Value}{n:Nat}(eS:h.get? S=some {cls:=.type "list",data:=.seq its n}):Zs h' z TI TO i1 i2 a b i:=by
 have hS':∀c∈[z,TI,TO,i1,i2],c≠S:=fun c hc e=>hS (e▸hc)
 refine⟨k _ _ (hS' TI (by simp)) st.ti,let ⟨u,v,e⟩:=st.to;⟨u,v,k _ _ (hS' TO (by simp)) e⟩,st.j1.at fun o e=>k _ _ (hS' i1 (by simp)) e,st.j2.at fun o e=>k _ _ (hS' i2 (by simp)) e,?_⟩
 rcases st.zz with e | ⟨T,f1,oT,e1,e2,e3⟩
 ·exact .inl (k _ _ (hS' z (by simp)) e)
 ·refine .inr ⟨T,f1,oT,k _ _ (hS' z (by simp)) e1,k _ _ (fun q=>?_) e2,e3⟩
  rw[q,eS] at e2
  cases e2
  simp at e3
section
variable{prog:Program}{w:World}{A:Around}{E:Value->Shared->Prop}{s:Shared}
theorem Zs.item{z TI TO i1 i2 l1 l2:Addr}{i:Nat}{xs ys:Array Value}{x y:Value}{Q:Option Value->Shared->Prop}(D:ZipApart z TI TO i1 i2 l1 l2)(st:Zs s.heap z TI TO i1 i2 l1 l2 i)
  (hl1:s.heap.IsList l1 xs) (hl2:s.heap.IsList l2 ys) (hx:xs[i]?=some x) (hy:ys[i]?=some y)
  (hQ:∀h',Zs h' z TI TO i1 i2 l1 l2 (i+1)->IsPair h' s.heap.objs.size x y->(∀c o,c∉[z,TI,TO,i1,i2]->s.heap.get? c=some o->h'.get? c=some o)->Q (some (.ref s.heap.objs.size)) {s with heap:=h'}) :
  wpAny (model prog w) A (pyNext (.ref z)) Q E s:=by
 obtain⟨u,v,hto⟩:=st.to
 rcases st.zz with e | ⟨T,f1,oT,e1,e2,e3⟩
 ·refine wpAny_pyNext_zip_item D e st.ti hto st.j1 st.j2 hl1 hl2 hx hy fun h' g1 g2 g3 g4 g5 g6 g7=>hQ h' ⟨g7 _ _ D.TIz D.TITO D.TIi1 D.TIi2 st.ti,⟨_,_,g2⟩,g3,g4,.inr ⟨_,false,_,g1,g5,rfl⟩⟩ g5 fun c o hc e=>?_
  simp only[List.mem_cons,List.not_mem_nil,or_false,not_or] at hc
  exact g7 c o hc.1 hc.2.2.1 hc.2.2.2.1 hc.2.2.2.2 e
 ·have t1:(T:Addr)≠z:=fun q=>by rw[q,e1] at e2;cases e2;simp at e3
  have t2:(T:Addr)≠i1:=fun q=>by
   obtain⟨o,q1,q2,_⟩:=st.j1
   rw[q,q1] at e2;cases e2;rw[q2] at e3;simp at e3
  have t3:(T:Addr)≠i2:=fun q=>by
   obtain⟨o,q1,q2,_⟩:=st.j2
   rw[q,q1] at e2;cases e2;rw[q2] at e3;simp at e3
  refine fp_ D e1 e2 st.ti st.j1 st.j2 hl1 hl2 hx hy fun h' g1 g3 g4 g5 g6 g7=>hQ h' ⟨g7 _ _ D.TIz D.TIi1 D.TIi2 st.ti,⟨_,_,g7 _ _ D.TOz D.TOi1 D.TOi2 hto⟩,g3,g4,.inr ⟨T,true,oT,g1,g7 _ _ t1 t2 t3 e2,e3⟩⟩ g5 fun c o hc e=>?_
  simp only[List.mem_cons,List.not_mem_nil,or_false,not_or] at hc
  exact g7 c o hc.1 hc.2.2.2.1 hc.2.2.2.2 e
theorem Zs.done{z TI TO i1 i2 l1 l2:Addr}{i:Nat}{xs ys:Array Value}{Q:Option Value->Shared->Prop}(hh:A.handled=none)(D:ZipApart z TI TO i1 i2 l1 l2)(st:Zs s.heap z TI TO i1 i2 l1 l2 i)
  (hl1:s.heap.IsList l1 xs) (hl2:s.heap.IsList l2 ys) (hx:xs[i]?=none)
  (hQ:∀h',(∀c o,c∉[z,TI,TO,i1,i2]->s.heap.get? c=some o->h'.get? c=some o)->Q none {s with heap:=h'}) :
  wpAny (model prog w) A (pyNext (.ref z)) Q E s:=by
 obtain⟨u,v,hto⟩:=st.to
 rcases st.zz with e | ⟨T,f1,oT,e1,e2,e3⟩
 ·refine wpAny_pyNext_zip_end hh D e st.ti hto st.j1 st.j2 hl1 hl2 (.inl hx) fun h' g7=>hQ h' fun c o hc e=>?_
  simp only[List.mem_cons,List.not_mem_nil,or_false,not_or] at hc
  exact g7 c o hc.1 hc.2.2.1 hc.2.2.2.1 hc.2.2.2.2 e
 ·refine di_ hh D e1 e2 st.ti st.j1 hl1 hx fun h' g7=>hQ h' fun c o hc e=>?_
  simp only[List.mem_cons,List.not_mem_nil,or_false,not_or] at hc
  exact g7 c o hc.1 hc.2.2.2.1 e
end
def gW_(H:Hp)(ts:List Addr)(xs ys:List V):Prop:=∀(j:Nat) (t:Addr),ts[j]?=some t->∃x y,xs[j]?=some x/\ys[j]?=some y/\H t=some (.tup [x,y])
theorem ov_{X:Cx}{pins:List (Addr×Obj)}{σ:St}{A:Around}{R:Result->Shared->Prop}{z TI TO i1 i2 a b S:Addr}{xs ys:List V}{res:Value}(hh:A.handled=none)(D:ZipApart z TI TO i1 i2 a b)(hlen:xs.length=ys.length)(hsz:xs.length<=sizeLine)(hSf:S∉[z,TI,TO,i1,i2])(haS:a≠S)(hbS:b≠S) :
  ∀(k i:Nat) (s:Shared) (H:Hp) (ts:List Addr),xs.length-i=k->i<=xs.length->Inv X pins σ H s->Zs s.heap z TI TO i1 i2 a b i->(∀c∈[z,TI,TO,i1,i2],FpOk X pins H c)->H a=some (.lst xs)->H b=some (.lst ys)->H S=some (.lst (ts.map V.ref))->ts.length=i->gW_ H ts xs ys->
   (∀s' H' ts',Inv X pins σ H' s'->(∀c o,H c=some o->c≠S->H' c=some o)->H' S=some (.lst (ts'.map V.ref))->ts'.length=xs.length->gW_ H' ts' xs ys->R (.ok (.ret res)) s')->
   codeAny (model X.prog X.w) A (.builtin "list.extend.loop" ⟨[.ref S,.ref z,res],[]⟩) R s:=by
 intro k
 induction k with
 | zero =>
  intro i s H ts hk hi I st hf ha hb hS hts TA hR
  have hin:i=xs.length:=by omega
  obtain⟨z1,its,n1,r1,l1,e1⟩:=I.lstM ha
  obtain⟨z2,jts,n2,r2,l2,e2⟩:=I.lstM hb
  refine codeAny_builtin F.entry_extend_loop ?_
  rw[Around.under_plainId F.plain_extend_loop _]
  show wpAny _ A.in1 (pyNext (.ref z)>>=_) _ _ s
  refine wpAny_bind (Zs.done hh D st ⟨_,e1,rfl,_,rfl⟩ ⟨_,e2,rfl,_,rfl⟩ (by simp;omega) fun h' kk=>?_)
  exact wpAny_pure (hR _ H ts (I.turnedL (t':=s.toks) kk hf) (fun _ _ e _=>e) hS (by rw[hts,hin]) TA)
 | succ k ih =>
  intro i s H ts hk hi I st hf ha hb hS hts TA hR
  have hlt:i<xs.length:=by omega
  obtain⟨z1,its,n1,r1,l1,e1⟩:=I.lstM ha
  obtain⟨z2,jts,n2,r2,l2,e2⟩:=I.lstM hb
  have hx:xs[i]?=some xs[i]:=List.getElem?_eq_getElem hlt
  have hy:ys[i]?=some (ys[i]'(by omega)):=List.getElem?_eq_getElem (by omega)
  obtain⟨u,hu,ru⟩:=r1.get hx
  obtain⟨v,hv,rv⟩:=r2.get hy
  refine codeAny_builtin F.entry_extend_loop ?_
  rw[Around.under_plainId F.plain_extend_loop _]
  show wpAny _ A.in1 (pyNext (.ref z)>>=_) _ _ s
  refine wpAny_bind (Zs.item D st ⟨_,e1,rfl,_,rfl⟩ ⟨_,e2,rfl,_,rfl⟩ (x:=u) (y:=v) (by simpa using hu) (by simpa using hv) fun h' st' tT kk=>?_)
  have hn:H s.heap.objs.size=none:=I.hok.fresh (Nat.le_refl _)
  have I1:=I.turnedNew (t':=s.toks) (T:=s.heap.objs.size) (o:=.tup [xs[i],ys[i]'(by omega)]) kk hf (Nat.le_refl _) ⟨by show 2<=sizeLine;decide,[u,v],.cons ru (.cons rv .nil),⟨_,tT,rfl,_,rfl⟩⟩
  have nST:S≠s.heap.objs.size:=f_ hS hn
  have hS1:(upd H s.heap.objs.size (.tup [xs[i],ys[i]'(by omega)])) S=some (.lst (ts.map V.ref)):=by rw[j_ nST];exact hS
  obtain⟨z3,kts,n3,r3,l3,e3⟩:=I1.lstM hS1
  have hkl:kts.length=i:=by rw[<-l3,List.length_map,hts]
  show wpAny _ A.in1 (updateSeq S (·.push (.ref s.heap.objs.size))>>=_) _ _ _
  refine wpAny_bind ?_
  have I2:=I1.lset (t':=s.toks) (f:=(·.push (.ref s.heap.objs.size))) (ys:=(ts++[s.heap.objs.size]).map V.ref) (its':=kts++[.ref s.heap.objs.size]) hS1 e3 (by simp) (by rw[List.map_append];exact r3.append (.cons rfl .nil)) (by simp;omega)
  refine wpAny_updateSeq e3 rfl (wpAny_pure ⟨plainId_quiet F.plain_extend_loop _,ih (i+1) _ _ (ts++[s.heap.objs.size]) (by omega) hlt I2 ?_ ?_ ?_ ?_ c_ (by simp[hts]) ?_ ?_⟩) (by simp;omega) (by simp;omega)
  ·exact st'.keep (S:=S) (fun c o hc e=>(Heap.get?_update_other _ _ (Ne.symm hc)).trans e) hSf e3
  ·intro c hc
   obtain⟨f0,f1⟩:=hf c hc
   have hc1:c≠S:=fun e=>hSf (e▸hc)
   have hc2:c≠s.heap.objs.size:=by
    have:∃o,s.heap.get? c=some o:=by
     obtain⟨uu,vv,hto⟩:=st.to
     obtain⟨o1,q1,_⟩:=st.j1
     obtain⟨o2,q2,_⟩:=st.j2
     simp only[List.mem_cons,List.not_mem_nil,or_false] at hc
     rcases hc with rfl | rfl | rfl | rfl | rfl
     ·rcases st.zz with e | ⟨_,_,_,e,_⟩ <;> exact⟨_,e⟩
     ·exact⟨_,st.ti⟩
     ·exact⟨_,hto⟩
     ·exact⟨_,q1⟩
     ·exact⟨_,q2⟩
    obtain⟨o,q⟩:=this
    exact Nat.ne_of_lt (Heap.lt_size q)
   exact⟨by rw[j_ hc1,j_ hc2];exact f0,f1⟩
  ·rw[j_ haS,j_ (f_ ha hn)];exact ha
  ·rw[j_ hbS,j_ (f_ hb hn)];exact hb
  ·intro j t hj
   by_cases hjl:j<ts.length
   ·rw[List.getElem?_append_left hjl] at hj
    obtain⟨x,y,a1,a2,a3⟩:=TA j t hj
    refine⟨x,y,a1,a2,?_⟩
    have n1:t≠S:=fun e=>by rw[e,hS] at a3;cases a3
    rw[j_ n1,j_ (f_ a3 hn)]
    exact a3
   ·have hj':j=i:=by
     have:=(List.getElem?_eq_some_iff.mp hj).1
     simp at this
     omega
    subst hj'
    rw[List.getElem?_append_right (by omega),hts,Nat.sub_self] at hj
    have et:s.heap.objs.size=t:=by simpa using hj
    subst et
    exact⟨_,_,hx,hy,by rw[j_ nST.symm,c_]⟩
  ·intro s' H' ts' I' kp hS' hl' TA'
   refine hR s' H' ts' I' (fun c o e n=>kp c o ?_ n) hS' hl' TA'
   have n1:c≠S:=n
   rw[j_ n1,j_ (f_ e hn)]
   exact e
theorem jA_:typeLookup (.type "zip") "__len__"=pure none:=by rw[typeLookup_type,builtinLookup_eq_fast];kernel_rfl
theorem gZ_:typeLookup (.type "zip") "__length_hint__"=pure none:=by rw[typeLookup_type,builtinLookup_eq_fast];kernel_rfl
theorem kn_{X:Cx}{pins:List (Addr×Obj)}{σ:St}{H:Hp}{A:Around}{R:Result->Shared->Prop}{s:Shared}{z TI TO i1 i2 a b S:Addr}{xs ys:List V}{res:Value}(hh:A.handled=none)(D:ZipApart z TI TO i1 i2 a b)(hlen:xs.length=ys.length)(hsz:xs.length<=sizeLine)(hSf:S∉[z,TI,TO,i1,i2])(haS:a≠S)(hbS:b≠S)
  (I:Inv X pins σ H s) (st:Zs s.heap z TI TO i1 i2 a b 0) (hz0:IsZip s.heap z TI TO .none) (hf:∀c∈[z,TI,TO,i1,i2],FpOk X pins H c) (ha:H a=some (.lst xs)) (hb:H b=some (.lst ys)) (hS:H S=some (.lst []))
  (hR:∀s' H' ts',Inv X pins σ H' s'->(∀c o,H c=some o->c≠S->H' c=some o)->H' S=some (.lst (ts'.map V.ref))->ts'.length=xs.length->gW_ H' ts' xs ys->R (.ok (.ret res)) s') :
  wpAny (model X.prog X.w) A.in1 (Builtin.List.listExtendWith (.ref S) (.ref z) res)
   (fun fin s'=>match fin with | .done f=>R (.ok f) s' | .again c'=>c'.quiet=true/\codeAny (model X.prog X.w) A c' R s') (fun e s'=>R (.error e) s') s:=by
 have hSz:S≠z:=fun e=>hSf (by simp[e])
 have hTz:s.TypeIs (.ref z) "zip":=⟨_,hz0,rfl⟩
 unfold Builtin.List.listExtendWith
 refine wpAny_bind (wpAny_typeOf hTz ?_)
 have h1:Builtin.List.listSameRef (.ref S) (.ref z)=false:=by simp[Builtin.List.listSameRef,hSz]
 have h2:(Value.type "zip"==Value.type "list")=false:=by decide
 have h3:(Value.type "zip"==Value.type "tuple")=false:=by decide
 simp only[h1,h2,h3,Bool.or_false,Bool.false_eq_true,if_false]
 refine wpAny_bind (wpAny_pyIter_zip hz0 ?_)
 refine wpAny_bind (wpAny_holding ?_)
 unfold Builtin.List.listLengthHint
 refine wpAny_bind (wpAny_specialOf hTz jA_ ?_)
 show wpAny _ A.in1 (specialOf (Value.ref z) (Str.ofString "__length_hint__")>>=_) _ _ _
 refine wpAny_bind (wpAny_specialOf hTz gZ_ ?_)
 refine wpAny_pure ?_
 show wpAny _ A.in1 (rule "list.extend.makes-room">>=fun _=>Builtin.List.listTouch (.ref S)>>=fun _ =>
  again (.builtin "list.extend.loop" ⟨[.ref S,.ref z,res],[]⟩)) _ _ _
 refine wpAny_bind (wpAny_rule ?_)
 refine wpAny_bind ?_
 show wpAny _ A.in1 (updateSeq S (·.push .none)>>=fun _=>updateSeq S (·.pop)) _ _ _
 obtain⟨z3,kts,n3,r3,l3,e3⟩:=I.lstM hS
 have ek:kts=[]:=List.eq_nil_of_length_eq_zero l3.symm
 subst ek
 have I1:=I.lset (t':=s.toks) (f:=(·.push .none)) (ys:=[.non]) (its':=[.none]) hS e3 (by simp) (.cons rfl .nil) (by decide)
 have hS1:(upd H S (.lst [.non])) S=some (.lst [.non]):=c_
 refine wpAny_bind (wpAny_updateSeq e3 rfl ?_)
 have e4:=Heap.get?_update_self (Obj.mapSeq (·.push Value.none)) e3 rfl
 have I2:=I1.lset (t':=s.toks) (f:=(·.pop)) (ys:=[]) (its':=[]) (its:=[.none]) hS1 (by simpa [Obj.mapSeq] using e4) (by simp) .nil (by decide)
 refine wpAny_updateSeq (hz:=by seq_fits) e4 rfl ?_
 have e5:=Heap.get?_update_self (Obj.mapSeq (·.pop)) e4 rfl
 have uu:upd (upd H S (.lst [.non])) S (.lst [])=H:=by
  funext c
  by_cases h:c=S
  ·rw[h,c_,hS]
  ·rw[j_ h,j_ h]
 rw[uu] at I2
 refine wpAny_pure ⟨plainId_quiet F.plain_extend_loop _,ov_ hh D hlen hsz hSf haS hbS xs.length 0 _ H [] (Nat.sub_zero _) (Nat.zero_le _) I2 ?_ hf ha hb hS rfl (fun j t h=>by simp at h) hR⟩
 exact(st.keep (S:=S) (fun c o hc e=>(Heap.get?_update_other _ _ (Ne.symm hc)).trans e) hSf e3).keep (S:=S) (fun c o hc e=>(Heap.get?_update_other _ _ (Ne.symm hc)).trans e) hSf e4
theorem ow_{X:Cx}{pins:List (Addr×Obj)}{σ:St}{H:Hp}{A:Around}{Q:Value->Shared->Prop}{E:Value->Shared->Prop}{s:Shared}{z TI TO i1 i2 a b:Addr}{xs ys:List V}(hh:A.handled=none)(D:ZipApart z TI TO i1 i2 a b)(hlen:xs.length=ys.length)(hsz:xs.length<=sizeLine)
  (I:Inv X pins σ H s) (st:Zs s.heap z TI TO i1 i2 a b 0) (hz0:IsZip s.heap z TI TO .none) (hf:∀c∈[z,TI,TO,i1,i2],FpOk X pins H c) (ha:H a=some (.lst xs)) (hb:H b=some (.lst ys))
  (hQ:∀S s' H' ts',H S=none->Inv X pins σ H' s'->(∀c o,H c=some o->H' c=some o)->H' S=some (.lst (ts'.map V.ref))->ts'.length=xs.length->gW_ H' ts' xs ys->Q (.ref S) s') :
  wpAny (model X.prog X.w) A (call (.type "list") [.ref z]) Q E s:=by
 have hfre:H s.heap.objs.size=none:=I.hok.fresh (Nat.le_refl _)
 have there:∀c∈[z,TI,TO,i1,i2],c≠s.heap.objs.size:=fun c hc=>by
  have:∃o,s.heap.get? c=some o:=by
   obtain⟨uu,vv,hto⟩:=st.to
   obtain⟨o1,q1,_⟩:=st.j1
   obtain⟨o2,q2,_⟩:=st.j2
   simp only[List.mem_cons,List.not_mem_nil,or_false] at hc
   rcases hc with rfl | rfl | rfl | rfl | rfl
   ·exact⟨_,hz0⟩
   ·exact⟨_,st.ti⟩
   ·exact⟨_,hto⟩
   ·exact⟨_,q1⟩
   ·exact⟨_,q2⟩
  obtain⟨o,q⟩:=this
  exact Nat.ne_of_lt (Heap.lt_size q)
 have hSf:s.heap.objs.size∉[z,TI,TO,i1,i2]:=fun hm=>there _ hm rfl
 refine callType_codes (Q₁:=fun obj s₁=>obj=.ref s.heap.objs.size/\s₁={s with heap:=s.heap.push {cls:=.type "list",data:=.seq #[]}}) F.called_list (F.typeCall_list_1 _) F.entry_list_init
  (code_list_new _ ⟨rfl,rfl⟩) fun obj s₁ h₁=>?_
 obtain⟨rfl,rfl⟩:=h₁
 have hS:(s.heap.push {cls:=.type "list",data:=.seq #[]}).get? s.heap.objs.size=some {cls:=.type "list",data:=.seq #[]}:=Heap.get?_push_size _ rfl
 have kk:∀c o,s.heap.get? c=some o->(s.heap.push {cls:=.type "list",data:=.seq #[]}).get? c=some o:=fun c o e=>Heap.get?_push_of_some _ e
 have I1:=I.turnedNew (h':=s.heap.push {cls:=.type "list",data:=.seq #[]}) (t':=s.toks) (ch:=[]) (T:=s.heap.objs.size) (o:=.lst []) (fun c o _ e=>kk c o e) (fun c hc=>by simp at hc) (Nat.le_refl _) ⟨by decide,[],0,.nil,hS⟩
 refine⟨⟨_,hS,rfl⟩,F.args_list_init_2 _ _,?_⟩
 show wpAny _ A.in1.in1 (do let old <-Builtin.List.listItems (.ref s.heap.objs.size);Builtin.List.listUpdate (.ref s.heap.objs.size) (fun _=>#[]);letGo old.toList.reverse;Builtin.List.listExtendWith (.ref s.heap.objs.size) (.ref z) .none) _ _ _
 refine wpAny_bind ?_
 unfold Builtin.List.listItems
 refine wpAny_bind (wpAny_seqItems hS rfl (wpAny_pure ?_))
 show wpAny _ A.in1.in1 (updateSeq s.heap.objs.size (fun _=>#[])>>=fun _=>letGo (#[]:Array Value).toList.reverse>>=fun _=>Builtin.List.listExtendWith (.ref s.heap.objs.size) (.ref z) .none) _ _ _
 refine wpAny_bind (wpAny_updateSeq hS rfl ?_)
 have hS1:(upd H s.heap.objs.size (.lst [])) s.heap.objs.size=some (.lst []):=c_
 have I2:=I1.lset (t':=s.toks) (f:=fun _=>#[]) (ys:=[]) (its':=[]) (its:=[]) hS1 hS (by simp) .nil (by decide)
 have uu:upd (upd H s.heap.objs.size (.lst [])) s.heap.objs.size (.lst [])=upd H s.heap.objs.size (.lst []):=by
  funext c
  by_cases h:c=s.heap.objs.size
  ·rw[h,c_,c_]
  ·rw[j_ h]
 rw[uu] at I2
 refine wpAny_bind (wpAny_letGo ?_)
 have up:∀c o,c≠s.heap.objs.size->s.heap.get? c=some o->((s.heap.push {cls:=.type "list",data:=.seq #[]}).update s.heap.objs.size (Obj.mapSeq (fun _=>(#[]:Array Value)))).get? c=some o:=fun c o hc e=>(Heap.get?_update_other _ _ (Ne.symm hc)).trans (kk c o e)
 have st2:Zs ((s.heap.push {cls:=.type "list",data:=.seq #[]}).update s.heap.objs.size (Obj.mapSeq (fun _=>(#[]:Array Value)))) z TI TO i1 i2 a b 0 :=
  ⟨up _ _ (there TI (by simp)) st.ti,let ⟨u,v,e⟩:=st.to;⟨u,v,up _ _ (there TO (by simp)) e⟩,st.j1.at fun o e=>up _ _ (there i1 (by simp)) e,st.j2.at fun o e=>up _ _ (there i2 (by simp)) e,.inl (up _ _ (there z (by simp)) hz0)⟩
 refine kn_ (A:=A.in1) (res:=.none) hh D hlen hsz hSf (f_ ha hfre) (f_ hb hfre) I2 st2 (up _ _ (there z (by simp)) hz0) (fun c hc=>?_) (by rw[j_ (f_ ha hfre)];exact ha) (by rw[j_ (f_ hb hfre)];exact hb) hS1 fun s' H' ts' I' kp hS' hl' TA'=>?_
 ·obtain⟨f0,f1⟩:=hf c hc
  exact⟨by rw[j_ (there c hc)];exact f0,f1⟩
 ·refine⟨rfl,hQ _ s' H' ts' hfre I' (fun c o e=>kp c o ?_ (f_ e hfre)) hS' hl' TA'⟩
  rw[j_ (f_ e hfre)]
  exact e
section
variable{X:Cx}{l l2:Expr}{tl tl2:TE}
def tLZip(tl tl2:TE):TE:=fun σ H Q=>tl σ H fun x H1=>tl2 σ H1 fun y H2=>∃a b xs ys,x=.ref a/\y=.ref b/\H2 a=some (.lst xs)/\H2 b=some (.lst ys)/\xs.length=ys.length/\
 ∀S ts H',H2 S=none->Same H2 H'->H' S=some (.lst (ts.map V.ref))->ts.length=xs.length->gW_ H' ts xs ys->Q (.ref S) H'
theorem oQ_{p1 p2 q1 q2:Pos}(hc:X.calm=true)(hm1:X.mg "list"=none)(hm2:X.mg "zip"=none)(hg1:Gl X "list")(hg2:Gl X "zip")(hl:PE X l tl)(hl2:PE X l2 tl2)(hs:starEach [l,l2] X.env=[(false,eval l X.env),(false,eval l2 X.env)]:=by rfl)(hs2:starEach [l2] X.env=[(false,eval l2 X.env)]:=by rfl) :
  PE X (.Call (.Name "list" p1) [.Call (.Name "zip" p2) [l,l2] [] q2] [] q1) (tLZip tl tl2):=by
 intro pins s σ H Q I h
 refine wpAny_Call_Name_kw (aI_ I hg1 hm1 boot_list ?_)
 refine PyProof.Rows.callWith_type1 ?_ rfl rfl
 show wpAny _ _ (spliced ((false,eval (.Call (.Name "zip" p2) [l,l2] [] q2) X.env)::backTo q1 (starEach [] X.env))) _ _ s
 refine Calls.spliced_cons ?_
 refine wpAny_Call_Name_kw (aI_ I hg2 hm2 boot_zip ?_)
 refine PyProof.Rows.callWith_type1 ?_ (by rw[hs,hs2]) (by rw[hs2];rfl)
 rw[hs]
 show wpAny _ _ (spliced ((false,eval l X.env)::(false,eval l2 X.env)::backTo q2 (starEach [] X.env))) _ _ s
 refine Calls.spliced_cons (thn (hl pins s σ H _ I h) fun u s1 ⟨x,H1,I1,r1,w1⟩=>Calls.spliced_cons (thn (hl2 pins s1 σ H1 _ I1 w1) fun u2 s2 ⟨y,H2,I2,r2,w2⟩=>Calls.spliced_nil ?_))
 obtain⟨a,b,xs,ys,rfl,rfl,ha,hb,hlen,q⟩:=w2
 cases r1
 cases r2
 obtain⟨z1,its,n1,v1,l1,e1⟩:=I2.lstM ha
 obtain⟨z2,jts,n2,v2,l2',e2⟩:=I2.lstM hb
 have la:a<s2.heap.objs.size:=Heap.lt_size e1
 have lb:b<s2.heap.objs.size:=Heap.lt_size e2
 refine call_zip_2 ⟨_,e1,rfl,_,rfl⟩ ⟨_,e2,rfl,_,rfl⟩ fun h' g1 g2 g3 g4 g5 g6 g7=>?_
 have D:ZipApart (s2.heap.objs.size+4) (s2.heap.objs.size+2) (s2.heap.objs.size+3) s2.heap.objs.size (s2.heap.objs.size+1) a b:=zipApart_new la lb
 have I3:=I2.kept (t':=s2.toks) g7
 refine Calls.spliced_nil ?_
 refine ow_ (I2.ok.hd hc) D hlen z1 I3 ⟨g2,⟨_,_,g3⟩,g4,g5,.inl g1⟩ g1 (fun c hc=>?_) ha hb fun S s' H' ts' hS I' kp hS' hl' TA'=>⟨.ref S,H',I',rfl,q S ts' H' hS (fun c o e=>kp c o e) hS' hl' TA'⟩
 have hb':s2.heap.objs.size<=c:=by
  simp only[List.mem_cons,List.not_mem_nil,or_false] at hc
  rcases hc with rfl | rfl | rfl | rfl | rfl
  ·exact Nat.le_add_right _ _
  ·exact Nat.le_add_right _ _
  ·exact Nat.le_add_right _ _
  ·exact Nat.le_refl _
  ·exact Nat.le_add_right _ _
 exact I2.fpOk hb' (I2.hok.fresh hb')
end
end L2
namespace Hv
open PySem L2
theorem pp_{xs:List V}:cutV xs (some 1) none=xs.drop 1:=by
 unfold cutV
 rw[show(1:Int)=((1:Nat):Int) from rfl,HT.dN_,HT.fm_]
 rcases Nat.le_total 1 xs.length with h | h
 ·rw[Nat.min_eq_left h,List.take_of_length_le (by rw[List.length_drop];omega)]
 ·rw[Nat.min_eq_right h,List.drop_of_length_le (Nat.le_refl _),List.drop_of_length_le h]
  simp
theorem rd_of{H H':Hp}{a d:Addr}{o:Obj}{kvs kd:List (Key×V)}(kp:Kp [a] H H')(ha:H a=some (.dK kvs))(fa:H' a=some (.frz o (.dK kvs)))(hd:H d=some (.dK kd)):Rd H' d (.dK kd):=by
 by_cases h:d=a
 ·subst h
  rw[ha] at hd
  cases hd
  exact .inr ⟨o,fa⟩
 ·exact .inl (kp _ _ hd (by simpa using h))
theorem qw_(T n v n2 v2 st A B:Int):T+(n*n2*A+(v*n2*st+n*v2)*B)=T+(n*(n2*A+v2*B)+v*(n2*st*B)):=by
 have e1:v*n2*st*B=v*(n2*st*B):=by rw[Int.mul_assoc v,Int.mul_assoc v]
 rw[Int.add_mul,e1,Int.mul_add,Int.mul_assoc n n2,Int.mul_assoc n v2]
 omega
section
variable{P:Program}{w:World}{K:PySem.W.Frag}{mg:Str->Option Value}{base:Heap}
theorem iE_:FnScope ["frame","sums_by_part","joined","length","by_sums","stand","longer","total","ahead","behind","worth"] ["frame","sums_by_part"] (i_ fl_):=⟨rfl,rfl,rfl,by decide +kernel,rfl,by decide +kernel,by decide +kernel⟩
theorem lz_{f:Addr}{fd:FuncData}(F:Fun K "joined_worth" "joined_worth" fl_ f fd)(T:Txt mg)(DS:Def P w K mg base 1 "stands_of" ["base","length"] bI_):FnOk P w K mg base CX0 2 f fd ["frame","sums_by_part"] fa_:=by
 refine F.ok iE_ (fun vs H Q E h=>?_) (fun cdv A outer s H vs Q E hr h=>?_)
 ·obtain⟨g,A,c,b,ps,ws,sl,ds,x,rfl,_⟩:=h;rfl
 ·obtain⟨g,A',c,b,ps,ws,sl,ds,x,rfl,G,hsl,hdl,SO,PR,k⟩:=h
  have nd:=iE_.nd
  have hu:=cD_ hr
  refine⟨_,b_ (k_ (i:=2) nd rfl (Or.inl rfl) (ixl (pv 1) e_))
   (b_ (B_ PassesOwn.never rfl (M_ (bQ_ dB_ (oQ_ rfl T.list T.zip (by rfl) (by rfl) (ixt (pv 0) e_) (pv 1)) (bu_ e_) ft_)) (df_ rfl (z_ (n_ (i:=3) nd rfl (Or.inl rfl)) (z_ (n_ (i:=4) nd rfl (Or.inl rfl)) aB_)))
    (b_ (k_ (i:=5) nd rfl (Or.inl rfl) (ixl (m_ DS hr (by rfl) (a_ (ixt (pv 0) e_) (a_ (pv 3) d_))) (hD_ du_ e_)))
    (b_ (k_ (i:=6) nd rfl (Or.inl rfl) be_)
    (b_ (B_ PassesOwn.never rfl (cj_ (pv 2)) (n_ (i:=7) nd rfl (Or.inl rfl))
     (g_ (ae_ (oa_ (oe_ hu (pv 7) (pv 4)))
      (b_ (k_ (i:=8) nd rfl (Or.inl rfl) (ar_ hu (pv 2) (pv 7) (fun _ _=>rfl)))
      (b_ (k_ (i:=9) nd rfl (Or.inl rfl) (ar_ hu (pv 4) (pv 7) (fun _ _=>rfl)))
      (b_ (k_ (i:=10) nd rfl (Or.inl rfl) (l_ r_ (l_ F_ (l_ F_ (ixt (pv 8) e_) (ixt (pv 9) e_)) (pv 5)) (l_ F_ (ixt (pv 8) e_) (ixt (pv 9) e_))))
      (g_ (cX_ hu (pv 6) (pv 7) (aS_ (a_ (l_ F_ (ixt (pv 8) e_) (ixt (pv 9) e_)) (a_ (pv 10) d_))) rfl)))))
      D_)))
    (bd_ (g_ (k_ (i:=2) nd rfl (Or.inl rfl) (pv 6))))))))
   (g_ (o_ (q_ (aF_ rfl) (by rfl) T.sum boot_sum (a_ (aC_ (i_ fl_) ["frame","sums_by_part","joined","length","by_sums","stand","longer","total","ahead","behind","worth"] [] [] rfl (oP_ (pv 2)) (fun cl C s H fp=>af_) (fun cl C s H fp=>ixtK K rfl (pv 0) e_) (by decide +kernel)) d_))))),?_⟩
  have ok:=G.ok
  have l4:=ok.l4
  have l2:=ok.l2
  have b2:=ok.b2
  have b0:0<b:=by omega
  have b16:=ok.b16
  obtain⟨row0,hrow0⟩:∃row0,(Ma.cuts ps ws)[0]?=some row0:=⟨_,List.getElem?_eq_getElem (by rw[Ma.A_];omega)⟩
  obtain⟨l0,hl0⟩:∃l,ps[0]?=some l:=⟨_,List.getElem?_eq_getElem (by omega)⟩
  obtain⟨d0,hd0⟩:∃d,ds[0]?=some d:=⟨_,List.getElem?_eq_getElem (by omega)⟩
  obtain⟨kv0,h0,a1,a2,a3⟩:=PR 0 l0 row0 d0 hl0 hrow0 hd0
  refine⟨_,rfl,br_ hsl (show atI _ 0=_ from ab_ (j:=0) (v:=.ref d0) (by rw[List.getElem?_map,hd0];rfl)) ?_⟩
  refine⟨_,rfl,_,_,_,_,rfl,rfl,SqT.of G.tp,rfl,_,rfl,A',sl,_,_,rfl,rfl,G.hp,hsl,by simp[hdl],fun S ts H1 hS s1 hS1 htl TA=>?_⟩
  refine⟨_,rfl,S,_,rfl,SqL.of hS1,fun p hp=>?_⟩
  rw[pp_]
  have s2:=h_ (o:=.lst ((ts.map V.ref).drop 1)) hp
  have u2:(upd H1 p (.lst ((ts.map V.ref).drop 1))) p=_:=c_
  generalize upd H1 p (.lst ((ts.map V.ref).drop 1))=H2 at s2 u2⊢
  have S2:=s1.trans s2
  have tlen:ts.length=ps.length:=by rw[htl];simp[natV]
  refine⟨p,rfl,⟨_,SqL.of u2⟩,al_ (K:=K) (a:=p) (xs:=(ts.map V.ref).drop 1) (fun i σ H3=>∃(jd:Addr) (kj:List (Key×V)) (hj:Mu.Tri) (v3 v4 v5 v6 v7 v8 v9 v10:Option V),σ=[some (.ref g),some (.ref sl),some (.ref jd),v3,v4,v5,v6,v7,v8,v9,v10]/\Same H2 H3/\(i=0\/H jd=none)/\H3 jd=some (.dK kj)/\PT H3 kj hj/\
    Mu.Rep hj 810 (Mu.lo b x.1 x.2.1 (ps.take (i+1)).sum) (Mu.cn b x.2.1 x.2.2 (ps.take (i+1)).sum) (Mu.aK_ b row0 (((Ma.cuts ps ws).drop 1).take i)).1 (Mu.aK_ b row0 (((Ma.cuts ps ws).drop 1).take i)).2)
   ⟨d0,kv0,h0,none,none,none,none,none,none,none,none,rfl,Same.refl _,.inl rfl,S2 _ _ a1,a2.keep S2,?_⟩ (fun i σ H3 _ h=>by obtain⟨_,_,_,_,_,_,_,_,_,_,_,_,z,_⟩:=h;exact SqL.of (z _ _ u2)) ?_ ?_⟩
  ·have e1:(ps.take (0+1)).sum=0+l0:=by rw[List.take_add_one,hl0];simp
   have st:=Mu.cB_ (b:=b) (a:=x.1) (pl:=x.2.1) (e:=x.2.2) (o:=0) (l:=l0) b0 SO.eb
   rw[e1,st.1,st.2.1,Mu.lQ_ SO.ha,Mu.mz_,Nat.zero_mul,Nat.zero_add,Nat.one_mul]
   exact a3
  ·rintro i tx σ H3 hx ⟨jd,kj,hj,v3,v4,v5,v6,v7,v8,v9,v10,rfl,s3,hnew,hjd,pj,RJ⟩
   rw[List.getElem?_drop] at hx
   obtain⟨t,ht,rfl⟩:=aR_ hx
   obtain⟨xv,yv,hxv,hyv,htt⟩:=TA _ t ht
   obtain⟨l,hl,rfl⟩:∃l,ps[1+i]?=some l/\xv=.int (l:Int):=by
    rw[natV,List.getElem?_map] at hxv
    cases e:ps[1+i]? with
    | none=>rw[e] at hxv;cases hxv
    | some d=>rw[e] at hxv;exact⟨d,rfl,(Option.some.inj hxv).symm⟩
   obtain⟨d,hd,rfl⟩:=aR_ hyv
   have hrow:=Ma.bW_ ps ws (1+i) l hl
   generalize er:(ws.drop (ps.take (1+i)).sum).take l=row at hrow
   have hrl:row.length=l:=by
    have h1:=Me.ea_ ps ws ok.wl
    have h2:((Ma.cuts ps ws).map List.length)[1+i]?=some row.length:=by rw[List.getElem?_map,hrow];rfl
    rw[h1,hl] at h2
    exact(Option.some.inj h2).symm
   have hl6:=ok.pr l (List.mem_of_getElem? hl)
   obtain⟨kd,hg,c1,c2,c3⟩:=PR (1+i) l row d hl hrow hd
   have S3:=S2.trans s3
   have G3:=G.keep S3
   refine⟨t,_,rfl,SqT.of (s3 _ _ (s2 _ _ htt)),rfl,_,_,rfl,_,_,rfl,rfl,?_⟩
   refine⟨_,rfl,_,_,_,_,rfl,rfl,SqT.of G3.tp,rfl,_,rfl,b,l,rfl,b16,hl6.2,fun sp H4 hsp s4 hsp4=>?_⟩
   refine⟨_,rfl,br_ hsp4 (gg_ b l) ?_⟩
   intro lp hlp
   have hst:=Mu.cB_ (b:=b) (a:=x.1) (pl:=x.2.1) (e:=x.2.2) (o:=(ps.take (i+1)).sum) (l:=l) b0 SO.eb
   have S4:=S3.trans s4
   have hjd4:=s4 _ _ hjd
   have njl:jd≠lp:=f_ hjd4 hlp
   have pj4:=PT.keep pj s4
   have d4:=S4 _ _ c1
   have c24:=PT.keep c2 S4
   have hlpH:H lp=none:=S4.free hlp
   have hpw:b ^ l<=16 ^ 6:=Nat.le_trans (Nat.pow_le_pow_left b16 _) (Nat.pow_le_pow_right (by decide) hl6.2)
   have h16:(16:Nat) ^ 6=16777216:=by decide
   obtain⟨rows,hrows⟩:∃rows,rows=(Ma.cuts ps ws).drop 1:=⟨_,rfl⟩
   rw[<-hrows] at RJ⊢
   have hrow1:rows[i]?=some row:=by rw[hrows,List.getElem?_drop];exact hrow
   refine⟨_,rfl,jd,kj,rfl,(by rw[j_ njl];exact hjd4),fun o=>bh_ (fun m σ H5=>∃v7 v8 v9 v10,σ=[some (.ref g),some (.ref sl),some (.ref jd),some (.int l),some (.ref d),some (.int ((b ^ l:Nat):Int)),some (.ref lp),v7,v8,v9,v10]/\H5 jd=some (.frz o (.dK kj))/\Kp [jd] H4 H5/\∃kl hl',H5 lp=some (.dK kl)/\PT H5 kl hl'/\Mu.OkT hl' 810/\(∀k∈Mu.keyT hl',k∈Mu.keyT (hj.take m))/\
     ∀A B,Mu.TT hl' A B=Mu.TT (hj.take m) (fun t=>(Mu.gT hg t).1*A t+(Mu.gT hg t).2*B t) (fun t=>(Mu.gT hg t).1*((b ^ l:Nat):Int)*B t))
    ⟨v7,v8,v9,v10,rfl,c_,O_ (O_ Kp.refl (.inr hlp)) (.inl (by simp)),[],[],?_,.nil,Mu.OkT.nil,fun k hk=>by simp[Mu.keyT] at hk,fun A B=>rfl⟩ (fun m σ H5 _ h=>by obtain⟨_,_,_,_,_,z,_⟩:=h;exact z) ?_ ?_⟩
   ·rw[j_ njl.symm,c_]
   ·rintro m kk v σ H5 hk ⟨v7,v8,v9,v10,rfl,fj,kp5,kl,hl',lp5,pl5,ok5,ks5,eq5⟩
    obtain⟨q,hq,hkk,_⟩:=Paired.at pj4 hk
    have hkk':kk=Sum.inl q.1:=hkk
    subst hkk'
    have qm:=List.mem_of_getElem? hq
    have qb:=RJ.ok.bd q.1 (List.mem_map.mpr ⟨q,qm,rfl⟩)
    have pj5:PT H5 kj hj:=PT.kp pj4 kp5 hjd4 (fun xs z=>nomatch z)
    have pd5:PT H5 kd hg:=PT.kp c24 kp5 hjd4 (fun xs z=>nomatch z)
    have rd5:Rd H5 d (.dK kd):=rd_of kp5 hjd4 fj d4
    obtain⟨tu,et,htu⟩:∃tu,valV kj (Sum.inl q.1)=some (.ref tu)/\H5 tu=some (.tup [.int q.2.1,.int q.2.2]):=by
     rcases PT.val q.1 pj5 with⟨a1,a2⟩ | ⟨m,x,a1,a2,a3⟩
     ·rw[Mu.ap_ RJ.ok.nd qm] at a2;cases a2
     ·rw[Mu.ap_ RJ.ok.nd qm] at a1
      cases a1
      exact⟨x,a2,a3⟩
    have dgj:DGet H5 jd (.int q.1) (some (.ref tu)):=.inl ⟨kj,Sum.inl q.1,.inr ⟨o,fj⟩,rfl,et.symm⟩
    have hlen:=Mu.OkT.len (m:=810) ok5
    have qn:q.1∉Mu.keyT hl':=fun z=>by
     have h1:=ks5 _ z
     obtain⟨r,hr,er⟩:=List.mem_map.mp h1
     obtain⟨n,hn⟩:=List.getElem?_of_mem hr
     have hnm:n<m:=by
      have:=(List.getElem?_eq_some_iff.mp hn).1
      rw[List.length_take] at this
      omega
     rw[List.getElem?_take_of_lt hnm] at hn
     have e1:(Mu.keyT hj)[n]?=some q.1:=by rw[Mu.keyT,List.getElem?_map,hn];simp[er]
     have e2:(Mu.keyT hj)[m]?=some q.1:=by rw[Mu.keyT,List.getElem?_map,hq];rfl
     have hn1:=(List.getElem?_eq_some_iff.mp e1).1
     have:=(List.getElem?_inj hn1 RJ.ok.nd).mp (e1.trans e2.symm)
     omega
    have ks6:∀k∈Mu.keyT hl',k∈Mu.keyT (hj.take (m+1)):=fun k hk=>by
     have h1:=ks5 k hk
     rw[List.take_add_one]
     simp only[Mu.keyT,List.map_append,List.mem_append]
     exact .inl h1
    rcases PT.val q.1 pd5 with⟨f1,f2⟩ | ⟨n2,tb,f1,f2,f3⟩
    ·refine⟨_,rfl,_,rfl,d,none,rfl,.inl ⟨kd,Sum.inl q.1,rd5,rfl,f1.symm⟩,_,rfl,iteF ?_⟩
     refine⟨_,_,_,_,rfl,fj,kp5,kl,hl',lp5,pl5,ok5,ks6,fun A B=>?_⟩
     have e0:Mu.gT hg q.1=(0,0):=by unfold Mu.gT;rw[f2];rfl
     rw[eq5 A B,Mu.fO_ hq,e0]
     simp
    ·have e0:Mu.gT hg q.1=n2:=by unfold Mu.gT;rw[f1];rfl
     have w1:=c3.ways_in one01 q.1
     have w2:=c3.worth_in one01 q.1
     rw[e0] at w1 w2
     have hst':=Mu.cB_ (b:=b) (a:=x.1) (pl:=x.2.1) (e:=x.2.2) (o:=(ps.take (1+i)).sum) (l:=l) b0 SO.eb
     have hpc:Mu.pcn b x.2.1 x.2.2 (ps.take (1+i)).sum l<=16777216:=by omega
     have hpl:Mu.plo b x.1 x.2.1 (ps.take (1+i)).sum l+Mu.pcn b x.2.1 x.2.2 (ps.take (1+i)).sum l<=16777216:=by omega
     have w3:n2.2<=16777216*16777216:=Int.le_trans w2.2 (Int.mul_le_mul (by omega) (by omega) (by omega) (by decide))
     have dgd:DGet H5 d (.int q.1) (some (.ref tb)):=.inl ⟨kd,Sum.inl q.1,rd5,rfl,f2.symm⟩
     refine⟨_,rfl,_,rfl,d,some (.ref tb),rfl,dgd,_,rfl,iteT ?_⟩
     refine⟨_,rfl,_,rfl,jd,.ref tu,rfl,dgj,?_⟩
     refine⟨_,rfl,_,rfl,d,.ref tb,rfl,dgd,?_⟩
     refine⟨_,rfl,tu,_,1,_,rfl,rfl,SqT.of htu,rfl,_,rfl,tb,_,0,_,rfl,rfl,SqT.of f3,rfl,_,_,rfl,rfl,.inr ⟨by omega,by omega⟩,_,rfl,_,_,rfl,rfl,.inr ⟨by omega,by omega⟩,?_⟩
     refine⟨_,rfl,tu,_,0,_,rfl,rfl,SqT.of htu,rfl,_,rfl,tb,_,1,_,rfl,rfl,SqT.of f3,rfl,_,_,rfl,rfl,.inr ⟨by omega,by omega⟩,_,_,rfl,rfl,?_⟩
     refine⟨_,rfl,tu,_,0,_,rfl,rfl,SqT.of htu,rfl,_,rfl,tb,_,0,_,rfl,rfl,SqT.of f3,rfl,_,_,rfl,rfl,.inr ⟨by omega,by omega⟩,_,rfl,sz (by simp),fun tp htp=>?_⟩
     have s6:=h_ (o:=.tup [.int (q.2.1*n2.1),.int (q.2.2*n2.1*((b ^ l:Nat):Int)+q.2.1*n2.2)]) htp
     have u6:(upd H5 tp (.tup [.int (q.2.1*n2.1),.int (q.2.2*n2.1*((b ^ l:Nat):Int)+q.2.1*n2.2)])) tp=_:=c_
     show ∃_,_
     generalize upd H5 tp (.tup [.int (q.2.1*n2.1),.int (q.2.2*n2.1*((b ^ l:Nat):Int)+q.2.1*n2.2)])=H6 at s6 u6⊢
     have lp6:=s6 _ _ lp5
     refine⟨_,rfl,_,rfl,lp,_,rfl,DPut.k (k:=Sum.inl q.1) lp6 (szl (by rw[PT.len pl5];omega)),?_⟩
     have kp6:Kp [jd] H4 H6:=fun y ob e n=>s6 _ _ (kp5 y ob e n)
     refine⟨_,_,_,_,rfl,?_,?_,_,_,c_,PT.kp (PT.put (n:=(q.2.1*n2.1,q.2.2*n2.1*((b ^ l:Nat):Int)+q.2.1*n2.2)) (PT.keep pl5 s6) u6) (O_ Kp.refl (.inl (by simp))) lp6 (fun xs z=>nomatch z),ok5.put qb,?_,fun A B=>?_⟩
     ·rw[j_ njl];exact s6 _ _ fj
     ·exact O_ kp6 (.inr hlp)
     ·intro k hk
      rw[Mu.dW_,if_neg qn] at hk
      rcases List.mem_append.mp hk with hk | hk
      ·exact ks6 k hk
      ·have hk':k=q.1:=by simpa using hk
       rw[List.take_add_one,hq,hk']
       simp[Mu.keyT]
     ·rw[Mu.qQ_ qn,eq5 A B,Mu.fO_ hq,e0]
      exact qw_ _ _ _ _ _ _ _ _
   ·rintro σ H5 ⟨v7,v8,v9,v10,rfl,fj,kp5,kl,hl',lp5,pl5,ok5,ks5,eq5⟩
    have el:kj.length=hj.length:=PT.len pj4
    rw[el,List.take_length] at eq5
    refine⟨jd,o,kj,fj,(fun o' u z=>by
     have z':H jd=some (.frz o' u):=z
     have:=S3 _ _ z'
     rw[hjd] at this;cases this),_,rfl,lp,kl,hl',_,_,_,_,_,_,_,_,rfl,fun y ob e=>?_,.inr hlpH,?_,PT.tups pl5 fun tt xs e=>?_,?_⟩
    ·by_cases hy:y=jd
     ·rw[hy,c_,<-hjd,<-hy];exact s3 _ _ e
     ·rw[j_ hy];exact kp5 y ob (s4 _ _ (s3 _ _ e)) (by simpa using hy)
    ·rw[j_ njl.symm];exact lp5
    ·have hy:tt≠jd:=fun z=>by rw[z,fj] at e;cases e
     rw[j_ hy];exact e
    ·have e1:(ps.take (i+1+1)).sum=(ps.take (i+1)).sum+l:=by
      rw[List.take_add_one,show i+1=1+i by omega,hl];simp
     have e2:1+i=i+1:=by omega
     rw[e2] at c3
     rw[e1,hst.1,hst.2.1,Mu.kj_ hrow1]
     have R:=Mu.Rep.join (k:=hl') (m':=810) RJ c3 hst.2.2.2 hst.2.2.1 ok5 eq5
     have e3:Mu.stepC b (Mu.aK_ b row0 (rows.take i)) row=(fun y=>(Mu.aK_ b row0 (rows.take i)).1 (y / b ^ l),fun y=>(Mu.aK_ b row0 (rows.take i)).2 (y / b ^ l)*if Mg.ws1 b (y % b ^ l) row=(Mu.aK_ b row0 (rows.take i)).1 (y / b ^ l) then 1 else 0):=by
      unfold Mu.stepC;rw[hrl]
     rw[e3]
     exact R
  ·rintro σ H3 ⟨jd,kj,hj,v3,v4,v5,v6,v7,v8,v9,v10,rfl,s3,hnew,hjd,pj,RJ⟩
   have el:((ts.map V.ref).drop 1).length+1=ps.length:=by rw[List.length_drop,List.length_map,tlen];omega
   have el2:((ts.map V.ref).drop 1).length=((Ma.cuts ps ws).drop 1).length:=by rw[List.length_drop,List.length_drop,List.length_map,tlen,Ma.A_]
   rw[el,List.take_length,el2,List.take_length] at RJ
   have hjn:H jd=none:=hnew.resolve_left (by omega)
   have hlen:=Mu.OkT.len (m:=810) RJ.ok
   have ele:kj.length=hj.length:=PT.len pj
   refine⟨_,rfl,jd,kj,rfl,hjd,fun o=>my_ (fun i ys H4=>ys=((hj.take i).map fun q=>q.2.2).map V.int/\H4=upd H3 jd (.frz o (.dK kj))) ⟨rfl,rfl⟩ (fun i ys H4 _ q=>by rw[q.2,c_]) ?_ ?_⟩
   ·rintro i k v ys H4 hk ⟨rfl,rfl⟩
    obtain⟨q,hq,_,tu,e1,e2⟩:=Paired.at pj hk
    have e1':v=.ref tu:=e1
    subst e1'
    have ntj:tu≠jd:=fun z=>by rw[z,hjd] at e2;cases e2
    refine⟨szl (by simp;omega),_,rfl,tu,_,1,_,rfl,rfl,SqT.of (by rw[j_ ntj];exact e2),rfl,?_,rfl⟩
    rw[List.take_add_one,hq]
    simp
   ·rintro ys H4 ⟨rfl,rfl⟩ D hD
    rw[ele,List.take_length]
    refine⟨D,_,rfl,SqL.of c_,?_⟩
    rw[RJ.whole]
    have hend:=Mu.oh_ (b:=b) SO.pl
    rw[hend.1,hend.2]
    refine k row0 _ (fun y ob e=>?_) hrow0
    have ny:y≠jd:=fun z=>by rw[z,hjn] at e;cases e
    have nD:y≠D:=fun z=>by
     have h1:=hD
     rw[<-z,j_ ny,s3 _ _ (S2 _ _ e)] at h1
     cases h1
    rw[j_ nD,j_ ny]
    exact s3 _ _ (S2 _ _ e)
end
end Hv
namespace Mu
open Me Mg
theorem eE_{b:Nat}(hb:0<b):∀(ps:List Nat) (ws:List Int) (sc:(Nat->Int)×(Nat->Int)) (q m:Nat),ws.length=ps.sum->m<b ^ ps.sum->
  ((Ma.cuts ps ws).foldl (stepC b) sc).1 (q*b ^ ps.sum+m)=sc.1 q/\((Ma.cuts ps ws).foldl (stepC b) sc).2 (q*b ^ ps.sum+m)=sc.2 q*if ∀v∈sumsN b m ps ws,v=sc.1 q then 1 else 0
 | [],ws,sc,q,m,hw,hm=>by
  have h0:m=0:=by simpa using hm
  subst h0
  have e:sumsN b 0 [] ws=[]:=rfl
  rw[e]
  simp[Ma.cuts]
 | p::ps,ws,sc,q,m,hw,hm=>by
  rw[List.sum_cons] at hw hm
  have hl:(ws.take p).length=p:=by rw[List.length_take];omega
  have hL0:0<b ^ ps.sum:=Nat.pow_pos hb
  have hP0:0<b ^ p:=Nat.pow_pos hb
  obtain⟨d,hd⟩:∃d,d=m / b ^ ps.sum:=⟨_,rfl⟩
  obtain⟨m',hm'⟩:∃m',m'=m % b ^ ps.sum:=⟨_,rfl⟩
  have em:m=d*b ^ ps.sum+m':=by rw[hd,hm',Nat.mul_comm];exact(Nat.div_add_mod m _).symm
  have hm2:m'<b ^ ps.sum:=by rw[hm'];exact Nat.mod_lt _ hL0
  have hdp:d<b ^ p:=by rw[hd];exact Nat.div_lt_of_lt_mul (by rw[<-Nat.pow_add,Nat.add_comm];exact hm)
  rw[Ma.cuts,List.foldl_cons]
  have eq:q*b ^ (p::ps).sum+m=(q*b ^ p+d)*b ^ ps.sum+m':=by
   rw[List.sum_cons,Nat.pow_add,em,Nat.add_mul,Nat.mul_assoc]
   omega
  rw[eq]
  have ih:=eE_ hb ps (ws.drop p) (stepC b sc (ws.take p)) (q*b ^ p+d) m' (by rw[List.length_drop];omega) hm2
  rw[ih.1,ih.2]
  have d1:(q*b ^ p+d) / b ^ p=q:=by rw[Nat.mul_comm,Nat.mul_add_div hP0,Nat.div_eq_of_lt hdp,Nat.add_zero]
  have d2:(q*b ^ p+d) % b ^ p=d:=by rw[Nat.mul_comm,Nat.mul_add_mod,Nat.mod_eq_of_lt hdp]
  have s1:(stepC b sc (ws.take p)).1 (q*b ^ p+d)=sc.1 q:=by unfold stepC;simp only;rw[hl,d1]
  have s2:(stepC b sc (ws.take p)).2 (q*b ^ p+d)=sc.2 q*if ws1 b d (ws.take p)=sc.1 q then 1 else 0:=by unfold stepC;simp only;rw[hl,d1,d2]
  rw[s1,s2,em,am_ hb hm2 hw]
  refine⟨rfl,?_⟩
  rw[Int.mul_assoc]
  congr 1
  by_cases h1:ws1 b d (ws.take p)=sc.1 q
  ·by_cases h2:∀v∈sumsN b m' ps (ws.drop p),v=sc.1 q
   ·rw[if_pos h1,if_pos h2,if_pos]
    ·rfl
    ·intro v hv
     rcases List.mem_cons.mp hv with rfl | hv
     ·exact h1
     ·exact h2 v hv
   ·have e2:¬ ∀v∈ws1 b d (ws.take p)::sumsN b m' ps (ws.drop p),v=sc.1 q:=fun z=>h2 fun v hv=>z v (List.mem_cons_of_mem _ hv)
    rw[if_pos h1,if_neg h2,if_neg e2]
    rfl
  ·have e2:¬ ∀v∈ws1 b d (ws.take p)::sumsN b m' ps (ws.drop p),v=sc.1 q:=fun z=>h1 (z _ List.mem_cons_self)
   rw[if_neg h1,if_neg e2,Int.zero_mul]
theorem cq_(x:Int)(v:List Int):sprd (x::v)=0↔∀y∈v,y=x:=by
 obtain⟨m1,m2⟩:=Ma.v_ (x::v) (by simp)
 obtain⟨m3,m4⟩:=Ma.s_ (x::v) (by simp)
 unfold sprd
 constructor
 ·intro h y hy
  have a1:=m2 y (List.mem_cons_of_mem _ hy)
  have a2:=m4 y (List.mem_cons_of_mem _ hy)
  have a3:=m2 x List.mem_cons_self
  have a4:=m4 x List.mem_cons_self
  omega
 ·intro h
  have g:∀y∈x::v,y=x:=fun y hy=>by
   rcases List.mem_cons.mp hy with e | hy
   ·exact e
   ·exact h y hy
  rw[g _ m1,g _ m3]
  omega
theorem nO_{b:Nat}(hb:0<b){ps:List Nat}{ws:List Int}(hw:ws.length=ps.sum){row:List Int}(h0:(Ma.cuts ps ws)[0]?=some row){n:Nat}(hn:n<b ^ ps.sum):(aK_ b row ((Ma.cuts ps ws).drop 1)).2 n=if sprd (sumsN b n ps ws)=0 then 1 else 0:=by
 cases ps with
 | nil=>simp[Ma.cuts] at h0
 | cons p ps =>
  rw[Ma.cuts] at h0⊢
  have er:ws.take p=row:=by simpa using h0
  rw[List.sum_cons] at hw hn
  have hL0:0<b ^ ps.sum:=Nat.pow_pos hb
  have em:n=n / b ^ ps.sum*b ^ ps.sum+n % b ^ ps.sum:=by rw[Nat.mul_comm];exact(Nat.div_add_mod n _).symm
  have hm2:n % b ^ ps.sum<b ^ ps.sum:=Nat.mod_lt _ hL0
  rw[em]
  generalize n / b ^ ps.sum=d at *
  generalize n % b ^ ps.sum=m at *
  rw[am_ hb hm2 hw,List.drop_succ_cons,List.drop_zero]
  unfold aK_
  rw[(eE_ hb ps (ws.drop p) _ d m (by rw[List.length_drop];omega) hm2).2,er,Int.one_mul]
  by_cases h:∀v∈sumsN b m ps (ws.drop p),v=ws1 b d row
  ·rw[if_pos h,if_pos ((cq_ _ _).mpr h)]
  ·rw[if_neg h,if_neg fun z=>h ((cq_ _ _).mp z)]
end Mu
namespace Mu
open Me Mg
def wg(b:Nat)(row:List Int)(one:Int):Int×Int:=(ns (fun v=>if ws1 b v row=one then 1 else 0) (b ^ row.length),ns (fun v=>if ws1 b v row=one then (v:Int) else 0) (b ^ row.length))
def lst(b:Nat)(rows:List (List Int))(one:Int):List ((Int×Int)×Int):=rows.map fun row=>(wg b row one,((b ^ row.length:Nat):Int))
theorem iu_{b:Nat}(hb:0<b):∀(ps1 ps2:List Nat) (ws:List Int) (u z:Nat),u<b ^ ps1.sum->z<b ^ ps2.sum->ws.length=ps1.sum+ps2.sum->sumsN b (u*b ^ ps2.sum+z) (ps1++ps2) ws=sumsN b u ps1 (ws.take ps1.sum)++sumsN b z ps2 (ws.drop ps1.sum)
 | [],ps2,ws,u,z,hu,hz,hw=>by
  have h0:u=0:=by simpa using hu
  subst h0
  have e:sumsN b 0 [] (ws.take ([]:List Nat).sum)=[]:=rfl
  rw[e]
  simp
 | p::ps1,ps2,ws,u,z,hu,hz,hw=>by
  rw[List.sum_cons] at hu hw
  have hL0:0<b ^ ps1.sum:=Nat.pow_pos hb
  have em:u=u / b ^ ps1.sum*b ^ ps1.sum+u % b ^ ps1.sum:=by rw[Nat.mul_comm];exact(Nat.div_add_mod u _).symm
  have hm2:u % b ^ ps1.sum<b ^ ps1.sum:=Nat.mod_lt _ hL0
  have hd:u / b ^ ps1.sum<b ^ p:=Nat.div_lt_of_lt_mul (by rw[<-Nat.pow_add,Nat.add_comm];exact hu)
  rw[em]
  generalize u / b ^ ps1.sum=d at *
  generalize u % b ^ ps1.sum=m at *
  have e1:(d*b ^ ps1.sum+m)*b ^ ps2.sum+z=d*b ^ (ps1++ps2).sum+(m*b ^ ps2.sum+z):=by
   rw[List.sum_append,Nat.pow_add,Nat.add_mul,Nat.mul_assoc]
   omega
  have hlt:m*b ^ ps2.sum+z<b ^ (ps1++ps2).sum:=by
   rw[List.sum_append,Nat.pow_add]
   have:(m+1)*b ^ ps2.sum<=b ^ ps1.sum*b ^ ps2.sum:=Nat.mul_le_mul_right _ hm2
   rw[Nat.add_mul] at this
   omega
  rw[e1,List.cons_append,am_ hb hlt (by rw[List.sum_append];omega),iu_ hb ps1 ps2 (ws.drop p) m z hm2 hz (by rw[List.length_drop];omega),List.sum_cons]
  rw[am_ hb hm2 (by rw[List.length_take];omega),List.take_take,List.drop_take,List.drop_drop,List.cons_append]
  have e2:min p (p+ps1.sum)=p:=by omega
  have e3:p+ps1.sum-p=ps1.sum:=by omega
  rw[e2,e3]
end Mu
namespace Mu
open Me Mg
end Mu
namespace Mu
open Me Mg
theorem na_{v:List Int}(hv:0<v.length):sprd v=0↔∃t,∀x∈v,x=t:=by
 cases v with
 | nil=>simp at hv
 | cons x v =>
  rw[cq_]
  constructor
  ·intro h
   refine⟨x,fun y hy=>?_⟩
   rcases List.mem_cons.mp hy with e | hy
   ·exact e
   ·exact h y hy
  ·rintro⟨t,h⟩ y hy
   rw[h y (List.mem_cons_of_mem _ hy),h x List.mem_cons_self]
theorem kI_{b:Nat}(hb:0<b){ps1:List Nat}{p u v:Nat}{ws:List Int}(hu:u<b ^ ps1.sum)(hv:v<b ^ p)(hw:ps1.sum+p<=ws.length):sumsN b (u*b ^ p+v) (ps1++[p]) (ws.take (ps1.sum+p))=sumsN b u ps1 (ws.take ps1.sum)++[ws1 b v ((ws.drop ps1.sum).take p)]:=by
 have hs:[p].sum=p:=by simp
 have:=iu_ hb ps1 [p] (ws.take (ps1.sum+p)) u v hu (by rw[hs];exact hv) (by rw[List.length_take,hs];omega)
 rw[hs] at this
 rw[this,List.take_take,Nat.min_eq_left (by omega),List.drop_take]
 congr 1
 have e0:ps1.sum+p-ps1.sum=p:=by omega
 rw[e0]
 have hz:(0:Nat)<b ^ ([]:List Nat).sum:=by simp
 have e1:=am_ (b:=b) (d:=v) (m:=0) (p:=p) (ps:=[]) (ws:=(ws.drop ps1.sum).take p) hb hz (by rw[List.length_take,List.length_drop];simp;omega)
 have e2:v*b ^ ([]:List Nat).sum+0=v:=by simp
 rw[e2] at e1
 rw[e1,List.take_take,Nat.min_self]
 rfl
end Mu
namespace Mx
open Me Mg Mu
def trG:List (List (Int×Int))->(List Int->Int)->Int
 | [],F=>F []
 | g::gs,F=>tg g fun x=>trG gs fun v=>F (x::v)
theorem ep_{lo hi:Int}:∀ {gs:List (List (Int×Int))} {F G:List Int->Int},(∀g∈gs,∀k∈keys g,lo<=k/\k<=hi)->(∀v,v.length=gs.length->(∀x∈v,lo<=x/\x<=hi)->F v=G v)->trG gs F=trG gs G
 | [],_,_,_,h=>h [] rfl fun _ z=>by simp at z
 | g :: gs, _, _, hk, h => kF_ fun x hx => ep_ (fun r hr => hk r (by simp[hr])) fun v hv hb => h (x :: v) (by simp[hv]) fun y hy => by
   rcases List.mem_cons.mp hy with rfl | hy
   ·exact hk g (by simp) _ hx
   ·exact hb y hy
theorem fT_:∀ {gs:List (List (Int×Int))} {F G:List Int->Int},(∀v,v.length=gs.length->F v=G v)->trG gs F=trG gs G
 | [],_,_,h=>h [] rfl
 | _::gs,_,_,h=>aj_ fun x=>fT_ fun v hv=>h (x::v) (by simp[hv])
theorem hd_(c:Int):∀(gs:List (List (Int×Int))) (F:List Int->Int),trG gs (fun v=>c*F v)=c*trG gs F
 | [],_=>rfl
 | g::gs,F=>by
  show tg _ _=c*tg _ _
  rw[<-fU_]
  exact aj_ fun x=>hd_ c gs _
theorem kB_:∀(gs:List (List (Int×Int))) (F G:List Int->Int),trG gs (fun v=>F v-G v)=trG gs F-trG gs G
 | [],_,_=>rfl
 | g::gs,F,G=>by
  show tg _ _=tg _ _-tg _ _
  rw[<-pz_]
  exact aj_ fun x=>kB_ gs _ _
theorem ir_:∀(gs:List (List (Int×Int))) (F G:List Int->Int),trG gs (fun v=>F v+G v)=trG gs F+trG gs G
 | [],_,_=>rfl
 | g::gs,F,G=>by
  show tg _ _=tg _ _+tg _ _
  rw[<-kC_]
  exact aj_ fun x=>ir_ gs _ _
theorem mX_(gs:List (List (Int×Int))):trG gs (fun _=>0)=0:=by
 have:=hd_ 0 gs fun _=>0
 simp only[Int.zero_mul] at this
 exact this
theorem nW_(gs:List (List (Int×Int)))(F:Int->List Int->Int)(a:Int):∀n:Nat,trG gs (fun v=>Mq.sm (fun t=>F t v) a n)=Mq.sm (fun t=>trG gs (F t)) a n
 | 0=>mX_ gs
 | n+1=>by
  simp only[Mq.sm]
  rw[ir_,nW_ gs F a n]
theorem iq_(h:Int->Int):∀gs:List (List (Int×Int)),trG gs (fp h)=gs.foldl (fun m g=>m*tg g h) 1
 | []=>rfl
 | g::gs=>by
  have e:∀(rs:List (List (Int×Int))) (c:Int),rs.foldl (fun m g=>m*tg g h) c=c*rs.foldl (fun m g=>m*tg g h) 1:=fun rs=>by
   induction rs with
   | nil=>intro c;simp
   | cons r rs ih=>intro c;rw[List.foldl_cons,List.foldl_cons,ih (c*_),ih (1*_),Int.one_mul,Int.mul_assoc]
  rw[List.foldl_cons,e gs,Int.one_mul,<-iq_ h gs]
  show tg g (fun x=>trG gs fun v=>fp h (x::v))=_
  have e2:∀x,trG gs (fun v=>fp h (x::v))=trG gs (fp h)*h x:=fun x=>by
   rw[Int.mul_comm,<-hd_]
   exact fT_ fun v _=>by
    unfold fp
    rw[List.foldl_cons,cE_,Int.one_mul]
  rw[aj_ e2,fU_,Int.mul_comm]
theorem pC_{g:List (Int×Int)}(nd:(keys g).Nodup)(a:Int)(n:Nat):tg g (iv a n)=Mq.sm (fun t=>gv g t) a n:=by
 have e:∀x,iv a n x=Mq.sm (fun t=>if x=t then 1 else 0) a n:=fun x=>(fd_ x a n).symm
 rw[aj_ e,pA_ g (fun t x=>if x=t then 1 else 0)]
 apply Mq.cu_
 intro t _ _
 exact cp_ nd
theorem nX_{gs:List (List (Int×Int))}(hg:∀g∈gs,DOk g)(a:Int)(n:Nat):trG gs (fp (iv a n))=Mq.pr (fG gs) a n:=by
 rw[iq_]
 unfold Mq.pr fG
 rw[List.foldl_map]
 have key:∀(rs:List (List (Int×Int))) (c:Int),(∀g∈rs,DOk g)->rs.foldl (fun m g=>m*tg g (iv a n)) c=rs.foldl (fun m g=>m*Mq.sm (fun t=>gv g t) a n) c:=fun rs=>by
  induction rs with
  | nil=>intro c _;rfl
  | cons r rs ih =>
   intro c h
   rw[List.foldl_cons,List.foldl_cons,pC_ (h r (by simp)).nd]
   exact ih _ fun g hg=>h g (by simp[hg])
 exact key gs 1 hg
theorem nx_{gs:List (List (Int×Int))}(hne:0<gs.length)(hg:∀g∈gs,DOk g)(d:Nat):nearG gs d=trG gs fun v=>if sprd v<=d then 1 else 0:=by
 have B:=ih_ hne hg
 have nl:0<(losG gs).length:=by rw[losG,List.length_map];exact hne
 have nh:0<(hisG gs).length:=by rw[hisG,List.length_map];exact hne
 rw[ep_ (G:=fun v=>Mq.sm (fun a=>fp (iv a (d+1)) v-fp (iv (a+1) d) v) (Ma.minL (losG gs)) (Ma.maxL (hisG gs)-Ma.minL (losG gs)+1).toNat) (lo:=Ma.minL (losG gs)) (hi:=Ma.maxL (hisG gs))
  (fun g hgm k hk=>⟨?_,?_⟩) fun v hv hx=>?_]
 ·rw[nW_ gs fun a v=>fp (iv a (d+1)) v-fp (iv (a+1) d) v]
  unfold nearG
  apply Mq.cu_
  intro a _ _
  rw[kB_,nX_ hg,nX_ hg]
  rfl
 ·have h1:=(Ma.v_ _ (hg g hgm).ne).2 k hk
  have h2:=(Ma.v_ _ nl).2 _ (List.mem_map.mpr ⟨g,hgm,rfl⟩)
  omega
 ·have h1:=(Ma.s_ _ (hg g hgm).ne).2 k hk
  have h2:=(Ma.s_ _ nh).2 _ (List.mem_map.mpr ⟨g,hgm,rfl⟩)
  omega
 ·have hv0:0<v.length:=by omega
  have m1:=hx _ (Ma.v_ v hv0).1
  exact win hv0 (by omega) (by omega)
theorem ip_(g:List (Int×Int)):∀(gs:List (List (Int×Int))) (F:List Int->Int),trG (gs++[g]) F=trG gs fun v=>tg g fun x=>F (v++[x])
 | [],F=>rfl
 | h::gs,F=>by
  show tg h (fun x=>trG (gs++[g]) fun v=>F (x::v))=tg h fun x=>trG gs fun v=>tg g fun y=>F (x::v++[y])
  exact aj_ fun x=>ip_ g gs _
structure RepC(g:List (Int×Int))(lo n:Nat)(s:Nat->Int):Prop where
 ok:DOk g
 eq:∀F:Int->Int,tg g F=ns (fun i=>F (s (lo+i))) n
theorem io_{b:Nat}(hb:0<b){x:Stre}(he:x.2.2<=b)(h1:1<=x.2.2)(ha:x.1<b ^ x.2.1){ps:List Nat}{ws:List Int}(hw:ws.length=ps.sum){gs:List (List (Int×Int))}(hl:gs.length=ps.length)
  (hg:∀i l row g,ps[i]?=some l->(Ma.cuts ps ws)[i]?=some row->gs[i]?=some g->RepC g (plo b x.1 x.2.1 (ps.take i).sum l) (pcn b x.2.1 x.2.2 (ps.take i).sum l) (fun n=>ws1 b n row)) :
  ∀j,j<=ps.length->lo b x.1 x.2.1 (ps.take j).sum+cn b x.2.1 x.2.2 (ps.take j).sum<=b ^ (ps.take j).sum/\∀F:List Int->Int,trG (gs.take j) F=ns (fun k=>F (sumsN b (lo b x.1 x.2.1 (ps.take j).sum+k) (ps.take j) (ws.take (ps.take j).sum))) (cn b x.2.1 x.2.2 (ps.take j).sum)
 | 0,_=>by
  have e1:(ps.take 0).sum=0:=by simp
  rw[e1,lQ_ ha,mz_]
  refine⟨by simp,fun F=>?_⟩
  show F []=_
  simp only[ns,Int.zero_add]
  rfl
 | j+1,hj=>by
  obtain⟨ih0,ih⟩:=io_ hb he h1 ha hw hl hg j (by omega)
  obtain⟨l,hl'⟩:∃l,ps[j]?=some l:=⟨_,List.getElem?_eq_getElem (by omega)⟩
  obtain⟨g,hg'⟩:∃g,gs[j]?=some g:=⟨_,List.getElem?_eq_getElem (by omega)⟩
  have hrow:=Ma.bW_ ps ws j l hl'
  have R:=hg j l _ g hl' hrow hg'
  have st:=cB_ (b:=b) (a:=x.1) (pl:=x.2.1) (e:=x.2.2) (o:=(ps.take j).sum) (l:=l) hb he
  have et:ps.take (j+1)=ps.take j++[l]:=by rw[List.take_add_one,hl'];rfl
  have es:(ps.take (j+1)).sum=(ps.take j).sum+l:=by rw[et,List.sum_append];simp
  have hle:(ps.take j).sum+l<=ws.length:=by
   have h2:=congrArg List.sum (List.take_append_drop (j+1) ps)
   rw[List.sum_append] at h2
   omega
  obtain⟨A,hA⟩:∃A,A=(ps.take j).sum:=⟨_,rfl⟩
  have egt:gs.take (j+1)=gs.take j++[g]:=by rw[List.take_add_one,hg'];rfl
  rw[es,st.1,st.2.1]
  refine⟨?_,fun F=>?_⟩
  ·rw[Nat.pow_add]
   have p1:=st.2.2.2
   rcases st.2.2.1 with q | ⟨q1,q2⟩
   ·rw[q] at ih0⊢
    have:(lo b x.1 x.2.1 (ps.take j).sum+1)*b ^ l<=b ^ (ps.take j).sum*b ^ l:=Nat.mul_le_mul_right _ ih0
    rw[Nat.add_mul] at this
    omega
   ·rw[q1,q2,Nat.add_zero,<-Nat.add_mul]
    exact Nat.mul_le_mul_right _ ih0
  ·rw[egt,ip_,ih]
   have e2:∀k,k<cn b x.2.1 x.2.2 (ps.take j).sum->tg g (fun y=>F (sumsN b (lo b x.1 x.2.1 (ps.take j).sum+k) (ps.take j) (ws.take (ps.take j).sum)++[y]))=ns (fun i=>F (sumsN b ((lo b x.1 x.2.1 (ps.take j).sum+k)*b ^ l+(plo b x.1 x.2.1 (ps.take j).sum l+i)) (ps.take (j+1)) (ws.take ((ps.take j).sum+l)))) (pcn b x.2.1 x.2.2 (ps.take j).sum l):=fun k hk=>by
    rw[R.eq]
    refine x_ fun i hi=>?_
    have hp:=st.2.2.2
    rw[et,kI_ hb (by omega) (by omega) hle]
   rw[x_ e2,jc_ (fun m=>F (sumsN b m (ps.take (j+1)) (ws.take ((ps.take j).sum+l)))) st.2.2.1]
theorem jD_{b:Nat}(hb:0<b){x:Stre}{ps:List Nat}{ws:List Int}(SO:StrOk b ps.sum x)(hw:ws.length=ps.sum){gs:List (List (Int×Int))}(hl:gs.length=ps.length)
  (hg:∀i l row g,ps[i]?=some l->(Ma.cuts ps ws)[i]?=some row->gs[i]?=some g->RepC g (plo b x.1 x.2.1 (ps.take i).sum l) (pcn b x.2.1 x.2.2 (ps.take i).sum l) (fun n=>ws1 b n row)) (F:List Int->Int) :
  trG gs F=ns (fun k=>F (sumsN b (sLo b ps.sum x+k) ps ws)) (sN b ps.sum x):=by
 have h:=(io_ hb SO.eb SO.e1 SO.ha hw hl hg ps.length (Nat.le_refl _)).2 F
 have e1:gs.take ps.length=gs:=by rw[<-hl,List.take_length]
 have e2:ws.take ps.sum=ws:=by rw[<-hw,List.take_length]
 have hend:=oh_ (b:=b) SO.pl
 rw[e1,List.take_length,e2,hend.1,hend.2] at h
 exact h
end Mx
namespace Mx
open Me Mg Mu
theorem tg_perm{f g:List (Int×Int)}(h:f.Perm g)(F:Int->Int):tg f F=tg g F:=by
 unfold tg
 exact Me.iv_ (h.map _)
theorem tg_take{f:List (Int×Int)}{i:Nat}{p:Int×Int}(h:f[i]?=some p)(F:Int->Int):tg (f.take (i+1)) F=tg (f.take i) F+p.2*F p.1:=by
 unfold tg
 rw[List.take_add_one,h,List.map_append,List.sum_append]
 simp
theorem RepC.of{g:List (Int×Int)}{lo n:Nat}{s:Nat->Int}(o:Ok g 810)(hn:0<n)(hm:n<=16777216)(eq:∀F:Int->Int,tg g F=ns (fun i=>F (s (lo+i))) n):RepC g lo n s:=by
 have hne:0<(keys g).length:=by
  cases g with
  | nil =>
   have:=eq fun _=>1
   rw[bS_] at this
   have e:tg [] (fun _=>(1:Int))=0:=rfl
   rw[e] at this
   omega
  | cons p r=>simp[keys]
 refine⟨⟨hne,o.nd,o.bd,fun t=>?_⟩,eq⟩
 rw[<-cp_ o.nd,eq]
 refine⟨lF_ fun i _=>by split <;> decide,?_⟩
 have h1:=lG_ (g:=fun i=>if s (lo+i)=t then (1:Int) else 0) (h:=fun _=>1) (n:=n) fun i _=>by split <;> decide
 rw[bS_,Int.mul_one] at h1
 omega
end Mx
namespace Hv
open PySem L2
def eg_(H:Hp)(b:Nat)(ts:List Addr)(ws:List Int):Prop:=∀(k:Nat) (t:Addr),ts[k]?=some t->∃g,H t=some (.dK (intsD g))/\g.Perm (Me.waysW b (ws.drop k))
theorem eg_.keep{H H':Hp}{b:Nat}{ts:List Addr}{ws:List Int}(h:eg_ H b ts ws)(s:Same H H'):eg_ H' b ts ws:=fun k t e=>let ⟨g,a1,a2⟩:=h k t e;⟨g,s _ _ a1,a2⟩
def eW_:Sp:=fun vs H Q _=>∃(b:Nat) (c:Addr) (ws:List Int),vs=[.int b,.ref c]/\H c=some (.lst (ws.map V.int))/\b<=16/\(∀x∈ws,-9<=x/\x<=9)/\ws.length<=6/\
 ∀(p:Addr) (ts:List Addr) (H':Hp),H p=none->Same H H'->H' p=some (.lst (ts.map V.ref))->ts.length=ws.length+1->eg_ H' b ts ws->Q (.ref p) H'
def bk_(H:Hp)(b:Nat)(ps:List Nat)(ws:List Int)(tds:List Addr):Prop:=∀(i:Nat) (row:List Int) (d:Addr),(Ma.cuts ps ws)[i]?=some row->tds[i]?=some d->∃ts:List Addr,H d=some (.lst (ts.map V.ref))/\ts.length=row.length+1/\eg_ H b ts row
theorem bk_.keep{H H':Hp}{b:Nat}{ps:List Nat}{ws:List Int}{tds:List Addr}(h:bk_ H b ps ws tds)(s:Same H H'):bk_ H' b ps ws tds:=fun i row d a1 a2=>let ⟨ts,b1,b2,b3⟩:=h i row d a1 a2;⟨ts,s _ _ b1,b2,b3.keep s⟩
def cr_:Sp:=fun vs H Q _=>∃f a c b ps ws,vs=[.ref f]/\FrAt H f a c b ps ws/\∀(p:Addr) (tds:List Addr) (H':Hp),H p=none->Same H H'->H' p=some (.lst (tds.map V.ref))->tds.length=ps.length->bk_ H' b ps ws tds->Q (.ref p) H'
def cK_:Sp:=fun vs H Q _=>∃(b:Nat) (rl c tl:Addr) (rs ts:List Addr) (ws:List Int) (q j:Nat),vs=[.ref rl,.ref c,.ref tl]/\H rl=some (.lst (rs.map V.ref))/\H c=some (.lst (ws.map V.int))/\H tl=some (.lst (ts.map V.ref))/\ts.length=ws.length+1/\eg_ H b ts ws/\
 2<=b/\b<=16/\(∀x∈ws,-9<=x/\x<=9)/\ws.length<=6/\j<=ws.length/\RowsD H b j q rs/\0<rs.length/\
 ∀(p:Addr) (g:List (Int×Int)) (H':Hp),H p=none->Same H H'->H' p=some (.dK (intsD g))->Mx.RepC g (q*b ^ (ws.length-j)) (rs.length*b ^ (ws.length-j)) (fun n=>Mg.ws1 b n ws)->Q (.ref p) H'
section
variable{P:Program}{w:World}{K:PySem.W.Frag}{mg:Str->Option Value}{base:Heap}
theorem nc_:FnScope ["base","weights"] ["base","weights"] (i_ aH_):=⟨rfl,rfl,rfl,by decide +kernel,rfl,by decide +kernel,by decide +kernel⟩
theorem lu_{f:Addr}{fd:FuncData}(F:Fun K "tails_of_part" "tails_of_part" aH_ f fd)(T:Txt mg)(DV:Def P w K mg base 2 "ways_of_weights" ["base","weights"] eT_):FnOk P w K mg base CX0 3 f fd ["base","weights"] eW_:=by
 refine F.ok nc_ (fun vs H Q E h=>?_) (fun cdv A outer s H vs Q E hr h=>?_)
 ·obtain⟨b,c,ws,rfl,_⟩:=h;rfl
 ·obtain⟨b,c,ws,rfl,hc,hb,hw,hl6,k⟩:=h
  refine⟨_,g_ (o_ (aC_ (i_ aH_) ["base","weights"] ["base","weights"] [0,1] rfl (C_ (by rfl) T.range (a_ (l_ r_ (lenS T.len (by rfl) (pv 1)) e_) d_)) (fun cl C s H fp=>af_)
   (fun cl C s H fp=>m_ DV hr (by rfl) (a_ (pv 1) (a_ (bQ_ (iA_ K rfl) (pv 2) (bu_ (pv 0)) ft_) d_))) (by decide +kernel))),?_⟩
  have el:(((ws.map V.int).length:Nat):Int)=(ws.length:Int):=by rw[List.length_map]
  refine⟨_,rfl,c,_,rfl,.inl (SqL.of hc),_,_,rfl,rfl,_,rfl,by rw[el];omega,by rw[el];omega,aX_ (lo:=0) (n:=((((ws.map V.int).length:Nat):Int)+1).toNat) (fun i ys H'=>∃ts:List Addr,ys=ts.map V.ref/\ts.length=i/\Same H H'/\eg_ H' b ts ws) ⟨[],rfl,rfl,Same.refl _,fun k t e=>by simp at e⟩ ?_ ?_⟩
  ·rintro i ys H1 hi ⟨ts,rfl,htl,s1,TC⟩
   have hi':i<=ws.length:=by rw[el] at hi;omega
   have ei:(0:Int)+(i:Int)=(i:Int):=Int.zero_add _
   rw[ei]
   refine⟨szl (by rw[List.length_map];omega),_,rfl,_,rfl,_,rfl,_,rfl,c,_,rfl,SqL.of (s1 _ _ hc),fun sl hsl=>?_⟩
   have ec:cutV (ws.map V.int) (some (i:Int)) none=(ws.drop i).map V.int:=by
    unfold cutV
    rw[HT.dN_,HT.fm_,List.length_map,Nat.min_eq_left hi',List.map_drop,List.take_of_length_le (by rw[List.length_drop,List.length_map];omega)]
   rw[ec]
   have s2:=h_ (o:=.lst ((ws.drop i).map V.int)) hsl
   have u2:(upd H1 sl (.lst ((ws.drop i).map V.int))) sl=_:=c_
   generalize upd H1 sl (.lst ((ws.drop i).map V.int))=H2 at s2 u2⊢
   refine⟨b,sl,ws.drop i,rfl,u2,hb,fun x hx=>hw x (List.mem_of_mem_drop hx),by rw[List.length_drop];omega,fun p H3 g hp s3 hp3 perm=>?_⟩
   have S3:=s1.trans (s2.trans s3)
   refine⟨ts++[p],by simp,by simp[htl],S3,fun k t e=>?_⟩
   by_cases hm:k<ts.length
   ·rw[List.getElem?_append_left hm] at e
    exact TC.keep (s2.trans s3) k t e
   ·have hk:k=i:=by
     have:=(List.getElem?_eq_some_iff.mp e).1
     simp at this
     omega
    subst hk
    rw[List.getElem?_append_right (by omega),htl,Nat.sub_self] at e
    have e1:p=t:=by simpa using e
    subst e1
    exact⟨g,hp3,perm⟩
  ·rintro ys H1 ⟨ts,rfl,htl,s1,TC⟩ l hl
   have htl':ts.length=ws.length+1:=by rw[htl,el];omega
   exact k l ts _ (s1.free hl) (s1.trans (h_ hl)) c_ htl' (TC.keep (h_ hl))
theorem kO_:FnScope ["frame"] ["frame"] (i_ as_):=⟨rfl,rfl,rfl,by decide +kernel,rfl,by decide +kernel,by decide +kernel⟩
theorem jO_{f:Addr}{fd:FuncData}(F:Fun K "tails_of_parts" "tails_of_parts" as_ f fd)(DC:Def P w K mg base 1 "cut_by_parts" ["frame","row"] spCut)(DT:Def P w K mg base 3 "tails_of_part" ["base","weights"] eW_):FnOk P w K mg base CX0 4 f fd ["frame"] cr_:=by
 refine F.ok kO_ (fun vs H Q E h=>?_) (fun cdv A outer s H vs Q E hr h=>?_)
 ·obtain⟨g,a,c,b,ps,ws,rfl,_⟩:=h;rfl
 ·obtain⟨g,a,c,b,ps,ws,rfl,G,k⟩:=h
  have ok:=G.ok
  have l4:=ok.l4
  refine⟨_,g_ (o_ (aC_ (i_ as_) ["frame"] ["frame"] [0] rfl (M_ (m_ DC hr.mo (by rfl) (a_ (pv 0) (a_ (ixt (pv 0) e_) d_)))) (fun cl C s H fp=>af_)
   (fun cl C s H fp=>m_ DT hr (by rfl) (a_ (ixtK K rfl (pv 1) e_) (a_ (pv 0) d_))) (by decide +kernel))),?_⟩
  refine⟨_,rfl,_,rfl,_,_,_,_,rfl,rfl,SqT.of G.tp,rfl,g,a,c,b,ps,ws,c,ws,rfl,G,G.hw,fun wp qs H3 s3 hw3 rows=>⟨wp,rfl,⟨_,SqL.of hw3⟩,V_ (K:=K) (a:=wp) (xs:=qs.map V.ref) (fun i ys H4=>∃tds:List Addr,ys=tds.map V.ref/\tds.length=i/\Same H3 H4/\bk_ H4 b ps ws tds)
   ⟨[],rfl,rfl,Same.refl _,fun i row d _ h=>by simp at h⟩ (fun i ys H4 _ p=>by obtain⟨_,_,_,z,_⟩:=p;exact SqL.of (z _ _ hw3)) ?_ ?_⟩⟩
  ·rintro i x ys H4 hx ⟨tds,rfl,htl,s4,TA⟩
   obtain⟨wq,hwq,rfl⟩:=aR_ hx
   obtain⟨row,hrow,hwr⟩:=aD_ rows hwq
   have hrm:row∈Ma.cuts ps ws:=List.mem_of_getElem? hrow
   have G4:=(G.keep s3).keep s4
   have hi:i<4:=by
    have h1:=(List.getElem?_eq_some_iff.mp hrow).1
    rw[Ma.A_] at h1
    omega
   refine⟨szl (by rw[List.length_map];omega),_,rfl,_,_,_,_,rfl,rfl,SqT.of G4.tp,rfl,_,rfl,b,wq,row,rfl,s4 _ _ hwr,ok.b16,fun y hy=>ok.wr y (Ma.bV_ hrm y hy),Ma.au_ (fun p hp=>(ok.pr p hp).2) hrm,fun p ts H5 hp s5 hp5 hts5 TT=>?_⟩
   refine⟨tds++[p],by rw[List.map_append];rfl,by simp[htl],s4.trans s5,fun m row' d' a1 a2=>?_⟩
   by_cases hm:m<tds.length
   ·rw[List.getElem?_append_left hm] at a2
    exact TA.keep s5 m row' d' a1 a2
   ·have hm':m=i:=by
     have:=(List.getElem?_eq_some_iff.mp a2).1
     simp at this
     omega
    subst hm'
    rw[List.getElem?_append_right (by omega),htl,Nat.sub_self] at a2
    have e1:p=d':=by simpa using a2
    subst e1
    rw[hrow] at a1
    cases a1
    exact⟨ts,hp5,hts5,TT⟩
  ·rintro ys H4 ⟨tds,rfl,htl,s4,TA⟩ D hD
   have tdl:tds.length=ps.length:=by rw[htl,List.length_map,Paired.length rows,Ma.A_]
   exact k D tds _ (s3.free (s4.free hD)) (s3.trans (s4.trans (h_ hD))) c_ tdl (TA.keep (h_ hD))
theorem es_:FnScope ["rows","weights","tails","ways","row","begun","tail","total"] ["rows","weights","tails"] (i_ Z_):=⟨rfl,rfl,rfl,by decide +kernel,rfl,by decide +kernel,by decide +kernel⟩
theorem hI_{f:Addr}{fd:FuncData}(F:Fun K "ways_from_beginnings" "ways_from_beginnings" Z_ f fd)(T:Txt mg)(DW:Def P w K mg base 1 "weighted_sum" ["figures","weights"] bF_):FnOk P w K mg base CX0 2 f fd ["rows","weights","tails"] cK_:=by
 refine F.ok es_ (fun vs H Q E h=>?_) (fun cdv A outer s H vs Q E hr h=>?_)
 ·obtain⟨b,rl,c,tl,rs,ts,ws,q,j,rfl,_⟩:=h;rfl
 ·obtain⟨b,rl,c,tl,rs,ts,ws,q,j,rfl,hrl,hc,htl,hts,TC,hb2,hb,hw,hl6,hj,RD,hr0,k⟩:=h
  have nd:=es_.nd
  have hu:=cD_ hr
  refine⟨_,b_ (k_ (i:=3) nd rfl (Or.inl rfl) be_)
   (b_ (B_ PassesOwn.never rfl (M_ (pv 0)) (n_ (i:=4) nd rfl (Or.inl rfl))
    (b_ (k_ (i:=5) nd rfl (Or.inl rfl) (m_ DW hr.mo (by rfl) (a_ (pv 4) (a_ (pv 1) d_))))
    (b_ (k_ (i:=6) nd rfl (Or.inl rfl) (ixl (pv 2) (lenS T.len (by rfl) (pv 4))))
    (b_ (B_ PassesOwn.never rfl (cj_ (pv 6)) (n_ (i:=7) nd rfl (Or.inl rfl))
     (g_ (cX_ hu (pv 3) (l_ r_ (pv 5) (pv 7)) (l_ r_ (bR_ hu (pv 3) (l_ r_ (pv 5) (pv 7)) e_ ⟨rfl,rfl,rfl,rfl⟩) (ar_ hu (pv 6) (pv 7) (fun _ _=>rfl))) rfl)))
    (bd_ D_)))))
   (g_ (o_ (pv 3)))),?_⟩
  intro p hp
  have s0:Same H (upd H p (.dK [])):=h_ hp
  have u0:(upd H p (.dK [])) p=some (.dK (intsD [])):=c_
  generalize upd H p (.dK [])=H0 at s0 u0⊢
  have b0:0<b:=by omega
  obtain⟨r2,hr2⟩:∃r,r=ws.drop j:=⟨_,rfl⟩
  have el2:r2.length=ws.length-j:=by rw[hr2,List.length_drop]
  have ews:ws.take j++r2=ws:=by rw[hr2];exact List.take_append_drop j ws
  have hjp:q+(rs.length-1)<b ^ j:=by
   obtain⟨a,ha⟩:∃a,rs[rs.length-1]?=some a:=⟨_,List.getElem?_eq_getElem (by omega)⟩
   exact(RD _ a ha).2
  have hbig:rs.length*b ^ (ws.length-j)<=16777216:=by
   have h1:rs.length*b ^ (ws.length-j)<=b ^ j*b ^ (ws.length-j):=Nat.mul_le_mul_right _ (by omega)
   rw[<-Nat.pow_add,show j+(ws.length-j)=ws.length by omega] at h1
   have h2:b ^ ws.length<=16 ^ 6:=Nat.le_trans (Nat.pow_le_pow_left hb _) (Nat.pow_le_pow_right (by decide) hl6)
   have h16:(16:Nat) ^ 6=16777216:=by decide
   omega
  have hpos:0<rs.length*b ^ (ws.length-j):=Nat.mul_pos hr0 (Nat.pow_pos b0)
  refine⟨_,rfl,rl,rfl,⟨_,SqL.of (s0 _ _ hrl)⟩,al_ (K:=K) (a:=rl) (xs:=rs.map V.ref) (fun i σ H2=>∃v4 v5 v6 v7,σ=[some (.ref rl),some (.ref c),some (.ref tl),some (.ref p),v4,v5,v6,v7]/\Same H H2/\∃gl,H2 p=some (.dK (intsD gl))/\Me.Ok gl 810/\∀F:Int->Int,Mg.tg gl F=Mg.ns (fun n=>F (Mg.ws1 b (q*b ^ (ws.length-j)+n) ws)) (i*b ^ (ws.length-j)))
   ⟨none,none,none,none,rfl,s0,[],u0,Me.Ok.nil,fun F=>by rw[Nat.zero_mul];rfl⟩ (fun i σ H2 _ h=>by obtain⟨_,_,_,_,_,z,_⟩:=h;exact SqL.of (z _ _ hrl)) ?_ ?_⟩
  ·rintro i x σ H2 hx ⟨v4,v5,v6,v7,rfl,s2,g0,p2,ok2,eq2⟩
   obtain⟨ra,hra,rfl⟩:=aR_ hx
   obtain⟨hrow,hlt⟩:=RD i ra hra
   refine⟨_,rfl,_,rfl,ra,c,_,ws,rfl,s2 _ _ hrow,s2 _ _ hc,hw,by rw[Ma.L_];exact hj,hl6,fun H3 s3=>?_⟩
   rw[nS_ hj]
   have S3:=s2.trans s3
   have er:(((natV (Ma.dws b (q+i) j j)).length:Nat):Int)=(j:Int):=by rw[natV,List.length_map,Ma.L_]
   obtain⟨t,e1⟩:∃t,ts[j]?=some t:=⟨_,List.getElem?_eq_getElem (by omega)⟩
   obtain⟨g,e2,perm⟩:=TC j t e1
   have ett:atI (ts.map V.ref) (j:Int)=some (.ref t):=ab_ (by rw[List.getElem?_map,e1];rfl)
   refine⟨_,rfl,_,rfl,ra,_,rfl,.inl (SqL.of (S3 _ _ hrow)),?_⟩
   refine⟨tl,_,(((natV (Ma.dws b (q+i) j j)).length:Nat):Int),_,rfl,rfl,SqL.of (S3 _ _ htl),by rw[er];exact ett,?_⟩
   have p3:=s3 _ _ p2
   have t3:=S3 _ _ e2
   have ntp:t≠p:=f_ e2 hp
   rw[<-hr2] at perm
   have okW:=Me.dm_ (b:=b) (ws:=r2) (fun x hx=>hw x (by rw[hr2] at hx;exact List.mem_of_mem_drop hx)) hb
   have ndg:(Me.keys g).Nodup:=((perm.map _).nodup_iff).mpr okW.nd
   have bdg:∀x∈Me.keys g,-(135*(r2.length:Int))<=x/\x<=135*(r2.length:Int):=fun x hx=>okW.bd x ((perm.map Prod.fst).mem_iff.mp hx)
   generalize ebg:Mg.ws1 b (q+i) (ws.take j)=bg
   have bgb:=nT_ (b:=b) (q:=q+i) (r:=ws.take j) b0 hb fun x hx=>hw x (List.mem_of_mem_take hx)
   have blen:(ws.take j).length=j:=by rw[List.length_take];omega
   rw[blen,ebg] at bgb
   refine⟨_,rfl,t,intsD g,rfl,t3,fun o=>bh_ (fun m σ H4=>∃v7,σ=[some (.ref rl),some (.ref c),some (.ref tl),some (.ref p),some (.ref ra),some (.int bg),some (.ref t),v7]/\H4 t=some (.frz o (.dK (intsD g)))/\Kp [t] H H4/\∃g4,H4 p=some (.dK (intsD g4))/\Me.Ok g4 810/\∀F:Int->Int,Mg.tg g4 F=Mg.tg g0 F+Mg.tg (g.take m) fun x=>F (bg+x))
    ⟨v7,rfl,c_,O_ (Kp.of S3) (.inl (by simp)),g0,?_,ok2,fun F=>by simp[Mg.tg]⟩ (fun m σ H4 _ h=>by obtain⟨_,_,z,_⟩:=h;exact z) ?_ ?_⟩
   ·rw[j_ ntp.symm];exact p3
   ·rintro m kk v σ H4 hk ⟨v7,rfl,ft,kp4,g4,p4,ok4,eq4⟩
    obtain⟨pr,hpr,rfl,rfl⟩:=ia_ hk
    have pm:=List.mem_of_getElem? hpr
    have pb:=bdg pr.1 (List.mem_map.mpr ⟨pr,pm,rfl⟩)
    have dg:DGet H4 t (.int pr.1) (some (.int pr.2)):=by
     have z:=aq_ (k:=pr.1) (.inr ⟨o,ft⟩)
     rw[Me.Y_ ndg pm] at z
     exact z
    have hlen:=Me.Ok.len (m:=810) ok4
    refine⟨_,rfl,p,rfl,.inl ⟨_,.inl p4⟩,_,rfl,_,rfl,_,_,rfl,rfl,_,aq_ (.inl p4),_,rfl,_,rfl,t,.int pr.2,rfl,dg,_,_,dp_ _,rfl,_,rfl,_,rfl,_,rfl,_,_,rfl,rfl,p,_,rfl,dZ_ p4 (by omega),?_⟩
    refine⟨_,rfl,?_,?_,Me.addTo g4 (bg+pr.1) pr.2,c_,?_,fun F=>?_⟩
    ·rw[j_ ntp];exact ft
    ·exact O_ kp4 (.inr hp)
    ·exact ok4.put (by omega)
    ·rw[Mg.is_ ok4.nd,eq4 F,Mx.tg_take hpr]
     exact Int.add_assoc _ _ _
   ·rintro σ H4 ⟨v7,rfl,ft,kp4,g4,p4,ok4,eq4⟩
    have el:(intsD g).length=g.length:=by rw[intsD,List.length_map]
    rw[el,List.take_length] at eq4
    refine⟨t,o,intsD g,ft,(fun o' u z=>by
     have z':H t=some (.frz o' u):=z
     rw[e2] at z';cases z'),_,_,_,_,rfl,fun x ob e=>?_,g4,?_,ok4,fun F=>?_⟩
    ·by_cases hx:x=t
     ·rw[hx,c_,<-e2,<-hx];exact e
     ·rw[j_ hx];exact kp4 x ob e (by simpa using hx)
    ·rw[j_ ntp.symm];exact p4
    ·rw[eq4,eq2,Nat.add_mul,Nat.one_mul,Mg.eC_,Mx.tg_perm perm,<-Mg.il_ b (fun x=>F (bg+x)) r2,<-el2]
     congr 1
     apply Mg.x_
     intro d hd
     have e5:q*b ^ r2.length+(i*b ^ r2.length+d)=(q+i)*b ^ r2.length+d:=by rw[Nat.add_mul];omega
     have e6:=Mu.dr_ (b:=b) (d:=q+i) (i:=d) (r1:=ws.take j) (r2:=r2) b0 hd
     rw[ews,ebg] at e6
     show F _=F _
     rw[e5,e6]
  ·rintro σ H2 ⟨v4,v5,v6,v7,rfl,s2,gl,p2,ok2,eq2⟩
   rw[List.length_map] at eq2
   exact⟨_,rfl,k p gl H2 hp s2 p2 (Mx.RepC.of ok2 hpos hbig eq2)⟩
end
end Hv
namespace Mx
open Me Mg Mu
def nrI(b d:Nat)(ps:List Nat)(ws:List Int)(m:Nat):Int:=if sprd (sumsN b m ps ws)<=d then 1 else 0
def nrN(b d:Nat)(ps:List Nat)(ws:List Int)(n:Nat):Int:=ns (nrI b d ps ws) n
def nrS(b d:Nat)(ps:List Nat)(ws:List Int)(x:Stre):Int:=ns (fun i=>nrI b d ps ws (sLo b ps.sum x+i)) (sN b ps.sum x)
theorem near_stretch{b d:Nat}(hb:0<b){x:Stre}{ps:List Nat}{ws:List Int}(hp:0<ps.length)(SO:StrOk b ps.sum x)(hw:ws.length=ps.sum){gs:List (List (Int×Int))}(hl:gs.length=ps.length)
  (hg:∀i l row g,ps[i]?=some l->(Ma.cuts ps ws)[i]?=some row->gs[i]?=some g->RepC g (plo b x.1 x.2.1 (ps.take i).sum l) (pcn b x.2.1 x.2.2 (ps.take i).sum l) (fun n=>ws1 b n row)) (ok:∀g∈gs,DOk g):nearG gs d=nrS b d ps ws x:=by
 rw[nx_ (by omega) ok,jD_ hb SO hw hl hg]
 rfl
theorem nrS_sum{b d:Nat}{ps:List Nat}{ws:List Int}{L:List Stre}{n:Nat}(h:∀g,strS b ps.sum L g=ns g n):(L.map (nrS b d ps ws)).sum=nrN b d ps ws n:=by
 unfold nrN
 rw[<-h]
 rfl
end Mx
namespace Hv
open PySem L2
def qR_(H:Hp)(b:Nat)(ps:List Nat)(ws:List Int)(x:Mu.Stre)(ds:List Addr)(gs:List (List (Int×Int))):Prop:=WaysG H ds gs/\∀(i l:Nat) (row:List Int) (g:List (Int×Int)),ps[i]?=some l->(Ma.cuts ps ws)[i]?=some row->gs[i]?=some g->
 Mx.RepC g (Mu.plo b x.1 x.2.1 (ps.take i).sum l) (Mu.pcn b x.2.1 x.2.2 (ps.take i).sum l) (fun n=>Mg.ws1 b n row)
def aG_:Sp:=fun vs H Q _=>∃f A c b ps ws,∃(tl hd:Addr) (tds:List Addr) (x:Mu.Stre) (d:Nat),vs=[.ref f,.ref tl,.int d,.ref hd,.int (x.2.2:Int)]/\FrAt H f A c b ps ws/\H tl=some (.lst (tds.map V.ref))/\tds.length=ps.length/\bk_ H b ps ws tds/\H hd=some (.lst (natV (Ma.dws b x.1 x.2.1 x.2.1)))/\Mu.StrOk b ps.sum x/\
 ∀H':Hp,Same H H'->Q (.int (Mx.nrS b d ps ws x)) H'
section
variable{P:Program}{w:World}{K:PySem.W.Frag}{mg:Str->Option Value}{base:Heap}
theorem dc_:FnScope ["frame","tails_by_part","d","head","end","beginnings","weights_by_part","ways_by_part","rows","weights","tails"] ["frame","tails_by_part","d","head","end"] (i_ ci_):=⟨rfl,rfl,rfl,by decide +kernel,rfl,by decide +kernel,by decide +kernel⟩
theorem fB_{f:Addr}{fd:FuncData}(F:Fun K "count_begun" "count_begun" ci_ f fd)(T:Txt mg)(DP:Def P w K mg base 1 "part_beginnings" ["frame","head","end"] bb_)(DC:Def P w K mg base 1 "cut_by_parts" ["frame","row"] spCut)
  (DW:Def P w K mg base 2 "ways_from_beginnings" ["rows","weights","tails"] cK_) (DJ:Def P w K mg base 2 "count_spread_within" ["ways_by_part","width"] eY_):FnOk P w K mg base CX0 3 f fd ["frame","tails_by_part","d","head","end"] aG_:=by
 refine F.ok dc_ (fun vs H Q E h=>?_) (fun cdv A outer s H vs Q E hr h=>?_)
 ·obtain⟨g,A,c,b,ps,ws,tl,hd,tds,x,d,rfl,_⟩:=h;rfl
 ·obtain⟨g,A',c,b,ps,ws,tl,hd,tds,x,d,rfl,G,htl,htd,TA,hhd,SO,k⟩:=h
  have nd:=dc_.nd
  have ok:=G.ok
  have l4:=ok.l4
  have l2:=ok.l2
  have hsum:=ok.sum
  have hpl:=SO.pl
  refine⟨_,b_ (k_ (i:=5) nd rfl (Or.inl rfl) (m_ DP hr.mo (by rfl) (a_ (pv 0) (a_ (pv 3) (a_ (pv 4) d_)))))
   (b_ (k_ (i:=6) nd rfl (Or.inl rfl) (m_ DC hr.mo (by rfl) (a_ (pv 0) (a_ (ixt (pv 0) e_) d_))))
   (b_ (k_ (i:=7) nd rfl (Or.inl rfl) (P_ d_))
   (b_ (B_ PassesOwn.never rfl (lm_ (by rfl) T.zip (pv 5) (pv 6) (pv 1)) (df_ rfl (z_ (n_ (i:=8) nd rfl (Or.inl rfl)) (z_ (n_ (i:=9) nd rfl (Or.inl rfl)) (z_ (n_ (i:=10) nd rfl (Or.inl rfl)) aB_))))
    (g_ (y_ (bv_ PySem.F.plainAttrs_list PySem.F.slot_list_append PySem.F.type_list_append H_ (pv 7) (a_ (m_ DW hr (by rfl) (a_ (pv 8) (a_ (pv 9) (a_ (pv 10) d_)))) d_)))))
   (g_ (o_ (m_ DJ hr (by rfl) (a_ (pv 7) (a_ (pv 2) d_)))))))),?_⟩
  refine⟨_,rfl,_,rfl,_,rfl,g,A',c,b,ps,ws,hd,x.1,x.2.1,x.2.2,rfl,G,hhd,SO.eb,by omega,fun bp bs H1 hbp s1 hb1 hbl BA=>?_⟩
  have G1:=G.keep s1
  refine⟨_,rfl,_,rfl,_,_,_,_,rfl,rfl,SqT.of G1.tp,rfl,g,A',c,b,ps,ws,c,ws,rfl,G1,G1.hw,fun wp qs H2 s2 hw2 rows=>?_⟩
  have G2:=G1.keep s2
  have qlen:qs.length=ps.length:=by rw[Paired.length rows,Ma.A_]
  refine⟨sz (by decide),fun sl hsl=>?_⟩
  have s3:=h_ (o:=.lst []) hsl
  have hslH:H sl=none:=s1.free (s2.free hsl)
  have u3:(upd H2 sl (.lst [])) sl=_:=c_
  have S3:Same H (upd H2 sl (.lst [])):=(s1.trans s2).trans s3
  have S13:Same H1 (upd H2 sl (.lst [])):=s2.trans s3
  generalize upd H2 sl (.lst [])=H3 at s3 u3 S3 S13⊢
  refine⟨_,rfl,_,rfl,_,rfl,bp,wp,tl,rfl,rfl,rfl,⟨_,SqL.of (S13 _ _ hb1)⟩,⟨_,SqL.of (s3 _ _ hw2)⟩,⟨_,SqL.of (S3 _ _ htl)⟩,jq_ (K:=K) (a:=bp) (b:=wp) (c:=tl) (xs:=bs.map V.ref) (ys:=qs.map V.ref) (zs:=tds.map V.ref)
   (fun i σ H4=>∃(ds:List Addr) (gs:List (List (Int×Int))) (v7 v8 v9:Option V),σ=[some (.ref g),some (.ref tl),some (.int d),some (.ref hd),some (.int (x.2.2:Int)),some (.ref bp),some (.ref wp),some (.ref sl),v7,v8,v9]/\(∀y ob,H3 y=some ob->y≠sl->H4 y=some ob)/\H4 sl=some (.lst (ds.map V.ref))/\ds.length=i/\qR_ H4 b ps ws x ds gs) (by simp[hbl,qlen]) (by simp[hbl,htd])
   ⟨[],[],none,none,none,rfl,fun y ob e _=>e,u3,rfl,.nil,fun i l row d _ _ h=>by simp at h⟩ ?_ ?_ ?_⟩
  ·rintro i σ H4 _ ⟨ds,gs,v7,v8,v9,rfl,kp,_⟩
   exact⟨SqL.of (kp _ _ (S13 _ _ hb1) (f_ hb1 (s2.free hsl))),SqL.of (kp _ _ (s3 _ _ hw2) (f_ hw2 hsl)),SqL.of (kp _ _ (S3 _ _ htl) (f_ htl hslH))⟩
  ·rintro i xb xw xt σ H4 t hb hw ht ⟨ds,gs,v7,v8,v9,rfl,kp,hsl4,hdl,PR⟩ htn
   obtain⟨br,hbr,rfl⟩:=aR_ hb
   obtain⟨wq,hwq,rfl⟩:=aR_ hw
   obtain⟨td,htd',rfl⟩:=aR_ ht
   have hi:i<ps.length:=by have:=(List.getElem?_eq_some_iff.mp hbr).1;omega
   obtain⟨l,hl⟩:∃l,ps[i]?=some l:=⟨_,List.getElem?_eq_getElem hi⟩
   have hrow:=Ma.bW_ ps ws i l hl
   generalize er:(ws.drop (ps.take i).sum).take l=row at hrow
   have hrl:row.length=l:=by
    have h1:=Me.ea_ ps ws ok.wl
    have h2:((Ma.cuts ps ws).map List.length)[i]?=some row.length:=by rw[List.getElem?_map,hrow];rfl
    rw[h1,hl] at h2
    exact(Option.some.inj h2).symm
   have hrm:row∈Ma.cuts ps ws:=List.mem_of_getElem? hrow
   have u5:(upd H4 t (.tup [.ref br,.ref wq,.ref td])) t=_:=c_
   have t5:=h_ (o:=.tup [.ref br,.ref wq,.ref td]) htn
   refine⟨t,_,rfl,SqT.of c_,rfl,_,_,rfl,_,_,rfl,_,_,rfl,rfl,?_⟩
   have kp5:∀y ob,H3 y=some ob->y≠sl->(upd H4 t (.tup [.ref br,.ref wq,.ref td])) y=some ob:=fun y ob e n=>t5 _ _ (kp y ob e n)
   have sl5:=t5 _ _ hsl4
   have PR5:=PR.1.keep t5
   generalize upd H4 t (.tup [.ref br,.ref wq,.ref td])=H5 at u5 t5 kp5 sl5 PR5⊢
   have U2:Same H2 H5:=fun y ob e=>kp5 _ _ (s3 _ _ e) (f_ e hsl)
   have U1:Same H1 H5:=fun y ob e=>kp5 _ _ (S13 _ _ e) (f_ e (s2.free hsl))
   have U0:Same H H5:=fun y ob e=>kp5 _ _ (S3 _ _ e) (f_ e hslH)
   have G5:=G.keep U0
   obtain⟨_,rs,hrs,hrsl,_,RD⟩:=BA i l br hl hbr
   have hwq2:H2 wq=some (.lst (row.map V.int)):=by
    obtain⟨row',hr',e'⟩:=aD_ rows hwq
    rw[hrow] at hr'
    cases hr'
    exact e'
   obtain⟨ts,ht1,ht2,ht3⟩:=TA i row td hrow htd'
   have hrs0:0<rs.length:=by
    rw[hrsl]
    have:=SO.e1
    unfold Mu.pn
    split
    ·decide
    ·split <;> omega
   refine⟨_,rfl,.inl ⟨rfl,_,SqL.of sl5⟩,_,rfl,_,rfl,_,rfl,b,br,wq,td,rs,ts,row,Mu.pq b x.1 x.2.1 (ps.take i).sum l,Mu.pj x.2.1 (ps.take i).sum l,rfl,U1 _ _ hrs,U2 _ _ hwq2,U0 _ _ ht1,ht2,ht3.keep U0,ok.b2,ok.b16,fun y hy=>ok.wr y (Ma.bV_ hrm y hy),Ma.au_ (fun p hp=>(ok.pr p hp).2) hrm,by rw[hrl];exact Mu.pS_,RD.keep U1,hrs0,fun dp g6 H6 hdp s6 h6 R6=>?_⟩
   rw[hrl,hrsl] at R6
   have ndp:dp≠sl:=fun z=>by rw[z,sl5] at hdp;cases hdp
   have gl:gs.length=i:=by rw[<-Paired.length PR5];exact hdl
   refine⟨sl,_,_,rfl,rfl,s6 _ _ sl5,szl (by rw[List.length_map];omega),ds++[dp],gs++[g6],some (.ref br),some (.ref wq),some (.ref td),rfl,fun y ob e n=>?_,by rw[c_,List.map_append];rfl,by simp[hdl],?_,fun m l' row' d' a1 a2 a3=>?_⟩
   ·rw[j_ n]
    exact s6 _ _ (kp5 y ob e n)
   ·refine Paired.snoc (L2.Paired.mapP PR5 fun q g e=>?_) (by rw[j_ ndp];exact h6)
    rw[j_ (fun z=>by rw[z,sl5] at e;cases e)]
    exact s6 _ _ e
   ·by_cases hm:m<gs.length
    ·rw[List.getElem?_append_left hm] at a3
     exact PR.2 m l' row' d' a1 a2 a3
    ·have hm':m=i:=by
      have:=(List.getElem?_eq_some_iff.mp a3).1
      simp at this
      omega
     subst hm'
     rw[List.getElem?_append_right (by omega),gl,Nat.sub_self] at a3
     have e1:g6=d':=by simpa using a3
     subst e1
     rw[hl] at a1
     cases a1
     rw[hrow] at a2
     cases a2
     exact R6
  ·rintro σ H4 ⟨ds,gs,v7,v8,v9,rfl,kp,hsl4,hdl,PR⟩
   have U0:Same H H4:=fun y ob e=>kp _ _ (S3 _ _ e) (f_ e hslH)
   have hdl':ds.length=ps.length:=by rw[hdl,List.length_map,hbl]
   have gl:gs.length=ps.length:=by rw[<-Paired.length PR.1];exact hdl'
   have dok:∀g∈gs,Me.DOk g:=fun g hg=>by
    obtain⟨i,hi⟩:=List.getElem?_of_mem hg
    have hi':i<ps.length:=by have:=(List.getElem?_eq_some_iff.mp hi).1;omega
    exact(PR.2 i ps[i] _ g (List.getElem?_eq_getElem hi') (Ma.bW_ ps ws i _ (List.getElem?_eq_getElem hi')) hi).ok
   refine⟨_,rfl,_,rfl,sl,ds,gs,d,rfl,hsl4,PR.1,by omega,by omega,dok,fun H' s'=>?_⟩
   rw[Mx.near_stretch (by have:=ok.b2;omega) (by omega) SO ok.wl gl PR.2 dok]
   exact k H' (U0.trans s')
end
def cM_:Sp:=fun vs H Q _=>∃d:Nat,vs=[.int d]/\Q .non H
def ao_:Sp:=fun vs H Q _=>∃f A c b ps ws,∃(tl:Addr) (tds:List Addr) (d n:Nat),vs=[.ref f,.ref tl,.int d,.int n]/\FrAt H f A c b ps ws/\H tl=some (.lst (tds.map V.ref))/\tds.length=ps.length/\bk_ H b ps ws tds/\n<=b ^ ps.sum/\
 ∀H':Hp,Same H H'->Q (.int (Mx.nrN b d ps ws n)) H'
def cb_:Sp:=fun vs H Q _=>∃f A c b ps ws,∃d n:Nat,vs=[.ref f,.int d,.int n]/\FrAt H f A c b ps ws/\n<=b ^ ps.sum/\∀H':Hp,Same H H'->Q (.int (Mx.nrN b d ps ws n)) H'
def cc_:Sp:=fun vs H Q _=>∃f A c b ps ws,∃n:Nat,vs=[.ref f,.int n]/\FrAt H f A c b ps ws/\n<=b ^ ps.sum/\∀H':Hp,Same H H'->Q (.int (Mx.nrN b 0 ps ws n)) H'
section
variable{P:Program}{w:World}{K:PySem.W.Frag}{mg:Str->Option Value}{base:Heap}
theorem jH_:FnScope ["thing"] ["thing"] (i_ dJ_):=⟨rfl,rfl,rfl,by decide +kernel,rfl,by decide +kernel,by decide +kernel⟩
theorem hN_{f:Addr}{fd:FuncData}(F:Fun K "need_miss" "need_miss" dJ_ f fd)(D1:Def P w K mg base 1 "is_whole" ["thing"] dv_):FnOk P w K mg base CX0 2 f fd ["thing"] cM_:=by
 refine F.ok jH_ (fun vs H Q E h=>?_) (fun cdv A outer s H vs Q E hr h=>?_)
 ·obtain⟨d,rfl,_⟩:=h;rfl
 ·obtain⟨d,rfl,k⟩:=h
  refine⟨_,g_ (ae_ (PW.pt (hC_ (bl_ (bs_ (m_ D1 hr (by rfl) (a_ (pv 0) d_)))) (dO_ (E_ oV_ (pv 0) e_ (nomark _))))) bt_ D_),?_⟩
  refine⟨_,rfl,.int d,rfl,.int _,_,rfl,iteF ⟨_,rfl,_,_,rfl,rfl,_,rfl,?_⟩⟩
  have e:decide ((d:Int)<0)=false:=decide_eq_false (by omega)
  rw[e]
  exact iteF k
theorem db_:FnScope ["frame","tails_by_part","d","n"] ["frame","tails_by_part","d","n"] (i_ aA_):=⟨rfl,rfl,rfl,by decide +kernel,rfl,by decide +kernel,by decide +kernel⟩
theorem fA_{f:Addr}{fd:FuncData}(F:Fun K "count_below" "count_below" aA_ f fd)(T:Txt mg)(DS:Def P w K mg base 9 "stretches_below" ["frame","n"] ba_)(DW:Def P w K mg base 3 "count_begun" ["frame","tails_by_part","d","head","end"] aG_):FnOk P w K mg base CX0 10 f fd ["frame","tails_by_part","d","n"] ao_:=by
 refine F.ok db_ (fun vs H Q E h=>?_) (fun cdv A outer s H vs Q E hr h=>?_)
 ·obtain⟨g,A,c,b,ps,ws,tl,tds,d,n,rfl,_⟩:=h;rfl
 ·obtain⟨g,A',c,b,ps,ws,tl,tds,d,n,rfl,G,htl,tdl,TA,hn,k⟩:=h
  have nd:=db_.nd
  have ok:=G.ok
  have nd2:List.Nodup (["head","end","frame","tails_by_part","d"]:List Str):=by decide +kernel
  refine⟨_,g_ (o_ (q_ (aF_ rfl) (by rfl) T.sum boot_sum (a_ (fv_ (N:=["head","end","frame","tails_by_part","d"]) (k:=2) (fr:=[0,1,2]) (cmpS (sc:=i_ aA_) (NX:=["frame","tails_by_part","d","n"]) (k:=2) (fr:=[0,1,2]) rfl rfl (by decide +kernel))
    (cmpF (sc:=i_ aA_) (NX:=["frame","tails_by_part","d","n"]) rfl (by decide +kernel)) rfl (M_ (m_ DS hr (by rfl) (a_ (pv 0) (a_ (pv 3) d_))))
    (fun cl C s H fp=>fu_ K rfl rfl (z_ (n_ (i:=0) nd2 rfl (Or.inl rfl)) (z_ (n_ (i:=1) nd2 rfl (Or.inl rfl)) aB_))) jp_ (fun cl C s H fp=>af_)
    (fun cl C s H fp=>m_ DW hr.mo (by rfl) (a_ (pv 2) (a_ (pv 3) (a_ (pv 4) (a_ (pv 0) (a_ (pv 1) d_))))))) d_))),?_⟩
  refine⟨_,rfl,_,rfl,g,A',c,b,ps,ws,n,rfl,G,hn,fun p ts L H6 hp s6 hp6 PR hL SO hg=>⟨p,rfl,⟨_,SqL.of hp6⟩,V_ (K:=K) (a:=p) (xs:=ts.map V.ref) (fun i ys H7=>ys=((L.take i).map (Mx.nrS b d ps ws)).map V.int/\Same H6 H7)
    ⟨by simp,Same.refl _⟩ (fun i ys H7 _ q=>SqL.of (q.2 _ _ hp6)) ?_ ?_⟩⟩
  ·rintro i x ys H7 hx ⟨rfl,s7⟩
   obtain⟨t,ht,rfl⟩:=aR_ hx
   obtain⟨x',hx',hh,h1,h2⟩:=aD_ PR ht
   have S7:=s6.trans s7
   refine⟨szl (by rw[List.length_map,List.length_map,List.length_take];omega),t,_,rfl,SqT.of (s7 _ _ h1),rfl,_,_,rfl,_,_,rfl,rfl,_,rfl,_,rfl,_,rfl,_,rfl,_,rfl,g,A',c,b,ps,ws,tl,hh,tds,x',d,rfl,G.keep S7,S7 _ _ htl,tdl,TA.keep S7,s7 _ _ h2,SO x' (List.mem_of_getElem? hx'),fun H8 s8=>?_⟩
   refine⟨?_,s7.trans s8⟩
   rw[List.take_add_one,hx']
   simp
  ·rintro ys H7 ⟨rfl,s7⟩ wl hwl
   have el:(ts.map V.ref).length=L.length:=by rw[List.length_map,Paired.length PR]
   rw[el,List.take_length]
   refine⟨wl,_,rfl,SqL.of c_,?_⟩
   rw[Mx.nrS_sum hg]
   exact k _ (s6.trans (s7.trans (h_ hwl)))
theorem ht_:FnScope ["frame","d","n"] ["frame","d","n"] (i_ cR_):=⟨rfl,rfl,rfl,by decide +kernel,rfl,by decide +kernel,by decide +kernel⟩
theorem gp_{f:Addr}{fd:FuncData}(F:Fun K "near_below" "near_below" cR_ f fd)(D5:Def P w K mg base 5 "need_frame" ["thing"] S_)(DM:Def P w K mg base 2 "need_miss" ["thing"] cM_)(D7:Def P w K mg base 7 "need_bound" ["frame","thing"] aw_)
  (DT:Def P w K mg base 4 "tails_of_parts" ["frame"] cr_) (DB:Def P w K mg base 10 "count_below" ["frame","tails_by_part","d","n"] ao_):FnOk P w K mg base CX0 11 f fd ["frame","d","n"] cb_:=by
 refine F.ok ht_ (fun vs H Q E h=>?_) (fun cdv A outer s H vs Q E hr h=>?_)
 ·obtain⟨g,A,c,b,ps,ws,d,n,rfl,_⟩:=h;rfl
 ·obtain⟨g,A',c,b,ps,ws,d,n,rfl,G,hn,k⟩:=h
  refine⟨_,b_ (y_ (m_ D5 hr.mo (by rfl) (a_ (pv 0) d_)))
   (b_ (y_ (m_ DM hr.mo (by rfl) (a_ (pv 1) d_)))
   (b_ (y_ (m_ D7 hr.mo (by rfl) (a_ (pv 0) (a_ (pv 2) d_))))
   (g_ (o_ (m_ DB hr (by rfl) (a_ (pv 0) (a_ (m_ DT hr.mo (by rfl) (a_ (pv 0) d_)) (a_ (pv 1) (a_ (pv 2) d_))))))))),?_⟩
  refine⟨_,rfl,g,A',c,b,ps,ws,rfl,G,fun H1 s1=>⟨_,rfl,d,rfl,?_⟩⟩
  refine⟨_,rfl,_,rfl,g,A',c,b,ps,ws,n,rfl,G.keep s1,hn,fun H2 s2=>?_⟩
  have S2:=s1.trans s2
  refine⟨_,rfl,_,rfl,g,A',c,b,ps,ws,rfl,G.keep S2,fun p tds H3 hp s3 h3 tdl TA=>?_⟩
  exact⟨_,rfl,_,rfl,g,A',c,b,ps,ws,p,tds,d,n,rfl,(G.keep S2).keep s3,h3,tdl,TA,hn,fun H' s'=>k H' (S2.trans (s3.trans s'))⟩
theorem hu_:FnScope ["frame","n"] ["frame","n"] (i_ cT_):=⟨rfl,rfl,rfl,by decide +kernel,rfl,by decide +kernel,by decide +kernel⟩
theorem gr_{f:Addr}{fd:FuncData}(F:Fun K "even_below" "even_below" cT_ f fd)(DB:Def P w K mg base 11 "near_below" ["frame","d","n"] cb_):FnOk P w K mg base CX0 12 f fd ["frame","n"] cc_:=by
 refine F.ok hu_ (fun vs H Q E h=>?_) (fun cdv A outer s H vs Q E hr h=>?_)
 ·obtain⟨g,A,c,b,ps,ws,n,rfl,_⟩:=h;rfl
 ·obtain⟨g,A',c,b,ps,ws,n,rfl,G,hn,k⟩:=h
  refine⟨_,g_ (o_ (m_ DB hr (by rfl) (a_ (pv 0) (a_ e_ (a_ (pv 1) d_))))),?_⟩
  exact⟨_,rfl,_,rfl,g,A',c,b,ps,ws,0,n,rfl,G,hn,k⟩
end
end Hv
namespace Mx
open Me Mg Mu
theorem nrI_01(b d:Nat)(ps:List Nat)(ws:List Int)(m:Nat):nrI b d ps ws m=0\/nrI b d ps ws m=1:=by
 unfold nrI
 split
 ·exact .inr rfl
 ·exact .inl rfl
theorem nrN_succ(b d:Nat)(ps:List Nat)(ws:List Int)(n:Nat):nrN b d ps ws (n+1)=nrN b d ps ws n+nrI b d ps ws n:=rfl
theorem nrN_nn(b d:Nat)(ps:List Nat)(ws:List Int)(n:Nat):0<=nrN b d ps ws n:=lF_ fun i _=>by
 rcases nrI_01 b d ps ws i with h | h <;> omega
theorem nrN_bd(b d:Nat)(ps:List Nat)(ws:List Int)(n:Nat):nrN b d ps ws n<=n:=by
 have h:=lG_ (g:=nrI b d ps ws) (h:=fun _=>1) (n:=n) fun i _=>by
  rcases nrI_01 b d ps ws i with h | h <;> omega
 rw[bS_,Int.mul_one] at h
 exact h
theorem nrN_mono(b d:Nat)(ps:List Nat)(ws:List Int)(n:Nat):∀m,nrN b d ps ws n<=nrN b d ps ws (n+m)
 | 0=>Int.le_refl _
 | m+1=>by
  have:=nrN_mono b d ps ws n m
  rw[<-Nat.add_assoc,nrN_succ]
  rcases nrI_01 b d ps ws (n+m) with h | h <;> omega
theorem nrN_lt{b d:Nat}{ps:List Nat}{ws:List Int}{n m:Nat}(h:nrN b d ps ws n<nrN b d ps ws m):n<m:=by
 apply Nat.lt_of_not_le
 intro z
 have:=nrN_mono b d ps ws m (n-m)
 rw[show m+(n-m)=n by omega] at this
 omega
theorem do_(b d:Nat)(ps:List Nat)(ws:List Int)(a pl e:Nat):nrN b d ps ws (a*b ^ (ps.sum-pl)+e*b ^ (ps.sum-pl-1))=nrN b d ps ws (a*b ^ (ps.sum-pl))+nrS b d ps ws (a,pl,e):=by
 unfold nrN nrS
 rw[eC_]
theorem nrS_zero(b d:Nat)(ps:List Nat)(ws:List Int)(a pl:Nat):nrS b d ps ws (a,pl,0)=0:=by
 have:=do_ b d ps ws a pl 0
 rw[Nat.zero_mul,Nat.add_zero] at this
 omega
theorem lb_{b S i:Nat}(hi:i<S):b ^ (S-i)=b*b ^ (S-i-1):=by
 rw[show S-i=(S-i-1)+1 by omega,Nat.pow_succ,Nat.mul_comm]
 rfl
theorem at_step{b d S a i fg r r' k:Nat}{ps:List Nat}{ws:List Int}(hS:ps.sum=S)(hi:i<S)(h1:nrN b d ps ws (a*b ^ (S-i))+r=k)(h3:nrS b d ps ws (a,i,fg)+r'=r)(h4:(r:Int)<nrS b d ps ws (a,i,fg+1)) :
  nrN b d ps ws ((a*b+fg)*b ^ (S-(i+1)))+r'=k/\(k:Int)<nrN b d ps ws ((a*b+fg)*b ^ (S-(i+1))+b ^ (S-(i+1))):=by
 subst hS
 have e1:(a*b+fg)*b ^ (ps.sum-(i+1))=a*b ^ (ps.sum-i)+fg*b ^ (ps.sum-i-1):=by
  rw[lb_ hi,Nat.add_mul,Nat.mul_assoc]
  rfl
 have e2:(a*b+fg)*b ^ (ps.sum-(i+1))+b ^ (ps.sum-(i+1))=a*b ^ (ps.sum-i)+(fg+1)*b ^ (ps.sum-i-1):=by
  rw[e1,Nat.add_mul fg 1,Nat.one_mul,Nat.add_assoc]
  rfl
 rw[e2,e1,do_,do_]
 omega
theorem at_head{b d S a i r k:Nat}{ps:List Nat}{ws:List Int}(hS:ps.sum=S)(hi:i<S)(h1:nrN b d ps ws (a*b ^ (S-i))+r=k)(h2:(k:Int)<nrN b d ps ws (a*b ^ (S-i)+b ^ (S-i))):(r:Int)<nrS b d ps ws (a,i,b):=by
 subst hS
 have:=do_ b d ps ws a i b
 rw[<-lb_ hi] at this
 omega
end Mx
namespace Hv
open PySem L2
def dz_:Sp:=fun vs H Q _=>∃f A c b ps ws,∃(tl hd:Addr) (tds:List Addr) (a pl d k:Nat),vs=[.ref f,.ref tl,.int d,.ref hd,.int k]/\FrAt H f A c b ps ws/\H tl=some (.lst (tds.map V.ref))/\tds.length=ps.length/\bk_ H b ps ws tds/\H hd=some (.lst (natV (Ma.dws b a pl pl)))/\pl<ps.sum/\a<b ^ pl/\
 (k:Int)<Mx.nrS b d ps ws (a,pl,b)/\
 ∀(t:Addr) (fg r:Nat) (H':Hp),Same H H'->H' t=some (.tup [.int fg,.int r])->fg<b->Mx.nrS b d ps ws (a,pl,fg)+r=k->(k:Int)<Mx.nrS b d ps ws (a,pl,fg+1)->Q (.ref t) H'
def cL_:Sp:=fun vs H Q _=>∃f A c b ps ws,∃(tl:Addr) (tds:List Addr) (d k:Nat),vs=[.ref f,.ref tl,.int d,.int k]/\FrAt H f A c b ps ws/\H tl=some (.lst (tds.map V.ref))/\tds.length=ps.length/\bk_ H b ps ws tds/\
 (∀H':Hp,Same H H'->Mx.nrN b d ps ws (b ^ ps.sum)<=k->Q .non H')/\∀(m:Nat) (H':Hp),Same H H'->m<b ^ ps.sum->Mx.nrI b d ps ws m=1->Mx.nrN b d ps ws m=k->Q (.int m) H'
section
variable{P:Program}{w:World}{K:PySem.W.Frag}{mg:Str->Option Value}{base:Heap}
theorem gc_:FnScope ["frame","tails_by_part","d","head","k","figure","passed","beyond","middle","count"] ["frame","tails_by_part","d","head","k"] (i_ aM_):=⟨rfl,rfl,rfl,by decide +kernel,rfl,by decide +kernel,by decide +kernel⟩
theorem jU_{f:Addr}{fd:FuncData}(F:Fun K "figure_and_rest" "figure_and_rest" aM_ f fd)(DB:Def P w K mg base 3 "count_begun" ["frame","tails_by_part","d","head","end"] aG_):FnOk P w K mg base CX0 4 f fd ["frame","tails_by_part","d","head","k"] dz_:=by
 refine F.ok gc_ (fun vs H Q E h=>?_) (fun cdv A outer s H vs Q E hr h=>?_)
 ·obtain⟨g,A,c,b,ps,ws,tl,hd,tds,a,pl,d,k,rfl,_⟩:=h;rfl
 ·obtain⟨g,A',c,b,ps,ws,tl,hd,tds,a,pl,d,n,rfl,G,htl,tdl,TA,hhd,hpl,ha,hn,k⟩:=h
  have nd:=gc_.nd
  have ok:=G.ok
  have b2:=ok.b2
  refine⟨_,b_ (k_ (i:=5) nd rfl (Or.inl rfl) e_)
   (b_ (k_ (i:=6) nd rfl (Or.inl rfl) e_)
   (b_ (k_ (i:=7) nd rfl (Or.inl rfl) (ixt (pv 0) e_))
   (b_ (iQ_ PassesOwn.never (E_ lr_ (l_ Q_ (pv 7) (pv 5)) e_ (nomark _))
    (b_ (k_ (i:=8) nd rfl (Or.inl rfl) (l_ bf_ (l_ r_ (pv 5) (pv 7)) e_))
    (b_ (k_ (i:=9) nd rfl (Or.inl rfl) (m_ DB hr (by rfl) (a_ (pv 0) (a_ (pv 1) (a_ (pv 2) (a_ (pv 3) (a_ (pv 8) d_)))))))
    (g_ (ae_ (E_ gh_ (pv 9) (pv 4) (nomark _))
     (b_ (k_ (i:=5) nd rfl (Or.inl rfl) (pv 8)) (g_ (k_ (i:=6) nd rfl (Or.inl rfl) (pv 9))))
     (g_ (k_ (i:=7) nd rfl (Or.inl rfl) (pv 8))))))))
   (g_ (o_ (aS_ (a_ (pv 5) (a_ (l_ Q_ (pv 4) (pv 6)) d_)))))))),?_⟩
  have e0:=Mx.nrS_zero b d ps ws a pl
  refine⟨_,rfl,_,_,_,_,rfl,rfl,SqT.of G.tp,rfl,?_⟩
  refine⟨fun mu σ H'=>∃(fg be:Nat) (v8 v9:Option V),σ=[some (.ref g),some (.ref tl),some (.int d),some (.ref hd),some (.int n),some (.int fg),some (.int (Mx.nrS b d ps ws (a,pl,fg))),some (.int be),v8,v9]/\mu=be-fg/\fg<be/\be<=b/\Same H H'/\Mx.nrS b d ps ws (a,pl,fg)<=n/\(n:Int)<Mx.nrS b d ps ws (a,pl,be),
   ⟨_,0,b,none,none,by rw[e0];rfl,rfl,by omega,Nat.le_refl _,Same.refl _,by rw[e0];omega,hn⟩,?_⟩
  rintro mu σ H1 ⟨fg,be,v8,v9,rfl,rfl,hfb,hbe,s1,c1,c2⟩
  refine⟨_,rfl,_,rfl,_,_,rfl,rfl,_,_,rfl,rfl,_,rfl,ite2 (fun hlt=>?_) (fun hge=>?_)⟩
  ·have hlt':(1:Int)<(be:Int)-fg:=of_decide_eq_true hlt
   refine⟨fun σ' H'=>∃(fg' be':Nat) (v8 v9:Option V),σ'=[some (.ref g),some (.ref tl),some (.int d),some (.ref hd),some (.int n),some (.int fg'),some (.int (Mx.nrS b d ps ws (a,pl,fg'))),some (.int be'),v8,v9]/\be' - fg'<be-fg/\fg'<be'/\be'<=b/\Same H H'/\Mx.nrS b d ps ws (a,pl,fg')<=n/\(n:Int)<Mx.nrS b d ps ws (a,pl,be'),
    fun σ' H' ⟨fg',be',v8,v9,h1,h2,h3,h4,h5,h6,h7⟩=>⟨be' - fg',h2,fg',be',v8,v9,h1,rfl,h3,h4,h5,h6,h7⟩,?_⟩
   have em:((fg:Int)+(be:Int)) / 2=(((fg+be) / 2:Nat):Int):=by omega
   refine⟨_,rfl,_,rfl,_,_,rfl,rfl,_,_,rfl,rfl,⟨by decide,by decide⟩,?_⟩
   dsimp only
   rw[em]
   generalize hmd:(fg+be) / 2=md
   have hm1:fg<md:=by omega
   have hm2:md<be:=by omega
   refine⟨_,rfl,_,rfl,_,rfl,_,rfl,_,rfl,g,A',c,b,ps,ws,tl,hd,tds,(a,pl,md),d,rfl,G.keep s1,s1 _ _ htl,tdl,TA.keep s1,s1 _ _ hhd,⟨hpl,by show 1<=md;omega,by show md<=b;omega,ha⟩,fun H2 s2=>?_⟩
   refine⟨_,rfl,_,rfl,_,_,rfl,rfl,_,rfl,ite2 (fun hle=>?_) (fun hgt=>?_)⟩
   ·have hle':Mx.nrS b d ps ws (a,pl,md)<=(n:Int):=of_decide_eq_true hle
    exact⟨_,rfl,_,rfl,md,be,_,_,rfl,by omega,hm2,hbe,s1.trans s2,hle',c2⟩
   ·have hgt':¬ Mx.nrS b d ps ws (a,pl,md)<=(n:Int):=fun z=>hgt (decide_eq_true z)
    exact⟨_,rfl,fg,md,_,_,rfl,by omega,hm1,by omega,s1.trans s2,c1,by omega⟩
  ·have hge':¬ (1:Int)<(be:Int)-fg:=fun z=>hge (decide_eq_true z)
   have ebe:be=fg+1:=by omega
   subst ebe
   obtain⟨r,hr'⟩:∃r:Nat,(n:Int)-Mx.nrS b d ps ws (a,pl,fg)=(r:Int):=⟨((n:Int)-Mx.nrS b d ps ws (a,pl,fg)).toNat,by omega⟩
   refine⟨_,rfl,_,rfl,_,rfl,_,_,rfl,rfl,sz (by simp),fun t ht=>?_⟩
   dsimp only
   rw[hr']
   exact k t fg r _ (s1.trans (h_ ht)) c_ (by omega) (by omega) c2
theorem ew_:FnScope ["frame","tails_by_part","d","k","head","rest","place","found"] ["frame","tails_by_part","d","k"] (i_ dI_):=⟨rfl,rfl,rfl,by decide +kernel,rfl,by decide +kernel,by decide +kernel⟩
theorem hM_{f:Addr}{fd:FuncData}(F:Fun K "number_at" "number_at" dI_ f fd)(T:Txt mg)(D6:Def P w K mg base 6 "how_many" ["frame"] an_)(DB:Def P w K mg base 10 "count_below" ["frame","tails_by_part","d","n"] ao_)(DF:Def P w K mg base 4 "figure_and_rest" ["frame","tails_by_part","d","head","k"] dz_)
  (DN:Def P w K mg base 1 "number_of" ["base","figures"] aO_):FnOk P w K mg base CX0 11 f fd ["frame","tails_by_part","d","k"] cL_:=by
 refine F.ok ew_ (fun vs H Q E h=>?_) (fun cdv A outer s H vs Q E hr h=>?_)
 ·obtain⟨g,A,c,b,ps,ws,tl,tds,d,k,rfl,_⟩:=h;rfl
 ·obtain⟨g,A',c,b,ps,ws,tl,tds,d,n,rfl,G,htl,tdl,TA,k1,k2⟩:=h
  have nd:=ew_.nd
  have ok:=G.ok
  have b2:=ok.b2
  have hsum:=ok.sum
  have b0:0<b:=by omega
  refine⟨_,b_ (ae_ (E_ oW_ (pv 3) (m_ DB hr (by rfl) (a_ (pv 0) (a_ (pv 1) (a_ (pv 2) (a_ (m_ D6 hr.mo (by rfl) (a_ (pv 0) d_)) d_))))) (nomark _)) (g_ (o_ iX_)) D_)
   (b_ (k_ (i:=4) nd rfl (Or.inl rfl) (P_ d_))
   (b_ (k_ (i:=5) nd rfl (Or.inl rfl) (pv 3))
   (b_ (B_ PassesOwn.never rfl (C_ (by rfl) T.range (a_ (lenS T.len (by rfl) (ixt (pv 0) e_)) d_)) (n_ (i:=6) nd rfl (Or.inl rfl))
    (b_ (k_ (i:=7) nd rfl (Or.inl rfl) (m_ DF hr.mo (by rfl) (a_ (pv 0) (a_ (pv 1) (a_ (pv 2) (a_ (pv 4) (a_ (pv 5) d_)))))))
    (b_ (k_ (i:=4) nd rfl (Or.inl rfl) (l_ of_ (pv 4) (P_ (a_ (ixt (pv 7) e_) d_))))
    (g_ (k_ (i:=5) nd rfl (Or.inl rfl) (ixt (pv 7) e_))))))
   (g_ (o_ (m_ DN hr.mo (by rfl) (a_ (ixt (pv 0) e_) (a_ (pv 4) d_)))))))),?_⟩
  refine⟨_,rfl,_,rfl,_,rfl,_,rfl,_,rfl,g,A',c,b,ps,ws,rfl,G,fun H1 s1=>?_⟩
  refine⟨g,A',c,b,ps,ws,tl,tds,d,b ^ ps.sum,rfl,G.keep s1,s1 _ _ htl,tdl,TA.keep s1,Nat.le_refl _,fun H2 s2=>?_⟩
  have S2:=s1.trans s2
  refine⟨_,_,rfl,rfl,_,rfl,ite2 (fun hle=>?_) (fun hgt=>?_)⟩
  ·exact k1 H2 S2 (of_decide_eq_true hle)
  have hgt':¬ Mx.nrN b d ps ws (b ^ ps.sum)<=(n:Int):=fun z=>hgt (decide_eq_true z)
  refine⟨sz (by decide),fun h0 hh0=>?_⟩
  have s3:=h_ (o:=.lst []) hh0
  have u3:(upd H2 h0 (.lst [])) h0=some (.lst (natV (Ma.dws b 0 0 0))):=c_
  have S3:=S2.trans s3
  generalize upd H2 h0 (.lst [])=H3 at s3 u3 S3⊢
  have G3:=G.keep S3
  have hwl:=ok.wl
  refine⟨_,rfl,_,rfl,_,_,_,_,rfl,rfl,SqT.of G3.tp,rfl,c,_,rfl,.inl (SqL.of G3.hw),_,rfl,by rw[List.length_map];omega,by rw[List.length_map];omega,K_ (n:=(((ws.map V.int).length:Nat):Int).toNat) (fun i σ H4=>∃(h:Addr) (a r:Nat) (v6 v7:Option V),σ=[some (.ref g),some (.ref tl),some (.int d),some (.int n),some (.ref h),some (.int r),v6,v7]/\Same H H4/\H4 h=some (.lst (natV (Ma.dws b a i i)))/\a<b ^ i/\Mx.nrN b d ps ws (a*b ^ (ps.sum-i))+r=n/\(n:Int)<Mx.nrN b d ps ws (a*b ^ (ps.sum-i)+b ^ (ps.sum-i)))
   ⟨h0,0,n,none,none,rfl,S3,u3,by simp,by rw[Nat.zero_mul];show(0:Int)+n=n;omega,by rw[Nat.zero_mul,Nat.zero_add,Nat.sub_zero];omega⟩ ?_ ?_⟩
  ·rintro i σ H4 hi ⟨h,a,r,v6,v7,rfl,s4,hh,ha,e1,e2⟩
   have hi':i<ps.sum:=by rw[List.length_map,hwl] at hi;omega
   refine⟨_,rfl,_,rfl,_,rfl,_,rfl,_,rfl,g,A',c,b,ps,ws,tl,h,tds,a,i,d,r,rfl,G.keep s4,s4 _ _ htl,tdl,TA.keep s4,hh,hi',ha,Mx.at_head rfl hi' e1 e2,fun t fg r' H5 s5 ht hfg h3 h4=>?_⟩
   refine⟨_,rfl,_,rfl,_,_,_,_,rfl,rfl,SqT.of ht,rfl,sz (by simp),fun q hq=>?_⟩
   have s6:=h_ (o:=.lst [V.int (fg:Int)]) hq
   have u6:(upd H5 q (.lst [V.int (fg:Int)])) q=_:=c_
   generalize upd H5 q (.lst [V.int (fg:Int)])=H6 at s6 u6⊢
   refine⟨h,q,_,_,rfl,rfl,s6 _ _ (s5 _ _ hh),u6,szl (by rw[natV,List.length_map,Ma.L_];omega),fun z hz=>?_⟩
   have s7:=h_ (o:=.lst (natV (Ma.dws b a i i)++[V.int (fg:Int)])) hz
   refine⟨_,rfl,_,_,_,_,rfl,rfl,SqT.of (s7 _ _ (s6 _ _ ht)),rfl,z,a*b+fg,r',_,_,rfl,s4.trans (s5.trans (s6.trans s7)),?_,?_,?_⟩
   ·rw[c_,Mg.mm_ b a fg i hfg]
    simp[natV]
   ·rw[Nat.pow_succ]
    have:(a+1)*b<=b ^ i*b:=Nat.mul_le_mul_right _ ha
    rw[Nat.add_mul,Nat.one_mul] at this
    omega
   ·exact Mx.at_step rfl hi' e1 h3 h4
  ·rintro σ H4 ⟨h,a,r,v6,v7,rfl,s4,hh,ha,e1,e2⟩
   have el:(((ws.map V.int).length:Nat):Int).toNat=ps.sum:=by rw[List.length_map,hwl];omega
   rw[el] at hh ha e1 e2
   rw[Nat.sub_self,Nat.pow_zero,Nat.mul_one] at e1 e2
   rw[Mx.nrN_succ] at e2
   have G4:=G.keep s4
   refine⟨_,rfl,_,_,_,_,rfl,rfl,SqT.of G4.tp,rfl,_,rfl,b,h,_,rfl,ok.b16,hh,?_⟩
   rw[Ma.lC_ b0 ha]
   have:=Mx.nrI_01 b d ps ws a
   exact k2 a H4 s4 ha (by omega) (by omega)
end
def bK_:Sp:=fun vs H Q _=>∃f A c b ps ws,∃n:Nat,vs=[.ref f,.int n]/\FrAt H f A c b ps ws/\n<=b ^ ps.sum/\(∀H':Hp,Same H H'->Mx.nrN b 0 ps ws n=0->Q .non H')/\
 ∀(m:Nat) (H':Hp),Same H H'->m<n->Mx.nrI b 0 ps ws m=1->Mx.nrN b 0 ps ws m+1=Mx.nrN b 0 ps ws n->Q (.int m) H'
section
variable{P:Program}{w:World}{K:PySem.W.Frag}{mg:Str->Option Value}{base:Heap}
theorem ey_:FnScope ["frame","n","tails_by_part","count"] ["frame","n"] (i_ dM_):=⟨rfl,rfl,rfl,by decide +kernel,rfl,by decide +kernel,by decide +kernel⟩
theorem hP_{f:Addr}{fd:FuncData}(F:Fun K "last_even" "last_even" dM_ f fd)(D5:Def P w K mg base 5 "need_frame" ["thing"] S_)(D7:Def P w K mg base 7 "need_bound" ["frame","thing"] aw_)(DT:Def P w K mg base 4 "tails_of_parts" ["frame"] cr_)
  (DB:Def P w K mg base 10 "count_below" ["frame","tails_by_part","d","n"] ao_) (DA:Def P w K mg base 11 "number_at" ["frame","tails_by_part","d","k"] cL_):FnOk P w K mg base CX0 12 f fd ["frame","n"] bK_:=by
 refine F.ok ey_ (fun vs H Q E h=>?_) (fun cdv A outer s H vs Q E hr h=>?_)
 ·obtain⟨g,A,c,b,ps,ws,n,rfl,_⟩:=h;rfl
 ·obtain⟨g,A',c,b,ps,ws,n,rfl,G,hn,k1,k2⟩:=h
  have nd:=ey_.nd
  refine⟨_,b_ (y_ (m_ D5 hr.mo (by rfl) (a_ (pv 0) d_)))
   (b_ (y_ (m_ D7 hr.mo (by rfl) (a_ (pv 0) (a_ (pv 1) d_))))
   (b_ (k_ (i:=2) nd rfl (Or.inl rfl) (m_ DT hr.mo (by rfl) (a_ (pv 0) d_)))
   (b_ (k_ (i:=3) nd rfl (Or.inl rfl) (m_ DB hr.mo (by rfl) (a_ (pv 0) (a_ (pv 2) (a_ e_ (a_ (pv 1) d_))))))
   (g_ (o_ (nm_ (E_ lr_ (pv 3) e_ (nomark _)) (m_ DA hr (by rfl) (a_ (pv 0) (a_ (pv 2) (a_ e_ (a_ (l_ Q_ (pv 3) e_) d_))))) iX_)))))),?_⟩
  refine⟨_,rfl,g,A',c,b,ps,ws,rfl,G,fun H1 s1=>?_⟩
  refine⟨_,rfl,_,rfl,g,A',c,b,ps,ws,n,rfl,G.keep s1,hn,fun H2 s2=>?_⟩
  have S2:=s1.trans s2
  refine⟨_,rfl,g,A',c,b,ps,ws,rfl,G.keep S2,fun p tds H3 hp s3 h3 tdl TA=>?_⟩
  have S3:=S2.trans s3
  refine⟨_,rfl,_,rfl,_,rfl,g,A',c,b,ps,ws,p,tds,0,n,rfl,G.keep S3,h3,tdl,TA,hn,fun H4 s4=>?_⟩
  have S4:=S3.trans s4
  have nn:=Mx.nrN_nn b 0 ps ws n
  have mo:=Mx.nrN_mono b 0 ps ws n (b ^ ps.sum-n)
  rw[show n+(b ^ ps.sum-n)=b ^ ps.sum by omega] at mo
  refine⟨_,rfl,_,_,rfl,rfl,_,rfl,ite2 (fun hlt=>?_) (fun hge=>?_)⟩
  ·have hlt':0<Mx.nrN b 0 ps ws n:=of_decide_eq_true hlt
   obtain⟨r,hr'⟩:∃r:Nat,Mx.nrN b 0 ps ws n-1=(r:Int):=⟨(Mx.nrN b 0 ps ws n-1).toNat,by omega⟩
   refine⟨_,rfl,_,rfl,_,rfl,_,_,rfl,rfl,?_⟩
   dsimp only
   rw[hr']
   refine⟨g,A',c,b,ps,ws,p,tds,0,r,rfl,G.keep S4,s4 _ _ h3,tdl,TA.keep s4,fun H' s' h=>?_,fun m H' s' hm e1 e2=>?_⟩
   ·exfalso
    omega
   ·exact k2 m H' (S4.trans s') (Mx.nrN_lt (by rw[e2];omega)) e1 (by rw[e2];omega)
  ·have hge':¬ 0<Mx.nrN b 0 ps ws n:=fun z=>hge (decide_eq_true z)
   exact k1 H4 S4 (by omega)
end
end Hv
namespace Mx
open Me Mg Mu
def Mk(e:Nat->Int):Prop:=∀i,e i=0\/e i=1
theorem qe_{e:Nat->Int}(h:Mk e)(c:Int):∀n:Nat,(n:Int)<=c+1->0<=ns (fun m=>e m*(m:Int)) n/\ns (fun m=>e m*(m:Int)) n<=c*ns e n
 | 0,_=>⟨Int.le_refl _,by show(0:Int)<=c*0;omega⟩
 | n+1,hn=>by
  obtain⟨h1,h2⟩:=qe_ h c n (by omega)
  simp only[ns]
  rcases h n with z | z
  ·rw[z]
   constructor
   ·omega
   ·rw[Int.zero_mul,Int.add_zero,Int.add_zero];exact h2
  ·rw[z,Int.one_mul,Int.mul_add,Int.mul_one]
   push_cast at hn
   constructor <;> omega
theorem hR_{e:Nat->Int}(h:Mk e)(f:Nat->Int)(n:Nat):∀k:Nat,ns e (n+k)=ns e n->ns (fun m=>e m*f m) (n+k)=ns (fun m=>e m*f m) n
 | 0,_=>rfl
 | k+1,hk=>by
  have mono:∀j,ns e n<=ns e (n+j):=fun j=>by
   induction j with
   | zero=>exact Int.le_refl _
   | succ j ih =>
    have e1:ns e (n+(j+1))=ns e (n+j)+e (n+j):=rfl
    rcases h (n+j) with z | z <;> omega
  have e1:ns e (n+(k+1))=ns e (n+k)+e (n+k):=rfl
  have m1:=mono k
  have hz:e (n+k)=0:=by rcases h (n+k) with z | z <;> omega
  have e2:ns (fun m=>e m*f m) (n+(k+1))=ns (fun m=>e m*f m) (n+k)+e (n+k)*f (n+k):=rfl
  rw[e2,hz,Int.zero_mul,Int.add_zero]
  exact hR_ h f n k (by omega)
theorem sum_nobody{e:Nat->Int}(h:Mk e){n:Nat}(h0:ns e n=0):ns (fun m=>e m*(m:Int)) n=0:=by
 have:=hR_ h (fun m=>(m:Int)) 0 n (by rw[Nat.zero_add];exact h0)
 rw[Nat.zero_add] at this
 exact this
theorem sum_last{e:Nat->Int}(h:Mk e){n m:Nat}(hm:m<n)(h1:e m=1)(h2:ns e m+1=ns e n):(m:Int)<=ns (fun m=>e m*(m:Int)) n/\ns (fun m=>e m*(m:Int)) n<=m*ns e n:=by
 have e1:ns e (m+1)=ns e m+e m:=rfl
 have:=hR_ h (fun m=>(m:Int)) (m+1) (n-(m+1)) (by rw[show m+1+(n-(m+1))=n by omega];omega)
 rw[show m+1+(n-(m+1))=n by omega] at this
 have e2:ns (fun m=>e m*(m:Int)) (m+1)=ns (fun m=>e m*(m:Int)) m+e m*(m:Int):=rfl
 obtain⟨b1,b2⟩:=qe_ h (m:Int) m (by omega)
 rw[this,e2,h1,Int.one_mul,<-h2,Int.mul_add,Int.mul_one]
 constructor <;> omega
end Mx
namespace L2
open PySem PySem.Spec PyProof.Rows PyProof
theorem oU_{X:Cx}:OpR X (binaryOp .Mult) (rI (fun i j=>i.natAbs<2 ^ 200/\j.natAbs<2 ^ 200) fun i j=>.int (i*j)):=opI fun _ _ _ _ _ _ _ hc q =>
 mul_int q (IntMulOk.of_bits (Nat.le_trans (intBits_le hc.1) (by decide)) (Nat.le_trans (intBits_le hc.2) (by decide)))
end L2
namespace Hv
open PySem L2
theorem St7.ints{H:Hp}{s q x:Addr}{ds ns:List Int}(S:St7 H s q ds)(h:H x=some (.lst (ns.map V.int))):x∉[s]:=fun z=>by
 obtain⟨c,e⟩:=S.hs
 have z':x=s:=by simpa using z
 rw[z',e] at h
 have h2:[V.ref q,V.int c]=ns.map V.int:=by injection h with h;injection h
 cases ns with
 | nil=>cases h2
 | cons d r=>cases h2
theorem St7.other{H:Hp}{s q x:Addr}{ds:List Int}{o:HO}(S:St7 H s q ds)(h:H x=some o)(ho:∀xs,o≠.lst xs):x∉[s]:=fun z=>by
 obtain⟨c,e⟩:=S.hs
 have z':x=s:=by simpa using z
 rw[z',e] at h
 exact ho _ (Option.some.inj h).symm
theorem FrAt.kp7{H H':Hp}{f a c s q:Addr}{b:Nat}{ps:List Nat}{ws ds:List Int}(G:FrAt H f a c b ps ws)(S:St7 H s q ds)(k:Kp [s] H H'):FrAt H' f a c b ps ws :=
 ⟨k _ _ G.tp (S.other G.tp (fun xs z=>nomatch z)),k _ _ G.hp (S.ints (by rw[<-hW_];exact G.hp)),k _ _ G.hw (S.ints G.hw),G.ok⟩
def hl_:Sp:=fun vs H Q _=>∃(s q:Addr) (ds:List Int) (m:Nat),vs=[.ref s,.int m]/\St7 H s q ds/\0<m/\∀(r:Nat) (H':Hp),r<=m->St7 H' s q ds->Kp [s] H H'->Q (.int r) H'
section
variable{P:Program}{w:World}{K:PySem.W.Frag}{mg:Str->Option Value}{base:Heap}
theorem kQ_:FnScope ["store","many","far","turn","most","x","some"] ["store","many"] (i_ cg_):=⟨rfl,rfl,rfl,by decide +kernel,rfl,by decide +kernel,by decide +kernel⟩
theorem nq_{f:Addr}{fd:FuncData}(F:Fun K "_law_some_number" "_law_some_number" cg_ f fd)(T:Txt mg)(DT:Def P w K mg base 1 "_law_take" ["store","many"] eU_):FnOk P w K mg base CX0 2 f fd ["store","many"] hl_:=by
 refine F.ok kQ_ (fun vs H Q E h=>?_) (fun cdv A outer s H vs Q E hr h=>?_)
 ·obtain⟨s,q,ds,m,rfl,_⟩:=h;rfl
 ·obtain⟨st,q,ds,m,rfl,S,hm,k⟩:=h
  have nd:=kQ_.nd
  refine⟨_,b_ (k_ (i:=2) nd rfl (Or.inl rfl) e_)
   (b_ (B_ PassesOwn.never rfl (C_ (by rfl) T.range (a_ e_ d_)) (n_ (i:=3) nd rfl (Or.inl rfl)) (g_ (k_ (i:=2) nd rfl (Or.inl rfl) (l_ r_ (l_ F_ (pv 2) e_) (m_ DT hr (by rfl) (a_ (pv 0) (a_ e_ d_)))))))
   (b_ (k_ (i:=4) nd rfl (Or.inl rfl) (pv 1))
   (b_ (k_ (i:=5) nd rfl (Or.inl rfl) (m_ DT hr (by rfl) (a_ (pv 0) (a_ e_ d_))))
   (b_ (k_ (i:=6) nd rfl (Or.inl rfl) (P_ (a_ (l_ I_ (l_ I_ (pv 5) e_) (l_ r_ (pv 4) e_)) (a_ (l_ I_ (pv 5) (l_ r_ (pv 4) e_)) (a_ (l_ I_ (pv 2) (l_ r_ (pv 4) e_)) (a_ (l_ Q_ (pv 4) (l_ I_ (pv 5) (q_ (eb_ rfl) (by rfl) T.min boot_min (a_ e_ (a_ (pv 4) d_))))) (a_ (pv 4) d_)))))))
   (g_ (o_ (ixl (pv 6) (l_ I_ (l_ bf_ (pv 5) e_) e_)))))))),?_⟩
  refine⟨_,rfl,by decide,by decide,K_ (n:=(8:Int).toNat) (fun i σ H'=>∃(far:Int) (v3:Option V),σ=[some (.ref st),some (.int m),some (.int far),v3,none,none,none]/\0<=far/\St7 H' st q ds/\Kp [st] H H') ⟨0,none,rfl,Int.le_refl _,S,Kp.refl⟩ ?_ ?_⟩
  ·rintro i σ H1 hi ⟨far,v3,rfl,hf,S1,k1⟩
   refine⟨_,rfl,_,_,rfl,rfl,.inr ⟨by decide,by decide⟩,_,rfl,st,q,ds,10007,rfl,S1,by decide,fun r H2 r0 r1 S2 k2=>?_⟩
   refine⟨_,_,rfl,rfl,far*10007+r,some (.int (0+(i:Int))),rfl,by omega,S2,k1.trans k2⟩
  ·rintro σ H1 ⟨far,v3,rfl,hf,S1,k1⟩
   refine⟨_,rfl,_,rfl,st,q,ds,10007,rfl,S1,by decide,fun x H2 x0 x1 S2 k2=>?_⟩
   have em:(0:Int)<(m:Int)+1:=by omega
   obtain⟨mn,hmn,emn⟩:∃mn:Int,(0<mn/\mn<=m)/\(if (m:Int)<9 then (m:Int) else 9)=mn:=⟨_,by split <;> omega,rfl⟩
   refine⟨_,rfl,_,_,rfl,rfl,(by show(0:Int)<60;decide),_,rfl,_,_,rfl,rfl,_,_,rfl,rfl,em,?_⟩
   refine⟨_,rfl,_,rfl,_,_,rfl,rfl,_,_,rfl,rfl,em,?_⟩
   refine⟨_,rfl,_,rfl,_,_,rfl,rfl,_,_,rfl,rfl,em,?_⟩
   refine⟨_,rfl,_,rfl,_,rfl,9,(m:Int),rfl,?_⟩
   rw[emn]
   refine⟨_,_,rfl,rfl,hmn.1,_,_,rfl,rfl,_,rfl,sz (by simp),fun l hl=>?_⟩
   obtain⟨L,eL,hL⟩:=cn_ (ns:=[x % 60 % ((m:Int)+1),x % ((m:Int)+1),far % ((m:Int)+1),(m:Int)-x % mn,(m:Int)]) (i:=x / 60 % 5) (Pr:=fun n=>0<=n/\n<=(m:Int)) (by omega) (by simp;omega) (by
    intro y hy
    simp only[List.mem_cons,List.not_mem_nil,or_false] at hy
    have a1:=Int.emod_nonneg (x % 60) (show(m:Int)+1≠0 by omega)
    have a2:=Int.emod_lt_of_pos (x % 60) em
    have a3:=Int.emod_nonneg x (show(m:Int)+1≠0 by omega)
    have a4:=Int.emod_lt_of_pos x em
    have a5:=Int.emod_nonneg far (show(m:Int)+1≠0 by omega)
    have a6:=Int.emod_lt_of_pos far em
    have a7:=Int.emod_nonneg x (show mn≠0 by omega)
    have a8:=Int.emod_lt_of_pos x hmn.1
    rcases hy with rfl | rfl | rfl | rfl | rfl <;> omega)
   refine⟨_,rfl,_,rfl,_,_,rfl,rfl,⟨by decide,by decide⟩,_,_,rfl,rfl,(by show(0:Int)<5;decide),br_ c_ eL ?_⟩
   obtain⟨r,rfl⟩:∃r:Nat,L=(r:Int):=⟨L.toNat,by omega⟩
   exact k r _ (by omega) (S2.keep (h_ hl)) ((k1.trans k2).trans (Kp.of (h_ hl)))
end
end Hv
namespace Mx
open Me Mg Mu
theorem mk_nr(b:Nat)(ps:List Nat)(ws:List Int):Mk (nrI b 0 ps ws):=fun i=>nrI_01 b 0 ps ws i
theorem qU_{b:Nat}(hb:0<b){ps:List Nat}{ws:List Int}(lp:0<ps.length)(hw:ws.length=ps.sum){row:List Int}(h0:(Ma.cuts ps ws)[0]?=some row){n:Nat}(hn:n<b ^ ps.sum):(aK_ b row ((Ma.cuts ps ws).drop 1)).2 n=nrI b 0 ps ws n:=by
 rw[nO_ hb hw h0 hn]
 unfold nrI
 have hl:(sumsN b n ps ws).length=ps.length:=Ma.U_ _ _
 have hs:=hi_ (sumsN b n ps ws) (by omega)
 by_cases h:sprd (sumsN b n ps ws)=0
 ·rw[if_pos h,if_pos (by rw[h];decide)]
 ·rw[if_neg h,if_neg (by intro z;have z':sprd (sumsN b n ps ws)<=0:=z;omega)]
theorem evS_nr{b:Nat}(hb:0<b){ps:List Nat}{ws:List Int}(lp:0<ps.length)(hw:ws.length=ps.sum){row:List Int}(h0:(Ma.cuts ps ws)[0]?=some row){n:Nat}(hn:n<=b ^ ps.sum):Hv.evS b row ((Ma.cuts ps ws).drop 1) n=ns (fun m=>nrI b 0 ps ws m*(m:Int)) n:=by
 unfold Hv.evS
 refine x_ fun i hi=>?_
 rw[qU_ hb lp hw h0 (by omega)]
theorem nr_even{b:Nat}{ps:List Nat}{ws:List Int}(lp:0<ps.length)(n:Nat):nrI b 0 ps ws n=if decide (Hv.spread (Hv.bX_ b n ps ws)=0)=true then 1 else 0:=by
 unfold nrI
 have hl:(sumsN b n ps ws).length=ps.length:=Ma.U_ _ _
 have hs:=hi_ (sumsN b n ps ws) (by omega)
 have e:Hv.spread (Hv.bX_ b n ps ws)=sprd (sumsN b n ps ws):=rfl
 rw[e]
 by_cases h:sprd (sumsN b n ps ws)=0
 ·rw[decide_eq_true h,if_pos (by rw[h];decide),if_pos rfl]
 ·rw[decide_eq_false h,if_neg (by intro z;have z':sprd (sumsN b n ps ws)<=0:=z;omega),if_neg (by decide)]
end Mx
namespace Hv
open PySem L2
def eX_:Sp:=fun vs H Q _=>∃(st l:Addr) (ds:List Int) (f a c:Addr) (b:Nat) (ps:List Nat) (ws:List Int),vs=[.ref st,.ref f]/\St7 H st l ds/\FrAt H f a c b ps ws/\∀H',St7 H' st l ds->Kp [st] H H'->Q (.bl true) H'
theorem T_{i j:Int}(h:i=j):(!decide (V.int i=V.int j))=false:=by rw[h];simp
section
variable{P:Program}{w:World}{K:PySem.W.Frag}{mg:Str->Option Value}{base:Heap}
theorem dD_:FnScope ["store","frame","many","n","below","last"] ["store","frame"] (i_ bc_):=⟨rfl,rfl,rfl,by decide +kernel,rfl,by decide +kernel,by decide +kernel⟩
theorem gk_{f:Addr}{fd:FuncData}(F:Fun K "_law_sums_right" "_law_sums_right" bc_ f fd)(T:Txt mg)(D6:Def P w K mg base 6 "how_many" ["frame"] an_)(DB:Def P w K mg base 10 "sum_even_below" ["frame","n"] bH_)(DE:Def P w K mg base 11 "sum_even" ["frame"] cs_)
  (DN:Def P w K mg base 2 "_law_some_number" ["store","many"] hl_) (DV:Def P w K mg base 11 "is_even" ["frame","n"] iy_) (DL:Def P w K mg base 12 "last_even" ["frame","n"] bK_) (DC:Def P w K mg base 12 "even_below" ["frame","n"] cc_):FnOk P w K mg base CX0 13 f fd ["store","frame"] eX_:=by
 refine F.ok dD_ (fun vs H Q E h=>?_) (fun cdv A outer s H vs Q E hr h=>?_)
 ·obtain⟨st,q,ds,g,a,c,b,ps,ws,rfl,_⟩:=h;rfl
 ·obtain⟨st,q,ds,g,a,c,b,ps,ws,rfl,S,G,k⟩:=h
  have nd:=dD_.nd
  have ok:=G.ok
  have b0:0<b:=by have:=ok.b2;omega
  have lp:0<ps.length:=by have:=ok.l2;omega
  have hsum:=ok.sum
  refine⟨_,b_ (k_ (i:=2) nd rfl (Or.inl rfl) (m_ D6 hr.mo (by rfl) (a_ (pv 1) d_)))
   (b_ (ae_ (E_ el_ (m_ DB hr.mo (by rfl) (a_ (pv 1) (a_ e_ d_))) e_ (nomark _)) (g_ (o_ bw_)) D_)
   (b_ (ae_ (E_ el_ (m_ DB hr.mo (by rfl) (a_ (pv 1) (a_ (pv 2) d_))) (m_ DE hr.mo (by rfl) (a_ (pv 1) d_)) (nomark _)) (g_ (o_ bw_)) D_)
   (b_ (k_ (i:=3) nd rfl (Or.inl rfl) (q_ (eb_ rfl) (by rfl) T.min boot_min (a_ (m_ DN hr.mo (by rfl) (a_ (pv 0) (a_ (pv 2) d_))) (a_ (l_ Q_ (pv 2) e_) d_))))
   (b_ (k_ (i:=4) nd rfl (Or.inl rfl) (m_ DB hr.mo (by rfl) (a_ (pv 1) (a_ (pv 3) d_))))
   (b_ (ae_ (E_ el_ (l_ Q_ (m_ DB hr.mo (by rfl) (a_ (pv 1) (a_ (l_ r_ (pv 3) e_) d_))) (pv 4)) (l_ F_ (pv 3) (cA_ mF_ (by rfl) T.int boot_int (a_ (m_ DV hr.mo (by rfl) (a_ (pv 1) (a_ (pv 3) d_))) d_))) (nomark _)) (g_ (o_ bw_)) D_)
   (b_ (k_ (i:=5) nd rfl (Or.inl rfl) (m_ DL hr (by rfl) (a_ (pv 1) (a_ (pv 3) d_))))
   (b_ (ae_ (E_ qb_ (pv 5) iX_ (nomark _)) (g_ (o_ (fw_ ls_ (pv 4) e_ (nomark _)))) D_)
   (g_ (o_ (iY_ gh_ gh_ (pv 5) (pv 4) (l_ oU_ (pv 5) (m_ DC hr (by rfl) (a_ (pv 1) (a_ (pv 3) d_)))))))))))))),?_⟩
  obtain⟨row0,hrow0⟩:∃row0,(Ma.cuts ps ws)[0]?=some row0:=⟨_,List.getElem?_eq_getElem (by rw[Ma.A_];omega)⟩
  have hev:=fun(n:Nat) (hn:n<=b ^ ps.sum)=>Mx.evS_nr b0 lp ok.wl hrow0 (n:=n) hn
  have hb1:b ^ ps.sum<=16 ^ 24:=Nat.le_trans (Nat.pow_le_pow_left ok.b16 _) (Nat.pow_le_pow_right (by decide) (by omega))
  have hb2:(16:Nat) ^ 24=79228162514264337593543950336:=by decide
  have hbp:0<b ^ ps.sum:=Nat.pow_pos b0
  refine⟨_,rfl,g,a,c,b,ps,ws,rfl,G,fun H1 s1=>?_⟩
  have G1:=G.keep s1
  refine⟨_,rfl,g,a,c,b,ps,ws,0,rfl,G1,Nat.zero_le _,fun row H2 s2 hrow=>⟨rfl,?_⟩⟩
  rw[hrow0] at hrow
  cases hrow
  refine⟨_,rfl,?_⟩
  rw[T_ (show evS b row0 ((Ma.cuts ps ws).drop 1) 0=0 from rfl)]
  have S2:=s1.trans s2
  have G2:=G.keep S2
  refine iteF ⟨_,rfl,_,rfl,g,a,c,b,ps,ws,b ^ ps.sum,rfl,G2,Nat.le_refl _,fun row H3 s3 hrow=>?_⟩
  rw[hrow0] at hrow
  cases hrow
  have S3:=S2.trans s3
  refine⟨_,rfl,g,a,c,b,ps,ws,rfl,G.keep S3,fun row H4 s4 hrow=>⟨rfl,?_⟩⟩
  rw[hrow0] at hrow
  cases hrow
  refine⟨_,rfl,?_⟩
  rw[T_ rfl]
  have S4:=S3.trans s4
  refine iteF ⟨_,rfl,_,rfl,st,q,ds,b ^ ps.sum,rfl,S.keep S4,hbp,fun r H5 hr5 St5 k5=>?_⟩
  have K5:Kp [st] H H5:=(Kp.of S4).trans k5
  have G5:=(G.keep S4).kp7 (S.keep S4) k5
  refine⟨_,rfl,_,_,rfl,rfl,_,_,rfl,?_⟩
  obtain⟨n,hn,en⟩:∃n:Nat,n<b ^ ps.sum/\(if ((b ^ ps.sum:Nat):Int)-1<(r:Int) then ((b ^ ps.sum:Nat):Int)-1 else (r:Int))=(n:Int):=by
   by_cases h:((b ^ ps.sum:Nat):Int)-1<(r:Int)
   ·rw[if_pos h];exact⟨b ^ ps.sum-1,by omega,by omega⟩
   ·rw[if_neg h];exact⟨r,by omega,rfl⟩
  dsimp only
  rw[en]
  refine⟨_,rfl,_,rfl,g,a,c,b,ps,ws,n,rfl,G5,by omega,fun row H6 s6 hrow=>?_⟩
  rw[hrow0] at hrow
  cases hrow
  have G6:=G5.keep s6
  refine⟨_,rfl,_,rfl,_,_,rfl,rfl,g,a,c,b,ps,ws,n+1,by simp,G6,by omega,fun row H7 s7 hrow=>?_⟩
  rw[hrow0] at hrow
  cases hrow
  have S7:=s6.trans s7
  refine⟨_,rfl,_,_,rfl,rfl,_,rfl,_,rfl,_,rfl,g,a,c,b,ps,ws,n,rfl,G5.keep S7,hn,fun H8 s8=>.inr ⟨_,rfl,_,_,rfl,rfl,.inr ?_,rfl,?_⟩⟩
  ·split <;> decide
  have S8:=S7.trans s8
  refine⟨_,rfl,?_⟩
  rw[T_ (by
   rw[hev (n+1) (by omega),hev n (by omega),<-Mx.nr_even lp n]
   have e1:Mg.ns (fun m=>Mx.nrI b 0 ps ws m*(m:Int)) (n+1)=Mg.ns (fun m=>Mx.nrI b 0 ps ws m*(m:Int)) n+Mx.nrI b 0 ps ws n*(n:Int):=rfl
   rw[e1,Int.mul_comm (n:Int)]
   omega)]
  refine iteF ⟨_,rfl,_,rfl,g,a,c,b,ps,ws,n,rfl,G5.keep S8,by omega,fun H9 s9 h0=>?_,fun m H9 s9 hm h1 h2=>?_⟩
  ·refine⟨_,rfl,rfl,_,rfl,iteT ⟨_,rfl,rfl,?_⟩⟩
   have e:evS b row0 ((Ma.cuts ps ws).drop 1) n=0:=by rw[hev n (by omega)];exact Mx.sum_nobody (Mx.mk_nr b ps ws) h0
   rw[e,decide_eq_true rfl]
   exact k H9 (St5.keep (S8.trans s9)) (K5.trans (Kp.of (S8.trans s9)))
  ·refine⟨_,rfl,rfl,_,rfl,iteF ?_⟩
   have hl:=Mx.sum_last (Mx.mk_nr b ps ws) hm h1 h2
   rw[<-hev n (by omega)] at hl
   refine⟨_,rfl,_,rfl,_,_,rfl,rfl,_,rfl,?_⟩
   rw[decide_eq_true hl.1]
   have nb:=Mx.nrN_bd b 0 ps ws n
   have nn:=Mx.nrN_nn b 0 ps ws n
   have h200:(2:Nat) ^ 200=1606938044258990275541962092341162602522202993782792835301376:=by decide
   refine iteT ⟨_,rfl,_,rfl,_,rfl,g,a,c,b,ps,ws,n,rfl,(G5.keep S8).keep s9,by omega,fun H10 s10=>⟨_,_,rfl,rfl,⟨by omega,by omega⟩,_,_,rfl,rfl,?_⟩⟩
   have e2:decide (evS b row0 ((Ma.cuts ps ws).drop 1) n<=(m:Int)*Mx.nrN b 0 ps ws n)=true:=decide_eq_true hl.2
   dsimp only
   rw[e2]
   exact k H10 (St5.keep ((S8.trans s9).trans s10)) (K5.trans (Kp.of ((S8.trans s9).trans s10)))
end
end Hv
namespace Mu
open Me Mg
def evB(b:Nat)(ps:List Nat)(ws:List Int)(n:Nat):Bool:=decide (sprd (sumsN b n ps ws)=0)
def evL(b:Nat)(ps:List Nat)(ws:List Int)(n:Nat):List Nat:=(List.range n).filter (evB b ps ws)
def hgt(b:Nat)(ps:List Nat)(ws:List Int)(n:Nat):Int:=(sumsN b n ps ws).getD 0 0
theorem lH_(e:Nat->Bool):∀n:Nat,ns (fun m=>(if e m=true then 1 else 0)*(m:Int)) n=(((List.range n).filter e).map fun(m:Nat)=>(m:Int)).sum
 | 0=>rfl
 | n+1=>by
  rw[ns,lH_ e n,List.range_succ,List.filter_append,List.map_append,List.sum_append]
  by_cases h:e n=true
  ·simp[h]
  ·simp[h]
theorem mD_(w:Nat->Bool)(k:Nat->Int)(x:Int):∀n,x∈keys (cd w k n)↔∃i,i<n/\w i=true/\k i=x
 | 0=>by simp[cd,keys]
 | n+1=>by
  unfold cd
  have ih:=mD_ w k x n
  by_cases h:w n=true
  ·rw[if_pos h,addTo,dg_,ih]
   constructor
   ·rintro(⟨i,a,b,c⟩ | e)
    ·exact⟨i,by omega,b,c⟩
    ·exact⟨n,by omega,h,e.symm⟩
   ·rintro⟨i,a,b,c⟩
    by_cases z:i=n
    ·subst z;exact .inr c.symm
    ·exact .inl ⟨i,by omega,b,c⟩
  ·rw[if_neg h,ih]
   constructor
   ·rintro⟨i,a,b,c⟩;exact⟨i,by omega,b,c⟩
   ·rintro⟨i,a,b,c⟩
    by_cases z:i=n
    ·subst z;exact absurd b h
    ·exact⟨i,by omega,b,c⟩
theorem iw_{b:Nat}(hb:0<b):∀(ws:List Int) (i:Nat),i<b ^ ws.length->Sum1 b ws (ws1 b i ws)
 | [],i,_=>by show ws1 b i []=0;simp[ws1,Ma.wts]
 | w::ws,i,hi=>by
  have hL0:0<b ^ ws.length:=Nat.pow_pos hb
  have em:i=i / b ^ ws.length*b ^ ws.length+i % b ^ ws.length:=by rw[Nat.mul_comm];exact(Nat.div_add_mod i _).symm
  have hm2:i % b ^ ws.length<b ^ ws.length:=Nat.mod_lt _ hL0
  have hd:i / b ^ ws.length<b:=Nat.div_lt_of_lt_mul (by rw[List.length_cons,Nat.pow_succ] at hi;exact hi)
  rw[em]
  generalize i / b ^ ws.length=d at *
  generalize i % b ^ ws.length=m at *
  rw[dl_ hd hm2]
  refine⟨d,hd,?_⟩
  have e:(d:Int)*w+ws1 b m ws-(d:Int)*w=ws1 b m ws:=by omega
  rw[e]
  exact iw_ hb ws m hm2
theorem kf_{p:Nat->Bool}{n d:Nat}{r:List Nat}(h:(List.range n).filter p=d::r):∀x,x<d->p x=false:=fun x hx=>by
 have pw:((List.range n).filter p).Pairwise (·<·):=(List.pairwise_lt_range).filter p
 have hd:d∈(List.range n).filter p:=by rw[h];simp
 have hdn:=List.mem_range.mp (List.mem_filter.mp hd).1
 rw[h] at pw
 by_cases z:p x=true
 ·have hm:x∈(List.range n).filter p:=List.mem_filter.mpr ⟨List.mem_range.mpr (by omega),z⟩
  rw[h] at hm
  rcases List.mem_cons.mp hm with e | hm
  ·omega
  ·have:=(List.pairwise_cons.mp pw).1 x hm
   omega
 ·simpa using z
theorem ge_{b:Nat}(hb:0<b):∀(ws:List Int) (t:Int),t∈keys (waysW b ws)->Ma.num b (rowL b ws t)<b ^ ws.length/\ws1 b (Ma.num b (rowL b ws t)) ws=t/\∀i,i<Ma.num b (rowL b ws t)->ws1 b i ws≠t
 | [],t,h=>by
  have ht:t=0:=aV_.mp h
  subst ht
  refine⟨by simp[rowL,Ma.num],by simp[ws1,Ma.wts],fun i hi=>?_⟩
  simp[rowL,Ma.num] at hi
 | w::ws,t,h=>by
  obtain⟨d,r,e1,hd,hk,er⟩:=iL_ h
  obtain⟨i1,i2,i3⟩:=ge_ hb ws _ hk
  have hL0:0<b ^ ws.length:=Nat.pow_pos hb
  rw[er,Ma.nw_,cz_]
  generalize Ma.num b (rowL b ws (t-(d:Int)*w))=R at i1 i2 i3⊢
  refine⟨?_,?_,fun i hi z=>?_⟩
  ·rw[List.length_cons,Nat.pow_succ]
   have:(d+1)*b ^ ws.length<=b*b ^ ws.length:=Nat.mul_le_mul_right _ hd
   rw[Nat.add_mul,Nat.mul_comm b] at this
   omega
  ·rw[dl_ hd i1,i2];omega
  ·have em:i=i / b ^ ws.length*b ^ ws.length+i % b ^ ws.length:=by rw[Nat.mul_comm];exact(Nat.div_add_mod i _).symm
   have hm2:i % b ^ ws.length<b ^ ws.length:=Nat.mod_lt _ hL0
   generalize i / b ^ ws.length=d2 at *
   generalize i % b ^ ws.length=m at *
   subst em
   have hle:d2<=d:=by
    rcases Nat.lt_or_ge d d2 with q | q
    ·have:(d+1)*b ^ ws.length<=d2*b ^ ws.length:=Nat.mul_le_mul_right _ q
     rw[Nat.add_mul] at this
     omega
    ·exact q
   rw[dl_ (by omega) hm2] at z
   rcases Nat.lt_or_ge d2 d with q | q
   ·have hf:=kf_ e1 d2 q
    have hs:t-(d2:Int)*w∈keys (waysW b ws):=by
     have ez:t-(d2:Int)*w=ws1 b m ws:=by omega
     rw[ez]
     exact aV_.mpr (iw_ hb ws m hm2)
    rw[by_.mpr hs] at hf
    cases hf
   ·have ed:d2=d:=by omega
    subst ed
    exact i3 m (by omega) (by omega)
theorem ed_{b:Nat}(hb:0<b)(t:Int):∀(ps:List Nat) (ws:List Int),ws.length=ps.sum->(∀row∈Ma.cuts ps ws,t∈keys (waysW b row))->(allR b (Ma.cuts ps ws) t).length=ps.sum/\Ma.num b (allR b (Ma.cuts ps ws) t)<b ^ ps.sum/\(∀v∈sumsN b (Ma.num b (allR b (Ma.cuts ps ws) t)) ps ws,v=t)/\
  ∀n,n<Ma.num b (allR b (Ma.cuts ps ws) t)->¬ ∀v∈sumsN b n ps ws,v=t
 | [],ws,hw,_=>by
  refine⟨rfl,by simp[allR,Ma.cuts,Ma.num],fun v hv=>?_,fun n hn=>?_⟩
  ·have e:sumsN b (Ma.num b (allR b (Ma.cuts [] ws) t)) [] ws=[]:=rfl
   rw[e] at hv
   simp at hv
  ·simp[allR,Ma.cuts,Ma.num] at hn
 | p::ps,ws,hw,hk=>by
  rw[List.sum_cons] at hw
  have hl:(ws.take p).length=p:=by rw[List.length_take];omega
  have e:allR b (Ma.cuts (p::ps) ws) t=rowL b (ws.take p) t++allR b (Ma.cuts ps (ws.drop p)) t:=by simp[allR,Ma.cuts]
  obtain⟨i0,i1,i2,i3⟩:=ed_ hb t ps (ws.drop p) (by rw[List.length_drop];omega) fun row hr=>hk row (by rw[Ma.cuts];exact List.mem_cons_of_mem _ hr)
  obtain⟨j1,j2,j3⟩:=ge_ hb (ws.take p) t (hk _ (by rw[Ma.cuts];exact List.mem_cons_self))
  rw[hl] at j1
  rw[e,pc_,i0,List.length_append,cz_,hl,List.sum_cons,i0]
  generalize Ma.num b (allR b (Ma.cuts ps (ws.drop p)) t)=A at i1 i2 i3⊢
  generalize Ma.num b (rowL b (ws.take p) t)=R at j1 j2 j3⊢
  have hL0:0<b ^ ps.sum:=Nat.pow_pos hb
  refine⟨rfl,?_,?_,fun n hn z=>?_⟩
  ·rw[Nat.pow_add]
   have:(R+1)*b ^ ps.sum<=b ^ p*b ^ ps.sum:=Nat.mul_le_mul_right _ j1
   rw[Nat.add_mul] at this
   omega
  ·rw[am_ hb i1 hw]
   intro v hv
   rcases List.mem_cons.mp hv with rfl | hv
   ·exact j2
   ·exact i2 v hv
  ·have em:n=n / b ^ ps.sum*b ^ ps.sum+n % b ^ ps.sum:=by rw[Nat.mul_comm];exact(Nat.div_add_mod n _).symm
   have hm2:n % b ^ ps.sum<b ^ ps.sum:=Nat.mod_lt _ hL0
   generalize n / b ^ ps.sum=d2 at *
   generalize n % b ^ ps.sum=m at *
   subst em
   have hle:d2<=R:=by
    rcases Nat.lt_or_ge R d2 with q | q
    ·have:(R+1)*b ^ ps.sum<=d2*b ^ ps.sum:=Nat.mul_le_mul_right _ q
     rw[Nat.add_mul] at this
     omega
    ·exact q
   rw[am_ hb hm2 hw] at z
   rcases Nat.lt_or_ge d2 R with q | q
   ·exact j3 d2 q (z _ List.mem_cons_self)
   ·have ed:d2=R:=by omega
    subst ed
    exact i3 m (by omega) fun v hv=>z v (List.mem_cons_of_mem _ hv)
end Mu
namespace Mu
open Me Mg
theorem cl_{b:Nat}{ps:List Nat}{ws:List Int}{n m:Nat}:m∈evL b ps ws n↔m<n/\evB b ps ws m=true:=by
 unfold evL
 rw[List.mem_filter,List.mem_range]
theorem pJ_{b:Nat}{ps:List Nat}{ws:List Int}(lp:0<ps.length){n:Nat}{t:Int}:(evB b ps ws n=true/\hgt b ps ws n=t)↔∀v∈sumsN b n ps ws,v=t:=by
 have hl:(sumsN b n ps ws).length=ps.length:=Ma.U_ _ _
 unfold evB hgt
 cases e:sumsN b n ps ws with
 | nil=>rw[e] at hl;simp at hl;omega
 | cons x v =>
  rw[decide_eq_true_iff,cq_]
  simp only[List.getD_cons_zero,List.mem_cons]
  constructor
  ·rintro⟨h1,rfl⟩ y (rfl | hy)
   ·rfl
   ·exact h1 y hy
  ·intro h
   have hx:=h x (.inl rfl)
   exact⟨fun y hy=>(h y (.inr hy)).trans hx.symm,hx⟩
section
variable{b:Nat}{ps:List Nat}{ws row:List Int}
theorem fJ_(hb:0<b)(hw:ws.length=ps.sum)(lp:0<ps.length)(h0:(Ma.cuts ps ws)[0]?=some row)(x:Int):x∈(evL b ps ws (b ^ ps.sum)).map (hgt b ps ws)↔x∈evK b (Ma.cuts ps ws) row:=by
 have p:=(even_perm hb hw lp h0).map (·.1)
 have e:x∈evK b (Ma.cuts ps ws) row↔x∈keys (cd (evB b ps ws) (hgt b ps ws) (b ^ ps.sum)):=p.mem_iff
 rw[e,mD_,List.mem_map]
 constructor
 ·rintro⟨m,hm,rfl⟩
  obtain⟨a1,a2⟩:=cl_.mp hm
  exact⟨m,a1,a2,rfl⟩
 ·rintro⟨m,a1,a2,a3⟩
  exact⟨m,cl_.mpr ⟨a1,a2⟩,a3⟩
theorem jk_{l m:List Int}(hm:0<m.length)(h:∀x,x∈l↔x∈m):0<l.length/\Ma.maxL l=Ma.maxL m/\Ma.minL l=Ma.minL m:=by
 obtain⟨a1,a2⟩:=Ma.s_ m hm
 have hl:0<l.length:=List.length_pos_of_mem ((h _).mpr a1)
 obtain⟨b1,b2⟩:=Ma.v_ m hm
 obtain⟨c1,c2⟩:=Ma.s_ l hl
 obtain⟨d1,d2⟩:=Ma.v_ l hl
 have e1:=a2 _ ((h _).mp c1)
 have e2:=c2 _ ((h _).mpr a1)
 have e3:=b2 _ ((h _).mp d1)
 have e4:=d2 _ ((h _).mpr b1)
 exact⟨hl,by omega,by omega⟩
end
end Mu
namespace L2
open PySem PySem.Spec PyProof.Rows
section
variable{X:Cx}
theorem lq_:OpR X (compareOp .IsNot) (fun x y H Q=>∃b c,x=.bl b/\y=.bl c/\Q (.bl (!(b==c))) H):=by
 intro pins s σ H x y v u Q I rx ry h
 obtain⟨b,c,rfl,rfl,q⟩:=h
 cases rx
 cases ry
 exact isnot_bool ⟨.bl _,H,I,rfl,q⟩
end
end L2
namespace Mx
open Me Mg Mu
theorem qf_{b:Nat}{ps:List Nat}{ws:List Int}(lp:0<ps.length){n:Nat}(h:nrI b 0 ps ws n=1):evB b ps ws n=true:=by
 have hl:(sumsN b n ps ws).length=ps.length:=Ma.U_ _ _
 have hs:=hi_ (sumsN b n ps ws) (by omega)
 unfold nrI at h
 unfold evB
 by_cases z:sprd (sumsN b n ps ws)<=(0:Nat)
 ·exact decide_eq_true (by have z':sprd (sumsN b n ps ws)<=0:=z;omega)
 ·rw[if_neg z] at h;cases h
theorem hgt_at{b:Nat}{ps:List Nat}{ws:List Int}(lp:0<ps.length)(n:Nat):(sumsN b n ps ws)[0]?=some (hgt b ps ws n):=by
 have hl:(sumsN b n ps ws).length=ps.length:=Ma.U_ _ _
 unfold hgt
 cases e:sumsN b n ps ws with
 | nil=>rw[e] at hl;simp at hl;omega
 | cons x v=>rfl
theorem less_sum{b:Nat}(hb:0<b){ps:List Nat}{ws:List Int}(hw:ws.length=ps.sum)(lp:0<ps.length){row:List Int}(h0:(Ma.cuts ps ws)[0]?=some row)(hne:0<(evK b (Ma.cuts ps ws) row).length)
  (hg:∀r∈Ma.cuts ps ws,Ma.maxL (evK b (Ma.cuts ps ws) row)∈keys (waysW b r)) {m:Nat} (hm:m<Ma.num b (allR b (Ma.cuts ps ws) (Ma.maxL (evK b (Ma.cuts ps ws) row)))) (h1:nrI b 0 ps ws m=1):hgt b ps ws m<Ma.maxL (evK b (Ma.cuts ps ws) row):=by
 obtain⟨_,hA,_,hAl⟩:=ed_ hb (Ma.maxL (evK b (Ma.cuts ps ws) row)) ps ws hw hg
 have e1:=qf_ lp h1
 have mem:hgt b ps ws m∈evK b (Ma.cuts ps ws) row:=(fJ_ hb hw lp h0 _).mp (List.mem_map.mpr ⟨m,cl_.mpr ⟨by omega,e1⟩,rfl⟩)
 have le:=(Ma.s_ _ hne).2 _ mem
 have ne:hgt b ps ws m≠Ma.maxL (evK b (Ma.cuts ps ws) row):=fun z=>hAl m hm ((pJ_ lp).mp ⟨e1,z⟩)
 omega
end Mx
namespace Hv
open PySem L2
def spFrT:Sp:=fun vs H Q _=>∃f a c b ps ws,vs=[.ref f]/\FrAt H f a c b ps ws/\∀H',Same H H'->Q (.bl true) H'
theorem gA_(g:List (Int×Int)):((intsD g).map fun q=>kV q.1)=(Me.keys g).map V.int:=by
 unfold intsD Me.keys
 rw[List.map_map,List.map_map]
 rfl
theorem nA_(ns:List Int):(PyData.list (ns.map PyData.int)).canLay0=true:=by simp only[PyData.canLay0,lays]
theorem ke_(ns:List Int):(PyData.list (ns.map PyData.int)).depth<=60:=by
 simp only[PyData.depth,depths]
 decide
section
variable{P:Program}{w:World}{K:PySem.W.Frag}{mg:Str->Option Value}{base:Heap}
theorem ez_:FnScope ["frame","by_sums","number","many","most","ahead","turn"] ["frame"] (i_ ah_):=⟨rfl,rfl,rfl,by decide +kernel,rfl,by decide +kernel,by decide +kernel⟩
theorem dj_{f:Addr}{fd:FuncData}(F:Fun K "_law_greatest_right" "_law_greatest_right" ah_ f fd)(T:Txt mg)(DE:Def P w K mg base 6 "even_by_sums" ["frame"] bL_)(DF:Def P w K mg base 8 "first_greatest" ["frame"] ax_)(DG:Def P w K mg base 7 "greatest_sum" ["frame"] ad_)
  (DM:Def P w K mg base 7 "least_sum" ["frame"] bJ_) (DV:Def P w K mg base 11 "is_even" ["frame","n"] iy_) (DS:Def P w K mg base 9 "part_sums" ["frame","n"] ix_) (DL:Def P w K mg base 12 "last_even" ["frame","n"] bK_):FnOk P w K mg base CX0 13 f fd ["frame"] spFrT:=by
 refine F.ok ez_ (fun vs H Q E h=>?_) (fun cdv A outer s H vs Q E hr h=>?_)
 ·obtain⟨g,a,c,b,ps,ws,rfl,_⟩:=h;rfl
 ·obtain⟨f0,a,c,b,ps,ws,rfl,G,k⟩:=h
  have nd:=ez_.nd
  have hu:=hr.units
  have hu2:=cD_ hr
  have ok:=G.ok
  have b0:0<b:=by have:=ok.b2;omega
  have l2:=ok.l2
  have l4:=ok.l4
  have lp:0<ps.length:=by omega
  refine⟨_,b_ (k_ (i:=1) nd rfl (Or.inl rfl) (m_ DE hr.mo (by rfl) (a_ (pv 0) d_)))
   (b_ (lf_ (m_ DF hr.mo (by rfl) (a_ (pv 0) d_)) (df_ rfl (z_ (n_ (i:=2) nd rfl (Or.inl rfl)) (z_ (n_ (i:=3) nd rfl (Or.inl rfl)) aB_))))
   (b_ (k_ (i:=4) nd rfl (Or.inl rfl) (m_ DG hr.mo (by rfl) (a_ (pv 0) d_)))
   (b_ (ae_ (PW.pt (hC_ (E_ el_ (pv 4) (q_ (cG_ rfl) (by rfl) T.max boot_max (a_ (cA_ (eH_ rfl) (by rfl) T.list boot_list (a_ (pv 1) d_)) d_)) (nomark _)) (dO_ (E_ el_ (m_ DM hr.mo (by rfl) (a_ (pv 0) d_)) (q_ (bA_ rfl) (by rfl) T.min boot_min (a_ (cA_ (eH_ rfl) (by rfl) T.list boot_list (a_ (pv 1) d_)) d_)) (nomark _))))) (g_ (o_ bw_)) D_)
   (b_ (ae_ (E_ el_ (ar_ hu2 (pv 1) (pv 4) (fun _ _=>rfl)) (pv 3) (nomark _)) (g_ (o_ bw_)) D_)
   (b_ (ae_ (PW.pt (hC_ (E_ lq_ (m_ DV hr.mo (by rfl) (a_ (pv 0) (a_ (pv 2) d_))) bw_ (nomark _)) (dO_ (E_ (qa_ hu) (m_ DS hr.mo (by rfl) (a_ (pv 0) (a_ (pv 2) d_))) (l_ pY_ (P_ (a_ (pv 4) d_)) (lenS T.len (by rfl) (ixt (pv 0) e_))) (nomark _))))) (g_ (o_ bw_)) D_)
   (b_ (k_ (i:=5) nd rfl (Or.inl rfl) (m_ DL hr (by rfl) (a_ (pv 0) (a_ (pv 2) d_))))
   (b_ (B_ PassesOwn.never rfl (C_ (by rfl) T.range (a_ e_ d_)) (n_ (i:=6) nd rfl (Or.inl rfl))
    (g_ (ae_ (E_ oT_ (pv 5) iX_ (nomark _))
     (b_ (ae_ (E_ oW_ (ixl (m_ DS hr.mo (by rfl) (a_ (pv 0) (a_ (pv 5) d_))) e_) (pv 4) (nomark _)) (g_ (o_ bw_)) D_)
     (g_ (k_ (i:=5) nd rfl (Or.inl rfl) (m_ DL hr (by rfl) (a_ (pv 0) (a_ (pv 5) d_)))))) D_)))
   (g_ (o_ bw_))))))))),?_⟩
  obtain⟨row0,hrow0⟩:∃row0,(Ma.cuts ps ws)[0]?=some row0:=⟨_,List.getElem?_eq_getElem (by rw[Ma.A_];omega)⟩
  have hne:=pn_ G row0
  have hgall:∀r∈Ma.cuts ps ws,Ma.maxL (Me.evK b (Ma.cuts ps ws) row0)∈Me.keys (Me.waysW b r):=fun r hr=>Me.ml_ (Ma.s_ _ hne).1 hr
  have hless:=fun(m:Nat) h1 h2=>Mx.less_sum b0 ok.wl lp hrow0 hne hgall (m:=m) h1 h2
  obtain⟨_,hA,hAs,_⟩:=Mu.ed_ b0 (Ma.maxL (Me.evK b (Ma.cuts ps ws) row0)) ps ws ok.wl hgall
  generalize hnum:Ma.num b (Me.allR b (Ma.cuts ps ws) (Ma.maxL (Me.evK b (Ma.cuts ps ws) row0)))=num at hA hAs hless
  refine⟨_,rfl,f0,a,c,b,ps,ws,rfl,G,fun p1 g H1 hp1 s1 h1 ⟨row,hrow,perm⟩=>?_⟩
  rw[hrow0] at hrow
  cases hrow
  have pk:(Me.keys g).Perm (Me.evK b (Ma.cuts ps ws) row0):=perm.map _
  have kl:0<(Me.keys g).length:=by rw[pk.length_eq];exact hne
  have hmm:=Mu.jk_ hne (fun x=>pk.mem_iff (a:=x))
  refine⟨_,rfl,f0,a,c,b,ps,ws,rfl,G.keep s1,fun row p2 H2 hrow hp2 s2 h2=>?_⟩
  rw[hrow0] at hrow
  cases hrow
  rw[hnum] at h2
  have S2:=s1.trans s2
  refine⟨p2,_,rfl,SqT.of h2,rfl,_,_,rfl,_,_,rfl,rfl,?_⟩
  refine⟨_,rfl,f0,a,c,b,ps,ws,rfl,G.keep S2,fun row H3 s3 hrow=>?_⟩
  rw[hrow0] at hrow
  cases hrow
  have S3:=S2.trans s3
  generalize emost:Ma.maxL (Me.evK b (Ma.cuts ps ws) row0)=most at *
  have h13:=s3 _ _ (s2 _ _ h1)
  refine⟨_,rfl,_,rfl,p1,intsD g,rfl,.inl h13,fun q1 hq1=>?_⟩
  rw[gA_]
  have s4:=h_ (o:=.lst ((Me.keys g).map V.int)) hq1
  have u4:(upd H3 q1 (.lst ((Me.keys g).map V.int))) q1=_:=c_
  generalize upd H3 q1 (.lst ((Me.keys g).map V.int))=H4 at s4 u4⊢
  have S4:=S3.trans s4
  refine⟨q1,_,rfl,SqL.of u4,kl,rfl,_,rfl,?_⟩
  rw[T_ hmm.2.1.symm]
  refine iteF ⟨_,rfl,f0,a,c,b,ps,ws,rfl,G.keep S4,fun row H5 s5 hrow=>?_⟩
  rw[hrow0] at hrow
  cases hrow
  have S5:=S4.trans s5
  have h15:=s5 _ _ (s4 _ _ h13)
  refine⟨_,rfl,p1,intsD g,rfl,.inl h15,fun q2 hq2=>?_⟩
  rw[gA_]
  have s6:=h_ (o:=.lst ((Me.keys g).map V.int)) hq2
  have u6:(upd H5 q2 (.lst ((Me.keys g).map V.int))) q2=_:=c_
  generalize upd H5 q2 (.lst ((Me.keys g).map V.int))=H6 at s6 u6⊢
  have S6:=S5.trans s6
  have h16:=s6 _ _ h15
  refine⟨q2,_,rfl,SqL.of u6,kl,rfl,_,rfl,?_⟩
  rw[T_ hmm.2.2.symm]
  have ndw:=(Me.dm_ (b:=b) (ws:=row0) (cW_ G row0 (List.mem_of_getElem? hrow0)).1 ok.b16).nd
  have ndE:(Me.keys (Me.evenL b (Ma.cuts ps ws) (Me.keys (Me.waysW b row0)))).Nodup:=by rw[Me.aW_];exact ndw.filter _
  have hlk:Me.look g most=some (Me.prodW b (Ma.cuts ps ws) most):=by
   have hm:most∈Me.evK b (Ma.cuts ps ws) row0:=by rw[<-emost];exact(Ma.s_ _ hne).1
   obtain⟨pr,h1,h2⟩:=List.mem_map.mp hm
   have e1:=Me.Y_ ndE h1
   have e2:=Me.gJ_ hrow0 ndw most
   rw[h2] at e1
   rw[e1] at e2
   rw[Me.gy_ perm ndE,e1]
   exact congrArg some e2
  have dg:DGet H6 p1 (.int most) (some (.int (Me.prodW b (Ma.cuts ps ws) most))):=by
   have z:=aq_ (k:=most) (.inl h16)
   rw[hlk] at z
   exact z
  refine iteF ⟨_,rfl,_,rfl,p1,_,rfl,dg,_,rfl,rfl,_,rfl,?_⟩
  rw[T_ rfl]
  have hsl:(bX_ b num ps ws).length=ps.length:=Ma.U_ _ _
  have hsp:spread (bX_ b num ps ws)=0:=(Mu.na_ (by omega)).mpr ⟨most,hAs⟩
  have hrep:Ma.psums ps (Ma.wts b num ps.sum ws)=List.replicate ps.length most:=List.eq_replicate_iff.mpr ⟨hsl,hAs⟩
  refine iteF ⟨_,rfl,_,rfl,f0,a,c,b,ps,ws,num,rfl,G.keep S6,hA,fun H7 s7=>⟨_,_,rfl,rfl,_,rfl,?_⟩⟩
  rw[decide_eq_true hsp]
  have S7:=S6.trans s7
  refine iteF ⟨_,rfl,_,rfl,f0,a,c,b,ps,ws,num,rfl,G.keep S7,hA,fun r H8 hr8 s8 h8=>?_⟩
  rw[hrep] at h8
  refine⟨_,rfl,sz (by simp),fun q3 hq3=>?_⟩
  have s8':=h_ (o:=.lst [V.int most]) hq3
  have u8:(upd H8 q3 (.lst [V.int most])) q3=_:=c_
  have h8':=s8' _ _ h8
  have S8':=S7.trans (s8.trans s8')
  generalize upd H8 q3 (.lst [V.int most])=H8' at s8' u8 h8' S8'⊢
  have G8:=G.keep S8'
  have enl:(((natV ps).length:Nat):Int)=(ps.length:Int):=by rw[natV,List.length_map]
  have hsz:[V.int most].length*((((natV ps).length:Nat):Int)).toNat<=sizeLine:=by
   have e:[V.int most].length*((((natV ps).length:Nat):Int)).toNat=ps.length:=by rw[enl,Int.toNat_natCast];show 1*ps.length=_;omega
   rw[e]
   exact Nat.le_of_lt (szl (n:=ps.length) (by omega))
  refine⟨_,rfl,_,_,_,_,rfl,rfl,SqT.of G8.tp,rfl,a,_,rfl,.inl (SqL.of G8.hp),q3,_,_,rfl,rfl,u8,by rw[enl];omega,by rw[enl];omega,hsz,fun q4 hq4=>?_⟩
  have ef:(List.replicate ((((natV ps).length:Nat):Int)).toNat [V.int most]).flatten=(List.replicate ps.length most).map V.int:=by
   rw[enl,Int.toNat_natCast,List.map_replicate]
   simp
  rw[ef]
  have s8c:=h_ (o:=.lst ((List.replicate ps.length most).map V.int)) hq4
  have u9:(upd H8' q4 (.lst ((List.replicate ps.length most).map V.int))) q4=_:=c_
  have S8:=S8'.trans s8c
  have h9:=s8c _ _ h8'
  generalize upd H8' q4 (.lst ((List.replicate ps.length most).map V.int))=H9' at s8c u9 S8 h9⊢
  refine po_ (datL h9 (datIs _)) (datL u9 (datIs _)) (nA_ _) (ke_ _) ⟨_,rfl,iteF ?_⟩
  refine⟨_,rfl,_,rfl,f0,a,c,b,ps,ws,num,rfl,G.keep S8,by omega,fun H9 s9 h0=>?_,fun m0 H9 s9 hm0 f1 f2=>?_⟩
  ·skip
   refine⟨_,rfl,by decide,by decide,K_ (n:=(6:Int).toNat) (fun i σ H'=>∃(v5:V) (v6:Option V),σ=[some (.ref f0),some (.ref p1),some (.int num),some (.int (Me.prodW b (Ma.cuts ps ws) most)),some (.int most),some v5,v6]/\Same H H'/\(v5=.non\/∃m:Nat,v5=.int m/\m<num/\Mx.nrI b 0 ps ws m=1)) ⟨.non,none,rfl,S8.trans s9,.inl rfl⟩ ?_ ?_⟩
   ·rintro i σ H10 hi ⟨v5,v6,rfl,s10,hv⟩
    rcases hv with rfl | ⟨m,rfl,hm,e1⟩
    ·exact⟨_,rfl,rfl,_,rfl,iteF ⟨.non,_,rfl,s10,.inl rfl⟩⟩
    ·refine⟨_,rfl,rfl,_,rfl,iteT ⟨_,rfl,_,rfl,f0,a,c,b,ps,ws,m,rfl,G.keep s10,by omega,fun r H11 hr11 s11 h11=>?_⟩⟩
     have e0:atI ((Ma.psums ps (Ma.wts b m ps.sum ws)).map V.int) (0:Int)=some (V.int (Mu.hgt b ps ws m)):=ab_ (j:=0) (by rw[List.getElem?_map];exact congrArg (Option.map V.int) (Mx.hgt_at lp m))
     refine⟨r,_,0,_,rfl,rfl,SqL.of h11,e0,?_⟩
     refine⟨_,rfl,_,_,rfl,rfl,_,rfl,?_⟩
     rw[decide_eq_false (show ¬ most<=Mu.hgt b ps ws m by have:=hless m hm e1;omega)]
     exact iteF ⟨_,rfl,_,rfl,f0,a,c,b,ps,ws,m,rfl,G.keep (s10.trans s11),by omega,fun H12 s12 h0=>⟨.non,_,rfl,(s10.trans s11).trans s12,.inl rfl⟩,fun m2 H12 s12 hm2 e3 e4=>⟨.int m2,_,rfl,(s10.trans s11).trans s12,.inr ⟨m2,rfl,by omega,e3⟩⟩⟩
   ·rintro σ H10 ⟨v5,v6,rfl,s10,_⟩
    exact k H10 s10
  ·skip
   refine⟨_,rfl,by decide,by decide,K_ (n:=(6:Int).toNat) (fun i σ H'=>∃(v5:V) (v6:Option V),σ=[some (.ref f0),some (.ref p1),some (.int num),some (.int (Me.prodW b (Ma.cuts ps ws) most)),some (.int most),some v5,v6]/\Same H H'/\(v5=.non\/∃m:Nat,v5=.int m/\m<num/\Mx.nrI b 0 ps ws m=1)) ⟨.int m0,none,rfl,S8.trans s9,.inr ⟨m0,rfl,hm0,f1⟩⟩ ?_ ?_⟩
   ·rintro i σ H10 hi ⟨v5,v6,rfl,s10,hv⟩
    rcases hv with rfl | ⟨m,rfl,hm,e1⟩
    ·exact⟨_,rfl,rfl,_,rfl,iteF ⟨.non,_,rfl,s10,.inl rfl⟩⟩
    ·refine⟨_,rfl,rfl,_,rfl,iteT ⟨_,rfl,_,rfl,f0,a,c,b,ps,ws,m,rfl,G.keep s10,by omega,fun r H11 hr11 s11 h11=>?_⟩⟩
     have e0:atI ((Ma.psums ps (Ma.wts b m ps.sum ws)).map V.int) (0:Int)=some (V.int (Mu.hgt b ps ws m)):=ab_ (j:=0) (by rw[List.getElem?_map];exact congrArg (Option.map V.int) (Mx.hgt_at lp m))
     refine⟨r,_,0,_,rfl,rfl,SqL.of h11,e0,?_⟩
     refine⟨_,rfl,_,_,rfl,rfl,_,rfl,?_⟩
     rw[decide_eq_false (show ¬ most<=Mu.hgt b ps ws m by have:=hless m hm e1;omega)]
     exact iteF ⟨_,rfl,_,rfl,f0,a,c,b,ps,ws,m,rfl,G.keep (s10.trans s11),by omega,fun H12 s12 h0=>⟨.non,_,rfl,(s10.trans s11).trans s12,.inl rfl⟩,fun m2 H12 s12 hm2 e3 e4=>⟨.int m2,_,rfl,(s10.trans s11).trans s12,.inr ⟨m2,rfl,by omega,e3⟩⟩⟩
   ·rintro σ H10 ⟨v5,v6,rfl,s10,_⟩
    exact k H10 s10
end
end Hv
namespace Mx
open Me Mg Mu
theorem pv_(b n L:Nat)(ws:List Int):Ma.wts b n L (ngr ws)=ngr (Ma.wts b n L ws):=by
 unfold Ma.wts ngr
 rw[List.map_zipWith,List.zipWith_map_right]
 congr 1
 funext d x
 simp[Int.mul_neg]
theorem pK_(l:List Int):(ngr l).sum=0-l.sum:=by
 unfold ngr
 induction l with
 | nil=>rfl
 | cons x l ih=>rw[List.map_cons,List.sum_cons,List.sum_cons,ih];omega
theorem iP_:∀(ps:List Nat) (l:List Int),Ma.psums ps (ngr l)=ngr (Ma.psums ps l)
 | [],_=>rfl
 | p::ps,l=>by
  have e1:(ngr l).take p=ngr (l.take p):=by unfold ngr;rw[List.map_take]
  have e2:(ngr l).drop p=ngr (l.drop p):=by unfold ngr;rw[List.map_drop]
  show((ngr l).take p).sum::Ma.psums ps ((ngr l).drop p)=(0-(l.take p).sum)::ngr (Ma.psums ps (l.drop p))
  rw[e1,e2,pK_,iP_ ps]
theorem eN_(b n:Nat)(ps:List Nat)(ws:List Int):sumsN b n ps (ngr ws)=ngr (sumsN b n ps ws):=by
 unfold sumsN
 rw[pv_,iP_]
theorem og_{l:List Int}(h:0<l.length):Ma.maxL (ngr l)=0-Ma.minL l/\Ma.minL (ngr l)=0-Ma.maxL l:=by
 have hl:0<(ngr l).length:=by unfold ngr;rw[List.length_map];exact h
 obtain⟨a1,a2⟩:=Ma.s_ _ hl
 obtain⟨b1,b2⟩:=Ma.v_ _ hl
 obtain⟨c1,c2⟩:=Ma.s_ _ h
 obtain⟨d1,d2⟩:=Ma.v_ _ h
 have up:∀x∈l,0-x∈ngr l:=fun x hx=>List.mem_map.mpr ⟨x,hx,rfl⟩
 obtain⟨x,hx,ex⟩:=List.mem_map.mp a1
 obtain⟨y,hy,ey⟩:=List.mem_map.mp b1
 have:=a2 _ (up _ d1)
 have:=d2 _ hx
 have:=b2 _ (up _ c1)
 have:=c2 _ hy
 constructor <;> omega
theorem hj_{l:List Int}(h:0<l.length):sprd (ngr l)=sprd l:=by
 have:=og_ h
 unfold sprd
 omega
end Mx
namespace Mx
open Me Mg Mu
theorem qg_{b d:Nat}{ps:List Nat}(lp:0<ps.length)(ws:List Int)(n:Nat):nrI b d ps (ngr ws) n=nrI b d ps ws n:=by
 unfold nrI
 have hl:(sumsN b n ps ws).length=ps.length:=Ma.U_ _ _
 rw[eN_,hj_ (by omega)]
theorem om_{b:Nat}{ps:List Nat}(lp:0<ps.length)(ws:List Int)(n:Nat):evB b ps (ngr ws) n=evB b ps ws n:=by
 unfold evB
 have hl:(sumsN b n ps ws).length=ps.length:=Ma.U_ _ _
 rw[eN_,hj_ (by omega)]
theorem oj_{b:Nat}{ps:List Nat}(lp:0<ps.length)(ws:List Int)(n:Nat):hgt b ps (ngr ws) n=0-hgt b ps ws n:=by
 have h1:=hgt_at (b:=b) lp (ws:=ws) n
 have h2:=hgt_at (b:=b) lp (ws:=ngr ws) n
 rw[eN_,ngr,List.getElem?_map,h1] at h2
 exact(Option.some.inj h2).symm
theorem ngr_len(ws:List Int):(ngr ws).length=ws.length:=by unfold ngr;rw[List.length_map]
theorem mC_(w:Nat->Bool)(k:Nat->Int):∀n,tot (cd w k n)=ns (fun i=>if w i=true then 1 else 0) n
 | 0=>rfl
 | n+1=>by
  have ih:=mC_ w k n
  unfold cd
  rw[ns,<-ih]
  by_cases h:w n=true
  ·rw[if_pos h,if_pos h,ij_ (eF_ w k n).nd]
  ·rw[if_neg h,if_neg h,Int.add_zero]
theorem turned{b:Nat}(hb:0<b){ps:List Nat}{ws:List Int}(hw:ws.length=ps.sum)(lp:0<ps.length){row row':List Int}(h0:(Ma.cuts ps ws)[0]?=some row)(h1:(Ma.cuts ps (ngr ws))[0]?=some row')(hne:0<(evK b (Ma.cuts ps ws) row).length) :
  Hv.evS b row' ((Ma.cuts ps (ngr ws)).drop 1) (b ^ ps.sum)=Hv.evS b row ((Ma.cuts ps ws).drop 1) (b ^ ps.sum)/\tot (evenL b (Ma.cuts ps (ngr ws)) (keys (waysW b row')))=tot (evenL b (Ma.cuts ps ws) (keys (waysW b row)))/\
  Ma.minL (evK b (Ma.cuts ps (ngr ws)) row')=0-Ma.maxL (evK b (Ma.cuts ps ws) row)/\Ma.maxL (evK b (Ma.cuts ps (ngr ws)) row')=0-Ma.minL (evK b (Ma.cuts ps ws) row):=by
 have hw':(ngr ws).length=ps.sum:=by rw[ngr_len];exact hw
 refine⟨?_,?_,?_⟩
 ·rw[evS_nr hb lp hw' h1 (Nat.le_refl _),evS_nr hb lp hw h0 (Nat.le_refl _)]
  exact x_ fun i _=>by rw[qg_ lp]
 ·rw[eM_ (even_perm hb hw' lp h1),eM_ (even_perm hb hw lp h0),mC_,mC_]
  refine x_ fun i _=>?_
  have hl:(sumsN b i ps ws).length=ps.length:=Ma.U_ _ _
  rw[eN_,hj_ (by omega)]
 ·have mem:∀x,x∈evK b (Ma.cuts ps (ngr ws)) row'↔x∈ngr (evK b (Ma.cuts ps ws) row):=fun x=>by
   rw[<-fJ_ hb hw' lp h1 x,List.mem_map,show(x∈ngr (evK b (Ma.cuts ps ws) row)↔∃y,y∈evK b (Ma.cuts ps ws) row/\0-y=x) from List.mem_map]
   constructor
   ·rintro⟨n,h2,h3⟩
    obtain⟨h4,h5⟩:=cl_.mp h2
    rw[om_ lp] at h5
    rw[oj_ lp] at h3
    exact⟨hgt b ps ws n,(fJ_ hb hw lp h0 _).mp (List.mem_map.mpr ⟨n,cl_.mpr ⟨h4,h5⟩,rfl⟩),h3⟩
   ·rintro⟨y,h2,h3⟩
    obtain⟨n,h4,h5⟩:=List.mem_map.mp ((fJ_ hb hw lp h0 y).mpr h2)
    obtain⟨h6,h7⟩:=cl_.mp h4
    refine⟨n,cl_.mpr ⟨h6,by rw[om_ lp];exact h7⟩,?_⟩
    rw[oj_ lp,h5]
    exact h3
  have hn2:0<(ngr (evK b (Ma.cuts ps ws) row)).length:=by rw[ngr_len];exact hne
  obtain⟨_,e1,e2⟩:=jk_ hn2 mem
  have:=og_ hne
  omega
end Mx
namespace Hv
open PySem L2
def ce_:Sp:=fun vs H Q _=>∃f a c b ps ws,vs=[.ref f]/\FrAt H f a c b ps ws/\∀(row:List Int) (H':Hp),Same H H'->(Ma.cuts ps ws)[0]?=some row->Q (.int (Me.tot (Me.evenL b (Ma.cuts ps ws) (Me.keys (Me.waysW b row))))) H'
theorem lZ_(g:List (Int×Int)):(intsD g).map (·.2)=(g.map (·.2)).map V.int:=by simp[intsD]
theorem qE_{b:Nat}{ps:List Nat}{ws:List Int}(ok:FrOk b ps ws):FrOk b ps (ws.map fun x=>0-x) :=
 ⟨ok.b2,ok.b16,ok.l2,ok.l4,ok.pr,by rw[List.length_map];exact ok.wl,fun x hx=>by
  obtain⟨y,hy,rfl⟩:=List.mem_map.mp hx
  have:=ok.wr y hy
  omega⟩
section
variable{P:Program}{w:World}{K:PySem.W.Frag}{mg:Str->Option Value}{base:Heap}
theorem hw_:FnScope ["frame"] ["frame"] (i_ cV_):=⟨rfl,rfl,rfl,by decide +kernel,rfl,by decide +kernel,by decide +kernel⟩
theorem gt_{f:Addr}{fd:FuncData}(F:Fun K "count_even" "count_even" cV_ f fd)(T:Txt mg)(DE:Def P w K mg base 6 "even_by_sums" ["frame"] bL_):FnOk P w K mg base CX0 7 f fd ["frame"] ce_:=by
 refine F.ok hw_ (fun vs H Q E h=>?_) (fun cdv A outer s H vs Q E hr h=>?_)
 ·obtain⟨g,a,c,b,ps,ws,rfl,_⟩:=h;rfl
 ·obtain⟨g,a,c,b,ps,ws,rfl,G,k⟩:=h
  refine⟨_,g_ (o_ (nk_ rfl T.sum (by rfl) (m_ DE hr (by rfl) (a_ (pv 0) d_)))),?_⟩
  refine⟨_,rfl,g,a,c,b,ps,ws,rfl,G,fun p g' H1 hp s1 hp1 ⟨row,hrow,perm⟩=>⟨p,_,g'.map (·.2),rfl,hp1,lZ_ g',?_⟩⟩
  have e:=Me.eM_ perm
  show Q (.int (Me.tot g')) H1
  rw[e]
  exact k row H1 s1 hrow
abbrev lI_:List Str:=["frame","base","parts","weights","turned"]
theorem kR_:FnScope lI_ ["frame"] (i_ ak_):=⟨rfl,rfl,rfl,by decide +kernel,rfl,by decide +kernel,by decide +kernel⟩
theorem fy_{f:Addr}{fd:FuncData}(F:Fun K "_law_signs_right" "_law_signs_right" ak_ f fd)(DE:Def P w K mg base 11 "sum_even" ["frame"] cs_)(DC:Def P w K mg base 7 "count_even" ["frame"] ce_)(DG:Def P w K mg base 7 "greatest_sum" ["frame"] ad_)
  (DM:Def P w K mg base 7 "least_sum" ["frame"] bJ_):FnOk P w K mg base CX0 12 f fd ["frame"] spFrT:=by
 refine F.ok kR_ (fun vs H Q E h=>?_) (fun cdv A outer s H vs Q E hr h=>?_)
 ·obtain⟨g,a,c,b,ps,ws,rfl,_⟩:=h;rfl
 ·obtain⟨g,a,c,b,ps,ws,rfl,G,k⟩:=h
  have nd:=kR_.nd
  have ok:=G.ok
  have b0:0<b:=by have:=ok.b2;omega
  have l2:=ok.l2
  have lp:0<ps.length:=by omega
  have hsum:=ok.sum
  have hwl:=ok.wl
  refine⟨_,b_ (lf_ (pv 0) (df_ rfl (z_ (n_ (i:=1) nd rfl (Or.inl rfl)) (z_ (n_ (i:=2) nd rfl (Or.inl rfl)) (z_ (n_ (i:=3) nd rfl (Or.inl rfl)) aB_)))))
   (b_ (k_ (i:=4) nd rfl (Or.inl rfl) (aS_ (a_ (pv 1) (a_ (pv 2) (a_ (aC_ (i_ ak_) lI_ [] [] rfl (M_ (pv 3)) (fun cl C s H fp=>af_) (fun cl C s H fp=>l_ Q_ e_ (pv 0)) (by decide +kernel)) d_)))))
   (b_ (ae_ (PW.pt (hC_ (E_ el_ (m_ DE hr (by rfl) (a_ (pv 4) d_)) (m_ DE hr (by rfl) (a_ (pv 0) d_)) (nomark _)) (dO_ (E_ el_ (m_ DC hr.mo (by rfl) (a_ (pv 4) d_)) (m_ DC hr.mo (by rfl) (a_ (pv 0) d_)) (nomark _))))) (g_ (o_ bw_)) D_)
   (b_ (ae_ (E_ el_ (m_ DM hr.mo (by rfl) (a_ (pv 4) d_)) (l_ Q_ e_ (m_ DG hr.mo (by rfl) (a_ (pv 0) d_))) (nomark _)) (g_ (o_ bw_)) D_)
   (g_ (o_ (fw_ ls_ (m_ DG hr.mo (by rfl) (a_ (pv 4) d_)) (l_ Q_ e_ (m_ DM hr.mo (by rfl) (a_ (pv 0) d_))) (nomark _))))))),?_⟩
  obtain⟨row0,hrow0⟩:∃row0,(Ma.cuts ps ws)[0]?=some row0:=⟨_,List.getElem?_eq_getElem (by rw[Ma.A_];omega)⟩
  obtain⟨row1,hrow1⟩:∃row1,(Ma.cuts ps (Me.ngr ws))[0]?=some row1:=⟨_,List.getElem?_eq_getElem (by rw[Ma.A_];omega)⟩
  obtain⟨t1,t2,t3,t4⟩:=Mx.turned b0 ok.wl lp hrow0 hrow1 (pn_ G row0)
  refine⟨_,rfl,g,_,rfl,SqT.of G.tp,rfl,_,_,rfl,_,_,rfl,_,_,rfl,rfl,?_⟩
  refine⟨_,rfl,_,rfl,_,rfl,c,rfl,⟨_,SqL.of G.hw⟩,V_ (K:=K) (a:=c) (xs:=ws.map V.int) (fun i ys H'=>H=H'/\ys=(Me.ngr (ws.take i)).map V.int) ⟨rfl,rfl⟩ (fun i ys H' _ h=>by rw[<-h.1];exact SqL.of G.hw) ?_ ?_⟩
  ·rintro i x ys H' hx ⟨rfl,rfl⟩
   obtain⟨y,hy,rfl⟩:∃y,ws[i]?=some y/\x=V.int y:=by
    rw[List.getElem?_map] at hx
    cases e:ws[i]? with
    | none=>rw[e] at hx;cases hx
    | some d=>rw[e] at hx;exact⟨d,rfl,(Option.some.inj hx).symm⟩
   have hi:i<ws.length:=(List.getElem?_eq_some_iff.mp hy).1
   refine⟨szl (by rw[List.length_map,Mx.ngr_len,List.length_take];omega),_,rfl,_,_,rfl,rfl,rfl,?_⟩
   rw[List.take_add_one,hy]
   simp[Me.ngr]
  rintro ys H' ⟨rfl,rfl⟩ wl hwl'
  have el:(ws.map V.int).length=ws.length:=List.length_map _
  rw[el,List.take_length]
  have s1:=h_ (o:=.lst ((Me.ngr ws).map V.int)) hwl'
  have u1:(upd H wl (.lst ((Me.ngr ws).map V.int))) wl=_:=c_
  generalize upd H wl (.lst ((Me.ngr ws).map V.int))=H1 at s1 u1⊢
  refine⟨sz (by simp),fun t ht=>?_⟩
  have s2:=h_ (o:=.tup [.int b,.ref a,.ref wl]) ht
  have u2:(upd H1 t (.tup [.int b,.ref a,.ref wl])) t=_:=c_
  generalize upd H1 t (.tup [.int b,.ref a,.ref wl])=H2 at s2 u2⊢
  have S2:=s1.trans s2
  have GS:FrAt H2 t a wl b ps (Me.ngr ws):=⟨u2,S2 _ _ G.hp,s2 _ _ u1,qE_ ok⟩
  refine⟨_,rfl,t,a,wl,b,ps,Me.ngr ws,rfl,GS,fun row H3 s3 hrow=>?_⟩
  rw[hrow1] at hrow
  cases hrow
  have S3:=S2.trans s3
  refine⟨_,rfl,g,a,c,b,ps,ws,rfl,G.keep S3,fun row H4 s4 hrow=>⟨rfl,?_⟩⟩
  rw[hrow0] at hrow
  cases hrow
  refine⟨_,rfl,?_⟩
  rw[T_ t1]
  have S4:=S3.trans s4
  have T4:=s3.trans s4
  refine iteF ⟨_,rfl,t,a,wl,b,ps,Me.ngr ws,rfl,GS.keep T4,fun row H5 s5 hrow=>?_⟩
  rw[hrow1] at hrow
  cases hrow
  refine⟨_,rfl,g,a,c,b,ps,ws,rfl,G.keep (S4.trans s5),fun row H6 s6 hrow=>⟨rfl,?_⟩⟩
  rw[hrow0] at hrow
  cases hrow
  refine⟨_,rfl,?_⟩
  rw[T_ t2]
  have T6:=T4.trans (s5.trans s6)
  have S6:=S2.trans T6
  refine iteF ⟨_,rfl,t,a,wl,b,ps,Me.ngr ws,rfl,GS.keep T6,fun row H7 s7 hrow=>?_⟩
  rw[hrow1] at hrow
  cases hrow
  refine⟨_,rfl,g,a,c,b,ps,ws,rfl,G.keep (S6.trans s7),fun row H8 s8 hrow=>⟨_,_,rfl,rfl,rfl,?_⟩⟩
  rw[hrow0] at hrow
  cases hrow
  refine⟨_,rfl,?_⟩
  rw[T_ t3]
  have T8:=T6.trans (s7.trans s8)
  have S8:=S2.trans T8
  refine iteF ⟨_,rfl,t,a,wl,b,ps,Me.ngr ws,rfl,GS.keep T8,fun row H9 s9 hrow=>?_⟩
  rw[hrow1] at hrow
  cases hrow
  refine⟨_,rfl,g,a,c,b,ps,ws,rfl,G.keep (S8.trans s9),fun row H10 s10 hrow=>⟨_,_,rfl,rfl,rfl,?_⟩⟩
  rw[hrow0] at hrow
  cases hrow
  rw[decide_eq_true (congrArg V.int t4)]
  exact k H10 (S8.trans (s9.trans s10))
theorem scLaw:FnScope ["script","store","turn","frame"] ["script"] (i_ sLaw):=⟨rfl,rfl,rfl,by decide +kernel,rfl,by decide +kernel,by decide +kernel⟩
theorem qc_{f:Addr}{fd:FuncData}(F:Fun K "law" "law" sLaw f fd)(T:Txt mg)(DW:Def P w K mg base 1 "_law_draws" ["script","many"] (hn_ K))(DF:Def P w K mg base 2 "_law_frame" ["store","most"] fb_)
  (DA:Def P w K mg base 13 "_law_sums_right" ["store","frame"] eX_) (DB:Def P w K mg base 13 "_law_greatest_right" ["frame"] spFrT) (DC:Def P w K mg base 12 "_law_signs_right" ["frame"] spFrT):FnOk P w K mg base CX0 14 f fd ["script"] (spLaw K):=by
 refine F.ok scLaw (fun vs H Q E h=>?_) (fun cdv A outer s H vs Q E hr h=>?_)
 ·obtain⟨a,ns,rfl,_⟩:=h;rfl
 ·obtain⟨a0,ns,rfl,hS,hlen,k⟩:=h
  have nd:=scLaw.nd
  refine⟨_,b_ (k_ (i:=1) nd rfl (Or.inl rfl) (P_ (a_ (m_ DW hr.mo (by rfl) (a_ (pv 0) (a_ e_ d_))) (a_ e_ d_))))
   (b_ (B_ PassesOwn.never rfl (C_ (by rfl) T.range (a_ e_ d_)) (n_ (i:=2) nd rfl (Or.inl rfl))
    (b_ (k_ (i:=3) nd rfl (Or.inl rfl) (m_ DF hr.mo (by rfl) (a_ (pv 1) (a_ (ixl (P_ (a_ e_ (a_ e_ (a_ e_ (a_ e_ d_))))) (pv 2)) d_))))
    (b_ (ae_ (PW.pt (hC_ (bl_ (bs_ (m_ DA hr (by rfl) (a_ (pv 1) (a_ (pv 3) d_))))) (dO_ (bl_ (bs_ (m_ DB hr (by rfl) (a_ (pv 3) d_))))))) (g_ (o_ bw_)) D_)
    (g_ (ae_ (bl_ (bs_ (m_ DC hr.mo (by rfl) (a_ (pv 3) d_)))) (g_ (o_ bw_)) D_)))))
   (g_ (o_ bw_))),?_⟩
  refine⟨_,rfl,a0,ns,rfl,hS,hlen,fun l H1 ds hl s1 h1 hne=>⟨sz (by simp),fun st hst=>?_⟩⟩
  have S2:St7 (upd H1 st (.lst [.ref l,.int 0])) st l ds:=⟨⟨0,c_⟩,by rw[j_ (f_ h1 hst)];exact h1,hne⟩
  generalize upd H1 st (.lst [.ref l,.int 0])=H2 at S2⊢
  refine⟨_,rfl,by decide,by decide,K_ (n:=(4:Int).toNat) (fun i σ H'=>∃(v2 v3:Option V),σ=[some (.ref a0),some (.ref st),v2,v3]/\St7 H' st l ds) ⟨none,none,rfl,S2⟩ ?_ ?_⟩
  ·rintro i σ H3 hi ⟨v2,v3,rfl,S3⟩
   have hi':i<4:=hi
   refine⟨_,rfl,sz (by simp),fun m hm=>⟨_,rfl,?_⟩⟩
   obtain⟨L,eL,hL⟩:=cn_ (ns:=[4,3,3,2]) (i:=0+(i:Int)) (Pr:=fun n=>1<=n/\n<=6) (by omega) (by simp;omega) (by simp)
   refine br_ c_ eL ⟨st,l,ds,L,rfl,S3.keep (h_ hm),hL.1,hL.2,fun f a c b ps ws H4 S4 k4 G4 nf na nc=>?_⟩
   refine⟨_,rfl,_,rfl,st,l,ds,f,a,c,b,ps,ws,rfl,S4,G4,fun H5 S5 k5=>⟨_,rfl,iteF ?_⟩⟩
   have G5:=G4.kp7 S4 k5
   refine⟨_,rfl,f,a,c,b,ps,ws,rfl,G5,fun H6 s6=>⟨_,rfl,iteF ?_⟩⟩
   refine⟨_,rfl,f,a,c,b,ps,ws,rfl,G5.keep s6,fun H7 s7=>⟨_,rfl,iteF ?_⟩⟩
   exact⟨_,_,rfl,S5.keep (s6.trans s7)⟩
  ·rintro σ H3 ⟨v2,v3,rfl,S3⟩
   exact k _
end
structure FnIn(K:PySem.W.Frag)(x:Str)(st:Stmt):Prop where
 ex:∃(f:Addr) (oc:Value) (od an:Option Addr) (osl:Array (Option Value)) (kV doc pm cdv ct:Value),PySem.W.nsIn K mainGlobals x=some (some (.ref f))/\
  K.lookup f=some ⟨oc,od,.func (PySem.W.fnOf x x (bz_ st) (ai_ st) (i_ st) .none kV doc pm an cdv ct),osl⟩/\PySem.W.codeIn K cdv x=true/\PySem.W.keepIn K (.ref f)=true
theorem qX_{K:PySem.W.Frag}{x:Str}{st:Stmt}{f:Addr}{oc:Value}{od an:Option Addr}{osl:Array (Option Value)}{kV doc pm cdv ct:Value}(a:PySem.W.nsIn K mainGlobals x=some (some (.ref f)))
  (l:K.lookup f=some ⟨oc,od,.func (PySem.W.fnOf x x (bz_ st) (ai_ st) (i_ st) .none kV doc pm an cdv ct),osl⟩) (c:PySem.W.codeIn K cdv x=true) (k:PySem.W.keepIn K (.ref f)=true):FnIn K x st:=⟨f,oc,od,an,osl,kV,doc,pm,cdv,ct,a,l,c,k⟩
structure TxtIn(K:PySem.W.Frag):Prop where
 isi:PySem.W.nsIn K mainGlobals "isinstance"=some none
 int:PySem.W.nsIn K mainGlobals "int"=some none
 bool:PySem.W.nsIn K mainGlobals "bool"=some none
 list:PySem.W.nsIn K mainGlobals "list"=some none
 tuple:PySem.W.nsIn K mainGlobals "tuple"=some none
 all:PySem.W.nsIn K mainGlobals "all"=some none
 len:PySem.W.nsIn K mainGlobals "len"=some none
 sum:PySem.W.nsIn K mainGlobals "sum"=some none
 range:PySem.W.nsIn K mainGlobals "range"=some none
 max:PySem.W.nsIn K mainGlobals "max"=some none
 min:PySem.W.nsIn K mainGlobals "min"=some none
 rev:PySem.W.nsIn K mainGlobals "reversed"=some none
 zip:PySem.W.nsIn K mainGlobals "zip"=some none
 enum:PySem.W.nsIn K mainGlobals "enumerate"=some none
theorem us0{p:List Value->Prop}(h:p [])(us:List Value)(hl:us.length=0):p us:=by rw[List.eq_nil_of_length_eq_zero hl];exact h
theorem usS{n:Nat}{p:List Value->Prop}(h:∀a r,r.length=n->p (a::r))(us:List Value)(hl:us.length=n+1):p us:=by
 cases us with
 | nil=>cases hl
 | cons a r=>exact h a r (Nat.succ.inj hl)
theorem us1{p:List Value->Prop}(h:∀a,p [a]):∀us:List Value,us.length=1->p us:=usS fun a=>us0 (p:=fun r=>p (a::r)) (h a)
theorem us2{p:List Value->Prop}(h:∀a b,p [a,b]):∀us:List Value,us.length=2->p us:=usS fun a=>us1 (p:=fun r=>p (a::r)) (h a)
theorem us3{p:List Value->Prop}(h:∀a b c,p [a,b,c]):∀us:List Value,us.length=3->p us:=usS fun a=>us2 (p:=fun r=>p (a::r)) (h a)
theorem us4{p:List Value->Prop}(h:∀a b c d,p [a,b,c,d]):∀us:List Value,us.length=4->p us:=usS fun a=>us3 (p:=fun r=>p (a::r)) (h a)
theorem us5{p:List Value->Prop}(h:∀a b c d e,p [a,b,c,d,e]):∀us:List Value,us.length=5->p us:=usS fun a=>us4 (p:=fun r=>p (a::r)) (h a)
section
variable{P:Program}{w:World}{K:PySem.W.Frag}{mg:Str->Option Value}{base h:Heap}
theorem TxtIn.txt(T:TxtIn K)(X:K.In h)(G:h.Ns mainGlobals mg):Txt mg :=
 have e:∀x,PySem.W.nsIn K mainGlobals x=some none->mg x=none:=fun x z=>PySem.W.mg_none_of X G z
 ⟨e _ T.isi,e _ T.int,e _ T.bool,e _ T.list,e _ T.tuple,e _ T.all,e _ T.len,e _ T.sum,e _ T.range,e _ T.max,e _ T.min,e _ T.rev,e _ T.zip,e _ T.enum⟩
theorem p_{x:Str}{st:Stmt}{k:Nat}{ps:List Str}{sp:Sp}(D:FnIn K x st)(X:K.In h)(G:h.Ns mainGlobals mg)(ok:∀f fd,Fun K x x st f fd->FnOk P w K mg base CX0 k f fd ps sp)
  (hb:∀(kV doc pm:Value) (an:Option Addr) (cdv ct:Value) (us:List Value),us.length=ps.length->bindArgs (PySem.W.fnOf x x (bz_ st) (ai_ st) (i_ st) .none kV doc pm an cdv ct) ⟨us,[]⟩=pure (ps.zip us)):Def P w K mg base k x ps sp:=by
 obtain⟨f,oc,od,an,osl,kV,doc,pm,cdv,ct,a,l,c,kp⟩:=D.ex
 have F:=ol_ (st:=st) l c kp
 exact⟨f,_,ok _ _ F,PySem.W.mg_of X G a,kp,F.binds hb⟩
end
theorem qP_{l:PySem.W.OpenLaw}{w:World}{K:PySem.W.Frag}{h:Heap}{mg:Str->Option Value}{fa:Addr}(X:K.In h)(G:h.Ns mainGlobals mg)(hfa:mg "law"=some (.ref fa))(TI:TxtIn K)
  (i0:FnIn K "is_whole" kV_)
  (i1:FnIn K "is_between" sBetw)
  (i2:FnIn K "is_list_between" iH_)
  (i3:FnIn K "is_frame" fn_)
  (i4:FnIn K "need_frame" cP_)
  (i5:FnIn K "how_many" fo_)
  (i6:FnIn K "need_number" ch_)
  (i7:FnIn K "cut_by_parts" sCut)
  (i8:FnIn K "figures_of" cS_)
  (i9:FnIn K "part_sums" aQ_)
  (i10:FnIn K "misses_by" dK_)
  (i11:FnIn K "is_even" hz_)
  (i12:FnIn K "with_one_more_figure" fk_)
  (i13:FnIn K "ways_of_weights" iG_)
  (i14:FnIn K "ways_of_parts" bM_)
  (i15:FnIn K "ways_with" dG_)
  (i16:FnIn K "even_by_sums" hA_)
  (i17:FnIn K "count_even" cV_)
  (i18:FnIn K "count_even_with" cU_)
  (i19:FnIn K "stands_of" hy_)
  (i20:FnIn K "add_rows" dn_)
  (i21:FnIn K "with_figure_ahead" iJ_)
  (i22:FnIn K "worth_tails" dd_)
  (i23:FnIn K "weighted_sum" bp_)
  (i24:FnIn K "number_of" dH_)
  (i25:FnIn K "worth_from_beginnings" cO_)
  (i26:FnIn K "part_beginnings" bP_)
  (i27:FnIn K "need_bound" cQ_)
  (i28:FnIn K "stretches_below" bN_)
  (i29:FnIn K "joined_worth" fl_)
  (i30:FnIn K "worth_begun" cf_)
  (i31:FnIn K "sum_even_below" aP_)
  (i32:FnIn K "sum_even" fi_)
  (i33:FnIn K "least_sum" dL_)
  (i34:FnIn K "greatest_sum" bq_)
  (i35:FnIn K "first_row" cx_)
  (i36:FnIn K "first_greatest" aL_)
  (i37:FnIn K "need_miss" dJ_)
  (i38:FnIn K "running_counts" fj_)
  (i39:FnIn K "ways_within" hx_)
  (i40:FnIn K "count_spread_within" bO_)
  (i41:FnIn K "tails_of_part" aH_)
  (i42:FnIn K "tails_of_parts" as_)
  (i43:FnIn K "ways_from_beginnings" Z_)
  (i44:FnIn K "count_begun" ci_)
  (i45:FnIn K "count_below" aA_)
  (i46:FnIn K "near_below" cR_)
  (i47:FnIn K "even_below" cT_)
  (i48:FnIn K "figure_and_rest" aM_)
  (i49:FnIn K "number_at" dI_)
  (i50:FnIn K "last_even" dM_)
  (i51:FnIn K "_law_draws" kW_)
  (i52:FnIn K "_law_take" sTake)
  (i53:FnIn K "_law_frame" iI_)
  (i54:FnIn K "_law_some_number" cg_)
  (i55:FnIn K "_law_sums_right" bc_)
  (i56:FnIn K "_law_greatest_right" ah_)
  (i57:FnIn K "_law_signs_right" ak_)
  (ndict:PySem.W.nsIn K mainGlobals "dict"=some none)
  (nsorted:PySem.W.nsIn K mainGlobals "sorted"=some none)
  (nabs:PySem.W.nsIn K mainGlobals "abs"=some none)
  (jl:FnIn K "law" sLaw) :
  ∃fd:FuncData,(∀(s:Shared) (v:Value),BindsTo s fd ⟨[v],[]⟩ [("script",v)])/\∀base:Heap,K.In base->base.Ns mainGlobals mg->FnOk l.prog w K mg base CX0 14 fa fd ["script"] (spLaw K):=by
 have T:=TI.txt X G
 obtain⟨f,oc,od,an,osl,kV,doc,pm,cdv,ct,a,lk,c,kp⟩:=jl.ex
 have e:=hfa.symm.trans (PySem.W.mg_of X G a)
 cases e
 have F:=ol_ (st:=sLaw) lk c kp
 refine⟨PySem.W.fnOf "law" "law" (bz_ sLaw) (ai_ sLaw) (i_ sLaw) .none kV doc pm an cdv ct,fun s v=>.of_eq rfl,fun base BX _=>?_⟩
 have ndict:mg "dict"=none:=PySem.W.mg_none_of X G ndict
 have nsorted:mg "sorted"=none:=PySem.W.mg_none_of X G nsorted
 have nabs:mg "abs"=none:=PySem.W.mg_none_of X G nabs
 have d_is_whole:Def l.prog w K mg base 1 "is_whole" ["thing"] dv_:=p_ i0 X G (fun _ _ F=>nn_ F T) fun _ _ _ _ _ _=>us1 fun _=>rfl
 have d_is_between:Def l.prog w K mg base 2 "is_between" ["thing","least","greatest"] eq_:=p_ i1 X G (fun _ _ F=>oZ_ F d_is_whole) fun _ _ _ _ _ _=>us3 fun _ _ _=>rfl
 have d_is_list_between:Def l.prog w K mg base 3 "is_list_between" ["thing","least","greatest"] hm_:=p_ i2 X G (fun _ _ F=>nr_ F T d_is_between) fun _ _ _ _ _ _=>us3 fun _ _ _=>rfl
 have d_is_frame:Def l.prog w K mg base 4 "is_frame" ["thing"] dy_:=p_ i3 X G (fun _ _ F=>jS_ F T d_is_between d_is_list_between) fun _ _ _ _ _ _=>us1 fun _=>rfl
 have d_need_frame:Def l.prog w K mg base 5 "need_frame" ["thing"] S_:=p_ i4 X G (fun _ _ F=>gn_ F d_is_frame) fun _ _ _ _ _ _=>us1 fun _=>rfl
 have d_how_many:Def l.prog w K mg base 6 "how_many" ["frame"] an_:=p_ i5 X G (fun _ _ F=>jT_ F T d_need_frame) fun _ _ _ _ _ _=>us1 fun _=>rfl
 have d_need_number:Def l.prog w K mg base 7 "need_number" ["frame","thing"] bn_:=p_ i6 X G (fun _ _ F=>fz_ F d_is_between d_how_many) fun _ _ _ _ _ _=>us2 fun _ _=>rfl
 have d_cut_by_parts:Def l.prog w K mg base 1 "cut_by_parts" ["frame","row"] spCut:=p_ i7 X G (fun _ _ F=>qd_ F) fun _ _ _ _ _ _=>us2 fun _ _=>rfl
 have d_figures_of:Def l.prog w K mg base 8 "figures_of" ["frame","n"] ct_:=p_ i8 X G (fun _ _ F=>gq_ F T d_need_frame d_need_number) fun _ _ _ _ _ _=>us2 fun _ _=>rfl
 have d_part_sums:Def l.prog w K mg base 9 "part_sums" ["frame","n"] ix_:=p_ i9 X G (fun _ _ F=>hK_ F T d_figures_of d_cut_by_parts) fun _ _ _ _ _ _=>us2 fun _ _=>rfl
 have d_misses_by:Def l.prog w K mg base 10 "misses_by" ["frame","n"] eZ_:=p_ i10 X G (fun _ _ F=>ly_ F T d_part_sums) fun _ _ _ _ _ _=>us2 fun _ _=>rfl
 have d_is_even:Def l.prog w K mg base 11 "is_even" ["frame","n"] iy_:=p_ i11 X G (fun _ _ F=>oY_ F d_misses_by) fun _ _ _ _ _ _=>us2 fun _ _=>rfl
 have d_with_one_more_figure:Def l.prog w K mg base 1 "with_one_more_figure" ["ways","base","weight"] dx_:=p_ i12 X G (fun _ _ F=>jR_ F T) fun _ _ _ _ _ _=>us3 fun _ _ _=>rfl
 have d_ways_of_weights:Def l.prog w K mg base 2 "ways_of_weights" ["base","weights"] eT_:=p_ i13 X G (fun _ _ F=>no_ F T ndict nsorted d_with_one_more_figure) fun _ _ _ _ _ _=>us2 fun _ _=>rfl
 have d_ways_of_parts:Def l.prog w K mg base 3 "ways_of_parts" ["frame"] aZ_:=p_ i14 X G (fun _ _ F=>gj_ F T d_cut_by_parts d_ways_of_weights) fun _ _ _ _ _ _=>us1 fun _=>rfl
 have d_ways_with:Def l.prog w K mg base 1 "ways_with" ["ways_by_part","total"] bG_:=p_ i15 X G (fun _ _ F=>hH_ F) fun _ _ _ _ _ _=>us2 fun _ _=>rfl
 have d_even_by_sums:Def l.prog w K mg base 6 "even_by_sums" ["frame"] bL_:=p_ i16 X G (fun _ _ F=>lA_ F d_need_frame d_ways_of_parts d_ways_with) fun _ _ _ _ _ _=>us1 fun _=>rfl
 have d_count_even:Def l.prog w K mg base 7 "count_even" ["frame"] ce_:=p_ i17 X G (fun _ _ F=>gt_ F T d_even_by_sums) fun _ _ _ _ _ _=>us1 fun _=>rfl
 have d_count_even_with:Def l.prog w K mg base 6 "count_even_with" ["frame","s"] cd_:=p_ i18 X G (fun _ _ F=>gs_ F d_need_frame d_is_whole d_ways_of_parts d_ways_with) fun _ _ _ _ _ _=>us2 fun _ _=>rfl
 have d_stands_of:Def l.prog w K mg base 1 "stands_of" ["base","length"] bI_:=p_ i19 X G (fun _ _ F=>lw_ F T) fun _ _ _ _ _ _=>us2 fun _ _=>rfl
 have d_add_rows_T:Def l.prog w K mg base 1 "add_rows" ["by_sums","total","ways","worth"] iz_:=p_ i20 X G (fun _ _ F=>pa_ F) fun _ _ _ _ _ _=>us4 fun _ _ _ _=>rfl
 have d_with_figure_ahead_T:Def l.prog w K mg base 2 "with_figure_ahead" ["tail","base","weight","stand"] fc_:=p_ i21 X G (fun _ _ F=>lB_ F T d_add_rows_T) fun _ _ _ _ _ _=>us4 fun _ _ _ _=>rfl
 have d_worth_tails_T:Def l.prog w K mg base 3 "worth_tails" ["base","weights"] eV_:=p_ i22 X G (fun _ _ F=>lv_ F T d_stands_of d_with_figure_ahead_T) fun _ _ _ _ _ _=>us2 fun _ _=>rfl
 have d_weighted_sum:Def l.prog w K mg base 1 "weighted_sum" ["figures","weights"] bF_:=p_ i23 X G (fun _ _ F=>hG_ F T) fun _ _ _ _ _ _=>us2 fun _ _=>rfl
 have d_number_of:Def l.prog w K mg base 1 "number_of" ["base","figures"] aO_:=p_ i24 X G (fun _ _ F=>hL_ F) fun _ _ _ _ _ _=>us2 fun _ _=>rfl
 have d_worth_from_beginnings:Def l.prog w K mg base 2 "worth_from_beginnings" ["base","rows","weights","tails"] ca_:=p_ i25 X G (fun _ _ F=>gi_ F T d_add_rows_T d_stands_of d_weighted_sum d_number_of) fun _ _ _ _ _ _=>us4 fun _ _ _ _=>rfl
 have d_part_beginnings:Def l.prog w K mg base 1 "part_beginnings" ["frame","head","end"] bb_:=p_ i26 X G (fun _ _ F=>gm_ F T) fun _ _ _ _ _ _=>us3 fun _ _ _=>rfl
 have d_need_bound:Def l.prog w K mg base 7 "need_bound" ["frame","thing"] aw_:=p_ i27 X G (fun _ _ F=>go_ F d_is_between d_how_many) fun _ _ _ _ _ _=>us2 fun _ _=>rfl
 have d_stretches_below:Def l.prog w K mg base 9 "stretches_below" ["frame","n"] ba_:=p_ i28 X G (fun _ _ F=>gl_ F T d_how_many d_figures_of) fun _ _ _ _ _ _=>us2 fun _ _=>rfl
 have d_joined_worth:Def l.prog w K mg base 2 "joined_worth" ["frame","sums_by_part"] fa_:=p_ i29 X G (fun _ _ F=>lz_ F T d_stands_of) fun _ _ _ _ _ _=>us2 fun _ _=>rfl
 have d_worth_begun:Def l.prog w K mg base 3 "worth_begun" ["frame","tails_by_part","head","end"] bm_:=p_ i30 X G (fun _ _ F=>fx_ F T d_part_beginnings d_cut_by_parts d_worth_from_beginnings d_joined_worth) fun _ _ _ _ _ _=>us4 fun _ _ _ _=>rfl
 have d_sum_even_below:Def l.prog w K mg base 10 "sum_even_below" ["frame","n"] bH_:=p_ i31 X G (fun _ _ F=>hJ_ F T d_need_frame d_need_bound d_cut_by_parts d_worth_tails_T d_stretches_below d_worth_begun) fun _ _ _ _ _ _=>us2 fun _ _=>rfl
 have d_sum_even:Def l.prog w K mg base 11 "sum_even" ["frame"] cs_:=p_ i32 X G (fun _ _ F=>jP_ F d_how_many d_sum_even_below) fun _ _ _ _ _ _=>us1 fun _=>rfl
 have d_add_rows:Def l.prog w K mg base 1 "add_rows" ["by_sums","total","ways","worth"] dA_:=p_ i20 X G (fun _ _ F=>jV_ F) fun _ _ _ _ _ _=>us4 fun _ _ _ _=>rfl
 have d_with_figure_ahead:Def l.prog w K mg base 2 "with_figure_ahead" ["tail","base","weight","stand"] ho_:=p_ i21 X G (fun _ _ F=>nu_ F T d_add_rows) fun _ _ _ _ _ _=>us4 fun _ _ _ _=>rfl
 have d_worth_tails:Def l.prog w K mg base 3 "worth_tails" ["base","weights"] hk_:=p_ i22 X G (fun _ _ F=>np_ F T d_stands_of d_with_figure_ahead) fun _ _ _ _ _ _=>us2 fun _ _=>rfl
 have d_least_sum:Def l.prog w K mg base 7 "least_sum" ["frame"] bJ_:=p_ i33 X G (fun _ _ F=>hO_ F T d_even_by_sums) fun _ _ _ _ _ _=>us1 fun _=>rfl
 have d_greatest_sum:Def l.prog w K mg base 7 "greatest_sum" ["frame"] ad_:=p_ i34 X G (fun _ _ F=>em_ F T d_even_by_sums) fun _ _ _ _ _ _=>us1 fun _=>rfl
 have d_first_row:Def l.prog w K mg base 4 "first_row" ["base","weights","total"] cN_:=p_ i35 X G (fun _ _ F=>hQ_ F T d_worth_tails) fun _ _ _ _ _ _=>us3 fun _ _ _=>rfl
 have d_first_greatest:Def l.prog w K mg base 8 "first_greatest" ["frame"] ax_:=p_ i36 X G (fun _ _ F=>dk_ F d_greatest_sum d_cut_by_parts d_first_row d_number_of d_count_even_with) fun _ _ _ _ _ _=>us1 fun _=>rfl
 have d_need_miss:Def l.prog w K mg base 2 "need_miss" ["thing"] cM_:=p_ i37 X G (fun _ _ F=>hN_ F d_is_whole) fun _ _ _ _ _ _=>us1 fun _=>rfl
 have d_running_counts:Def l.prog w K mg base 1 "running_counts" ["ways","low","high"] dw_:=p_ i38 X G (fun _ _ F=>jQ_ F T) fun _ _ _ _ _ _=>us3 fun _ _ _=>rfl
 have d_ways_within:Def l.prog w K mg base 1 "ways_within" ["running_by_part","start","end"] eS_:=p_ i39 X G (fun _ _ F=>lt_ F) fun _ _ _ _ _ _=>us3 fun _ _ _=>rfl
 have d_count_spread_within:Def l.prog w K mg base 2 "count_spread_within" ["ways_by_part","width"] eY_:=p_ i40 X G (fun _ _ F=>lx_ F T d_running_counts d_ways_within) fun _ _ _ _ _ _=>us2 fun _ _=>rfl
 have d_tails_of_part:Def l.prog w K mg base 3 "tails_of_part" ["base","weights"] eW_:=p_ i41 X G (fun _ _ F=>lu_ F T d_ways_of_weights) fun _ _ _ _ _ _=>us2 fun _ _=>rfl
 have d_tails_of_parts:Def l.prog w K mg base 4 "tails_of_parts" ["frame"] cr_:=p_ i42 X G (fun _ _ F=>jO_ F d_cut_by_parts d_tails_of_part) fun _ _ _ _ _ _=>us1 fun _=>rfl
 have d_ways_from_beginnings:Def l.prog w K mg base 2 "ways_from_beginnings" ["rows","weights","tails"] cK_:=p_ i43 X G (fun _ _ F=>hI_ F T d_weighted_sum) fun _ _ _ _ _ _=>us3 fun _ _ _=>rfl
 have d_count_begun:Def l.prog w K mg base 3 "count_begun" ["frame","tails_by_part","d","head","end"] aG_:=p_ i44 X G (fun _ _ F=>fB_ F T d_part_beginnings d_cut_by_parts d_ways_from_beginnings d_count_spread_within) fun _ _ _ _ _ _=>us5 fun _ _ _ _ _=>rfl
 have d_count_below:Def l.prog w K mg base 10 "count_below" ["frame","tails_by_part","d","n"] ao_:=p_ i45 X G (fun _ _ F=>fA_ F T d_stretches_below d_count_begun) fun _ _ _ _ _ _=>us4 fun _ _ _ _=>rfl
 have d_near_below:Def l.prog w K mg base 11 "near_below" ["frame","d","n"] cb_:=p_ i46 X G (fun _ _ F=>gp_ F d_need_frame d_need_miss d_need_bound d_tails_of_parts d_count_below) fun _ _ _ _ _ _=>us3 fun _ _ _=>rfl
 have d_even_below:Def l.prog w K mg base 12 "even_below" ["frame","n"] cc_:=p_ i47 X G (fun _ _ F=>gr_ F d_near_below) fun _ _ _ _ _ _=>us2 fun _ _=>rfl
 have d_figure_and_rest:Def l.prog w K mg base 4 "figure_and_rest" ["frame","tails_by_part","d","head","k"] dz_:=p_ i48 X G (fun _ _ F=>jU_ F d_count_begun) fun _ _ _ _ _ _=>us5 fun _ _ _ _ _=>rfl
 have d_number_at:Def l.prog w K mg base 11 "number_at" ["frame","tails_by_part","d","k"] cL_:=p_ i49 X G (fun _ _ F=>hM_ F T d_how_many d_count_below d_figure_and_rest d_number_of) fun _ _ _ _ _ _=>us4 fun _ _ _ _=>rfl
 have d_last_even:Def l.prog w K mg base 12 "last_even" ["frame","n"] bK_:=p_ i50 X G (fun _ _ F=>hP_ F d_need_frame d_need_bound d_tails_of_parts d_count_below d_number_at) fun _ _ _ _ _ _=>us2 fun _ _=>rfl
 have d_law_draws:Def l.prog w K mg base 1 "_law_draws" ["script","many"] (hn_ K):=p_ i51 X G (fun _ _ F=>nt_ F T nabs) fun _ _ _ _ _ _=>us2 fun _ _=>rfl
 have d_law_take:Def l.prog w K mg base 1 "_law_take" ["store","many"] eU_:=p_ i52 X G (fun _ _ F=>oX_ F T) fun _ _ _ _ _ _=>us2 fun _ _=>rfl
 have d_law_frame:Def l.prog w K mg base 2 "_law_frame" ["store","most"] fb_:=p_ i53 X G (fun _ _ F=>ns_ F T d_law_take) fun _ _ _ _ _ _=>us2 fun _ _=>rfl
 have d_law_some_number:Def l.prog w K mg base 2 "_law_some_number" ["store","many"] hl_:=p_ i54 X G (fun _ _ F=>nq_ F T d_law_take) fun _ _ _ _ _ _=>us2 fun _ _=>rfl
 have d_law_sums_right:Def l.prog w K mg base 13 "_law_sums_right" ["store","frame"] eX_:=p_ i55 X G (fun _ _ F=>gk_ F T d_how_many d_sum_even_below d_sum_even d_law_some_number d_is_even d_last_even d_even_below) fun _ _ _ _ _ _=>us2 fun _ _=>rfl
 have d_law_greatest_right:Def l.prog w K mg base 13 "_law_greatest_right" ["frame"] spFrT:=p_ i56 X G (fun _ _ F=>dj_ F T d_even_by_sums d_first_greatest d_greatest_sum d_least_sum d_is_even d_part_sums d_last_even) fun _ _ _ _ _ _=>us1 fun _=>rfl
 have d_law_signs_right:Def l.prog w K mg base 12 "_law_signs_right" ["frame"] spFrT:=p_ i57 X G (fun _ _ F=>fy_ F d_sum_even d_count_even d_greatest_sum d_least_sum) fun _ _ _ _ _ _=>us1 fun _=>rfl
 exact qc_ F T d_law_draws d_law_frame d_law_sums_right d_law_greatest_right d_law_signs_right
theorem walk{l:PySem.W.OpenLaw}{q:Program}{loose:List Str}{XP:(Str->Option Value)->Heap->Prop}{YP:World->Heap->Prop}{d:DefRec}{K:Params->PySem.W.Frag}(hn:l.most=some 63)(hdf:d.params.defaults=[])
  (hY:∀(w:World) (h:Heap),YP w h->(K w.params).In h)
  (F:∀(w:World) (mg:Str->Option Value) (fa:Addr) (h:Heap),(K w.params).In h->h.Ns mainGlobals mg->mg d.name=some (.ref fa)->
   ∃fd:FuncData,(∀(s:Shared) (u:Value),BindsTo s fd ⟨[u],[]⟩ [("script",u)])/\∀base:Heap,(K w.params).In base->base.Ns mainGlobals mg->FnOk l.prog w (K w.params) mg base CX0 14 fa fd ["script"] (spLaw (K w.params))) :
  PySem.W.WalkO q loose XP YP l.row.toRowW d [] (fun f vs=>PySem.call f vs) :=
 L2.oC_ (n:=63) (k:=14) (x:="script") (CX:=fun _=>CX0) (sp:=fun w=>spLaw (K w.params)) hn (by decide) hdf ⟨rfl,by decide,by decide,rfl⟩ hY F (fun _ _ a ns hl _ hS=>⟨a,ns,rfl,hS,hl,fun _=>rfl⟩) fun _ _ _ _ _ z=>z
end Hv
open PySem PySem.W PyProof.Rows
namespace PySem.W.Fast
def tw8213476877877621177:=0
def tw9399205399695769905:=0
def tw15330091983293112739:=0
def tw12726851037113558963:=0
def tw15662280353087428602:=0
def tw8034157304107554439:=0
def tw15793484862203934780:=0
def tw13363332593359677212:=0
def tw457566222145835020:=0
def tw276911388824735993:=0
def tw11471763540946572432:=0
def tw11683468017071130561:=0
def tw7560724147170407462:=0
def tw8824841122957820315:=0
def tw6398977415386508498:=0
def tw539748703128775151:=0
def tw10073154361110922231:=0
def tw16485568687411526079:=0
def tw12501493567786309257:=0
def tw16499915309551546210:=0
def tw8826847882774698074:=0
def tw16374302434626764122:=0
def tw10406742142645249663:=0
def tw12210070411945555092:=0
def tw8683642962308546617:=0
def tw6203464627495350314:=0
def tw6329775015082297513:=0
def tw14973703777869315659:=0
def tw16568448968481904804:=0
def tw2218380542406969395:=0
def tw1023785839922490604:=0
def tw2605928449347064408:=0
def tw11461699831414333614:=0
def tw11184001958417398638:=0
def tw17873294614064336573:=0
def tw2071785156879947949:=0
def tw10409827624607807647:=0
def tw17374542606705501613:=0
def tw2110497614279623186:=0
def tw4052279683457485242:=0
def tw15172091614765039243:=0
def tw1180580333424410294:=0
def tw10993403290595807466:=0
def tw14219127644859610568:=0
def tw65226377969927773:=0
def tw15149526409567005601:=0
def tw3668406624036695679:=0
def tw6353201555392562878:=0
def tw7439935729622395314:=0
def tw429920079002583838:=0
def tw451862049050914169:=0
def tw13071479399683477771:=0
def tw526565767788225787:=0
def tw13120227923404614140:=0
def tw12216481267937984496:=0
def tw10996577474051409743:=0
def tw2394750069217044652:=0
def tw2506935732564898423:=0
def tw7847522384101928037:=0
def tw18237349769327966941:=0
def tw1634695086338412758:=0
def tw9786099583031103280:=0
def tw13284876187035840736:=0
def tw9033273723417143768:=0
def tw994730182182223987:=0
def tw12759790886132000462:=0
def tw983326294465246934:=0
def tw8665854328040829863:=0
def tw17976643014607992599:=0
def tw7530633540579465264:=0
def tw16345011146363833997:=0
def tw1886703863778071957:=0
def tw7366965489606931463:=0
def tw14324770599000382224:=0
def tw11871675928925343199:=0
def tw457930511465608840:=0
def tw12255214410439430102:=0
def tw444665968695791878:=0
def tw9645450442880380687:=0
def tw5190370314205773459:=0
def tw4469600594906414494:=0
def tw923422942952136087:=0
def tw15247355106423460643:=0
def tw18053394990048006728:=0
def tw1072598636719330252:=0
def tw13008307264046653031:=0
def tw4796557262741522017:=0
def tw13593625433306642835:=0
def tw15672161918466424721:=0
def tw8590788302344682586:=0
def tw12475071295902673415:=0
def tw13609769028026435634:=0
def tw10113281234982837423:=0
def tw5721872243086713971:=0
def tw8970930118827058951:=0
def tw5908172253702276122:=0
def tw171516369980301583:=0
def tw14503444129006813770:=0
def tw6789829028186455592:=0
def tw18153596736878020702:=0
def tw18341301523357299049:=0
def tw14249691452956033649:=0
def tw15075989890888515423:=0
def tw16197665828761886812:=0
def tw10872963457843490246:=0
def tw15158019645415252268:=0
def tw16344791112228293287:=0
def tw4546558335975202654:=0
def tw346261270452746480:=0
def tw7502340205504682956:=0
def tw10406160570048195673:=0
def tw652877424953637285:=0
def tw9563148887745822506:=0
def tw2524940843659306005:=0
def tw7327464564755874175:=0
def tw6451094106946152727:=0
def tw13741394870774027681:=0
def tw7315221421549883768:=0
def tw2943995507357284555:=0
def tw1352041901063859732:=0
def tw1945353113002950250:=0
def tw380130500612773991:=0
def tw5838684629027044293:=0
def tw17465695791129686894:=0
def tw4565796864624524360:=0
def tw16187259972752589479:=0
def tw2594461581067025434:=0
def tw9905395164162512589:=0
def tw10572220618285038878:=0
def tw5911367384917303871:=0
def tw1740101924480755657:=0
def tw9856723954072761199:=0
def tw17370273919559098911:=0
def tw6941091872537354906:=0
def tw11221597318636512155:=0
def tw16609524759729779290:=0
def tw17368467122304418937:=0
def tw7368704901696240381:=0
def tw15540986138540562262:=0
def tw9164567903546616080:=0
def tw6322421032822512226:=0
def tw14234071483167710654:=0
def tw10049281242454011878:=0
def tw12985286904711435231:=0
def tw16460963626089388353:=0
def tw5175447864218818775:=0
def tw14507537552832291828:=0
def tw474123864677955614:=0
def tw10833141533178250231:=0
def tw4204038457802700945:=0
def tw1397401186836408333:=0
def tw15747152564933625300:=0
def tw16287987904460052333:=0
def tw18200127489668267300:=0
def tw5490395218162719817:=0
def tw11477569047692731814:=0
def tw8809940769827380203:=0
def tw10839685897365015876:=0
def tw297908498565135412:=0
def tw8872719754822113490:=0
def tw15962110003319693753:=0
def tw10895138550346479103:=0
def tw14291681208582172756:=0
def tw11408312910115309319:=0
def tw15448229602721297555:=0
def tw13135460387982989000:=0
def tw12444312510144847027:=0
def tw2941549954599040473:=0
def tw13686294887709413575:=0
def tw16285969423181726918:=0
def tw16933945770712691063:=0
def tw13818536178525981506:=0
def tw11016957208596877497:=0
def tw13031739075847498761:=0
def tw5529206006981310437:=0
def tw7550828311450457783:=0
def tw6692934236394079922:=0
def tw8379317421553236038:=0
def tw7224059798793511375:=0
def tw14183428608841803743:=0
def tw6456669718619431749:=0
def tw8107598921071164921:=0
def tw16263868174821372409:=0
def tw15707624210613019630:=0
def tw1361041969857427540:=0
def tw11258146538597506479:=0
def tw2014278658273440295:=0
def tw12035360500328188532:=0
def tw6983687517998005590:=0
def tw9747907930976681107:=0
def tw9321210028550558410:=0
def tw17301473266626856246:=0
def tw6009339357058716234:=0
def tw9648753676297689715:=0
def tw10924933865456966021:=0
def tw2385631012927816294:=0
def tw17897420987157738104:=0
def tw2153699586155695672:=0
def tw11919738153215289943:=0
def tw16480685710088257828:=0
def tw17306434892888003262:=0
def tw14828444429220947291:=0
def tw3299155554049431626:=0
def tw5866311618660882006:=0
def tw2633494433610889107:=0
def tw10417729622993954535:=0
def tw9365456634288028874:=0
def tw6177865719855169039:=0
def tw3269637598568155061:=0
def tw14265715346689538706:=0
def tw13164653493629274626:=0
def tw4396006183615125204:=0
def tw12089725337808397770:=0
def tw11424515591907716082:=0
def tw17176383694973269342:=0
def tw7693207840274605353:=0
def tw4404902326783274351:=0
def tw4783835758940312052:=0
def tw11629863672926849072:=0
def tw11003014046223921294:=0
def tw3807684873762079916:=0
def tw6483346704410396875:=0
def tw1910378820268886051:=0
def tw18374100926190051702:=0
def tw122633935524870101:=0
def tw4160267731259493734:=0
def tw12414288567668498943:=0
def tw17717544070463866793:=0
def tw11750697011954408096:=0
def tw8038547977208519695:=0
def tw17648082329637029193:=0
def tw10703256485865890048:=0
def tw3563961715679749278:=0
def tw8532717501149517921:=0
def tw3817993633231022536:=0
def tw17309115807716804278:=0
def tw297892373157746902:=0
def tw8012289611453004632:=0
def tw8382783990148562446:=0
def tw16580555563021233438:=0
def tw12931614710056457252:=0
def tw1612885573411221293:=0
def tw8569497906201674634:=0
def tw15199023417776843351:=0
def tw3740751402810198534:=0
def tw1558836396284029734:=0
def tw15461700635072278600:=0
def tw10578436542114888125:=0
def tw10570733223343075050:=0
def tw4056531601711096299:=0
def tw13225156987075597241:=0
def tw7131990610403359095:=0
def tw11740040758450020676:=0
def tw451171551241755167:=0
def tw4832588126606726276:=0
def tw12202912861994307865:=0
def tw6188515376084979746:=0
def tw2833503791276064412:=0
def tw1270435873437332767:=0
def tw4375982630659181106:=0
def tw1160082457910207157:=0
def tw5508055544216369672:=0
def tw415492032202479646:=0
def tw13927151844994422105:=0
def tw17420428663841988282:=0
def tw1354769119228796890:=0
def tw11711929755025593980:=0
def tw2376278995048857126:=0
def tw12339069460549147406:=0
def tw8795754871385134861:=0
def tw10983488634715622047:=0
def tw11154177867746810368:=0
def tw16647572435958271507:=0
def tw7713042847118991983:=0
def tw722382801658650937:=0
def tw17849507814725808446:=0
def tw10648530234882058683:=0
def tw43060853806955255:=0
def tw13579714947234555797:=0
def tw6205134077336081371:=0
def tw2630234687009121697:=0
def tw6721922907450767428:=0
def tw16251948617170302854:=0
def tw16965499705413616179:=0
def tw11526369804983516869:=0
def tw12533327361059193276:=0
def tw14136365330395902587:=0
def tw9655090844111195834:=0
def tw11660640208226489441:=0
def tw11949252513706299397:=0
def tw9140504580131417838:=0
def tw7121341410274014719:=0
def tw14373989291134403102:=0
def tw10072690808017971303:=0
def tw9838420553594223850:=0
def tw2980971813645428967:=0
def tw4102637435743666852:=0
def tw574375092683218027:=0
def tw2036850137287412305:=0
def tw11397708669717919062:=0
def tw10719043294243879050:=0
def tw11803380280579747689:=0
def tw1561950566244568031:=0
def tw8411437028733274510:=0
def tw16762134011580090736:=0
def tw3050107657262309287:=0
def tw10413906932015081761:=0
def tw13023857000695111635:=0
def tw15672370219292456298:=0
def tw1088492314463139587:=0
def tw10132752778648163961:=0
def tw18333160871666477300:=0
def tw8437900897131293218:=0
def tw6498495985119001994:=0
def tw14844025446623572279:=0
def tw12598811678637606352:=0
def tw15012670879296083018:=0
def tw17676023961389554030:=0
def tw3850612798780577569:=0
def tw1176151673461434146:=0
def tw10388526933345091374:=0
def tw12511410795398468174:=0
def tw6810138906622748243:=0
def tw12187227250988388914:=0
def tw6801470840068186254:=0
def tw12183673586144590385:=0
def tw14126964003020725078:=0
def tw4386688298042586240:=0
def tw6784131985260216550:=0
def tw6765263888698663576:=0
def tw4273449805118286938:=0
def tw16031749976815462523:=0
def tw8590084758306177157:=0
def tw6814662224317928718:=0
def tw382102425998142322:=0
def tw8407685458693060354:=0
def tw4785866699251502232:=0
def tw5801310969553907956:=0
def tw15976259607000776703:=0
def tw3798499455701137309:=0
def tw1703677980377564415:=0
def tw2322995968252418003:=0
def tw12219465362535001429:=0
def tw718052433021254141:=0
def tw17971645023937463102:=0
def tw7468377416247194716:=0
def tw10562326570847662976:=0
def tw3183907777583805480:=0
def tw10066920256368306725:=0
def tw14209027710646824159:=0
def tw9916883314919661131:=0
def tw9651757399431978840:=0
def tw16284321701384199699:=0
def tw17219615685997604719:=0
def tw15774453387101144845:=0
def tw6297389299763652317:=0
def tw4140345821319222522:=0
def tw1537774160392373364:=0
def tw6481223392865623767:=0
def tw733411679668694543:=0
def tw3559545924281439698:=0
def tw8125823274909296348:=0
def tw8227468401383332479:=0
def tw12561526757556577378:=0
def tw15422923095212347608:=0
def tw3239783077888592398:=0
def tw5816751570305903722:=0
def tw10179991500019012407:=0
def tw16939945964608559700:=0
def tw12602251254039061942:=0
def tw11922436093247645010:=0
def tw12958841052175979373:=0
def tw11384618445534692056:=0
def tw17026076319625926541:=0
def tw9821955253187087567:=0
def tw9548056926527213858:=0
def tw13730442045822480953:=0
def tw16969921941202279842:=0
def tw636384848499497031:=0
def tw16093719345081914853:=0
def tw679455760322022692:=0
def tw16795312819084179945:=0
def tw6370996699328256968:=0
def tw2194528555649274387:=0
def tw11066848839682420977:=0
def tw17181195574975064048:=0
def tw5352063865505785110:=0
def tw11582668511739649297:=0
def tw4628127594153051060:=0
def tw6882480533087332835:=0
def tw9524184289494376618:=0
def tw15222448631522026811:=0
def tw5378260991856489322:=0
def tw17670407672591042528:=0
def tw18037355340501979480:=0
def tw8390975826898528306:=0
def tw12077157114708217610:=0
def tw2159246690695697978:=0
def tw4642269910141947664:=0
def tw12856200014684724116:=0
def tw6253238316072215466:=0
def tw18310262314228199571:=0
def tw5292592312140512803:=0
def tw8929613611141712637:=0
def tw10175730964388457919:=0
def tw17030298511121587765:=0
def tw4476468010072083280:=0
def tw12656484963459315277:=0
def tw18284257832194883289:=0
def tw16469811756376050631:=0
def tw3758416389622403984:=0
def tw2520664422458087619:=0
def tw13235158160629953623:=0
def tw13446675888247015356:=0
def tw5038231554161908661:=0
def tw13397861631077503543:=0
def tw8758120361700813452:=0
def tw310909730184786132:=0
def tw9595235691422273576:=0
def tw15883284727799669065:=0
def tw16415330488916765446:=0
def tw205235465913688075:=0
def tw9675408593843630540:=0
def tw2327024998914681057:=0
def tw14875835396157819783:=0
def tw15048727990610887256:=0
def tw3863746005905944257:=0
def tw587479435702702703:=0
def tw11443288367558166051:=0
end PySem.W.Fast
set_option maxRecDepth 100000 in
set_option maxHeartbeats 0 in
theorem PySem.Challenge.cw_likehalves_k22_whole_sums_of_frames_holds : PySem.Challenge.rw_likehalves_k22_whole_sums_of_frames.Holds := by
 w_on;o_law;k_head;(case hw=>w_witness2)
 k_fill
 refine Hv.walk (l := PySem.Challenge.rw_likehalves_k22_whole_sums_of_frames) rfl rfl (fun w h Y => PySem.W.kIn_of Y) ?F
 case F =>
  intro w mg fa h KX G hmg
  refine' Hv.qP_ KX G hmg ?t ?i0 ?i1 ?i2 ?i3 ?i4 ?i5 ?i6 ?i7 ?i8 ?i9 ?i10 ?i11 ?i12 ?i13 ?i14 ?i15 ?i16 ?i17 ?i18 ?i19 ?i20 ?i21 ?i22 ?i23 ?i24 ?i25 ?i26 ?i27 ?i28 ?i29 ?i30 ?i31 ?i32 ?i33 ?i34 ?i35 ?i36 ?i37 ?i38 ?i39 ?i40 ?i41 ?i42 ?i43 ?i44 ?i45 ?i46 ?i47 ?i48 ?i49 ?i50 ?i51 ?i52 ?i53 ?i54 ?i55 ?i56 ?i57 ?ndict ?nsorted ?nabs ?jl
  case ndict=>k_is
  case nsorted=>k_is
  case nabs=>k_is
  case t=>refine⟨?_,?_,?_,?_,?_,?_,?_,?_,?_,?_,?_,?_,?_,?_⟩ <;> k_is
  all_goals
   refine' Hv.qX_ ?a ?l ?c ?k
   (case a=>k_is);(case l=>k_is);(case c=>k_is);(case k=>k_is)
#print axioms PySem.Challenge.cw_likehalves_k22_whole_sums_of_frames_holds
